/- The laws of layer 5: both lexers, of any text. -/
import Derived.Test.YtfbkmjjcopjoeaaDoorNo
import Derived.ChangeMaps5
namespace Go.Proofs.YtfbkmjjcopjoeaaDoor
open Go.RowKit

set_option maxHeartbeats 2000000 in
theorem toks_all (s : List UInt8) (w : World) :
    Calls Tryd.prog 11 #[.string ⟨s.toArray⟩] w fun e w' => TokOut 33 w w' (Lx.lexL s) e ∧ Below w.heap.size w w' := by
  by_cases h : 2000 < s.length
  · rw [Lx.lexL_eq, if_pos h]
    have hsz : (⟨s.toArray⟩ : ByteArray).size = s.length := rfl
    go_enter Tryd.func11, Tryd.ntmps11
    go_wp2_with fail
    exact bodyPost_ret (v := .tuple #[.slice none 0 0, .int .i64 0, .int .i64 2]) (by simp [results, Tryd.results11, go_sem]) rfl ⟨rfl, Below.refl _ _⟩
  · rw [Lx.lexL_eq, if_neg h]
    exact toks_any s w (by omega)
set_option maxHeartbeats 2000000 in
theorem rtoks_all (s : List UInt8) (w : World) :
    Calls Tryd.prog 12 #[.string ⟨s.toArray⟩] w fun e w' => TokOut 50 w w' (Lx.lexL s) e ∧ Below w.heap.size w w' := by
  by_cases h : 2000 < s.length
  · rw [Lx.lexL_eq, if_pos h]
    have hsz : (⟨s.toArray⟩ : ByteArray).size = s.length := rfl
    go_enter Tryd.func12, Tryd.ntmps12
    go_wp2_with fail
    exact bodyPost_ret (v := .tuple #[.slice none 0 0, .int .i64 0, .int .i64 2]) (by simp [results, Tryd.results12, go_sem]) rfl ⟨rfl, Below.refl _ _⟩
  · rw [Lx.lexL_eq, if_neg h]
    exact rtoks_any s w (by omega)
theorem lex_bound {s : List UInt8} {ts : List Lx.Tok} (h : Lx.lexL s = .inl ts) : s.length ≤ 2000 ∧ Lx.Cov s 0 ts := by
  rw [Lx.lexL_eq] at h
  split at h
  · cases h
  · exact ⟨by omega, Lx.allL_cov (s.length + 1) s 0 ts (by omega) h⟩
theorem lex_at {s : List UInt8} {ts : List Lx.Tok} (h : Lx.lexL s = .inl ts) : ∀ t ∈ ts, t.at_ ≤ 2000 := by
  intro t ht
  obtain ⟨h1, h2⟩ := lex_bound h
  have := (h2.low t ht).2
  omega
theorem toks_count : ∀ (ts : List Lx.Tok) (N : Nat), (∀ t ∈ ts, t.at_ ≤ N) → (ts.Pairwise fun a b => a.at_ < b.at_) → ts.length ≤ N + 1
  | [], N, _, _ => by simp
  | [t], N, _, _ => by simp
  | t :: u :: r, N, h, hp => by
    have hr : ∀ (l : List Lx.Tok) (m : Nat), (∀ t ∈ l, m ≤ t.at_ ∧ t.at_ ≤ N) → (l.Pairwise fun a b => a.at_ < b.at_) → l.length + m ≤ N + 1 ∨ l = [] := by
      intro l
      induction l with
      | nil => intro m _ _; exact .inr rfl
      | cons a l ih =>
        intro m hm hp
        have ha := hm a List.mem_cons_self
        rw [List.pairwise_cons] at hp
        refine .inl ?_
        rcases ih (a.at_ + 1) (fun t ht => ⟨hp.1 t ht, (hm t (List.mem_cons_of_mem _ ht)).2⟩) hp.2 with h | h
        · rw [List.length_cons]; omega
        · rw [h]; simp; omega
    rcases hr _ 0 (fun t ht => ⟨Nat.zero_le _, h t ht⟩) hp with h | h
    · omega
    · cases h
theorem shift_zero (ts : List Lx.Tok) : ts.map (Lx.shiftT 0) = ts := by
  induction ts with
  | nil => rfl
  | cons t r ih => rw [List.map_cons, ih]; rfl
theorem str_bytes (x : ByteArray) : ∃ s : List UInt8, x = ⟨s.toArray⟩ := ⟨x.data.toList, by simp⟩
end Go.Proofs.YtfbkmjjcopjoeaaDoor
