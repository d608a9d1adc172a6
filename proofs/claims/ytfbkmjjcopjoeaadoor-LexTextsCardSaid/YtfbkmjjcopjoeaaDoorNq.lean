/- The laws of layer 5: what they need of the plain lexer. Pure, but for a row of bytes. -/
import Derived.Test.YtfbkmjjcopjoeaaDoorNp
namespace Go.Proofs.YtfbkmjjcopjoeaaDoor
open Go.RowKit

theorem allL_err : ∀ (f : Nat) (l : List UInt8) (i : Nat) (p : Nat × Nat), l.length < f → Lx.allL l i = .inr p → 0 < p.2
  | 0, _, _, _, h, _ => by omega
  | f + 1, l, i, p, hf, h => by
    rw [Lx.allL_eq] at h
    have hle := Lx.skipL_le l false
    cases hs : Lx.skipL false l with
    | nil => rw [hs] at h; cases h
    | cons c r =>
      rw [hs] at h hle
      simp only at h
      cases h2 : Lx.oneT (c :: r) with
      | bad off e =>
        rw [h2] at h
        injection h with h
        rw [← h]
        exact Lx.oneT_err h2
      | ok k t n len =>
        rw [h2] at h
        simp only at h
        have hl := Lx.oneT_len h2
        cases h3 : Lx.allL ((c :: r).drop len) (i + (l.length - (c :: r).length) + len) with
        | inl ts => rw [h3] at h; cases h
        | inr q =>
          rw [h3] at h
          injection h with h
          subst h
          exact allL_err f _ _ _ (by rw [List.length_drop]; omega) h3
theorem lex_err {s : List UInt8} {p : Nat × Nat} (h : Lx.lexL s = .inr p) : 0 < p.2 ∧ p.1 ≤ s.length := by
  rw [Lx.lexL_eq] at h
  split at h
  · injection h with h; rw [← h]; exact ⟨by decide, Nat.zero_le _⟩
  · refine ⟨allL_err (s.length + 1) s 0 p (by omega) h, ?_⟩
    have := Lx.allL_bad (s.length + 1) s 0 p (by omega) h
    omega
theorem ez_false {e : Nat} (h : 0 < e) : ((e : Int) == 0) = false := by rw [beq_eq_false_iff_ne]; omega
theorem lexL_all {s : List UInt8} (h : s.length ≤ 2000) : Lx.lexL s = Lx.allL s 0 := by rw [Lx.lexL_eq, if_neg (by omega)]
/-! ### LexAgain -/
theorem flat_take {ts : List Lx.Tok} {i : Nat} {t : Lx.Tok} (h : ts[i]? = some t) : Lx.flatB (ts.take (i + 1)) = Lx.flatB (ts.take i) ++ (t.text ++ [32]) := by
  rw [List.take_add_one, h]
  simp [Lx.flatB]
theorem flat_len (M : Nat) : ∀ (l : List Lx.Tok), (∀ t ∈ l, t.text.length ≤ M) → (Lx.flatB l).length ≤ l.length * (M + 1)
  | [], _ => by simp [Lx.flatB]
  | t :: r, h => by
    have h1 := h t List.mem_cons_self
    have h2 := flat_len M r (fun u hu => h u (List.mem_cons_of_mem _ hu))
    rw [Lx.flatB_cons, List.length_append, List.length_cons, List.length_cons, Nat.succ_mul]
    omega
theorem text_le {s : List UInt8} {ts : List Lx.Tok} (h : Lx.Cov s 0 ts) (t : Lx.Tok) (ht : t ∈ ts) (h3 : t.kind ≠ 3) : t.text.length ≤ s.length := by
  rcases h.text t ht with h | h
  · exact (h3 h).elim
  · have := h.1; omega
theorem map_get {ts us : List Lx.Tok} (h : us.map (fun t => (t.kind, t.text, t.n)) = ts.map (fun t => (t.kind, t.text, t.n))) {j : Nat} {t : Lx.Tok} (ht : ts[j]? = some t) : ∃ u, us[j]? = some u ∧ u.kind = t.kind ∧ u.text = t.text ∧ u.n = t.n := by
  have h2 := congrArg (fun l => l[j]?) h
  simp only [List.getElem?_map, ht] at h2
  cases hu : us[j]? with
  | none => rw [hu] at h2; cases h2
  | some u =>
    rw [hu] at h2
    simp only [Option.map_some, Option.some.injEq, Prod.mk.injEq] at h2
    exact ⟨u, rfl, h2.1, h2.2.1, h2.2.2⟩
/-! ### LexBlanks -/
def gapB (c : UInt8) : List UInt8 := match c.toNat % 6 with
  | 0 => [32]
  | 1 => [9]
  | 2 => [10]
  | 3 => [13]
  | 4 => [44]
  | _ => [35, 32, 120, 32, 123, 32, 34, 10]
def gapsB (p : List UInt8) : List UInt8 := p.flatMap gapB
theorem gaps_take {p : List UInt8} {i : Nat} {c : UInt8} (h : p[i]? = some c) : gapsB (p.take (i + 1)) = gapsB (p.take i) ++ gapB c := by
  rw [List.take_add_one, h]
  simp [gapsB]
theorem gapB_len (c : UInt8) : (gapB c).length ≤ 8 := by
  unfold gapB
  split <;> decide
theorem gaps_len : ∀ p : List UInt8, (gapsB p).length ≤ p.length * 8
  | [] => by simp [gapsB]
  | c :: r => by
    have h1 := gapB_len c
    have h2 := gaps_len r
    have e : gapsB (c :: r) = gapB c ++ gapsB r := by simp [gapsB]
    rw [e, List.length_append, List.length_cons]
    omega
theorem gap_skip (c : UInt8) (l : List UInt8) : Lx.skipL false (gapB c ++ l) = Lx.skipL false l := by
  unfold gapB
  split <;> simp [Lx.skipL, Lx.isBlank]
theorem gaps_skip : ∀ (p l : List UInt8), Lx.skipL false (gapsB p ++ l) = Lx.skipL false l
  | [], l => by simp [gapsB]
  | c :: r, l => by
    have e : gapsB (c :: r) = gapB c ++ gapsB r := by simp [gapsB]
    rw [e, List.append_assoc, gap_skip]
    exact gaps_skip r l
theorem blanks_all (p s : List UInt8) : Lx.allL (gapsB p ++ s) 0 = Lx.shiftR (gapsB p).length (Lx.allL s 0) := Lx.allL_ahead (gaps_skip p s) 0
theorem gap_cell {w : World} {g : Nat} {T : TypeId} (h : Blk w g T #[.string ⟨#[32]⟩, .string ⟨#[9]⟩, .string ⟨#[10]⟩, .string ⟨#[13]⟩, .string ⟨#[44]⟩, .string ⟨#[35, 32, 120, 32, 123, 32, 34, 10]⟩]) (c : UInt8) : w.cell? ⟨g, c.toNat % 6, none⟩ = some (.string ⟨(gapB c).toArray⟩) := by
  rw [h.cell]
  have hm : c.toNat % 6 < 6 := Nat.mod_lt _ (by decide)
  unfold gapB
  generalize c.toNat % 6 = m at hm
  match m, hm with
  | 0, _ => rfl
  | 1, _ => rfl
  | 2, _ => rfl
  | 3, _ => rfl
  | 4, _ => rfl
  | 5, _ => rfl
theorem bytes_cell {w : World} {A : Option Addr} {l : List UInt8} (h : Bytes w A l) {i : Nat} {c : UInt8} (hc : l[i]? = some c) : ∃ g o, A = some ⟨g, o, none⟩ ∧ w.cell? ⟨g, o + i, none⟩ = some (.int .u8 (c.toNat : Int)) := by
  rcases h with rfl | ⟨g, o, rfl, h⟩
  · simp at hc
  · exact ⟨g, o, rfl, h i _ (by rw [B8s_get, hc]; rfl)⟩
end Go.Proofs.YtfbkmjjcopjoeaaDoor
