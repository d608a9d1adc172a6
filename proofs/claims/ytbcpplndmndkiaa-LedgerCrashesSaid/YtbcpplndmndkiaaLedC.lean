/- Package ledger: terminated; bytes.Clone; entry. -/
import Derived.Test.YtbcpplndmndkiaaLedB
import Derived.Lib.EndianBits
import Derived.Lib.VarintBits
import Derived.Lib.LazyBuf
namespace Go.Proofs.Ytbcpplndmndkiaa
open Go.RowKit

def term (room : Nat) (l : List UInt8) (ed : Nat) : List UInt8 := if ed = room then l else l ++ [0]
def TermPost (A : Option Addr) (l : List UInt8) (w : World) (e : Ending) (w' : World) : Prop :=
  ∃ g c, e = .returned (.slice (some ⟨g, 0, none⟩) l.length c) ∧ OwnB w' (some ⟨g, 0, none⟩) l.length c l ∧ (At A g ∨ w.heap.size ≤ g) ∧ Fr (At A) w w'

set_option maxHeartbeats 1000000 in
theorem terminated_any (lb b : Nat) (L : Lg) (N : Nat) (A : Option Addr) (n c : Nat) (l : List UInt8) (ed : Nat) (w : World) (hl : Led w lb b L) (ok : L.Ok N) (ho : OwnB w A n c l) (h0 : 0 < n) (hn : n ≤ 10000000) :
    Calls Try.prog 42 #[.pointer (some ⟨lb, 0, none⟩), .slice A n c, .int .i64 (ed : Int)] w (TermPost A (term L.room l ed) w) := by
  have hroom := room_any lb b L N w hl ok
  have hlen := hide ho.1
  obtain ⟨g, hA⟩ := ho.addr h0
  have Ho := hide ho
  have HA := hide hA
  have Hroom := hide hroom
  clear hl ok ho hA hroom
  by_cases he : ed = L.room
  · have e1 : term L.room l ed = l := if_pos he
    have e2 : ((ed : Int) == (L.room : Int)) = true := by rw [beq_iff_eq, he]
    rw [e1]
    clear e1 he
    go_enter Try.func42, Try.ntmps42
    go_wp2_with (go_at_call 33; refine Hroom.out.mono ?_; rintro e w' ⟨rfl, rfl⟩)
    go_ret
    have h := Ho.out
    rw [HA.out] at h ⊢
    rw [← hlen.out] at h ⊢
    exact ⟨g, c, rfl, h, .inl (At.some_iff.2 rfl), Fr.refl _ _⟩
  · have e1 : term L.room l ed = l ++ [0] := if_neg he
    have e2 : ((ed : Int) == (L.room : Int)) = false := by rw [beq_eq_false_iff_ne]; omega
    rw [e1]
    clear e1 he
    have hbs := run_buildSlice_cell (P := Try.prog) w 22 5 1 (.int .u8 0) (.int .u8 0) rfl Try.underlying22 infoU8
    have hz := (Ho.out.alloc (.cells #[.int .u8 0] 5))
    have hz2 : Bytes (w.alloc (.cells #[.int .u8 0] 5)) (some ⟨w.heap.size, 0, none⟩) [0] := bytes_new w _ [0] (0, 0)
    have Hz := hide hz
    have Hz2 := hide hz2
    clear hz hz2
    go_enter Try.func42, Try.ntmps42
    go_wp2_with (first
      | (go_at_call 33; refine Hroom.out.mono ?_; rintro e w' ⟨rfl, rfl⟩)
      | (refine wpList_append_bytes rfl (.tmp 12) (.tmp 13) 22 rfl Try.underlying22 infoU8 A n c l rfl Hz.out (some ⟨w.heap.size, 0, none⟩) 1 1 [0] rfl rfl Hz2.out (by omega) ?_; intro A' c' w' ho2 hf hn2 _))
    go_ret
    obtain ⟨g2, rfl⟩ := ho2.addr (by omega)
    have hl2 : (l ++ [0]).length = n + 1 := by rw [List.length_append, hlen.out]; rfl
    rw [← hl2] at ho2
    refine ⟨g2, c', by rw [hl2]; rfl, ho2, ?_, ((Fr.refl _ _).alloc _).trans' hf (fun _ _ h => h)⟩
    rcases hn2 g2 (At.some_iff.2 rfl) with h | h
    · exact .inl h
    · exact .inr (Nat.le_trans (by simp) h)

section
variable {P : Program}
theorem run_buildSlice_empty (w : World) (t e : TypeId) (bytes : Nat) (z : Value) (hu : P.underlying t = some (.slice e)) (hi : (P.info? e).map (fun i => (i.zero, i.size, i.bytes)) = some (some z, 1, bytes)) :
    (Instr.buildSlice t 0 #[]).run P w = .ok (.slice (some ⟨w.heap.size, 0, none⟩) 0 0) (w.alloc (.cells #[] e)) := by
  obtain ⟨i, hi', hz, hs, hb⟩ := info_parts hi
  simp [Instr.buildSlice, run_underlying hu, sizeOf, typeInfo, hi', Instr.fill, newRow]
  have : Array.map (fun _ => default) (Array.range 0) = (#[] : Array Value) := by simp [Array.range]
  first | rfl | rw [this] | simp [Array.range]
theorem wpList_build_empty {ops : Array Oper} {rest : List Oper} {o : Oper} {a : Act} {w : World} {Q : Exit → Act → World → Prop} (hg : o.guard = none) (t e : TypeId) (bytes : Nat) (z : Value) (ho : o.op = .buildSlice t 0 #[])
    (hu : P.underlying t = some (.slice e)) (hi : (P.info? e).map (fun i => (i.zero, i.size, i.bytes)) = some (some z, 1, bytes))
    (h : wpList P ops Q rest (a.put o.dst (.slice (some ⟨w.heap.size, 0, none⟩) 0 0)) (w.alloc (.cells #[] e))) : wpList P ops Q (o :: rest) a w := by
  refine wpList_plain hg fun K hK => ?_
  unfold Oper.wp execOp
  simp only [ho, List.map_toArray, List.map_nil, Sem.run_bind, run_buildSlice_empty w t e bytes z hu hi, Result.andThen_ok]
  exact hK _ _ h
end

/-- What Clone tells: bytes of its own. -/
def ClonePost (l : List UInt8) (n : Nat) (w : World) (e : Ending) (w' : World) : Prop :=
  ∃ A c, e = .returned (.slice A n c) ∧ OwnB w' A n c l ∧ (∀ k, At A k → w.heap.size ≤ k) ∧ Below w.heap.size w w'

set_option maxHeartbeats 1000000 in
theorem clone_any (A : Option Addr) (n c : Nat) (l : List UInt8) (w : World) (hn : l.length = n) (hb : Bytes w A l) (hl : n ≤ 10000000) :
    Calls Try.prog 50 #[.slice A n c] w (ClonePost l n w) := by
  subst hn
  rcases A with _ | a
  · obtain rfl : l = [] := by
      rcases hb with h | ⟨_, _, h, _⟩
      · exact h
      · cases h
    clear hb
    have he := Go.run_eql_slice_nil (P := Try.prog) w 22 5 none 0 c Try.underlying22
    go_enter Try.func50, Try.ntmps50
    go_wp2
    go_ret
    exact ⟨none, 0, rfl, OwnB.nil _, fun k hk => absurd hk At.none_not, Below.refl _ _⟩
  · have Hb := hide hb
    clear hb
    go_enter Try.func50, Try.ntmps50
    have hz : OwnB (w.alloc (.cells #[] 5)) (some ⟨w.heap.size, 0, none⟩) 0 0 [] := OwnB.of_blk (L := []) (Blk.new w 5 #[]) 0 (Nat.le_refl _) (by simp [maxLen])
    have hsrc := Hb.out.fr (F := fun _ => False) ((Fr.refl _ _).alloc (.cells #[] 5)) (fun _ _ h => h)
    have Hz := hide hz
    have Hsrc := hide hsrc
    clear hz hsrc
    have he := Go.run_eql_slice_nil (P := Try.prog) w 22 5 (some a) l.length c Try.underlying22
    go_wp2_with (first
      | (refine wpList_build_empty rfl 22 5 1 (.int .u8 0) rfl Try.underlying22 infoU8 ?_)
      | (refine wpList_append_bytes rfl (.tmp 5) (.tmp 6) 22 rfl Try.underlying22 infoU8 _ 0 0 [] rfl Hz.out (some a) l.length c l rfl rfl Hsrc.out (by omega) ?_; intro A' c' w' ho hf hn2 _))
    go_ret
    rw [Nat.zero_add, List.nil_append] at ho
    refine ⟨A', c', by simp, ho, fun k hk => ?_, ((Below.refl _ _).alloc (Nat.le_refl _) _).trans (hf.below (by simp) (fun k hk => ?_))⟩
    · rcases hn2 k hk with h | h
      · rw [At.some_iff] at h; simp only at h; omega
      · exact Nat.le_trans (by simp) h
    · rw [At.some_iff] at hk; simp only at hk; omega
end Go.Proofs.Ytbcpplndmndkiaa
