/- Package wire: Reader.value: what it needs. -/
import Derived.Test.YteoimkjocijcjaaVm
namespace Go.Proofs.Yteoimkjocijcjaa
open Go.RowKit

theorem zeroV (w : World) : (zeroValue 27).run Try.prog w = .ok (.agg #[.int .u8 0, .int .i64 0, .string ⟨#[]⟩, .slice none 0 0, .slice none 0 0]) w := by
  have h : (Try.prog.info? 27).map (·.zero) = some (some (.agg #[.int .u8 0, .int .i64 0, .string ⟨#[]⟩, .slice none 0 0, .slice none 0 0])) := by kernel_rfl
  obtain ⟨i, hi, hz⟩ := Option.map_eq_some_iff.1 h
  simp [zeroValue, typeInfo, hi, hz]
theorem buildV (k : Int) (w : World) : (Instr.build 27 #[(0, .int .u8 k)]).run Try.prog w = .ok (.agg #[.int .u8 k, .int .i64 0, .string ⟨#[]⟩, .slice none 0 0, .slice none 0 0]) w := run_build w _ _ _ (by kernel_rfl)
theorem buildV0 (w : World) : (Instr.build 27 #[]).run Try.prog w = .ok (.agg #[.int .u8 0, .int .i64 0, .string ⟨#[]⟩, .slice none 0 0, .slice none 0 0]) w := run_build w _ _ _ (by kernel_rfl)
theorem unzig_range (z : Nat) (h : z ≤ u64max) : -9223372036854775808 ≤ unzig z ∧ unzig z ≤ 9223372036854775807 := by
  unfold unzig
  unfold u64max at h
  split <;> omega
theorem rdUint_le {most : Nat} {l : List UInt8} {p : Nat × List UInt8} (h : rdUint most l = some p) : p.1 ≤ most := by
  unfold rdUint at h
  split at h
  · split at h
    · injection h with h; subst h; assumption
    · cases h
  · cases h
theorem rdText_le {most : Nat} {l : List UInt8} {p : List UInt8 × List UInt8} (h : rdText most l = some p) : p.1.length ≤ most := by
  unfold rdText at h
  split at h
  · rename_i n r hr
    have := rdUint_le hr
    split at h
    · injection h with h
      subst h
      simp only [List.length_take]
      simp only at this
      omega
    · cases h
  · cases h
theorem rdUint_nil (most : Nat) : rdUint most [] = none := rfl
/-- What is new since w. -/
def New (w w' : World) : Nat → Prop := fun k => w.heap.size ≤ k ∧ k < w'.heap.size
/-- What a reader has come to. -/
def Out (rb d : Nat) (l : List UInt8) (w w' : World) (cs : List Value) : Prop :=
  (∃ v r, rdV d l = some (v, r) ∧ VC w' (New w w') v cs ∧ Rd w' rb r false) ∨ (rdV d l = none ∧ Rd w' rb [] true)
def RVPost (rb d : Nat) (l : List UInt8) (w : World) (e : Ending) (w' : World) : Prop :=
  ∃ c0 c1 c2 c3 c4, e = .returned (.agg #[c0, c1, c2, c3, c4]) ∧ (∀ u ∈ [c0, c1, c2, c3, c4], u.oneCell' = true) ∧ Fr (fun k => k = rb) w w' ∧ Out rb d l w w' [c0, c1, c2, c3, c4]
theorem scalar_vc (w w' : World) (k : Nat) (n : Int) (s : List UInt8) (hk : k ≤ 255) (hn : -9223372036854775808 ≤ n ∧ n ≤ 9223372036854775807) (hs : s.length ≤ 200) :
    VC w' (New w w') (.mk k n s [] []) [.int .u8 (k : Int), .int .i64 n, sv s, .slice none 0 0, .slice none 0 0] :=
  .mk (KA := none) (LA := none) (kc := 0) (lc := 0) (cs := fun _ => []) hk hn (by omega) (by simp) (by simp) (by simp) (.inl rfl) (.inl rfl) (by simp)
theorem Rd.ne {w : World} {rb g : Nat} {l : List UInt8} {bad : Bool} {cs : Array Value} (h : Rd w rb l bad) (hb : Blk w g 27 cs) : g ≠ rb := by
  obtain ⟨A, c, hr, _⟩ := h
  exact hb.ne_ hr (by decide)
theorem Rd.setV {w : World} {rb g : Nat} {l : List UInt8} {bad : Bool} {cs : Array Value} (h : Rd w rb l bad) (hb : Blk w g 27 cs) (i : Nat) (u : Value) : Rd (w.setCell ⟨g, i, none⟩ u) rb l bad :=
  h.apart (F := fun k => k = g) ((Fr.refl (fun k => k = g) w).put1 i u) (fun e => h.ne hb e.symm) (fun k hk => .inr ⟨27, cs, by decide, by rw [show k = g from hk]; exact hb⟩)
theorem Rd.lt {w : World} {rb : Nat} {l : List UInt8} {bad : Bool} (h : Rd w rb l bad) : rb < w.heap.size := by
  obtain ⟨A, c, hr, _⟩ := h
  exact hr.lt
end Go.Proofs.Yteoimkjocijcjaa
