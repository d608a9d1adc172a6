/- Package columbaryref03: Form, of any value: true only of what has Form. -/
import Derived.Test.YteoimkjocijcjaaVd0
import Derived.Test.YteoimkjocijcjaaVd1
import Derived.Test.YteoimkjocijcjaaVd2
import Derived.Test.YteoimkjocijcjaaVd3
import Derived.Test.YteoimkjocijcjaaVd4
import Derived.Test.YteoimkjocijcjaaVd5
import Derived.Test.YteoimkjocijcjaaVd6
import Derived.Test.YteoimkjocijcjaaVd7
import Derived.Test.YteoimkjocijcjaaVd8
namespace Go.Proofs.Yteoimkjocijcjaa
open Go.RowKit

set_option maxRecDepth 100000 in
set_option maxHeartbeats 4000000 in
theorem form_deep (v : V) (cs : List Value) (w : World) (hv : VC w (Old w) v cs) :
    Calls Try.prog 6 #[.agg cs.toArray, .int .i64 24] w (FPostI 0 v w) := by
  have hcs : ∃ x0 x1 x2 x3 x4, cs = [x0, x1, x2, x3, x4] := by cases hv; exact ⟨_, _, _, _, _, rfl⟩
  obtain ⟨x0, x1, x2, x3, x4, rfl⟩ := hcs
  clear hv
  have hb := hide ((Below.refl w.heap.size w).alloc (Nat.le_refl _) (.cells #[x0, x1, x2, x3, x4] 27))
  go_enter Try.func6, Try.ntmps6
  go_wp2
  go_ret
  exact ⟨false, rfl, ⟨fun h => by simp at h, fun h => h.elim⟩, hb.out⟩
set_option maxRecDepth 100000 in
set_option maxHeartbeats 4000000 in
theorem form_big (d deep : Nat) (v : V) (cs : List Value) (w : World) (hd : deep < 24) (hv : VC w (Old w) v cs) (hk : 8 < v.kind) :
    Calls Try.prog 6 #[.agg cs.toArray, .int .i64 (deep : Int)] w (FPostI d v w) := by
  have hcs : ∃ x0 x1 x2 x3 x4, cs = [x0, x1, x2, x3, x4] := by cases hv; exact ⟨_, _, _, _, _, rfl⟩
  obtain ⟨x0, x1, x2, x3, x4, rfl⟩ := hcs
  have hpv := hv.boxed
  obtain ⟨w0, hw0⟩ : ∃ w0, w.alloc (.cells [x0, x1, x2, x3, x4].toArray 27) = w0 := ⟨_, rfl⟩
  have Hb0 := hide (show Below w.heap.size w w0 by rw [← hw0]; exact (Below.refl w.heap.size w).alloc (Nat.le_refl _) _)
  rw [hw0] at hpv
  have hw0' : w.alloc (.cells #[x0, x1, x2, x3, x4] 27) = w0 := hw0
  obtain ⟨KA, LA, kc, lc, hat⟩ := hpv.at_
  have c0 : w0.cell? ⟨w.heap.size, 0, none⟩ = some (.int .u8 (v.kind : Int)) := by have := hat.c0; simpa using this
  obtain ⟨kn, hkn⟩ : ∃ kn, v.kind = kn := ⟨_, rfl⟩
  rw [hkn] at c0 hk
  have Hkn := hide hkn
  clear hv hpv hat hw0 hkn
  go_enter Try.func6, Try.ntmps6
  go_wp2
  go_ret
  exact ⟨false, rfl, ⟨fun h => by simp at h, fun hf => by
    cases d with
    | zero => exact hf.elim
    | succ d => have := hf.1.k; have := Hkn.out; omega⟩, Hb0.out⟩

theorem form_iff : ∀ (d deep : Nat) (v : V) (cs : List Value) (w : World), deep + d = 24 → VC w (Old w) v cs →
    Calls Try.prog 6 #[.agg cs.toArray, .int .i64 (deep : Int)] w (FPostI d v w) := by
  intro d
  induction d with
  | zero =>
    intro deep v cs w hd hv
    obtain rfl : deep = 24 := by omega
    exact form_deep v cs w hv
  | succ d ih =>
    intro deep v cs w hd hv
    have hih : ∀ (x : V) (cs' : List Value) (w' : World), VC w' (Old w') x cs' → Calls Try.prog 6 #[.agg cs'.toArray, .int .i64 ((deep : Int) + 1)] w' (FPostI d x w') := by
      intro x cs' w' hx
      have := ih (deep + 1) x cs' w' (by omega) hx
      rw [show (((deep + 1 : Nat)) : Int) = (deep : Int) + 1 from by omega] at this
      exact this
    by_cases h8 : 8 < v.kind
    · exact form_big (d + 1) deep v cs w (by omega) hv h8
    · have hc : v.kind = 0 ∨ v.kind = 1 ∨ v.kind = 2 ∨ v.kind = 3 ∨ v.kind = 4 ∨ v.kind = 5 ∨ v.kind = 6 ∨ v.kind = 7 ∨ v.kind = 8 := by omega
      rcases hc with h | h | h | h | h | h | h | h | h
      · exact form_k0 d deep v cs w hd hv h hih
      · exact form_k1 d deep v cs w hd hv h hih
      · exact form_k2 d deep v cs w hd hv h hih
      · exact form_k3 d deep v cs w hd hv h hih
      · exact form_k4 d deep v cs w hd hv h hih
      · exact form_k5 d deep v cs w hd hv h hih
      · exact form_k6 d deep v cs w hd hv h hih
      · exact form_k7 d deep v cs w hd hv h hih
      · exact form_k8 d deep v cs w hd hv h hih
theorem form_any (d deep : Nat) (v : V) (cs : List Value) (w : World) (h : deep + d = 24) (hv : VC w (Old w) v cs) :
    Calls Try.prog 6 #[.agg cs.toArray, .int .i64 (deep : Int)] w (FPost d v w) :=
  (form_iff d deep v cs w h hv).mono fun _ _ ⟨b, h1, h2, h3⟩ => ⟨b, h1, h2.1, h3⟩
end Go.Proofs.Yteoimkjocijcjaa
