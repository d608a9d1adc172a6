/- Package columbaryref03: Value, one kind of value. -/
import Derived.Test.YtbhclfkpkgapaaaVf
import Derived.Deep.CutRange
import Derived.Deep.CutBlock
namespace Go.Proofs.Ytbhclfkpkgapaaa
open Go.RowKit

set_option maxRecDepth 100000 in
set_option maxHeartbeats 4000000 in
theorem rval_k0 (d : Nat) (v : V) (cs : List Value) (w : World) (hv : VC w (Old w) v cs) (hf : formP (d + 1) v) (hk : v.kind = 0) (hbd : (encV v).length ≤ 1000000000)
    (ih : ∀ (x : V) (cs' : List Value) (w' : World), VC w' (Old w') x cs' → formP d x → (encV x).length ≤ 1000000000 → Calls Try.prog 31 #[.agg cs'.toArray] w' (ClonePost (encV x) (encV x).length w')) :
    Calls Try.prog 31 #[.agg cs.toArray] w (ClonePost (encV v) (encV v).length w) := by
  have hcs : ∃ x0 x1 x2 x3 x4, cs = [x0, x1, x2, x3, x4] := by cases hv; exact ⟨_, _, _, _, _, rfl⟩
  obtain ⟨x0, x1, x2, x3, x4, rfl⟩ := hcs
  have hpv := hv.boxed
  obtain ⟨w0, hw0⟩ : ∃ w0, w.alloc (.cells [x0, x1, x2, x3, x4].toArray 44) = w0 := ⟨_, rfl⟩
  have Hb0 := hide (show Below w.heap.size w w0 by rw [← hw0]; exact (Below.refl w.heap.size w).alloc (Nat.le_refl _) _)
  rw [hw0] at hpv
  have hw0' : w.alloc (.cells #[x0, x1, x2, x3, x4] 44) = w0 := hw0
  have Hwlt := hide (show w.heap.size < w0.heap.size from hpv.lt)
  obtain ⟨KA, LA, kc, lc, hat⟩ := hpv.at_
  have c0 : w0.cell? ⟨w.heap.size, 0, none⟩ = some (.int .u8 0) := by have := hat.c0; rw [hk] at this; simpa using this
  have Hat := hide hat
  have Hk := hide hk
  have Hf := hide hf
  have Hbd0 := hide hbd
  have Ih := hide ih
  have Hc1 := hide (show Calls Try.prog 17 #[.int .u64 0] w0 (ClonePost (Lib.uvarint 0) (Lib.uvarint 0).length w0) from ruint_any 0 0 w0 (Nat.le_refl _) (by omega))
  clear hv hpv hat hw0 hk hf hbd ih
  go_enter Try.func31, Try.ntmps31
  go_wp2_with fail
  with_reducible (refine Hc1.out.mono ?_)
  rintro e w1 ⟨A1, c1, rfl, ho1, hA1, hb1⟩
  have Hv1 := hide (VO.start ho1 hA1 hb1)
  have Hat1 := hide (Hat.out.below hb1 Hwlt.out)
  clear ho1 hA1 hb1 c0 hw0'
  have c0 : w1.cell? ⟨w.heap.size, 0, none⟩ = some (.int .u8 0) := by have := Hat1.out.c0; rw [Hk.out] at this; simpa using this
  go_wp2
  go_ret
  rw [enc_0 v Hk.out]
  exact Hv1.out.post Hb0.out
end Go.Proofs.Ytbhclfkpkgapaaa
