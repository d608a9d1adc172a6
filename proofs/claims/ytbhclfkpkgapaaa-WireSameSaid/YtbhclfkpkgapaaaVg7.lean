/- Package columbaryref03: Value, one kind of value. -/
import Derived.Test.YtbhclfkpkgapaaaVf
import Derived.Deep.CutRange
import Derived.Deep.CutBlock
namespace Go.Proofs.Ytbhclfkpkgapaaa
open Go.RowKit

set_option maxRecDepth 100000 in
set_option maxHeartbeats 4000000 in
theorem rval_k7 (d : Nat) (v : V) (cs : List Value) (w : World) (hv : VC w (Old w) v cs) (hf : formP (d + 1) v) (hk : v.kind = 7) (hbd : (encV v).length ≤ 1000000000)
    (ih : ∀ (x : V) (cs' : List Value) (w' : World), VC w' (Old w') x cs' → formP d x → (encV x).length ≤ 1000000000 → Calls Try.prog 31 #[.agg cs'.toArray] w' (ClonePost (encV x) (encV x).length w')) :
    Calls Try.prog 31 #[.agg cs.toArray] w (ClonePost (encV v) (encV v).length w) := by
  have hcs : ∃ x0 x1 x2 x3 x4, cs = [x0, x1, x2, x3, x4] := by cases hv; exact ⟨_, _, _, _, _, rfl⟩
  obtain ⟨x0, x1, x2, x3, x4, rfl⟩ := hcs
  have hpv := hv.boxed
  obtain ⟨w0, hw0⟩ : ∃ w0, w.alloc (.cells [x0, x1, x2, x3, x4].toArray 44) = w0 := ⟨_, rfl⟩
  have Hb0 := hide (show Below w.heap.size w w0 by rw [← hw0]; exact (Below.refl w.heap.size w).alloc (Nat.le_refl _) _)
  rw [hw0] at hpv
  have hw0' : w.alloc (.cells #[x0, x1, x2, x3, x4] 44) = w0 := hw0
  have Hwlt := hide (show w.heap.size < w0.heap.size from hpv.lt)
  obtain ⟨KA, LA, kc, lc, hat⟩ := hpv.at_
  have c0 : w0.cell? ⟨w.heap.size, 0, none⟩ = some (.int .u8 7) := by have := hat.c0; rw [hk] at this; simpa using this
  have Hat := hide hat
  have Hk := hide hk
  have Hf := hide hf
  have Hbd0 := hide hbd
  have Ih := hide ih
  have Hc1 := hide (show Calls Try.prog 17 #[.int .u64 7] w0 (ClonePost (Lib.uvarint 7) (Lib.uvarint 7).length w0) from ruint_any 7 7 w0 (Nat.le_refl _) (by omega))
  clear hv hpv hat hw0 hk hf hbd ih
  go_enter Try.func31, Try.ntmps31
  go_wp2_with fail
  with_reducible (refine Hc1.out.mono ?_)
  rintro e w1 ⟨A1, c1, rfl, ho1, hA1, hb1⟩
  have Hv1 := hide (VO.start ho1 hA1 hb1)
  have Hat1 := hide (Hat.out.below hb1 Hwlt.out)
  clear ho1 hA1 hb1 c0 hw0'
  have c0 : w1.cell? ⟨w.heap.size, 0, none⟩ = some (.int .u8 7) := by have := Hat1.out.c0; rw [Hk.out] at this; simpa using this
  have c2' : w1.cell? ⟨w.heap.size, 2, none⟩ = some (sv v.s) := by have := Hat1.out.c2; simpa using this
  have Hc2 := hide (rtext_any v.s w1 (by have := Hf.out.1.s; omega))
  have Henc := hide (show encV v = Lib.uvarint 7 ++ textB v.s by rw [enc_s v (by rw [Hk.out]; omega), Hk.out])
  have Hbd := hide (show (Lib.uvarint 7).length + (textB v.s).length ≤ 1000000000 by have h := Hbd0.out; rw [Henc.out, List.length_append] at h; exact h)
  go_wp2_with fail
  with_reducible (refine Hc2.out.mono ?_)
  rintro e w2 ⟨A2, c2, rfl, ho2, hA2, hb2⟩
  have Hv2 := hide (Hv1.out.later hb2)
  have Ho3 := hide ho2
  clear ho2 hA2 hb2 c0 c2'
  go_wp2_with (refine wpList_append_bytes rfl (.tmp 24) (.tmp 27) 25 rfl Try.underlying25 infoU8 _ _ _ _ rfl Hv2.out.own _ _ _ _ rfl rfl Ho3.out.bytes (by have := Hbd.out; omega) ?_; intro A4 c4 w4 ho4 hf4 hn4 hs4; have Hv4 := hide (Hv2.out.join ho4 hf4 hn4); clear ho4 hf4 hn4 hs4)
  go_ret
  rw [Henc.out]
  exact Hv4.out.post Hb0.out
end Go.Proofs.Ytbhclfkpkgapaaa
