/- Vg0, Vg1, Vg2, Vg3, Vg4, Vg5, Vg6, Vg7, Vg8, in one text. -/
import Derived.Test.YtdkmccilnmdhmaaVf
import Derived.Deep.CutRange
import Derived.Deep.CutBlock
/- Package columbaryref03: Value, one kind of value. -/
namespace Go.Proofs.Ytdkmccilnmdhmaa
open Go.RowKit

set_option maxRecDepth 100000 in
set_option maxHeartbeats 4000000 in
theorem rval_k0 (d : Nat) (v : V) (cs : List Value) (w : World) (hv : VC w (Old w) v cs) (hf : formP (d + 1) v) (hk : v.kind = 0) (hbd : (encV v).length ≤ 1000000000)
    (ih : ∀ (x : V) (cs' : List Value) (w' : World), VC w' (Old w') x cs' → formP d x → (encV x).length ≤ 1000000000 → Calls Try.prog 15 #[.agg cs'.toArray] w' (ClonePost (encV x) (encV x).length w')) :
    Calls Try.prog 15 #[.agg cs.toArray] w (ClonePost (encV v) (encV v).length w) := by
  have hcs : ∃ x0 x1 x2 x3 x4, cs = [x0, x1, x2, x3, x4] := by cases hv; exact ⟨_, _, _, _, _, rfl⟩
  obtain ⟨x0, x1, x2, x3, x4, rfl⟩ := hcs
  have hpv := hv.boxed
  obtain ⟨w0, hw0⟩ : ∃ w0, w.alloc (.cells [x0, x1, x2, x3, x4].toArray 25) = w0 := ⟨_, rfl⟩
  have Hb0 := hide (show Below w.heap.size w w0 by rw [← hw0]; exact (Below.refl w.heap.size w).alloc (Nat.le_refl _) _)
  rw [hw0] at hpv
  have hw0' : w.alloc (.cells #[x0, x1, x2, x3, x4] 25) = w0 := hw0
  have Hwlt := hide (show w.heap.size < w0.heap.size from hpv.lt)
  obtain ⟨KA, LA, kc, lc, hat⟩ := hpv.at_
  have c0 : w0.cell? ⟨w.heap.size, 0, none⟩ = some (.int .u8 0) := by have := hat.c0; rw [hk] at this; simpa using this
  have Hat := hide hat
  have Hk := hide hk
  have Hf := hide hf
  have Hbd0 := hide hbd
  have Ih := hide ih
  have Hc1 := hide (show Calls Try.prog 32 #[.int .u64 0] w0 (ClonePost (Lib.uvarint 0) (Lib.uvarint 0).length w0) from ruint_any 0 0 w0 (Nat.le_refl _) (by omega))
  clear hv hpv hat hw0 hk hf hbd ih
  go_enter Try.func15, Try.ntmps15
  go_wp2_with fail
  with_reducible (refine Hc1.out.mono ?_)
  rintro e w1 ⟨A1, c1, rfl, ho1, hA1, hb1⟩
  have Hv1 := hide (VO.start ho1 hA1 hb1)
  have Hat1 := hide (Hat.out.below hb1 Hwlt.out)
  clear ho1 hA1 hb1 c0 hw0'
  have c0 : w1.cell? ⟨w.heap.size, 0, none⟩ = some (.int .u8 0) := by have := Hat1.out.c0; rw [Hk.out] at this; simpa using this
  go_wp2
  go_ret
  rw [enc_0 v Hk.out]
  exact Hv1.out.post Hb0.out
end Go.Proofs.Ytdkmccilnmdhmaa

/- Package columbaryref03: Value, one kind of value. -/
namespace Go.Proofs.Ytdkmccilnmdhmaa
open Go.RowKit

set_option maxRecDepth 100000 in
set_option maxHeartbeats 4000000 in
theorem rval_k1 (d : Nat) (v : V) (cs : List Value) (w : World) (hv : VC w (Old w) v cs) (hf : formP (d + 1) v) (hk : v.kind = 1) (hbd : (encV v).length ≤ 1000000000)
    (ih : ∀ (x : V) (cs' : List Value) (w' : World), VC w' (Old w') x cs' → formP d x → (encV x).length ≤ 1000000000 → Calls Try.prog 15 #[.agg cs'.toArray] w' (ClonePost (encV x) (encV x).length w')) :
    Calls Try.prog 15 #[.agg cs.toArray] w (ClonePost (encV v) (encV v).length w) := by
  have hcs : ∃ x0 x1 x2 x3 x4, cs = [x0, x1, x2, x3, x4] := by cases hv; exact ⟨_, _, _, _, _, rfl⟩
  obtain ⟨x0, x1, x2, x3, x4, rfl⟩ := hcs
  have hpv := hv.boxed
  obtain ⟨w0, hw0⟩ : ∃ w0, w.alloc (.cells [x0, x1, x2, x3, x4].toArray 25) = w0 := ⟨_, rfl⟩
  have Hb0 := hide (show Below w.heap.size w w0 by rw [← hw0]; exact (Below.refl w.heap.size w).alloc (Nat.le_refl _) _)
  rw [hw0] at hpv
  have hw0' : w.alloc (.cells #[x0, x1, x2, x3, x4] 25) = w0 := hw0
  have Hwlt := hide (show w.heap.size < w0.heap.size from hpv.lt)
  obtain ⟨KA, LA, kc, lc, hat⟩ := hpv.at_
  have c0 : w0.cell? ⟨w.heap.size, 0, none⟩ = some (.int .u8 1) := by have := hat.c0; rw [hk] at this; simpa using this
  have Hat := hide hat
  have Hk := hide hk
  have Hf := hide hf
  have Hbd0 := hide hbd
  have Ih := hide ih
  have Hc1 := hide (show Calls Try.prog 32 #[.int .u64 1] w0 (ClonePost (Lib.uvarint 1) (Lib.uvarint 1).length w0) from ruint_any 1 1 w0 (Nat.le_refl _) (by omega))
  clear hv hpv hat hw0 hk hf hbd ih
  go_enter Try.func15, Try.ntmps15
  go_wp2_with fail
  with_reducible (refine Hc1.out.mono ?_)
  rintro e w1 ⟨A1, c1, rfl, ho1, hA1, hb1⟩
  have Hv1 := hide (VO.start ho1 hA1 hb1)
  have Hat1 := hide (Hat.out.below hb1 Hwlt.out)
  clear ho1 hA1 hb1 c0 hw0'
  have c0 : w1.cell? ⟨w.heap.size, 0, none⟩ = some (.int .u8 1) := by have := Hat1.out.c0; rw [Hk.out] at this; simpa using this
  have c1' : w1.cell? ⟨w.heap.size, 1, none⟩ = some (.int .i64 v.n) := by have := Hat1.out.c1; simpa using this
  have Hc2 := hide (rint_any v.n w1 Hat.out.n.1 Hat.out.n.2)
  have Henc := hide (show encV v = Lib.uvarint 1 ++ Lib.uvarint (Lib.zigzag v.n) by rw [enc_n v (by rw [Hk.out]; omega), Hk.out])
  have Hbd := hide (show (Lib.uvarint 1).length + (Lib.uvarint (Lib.zigzag v.n)).length ≤ 1000000000 by have h := Hbd0.out; rw [Henc.out, List.length_append] at h; exact h)
  go_wp2_with fail
  with_reducible (refine Hc2.out.mono ?_)
  rintro e w2 ⟨A2, c2, rfl, ho2, hA2, hb2⟩
  have Hv2 := hide (Hv1.out.later hb2)
  have Ho3 := hide ho2
  clear ho2 hA2 hb2 c0 c1'
  go_wp2_with (refine wpList_append_bytes rfl (.tmp 14) (.tmp 17) 30 rfl Try.underlying30 infoU8 _ _ _ _ rfl Hv2.out.own _ _ _ _ rfl rfl Ho3.out.bytes (by have := Hbd.out; omega) ?_; intro A4 c4 w4 ho4 hf4 hn4 hs4; have Hv4 := hide (Hv2.out.join ho4 hf4 hn4); clear ho4 hf4 hn4 hs4)
  go_ret
  rw [Henc.out]
  exact Hv4.out.post Hb0.out
end Go.Proofs.Ytdkmccilnmdhmaa

/- Package columbaryref03: Value, one kind of value. -/
namespace Go.Proofs.Ytdkmccilnmdhmaa
open Go.RowKit

set_option maxRecDepth 100000 in
set_option maxHeartbeats 4000000 in
theorem rval_k2 (d : Nat) (v : V) (cs : List Value) (w : World) (hv : VC w (Old w) v cs) (hf : formP (d + 1) v) (hk : v.kind = 2) (hbd : (encV v).length ≤ 1000000000)
    (ih : ∀ (x : V) (cs' : List Value) (w' : World), VC w' (Old w') x cs' → formP d x → (encV x).length ≤ 1000000000 → Calls Try.prog 15 #[.agg cs'.toArray] w' (ClonePost (encV x) (encV x).length w')) :
    Calls Try.prog 15 #[.agg cs.toArray] w (ClonePost (encV v) (encV v).length w) := by
  have hcs : ∃ x0 x1 x2 x3 x4, cs = [x0, x1, x2, x3, x4] := by cases hv; exact ⟨_, _, _, _, _, rfl⟩
  obtain ⟨x0, x1, x2, x3, x4, rfl⟩ := hcs
  have hpv := hv.boxed
  obtain ⟨w0, hw0⟩ : ∃ w0, w.alloc (.cells [x0, x1, x2, x3, x4].toArray 25) = w0 := ⟨_, rfl⟩
  have Hb0 := hide (show Below w.heap.size w w0 by rw [← hw0]; exact (Below.refl w.heap.size w).alloc (Nat.le_refl _) _)
  rw [hw0] at hpv
  have hw0' : w.alloc (.cells #[x0, x1, x2, x3, x4] 25) = w0 := hw0
  have Hwlt := hide (show w.heap.size < w0.heap.size from hpv.lt)
  obtain ⟨KA, LA, kc, lc, hat⟩ := hpv.at_
  have c0 : w0.cell? ⟨w.heap.size, 0, none⟩ = some (.int .u8 2) := by have := hat.c0; rw [hk] at this; simpa using this
  have Hat := hide hat
  have Hk := hide hk
  have Hf := hide hf
  have Hbd0 := hide hbd
  have Ih := hide ih
  have Hc1 := hide (show Calls Try.prog 32 #[.int .u64 2] w0 (ClonePost (Lib.uvarint 2) (Lib.uvarint 2).length w0) from ruint_any 2 2 w0 (Nat.le_refl _) (by omega))
  clear hv hpv hat hw0 hk hf hbd ih
  go_enter Try.func15, Try.ntmps15
  go_wp2_with fail
  with_reducible (refine Hc1.out.mono ?_)
  rintro e w1 ⟨A1, c1, rfl, ho1, hA1, hb1⟩
  have Hv1 := hide (VO.start ho1 hA1 hb1)
  have Hat1 := hide (Hat.out.below hb1 Hwlt.out)
  clear ho1 hA1 hb1 c0 hw0'
  have c0 : w1.cell? ⟨w.heap.size, 0, none⟩ = some (.int .u8 2) := by have := Hat1.out.c0; rw [Hk.out] at this; simpa using this
  have c2' : w1.cell? ⟨w.heap.size, 2, none⟩ = some (sv v.s) := by have := Hat1.out.c2; simpa using this
  have Hc2 := hide (rtext_any v.s w1 (by have := Hf.out.1.s; omega))
  have Henc := hide (show encV v = Lib.uvarint 2 ++ textB v.s by rw [enc_s v (by rw [Hk.out]; omega), Hk.out])
  have Hbd := hide (show (Lib.uvarint 2).length + (textB v.s).length ≤ 1000000000 by have h := Hbd0.out; rw [Henc.out, List.length_append] at h; exact h)
  go_wp2_with fail
  with_reducible (refine Hc2.out.mono ?_)
  rintro e w2 ⟨A2, c2, rfl, ho2, hA2, hb2⟩
  have Hv2 := hide (Hv1.out.later hb2)
  have Ho3 := hide ho2
  clear ho2 hA2 hb2 c0 c2'
  go_wp2_with (refine wpList_append_bytes rfl (.tmp 24) (.tmp 27) 30 rfl Try.underlying30 infoU8 _ _ _ _ rfl Hv2.out.own _ _ _ _ rfl rfl Ho3.out.bytes (by have := Hbd.out; omega) ?_; intro A4 c4 w4 ho4 hf4 hn4 hs4; have Hv4 := hide (Hv2.out.join ho4 hf4 hn4); clear ho4 hf4 hn4 hs4)
  go_ret
  rw [Henc.out]
  exact Hv4.out.post Hb0.out
end Go.Proofs.Ytdkmccilnmdhmaa

/- Package columbaryref03: Value, one kind of value. -/
namespace Go.Proofs.Ytdkmccilnmdhmaa
open Go.RowKit

set_option maxRecDepth 100000 in
set_option maxHeartbeats 4000000 in
theorem rval_k3 (d : Nat) (v : V) (cs : List Value) (w : World) (hv : VC w (Old w) v cs) (hf : formP (d + 1) v) (hk : v.kind = 3) (hbd : (encV v).length ≤ 1000000000)
    (ih : ∀ (x : V) (cs' : List Value) (w' : World), VC w' (Old w') x cs' → formP d x → (encV x).length ≤ 1000000000 → Calls Try.prog 15 #[.agg cs'.toArray] w' (ClonePost (encV x) (encV x).length w')) :
    Calls Try.prog 15 #[.agg cs.toArray] w (ClonePost (encV v) (encV v).length w) := by
  have hcs : ∃ x0 x1 x2 x3 x4, cs = [x0, x1, x2, x3, x4] := by cases hv; exact ⟨_, _, _, _, _, rfl⟩
  obtain ⟨x0, x1, x2, x3, x4, rfl⟩ := hcs
  have hpv := hv.boxed
  obtain ⟨w0, hw0⟩ : ∃ w0, w.alloc (.cells [x0, x1, x2, x3, x4].toArray 25) = w0 := ⟨_, rfl⟩
  have Hb0 := hide (show Below w.heap.size w w0 by rw [← hw0]; exact (Below.refl w.heap.size w).alloc (Nat.le_refl _) _)
  rw [hw0] at hpv
  have hw0' : w.alloc (.cells #[x0, x1, x2, x3, x4] 25) = w0 := hw0
  have Hwlt := hide (show w.heap.size < w0.heap.size from hpv.lt)
  obtain ⟨KA, LA, kc, lc, hat⟩ := hpv.at_
  have c0 : w0.cell? ⟨w.heap.size, 0, none⟩ = some (.int .u8 3) := by have := hat.c0; rw [hk] at this; simpa using this
  have Hat := hide hat
  have Hk := hide hk
  have Hf := hide hf
  have Hbd0 := hide hbd
  have Ih := hide ih
  have Hc1 := hide (show Calls Try.prog 32 #[.int .u64 3] w0 (ClonePost (Lib.uvarint 3) (Lib.uvarint 3).length w0) from ruint_any 3 3 w0 (Nat.le_refl _) (by omega))
  clear hv hpv hat hw0 hk hf hbd ih
  go_enter Try.func15, Try.ntmps15
  go_wp2_with fail
  with_reducible (refine Hc1.out.mono ?_)
  rintro e w1 ⟨A1, c1, rfl, ho1, hA1, hb1⟩
  have Hv1 := hide (VO.start ho1 hA1 hb1)
  have Hat1 := hide (Hat.out.below hb1 Hwlt.out)
  clear ho1 hA1 hb1 c0 hw0'
  have c0 : w1.cell? ⟨w.heap.size, 0, none⟩ = some (.int .u8 3) := by have := Hat1.out.c0; rw [Hk.out] at this; simpa using this
  have c1' : w1.cell? ⟨w.heap.size, 1, none⟩ = some (.int .i64 v.n) := by have := Hat1.out.c1; simpa using this
  have Hc2 := hide (rint_any v.n w1 Hat.out.n.1 Hat.out.n.2)
  have Henc := hide (show encV v = Lib.uvarint 3 ++ Lib.uvarint (Lib.zigzag v.n) by rw [enc_n v (by rw [Hk.out]; omega), Hk.out])
  have Hbd := hide (show (Lib.uvarint 3).length + (Lib.uvarint (Lib.zigzag v.n)).length ≤ 1000000000 by have h := Hbd0.out; rw [Henc.out, List.length_append] at h; exact h)
  go_wp2_with fail
  with_reducible (refine Hc2.out.mono ?_)
  rintro e w2 ⟨A2, c2, rfl, ho2, hA2, hb2⟩
  have Hv2 := hide (Hv1.out.later hb2)
  have Ho3 := hide ho2
  clear ho2 hA2 hb2 c0 c1'
  go_wp2_with (refine wpList_append_bytes rfl (.tmp 14) (.tmp 17) 30 rfl Try.underlying30 infoU8 _ _ _ _ rfl Hv2.out.own _ _ _ _ rfl rfl Ho3.out.bytes (by have := Hbd.out; omega) ?_; intro A4 c4 w4 ho4 hf4 hn4 hs4; have Hv4 := hide (Hv2.out.join ho4 hf4 hn4); clear ho4 hf4 hn4 hs4)
  go_ret
  rw [Henc.out]
  exact Hv4.out.post Hb0.out
end Go.Proofs.Ytdkmccilnmdhmaa

/- Package columbaryref03: Value, one kind of value. -/
namespace Go.Proofs.Ytdkmccilnmdhmaa
open Go.RowKit

set_option maxRecDepth 100000 in
set_option maxHeartbeats 4000000 in
theorem rval_k4 (d : Nat) (v : V) (cs : List Value) (w : World) (hv : VC w (Old w) v cs) (hf : formP (d + 1) v) (hk : v.kind = 4) (hbd : (encV v).length ≤ 1000000000)
    (ih : ∀ (x : V) (cs' : List Value) (w' : World), VC w' (Old w') x cs' → formP d x → (encV x).length ≤ 1000000000 → Calls Try.prog 15 #[.agg cs'.toArray] w' (ClonePost (encV x) (encV x).length w')) :
    Calls Try.prog 15 #[.agg cs.toArray] w (ClonePost (encV v) (encV v).length w) := by
  have hcs : ∃ x0 x1 x2 x3 x4, cs = [x0, x1, x2, x3, x4] := by cases hv; exact ⟨_, _, _, _, _, rfl⟩
  obtain ⟨x0, x1, x2, x3, x4, rfl⟩ := hcs
  have hpv := hv.boxed
  obtain ⟨w0, hw0⟩ : ∃ w0, w.alloc (.cells [x0, x1, x2, x3, x4].toArray 25) = w0 := ⟨_, rfl⟩
  have Hb0 := hide (show Below w.heap.size w w0 by rw [← hw0]; exact (Below.refl w.heap.size w).alloc (Nat.le_refl _) _)
  rw [hw0] at hpv
  have hw0' : w.alloc (.cells #[x0, x1, x2, x3, x4] 25) = w0 := hw0
  have Hwlt := hide (show w.heap.size < w0.heap.size from hpv.lt)
  obtain ⟨KA, LA, kc, lc, hat⟩ := hpv.at_
  have c0 : w0.cell? ⟨w.heap.size, 0, none⟩ = some (.int .u8 4) := by have := hat.c0; rw [hk] at this; simpa using this
  have Hat := hide hat
  have Hk := hide hk
  have Hf := hide hf
  have Hbd0 := hide hbd
  have Ih := hide ih
  have Hc1 := hide (show Calls Try.prog 32 #[.int .u64 4] w0 (ClonePost (Lib.uvarint 4) (Lib.uvarint 4).length w0) from ruint_any 4 4 w0 (Nat.le_refl _) (by omega))
  clear hv hpv hat hw0 hk hf hbd ih
  go_enter Try.func15, Try.ntmps15
  go_wp2_with fail
  with_reducible (refine Hc1.out.mono ?_)
  rintro e w1 ⟨A1, c1, rfl, ho1, hA1, hb1⟩
  have Hv1 := hide (VO.start ho1 hA1 hb1)
  have Hat1 := hide (Hat.out.below hb1 Hwlt.out)
  clear ho1 hA1 hb1 c0 hw0'
  have c0 : w1.cell? ⟨w.heap.size, 0, none⟩ = some (.int .u8 4) := by have := Hat1.out.c0; rw [Hk.out] at this; simpa using this
  have c2' : w1.cell? ⟨w.heap.size, 2, none⟩ = some (sv v.s) := by have := Hat1.out.c2; simpa using this
  have Hc2 := hide (rtext_any v.s w1 (by have := Hf.out.1.s; omega))
  have Henc := hide (show encV v = Lib.uvarint 4 ++ textB v.s by rw [enc_s v (by rw [Hk.out]; omega), Hk.out])
  have Hbd := hide (show (Lib.uvarint 4).length + (textB v.s).length ≤ 1000000000 by have h := Hbd0.out; rw [Henc.out, List.length_append] at h; exact h)
  go_wp2_with fail
  with_reducible (refine Hc2.out.mono ?_)
  rintro e w2 ⟨A2, c2, rfl, ho2, hA2, hb2⟩
  have Hv2 := hide (Hv1.out.later hb2)
  have Ho3 := hide ho2
  clear ho2 hA2 hb2 c0 c2'
  go_wp2_with (refine wpList_append_bytes rfl (.tmp 24) (.tmp 27) 30 rfl Try.underlying30 infoU8 _ _ _ _ rfl Hv2.out.own _ _ _ _ rfl rfl Ho3.out.bytes (by have := Hbd.out; omega) ?_; intro A4 c4 w4 ho4 hf4 hn4 hs4; have Hv4 := hide (Hv2.out.join ho4 hf4 hn4); clear ho4 hf4 hn4 hs4)
  go_ret
  rw [Henc.out]
  exact Hv4.out.post Hb0.out
end Go.Proofs.Ytdkmccilnmdhmaa

/- Package columbaryref03: Value, one kind of value. -/
namespace Go.Proofs.Ytdkmccilnmdhmaa
open Go.RowKit

set_option maxRecDepth 100000 in
set_option maxHeartbeats 4000000 in
theorem rval_k5 (d : Nat) (v : V) (cs : List Value) (w : World) (hv : VC w (Old w) v cs) (hf : formP (d + 1) v) (hk : v.kind = 5) (hbd : (encV v).length ≤ 1000000000)
    (ih : ∀ (x : V) (cs' : List Value) (w' : World), VC w' (Old w') x cs' → formP d x → (encV x).length ≤ 1000000000 → Calls Try.prog 15 #[.agg cs'.toArray] w' (ClonePost (encV x) (encV x).length w')) :
    Calls Try.prog 15 #[.agg cs.toArray] w (ClonePost (encV v) (encV v).length w) := by
  have hcs : ∃ x0 x1 x2 x3 x4, cs = [x0, x1, x2, x3, x4] := by cases hv; exact ⟨_, _, _, _, _, rfl⟩
  obtain ⟨x0, x1, x2, x3, x4, rfl⟩ := hcs
  have hpv := hv.boxed
  obtain ⟨w0, hw0⟩ : ∃ w0, w.alloc (.cells [x0, x1, x2, x3, x4].toArray 25) = w0 := ⟨_, rfl⟩
  have Hb0 := hide (show Below w.heap.size w w0 by rw [← hw0]; exact (Below.refl w.heap.size w).alloc (Nat.le_refl _) _)
  rw [hw0] at hpv
  have hw0' : w.alloc (.cells #[x0, x1, x2, x3, x4] 25) = w0 := hw0
  have Hwlt := hide (show w.heap.size < w0.heap.size from hpv.lt)
  obtain ⟨KA, LA, kc, lc, hat⟩ := hpv.at_
  have c0 : w0.cell? ⟨w.heap.size, 0, none⟩ = some (.int .u8 5) := by have := hat.c0; rw [hk] at this; simpa using this
  have Hat := hide hat
  have Hk := hide hk
  have Hf := hide hf
  have Hbd0 := hide hbd
  have Ih := hide ih
  have Hc1 := hide (show Calls Try.prog 32 #[.int .u64 5] w0 (ClonePost (Lib.uvarint 5) (Lib.uvarint 5).length w0) from ruint_any 5 5 w0 (Nat.le_refl _) (by omega))
  clear hv hpv hat hw0 hk hf hbd ih
  go_enter Try.func15, Try.ntmps15
  go_wp2_with fail
  with_reducible (refine Hc1.out.mono ?_)
  rintro e w1 ⟨A1, c1, rfl, ho1, hA1, hb1⟩
  have Hv1 := hide (VO.start ho1 hA1 hb1)
  have Hat1 := hide (Hat.out.below hb1 Hwlt.out)
  clear ho1 hA1 hb1 c0 hw0'
  have c0 : w1.cell? ⟨w.heap.size, 0, none⟩ = some (.int .u8 5) := by have := Hat1.out.c0; rw [Hk.out] at this; simpa using this
  obtain ⟨nl, hnl⟩ : ∃ nl, v.ls.length = nl := ⟨_, rfl⟩
  have Hnl := hide hnl
  have hnl2 : nl ≤ 200 := by rw [← hnl]; exact Hf.out.1.l
  have c4 : w1.cell? ⟨w.heap.size, 4, none⟩ = some (.slice LA nl lc) := by have := Hat1.out.c4; rw [hnl] at this; simpa using this
  clear hnl
  have Hels := hide (show v.els = nl by rw [Hf.out.1.els (by rw [Hk.out]; omega), Hnl.out])
  have Hc2 := hide (ruint_any nl nl w1 (Nat.le_refl _) (by omega))
  have Henc := hide (show encV v = (Lib.uvarint 5 ++ Lib.uvarint nl) ++ restB v 0 by rw [enc_l v (by rw [Hk.out]; omega), Hk.out, Hels.out])
  have Hbd := hide (show (Lib.uvarint 5).length + (Lib.uvarint nl).length ≤ 1000000000 by have h := Hbd0.out; rw [Henc.out, List.length_append, List.length_append] at h; omega)
  go_wp2_with fail
  with_reducible (refine Hc2.out.mono ?_)
  rintro e w2 ⟨A2, c2, rfl, ho2, hA2, hb2⟩
  have Hv2 := hide (Hv1.out.later hb2)
  have Ho3 := hide ho2
  clear ho2 hA2 hb2 c0 c4 Hat1
  go_wp2_with (refine wpList_append_bytes rfl (.tmp 32) (.tmp 37) 30 rfl Try.underlying30 infoU8 _ _ _ _ rfl Hv2.out.own _ _ _ _ rfl rfl Ho3.out.bytes (by have := Hbd.out; omega) ?_; intro A4 c4 w4 ho4 hf4 hn4 hs4; have Hv4 := hide (Hv2.out.join ho4 hf4 hn4); clear ho4 hf4 hn4 hs4)
  go_loopw [3, 4] (fun av iv wr => ∃ (i : Nat) (A : Option Addr) (m c : Nat) (l : List UInt8), i ≤ nl ∧ iv = .int .i64 (i : Int) ∧ av = .slice A m c ∧ l ++ restB v i = encV v ∧ VO w0 wr A m c l) (fun _ iv _ => nl - (intOf iv).toNat)
  case atStart => exact ⟨0, _, _, _, _, Nat.zero_le _, rfl, rfl, Henc.out.symm, Hv4.out⟩
  case round =>
    obtain ⟨i, A, m, c, l, hi, rfl, rfl, hpre, hvo⟩ := hrel
    have hat := Hat.out.below hvo.below Hwlt.out
    have c0 : wr.cell? ⟨w.heap.size, 0, none⟩ = some (.int .u8 5) := by have := hat.c0; rw [Hk.out] at this; simpa using this
    have c4 : wr.cell? ⟨w.heap.size, 4, none⟩ = some (.slice LA nl lc) := by have := hat.c4; rw [Hnl.out] at this; simpa using this
    have Hv := hide hvo
    clear hvo Hv4 Hv2 Hv1 Hbd Ho3
    by_cases hil : i < nl
    case pos =>
      obtain ⟨x, hx⟩ : ∃ x, v.ls[i]? = some x := ⟨_, List.getElem?_eq_getElem (by rw [Hnl.out]; exact hil)⟩
      have Hfx := hide (Hf.out.2 x (List.mem_of_getElem? hx))
      have hpre : l ++ (encV x ++ restB v (i + 1)) = encV v := by
        rw [← hpre, restB_step5 v i x Hk.out hx, encV_eq x]
        simp only [List.append_assoc]
      have Hx := hide hx
      have Hpre := hide hpre
      clear hx hpre
      have c4' := c4
      obtain ⟨g', o', rfl, hL⟩ : ∃ g' o', LA = some ⟨g', o', none⟩ ∧ ∀ j x, v.ls[j]? = some x → PV wr (Old wr) g' (o' + 5 * j) x := by
        rcases hat.L with h | h
        · have hx := Hx.out; rw [h] at hx; simp at hx
        · exact h
      obtain ⟨cs', hg', hr', hv'⟩ := hL i x Hx.out
      rw [Nat.mul_comm 5 i] at hr'
      have Hr := hide hr'
      have Hlen := hide hv'.len
      have Hih := hide (Ih.out x cs' wr hv' Hfx.out (by have h := Hbd0.out; rw [← Hpre.out] at h; simp only [List.length_append] at h; omega))
      have Hbd := hide (show l.length + (encV x).length ≤ 1000000000 by have h := Hbd0.out; rw [← Hpre.out] at h; simp only [List.length_append] at h ⊢; omega)
      have Hm := hide (Hv.out.own.1)
      clear hL hg' hr' hv' hat
      go_wp2_with (first
        | (refine wpList_load_mid rfl 25 (.tmp 61) rfl g' (o' + i * 5) rfl _ _ Hr.out Try.underlying25 rfl (by rw [Hlen.out]; exact infoV) ?_)
        | (go_at_call 15; refine Hih.out.mono ?_; rintro e w5 ⟨A5, c5, rfl, ho5, hA5, hb5⟩; have Hv5 := hide (Hv.out.later hb5); have Ho5 := hide ho5; clear ho5 hA5 hb5)
        | (refine wpList_append_bytes rfl (.tmp 57) (.tmp 63) 30 rfl Try.underlying30 infoU8 _ _ _ _ rfl Hv5.out.own _ _ _ _ rfl rfl Ho5.out.bytes (by have := Hbd.out; have := Hm.out; omega) ?_; intro A6 c6 w6 ho6 hf6 hn6 hs6; have Hv6 := hide (Hv5.out.join ho6 hf6 hn6); clear ho6 hf6 hn6 hs6))
      go_roundw
      case rel =>
        first
          | exact ⟨i + 1, _, _, _, l ++ encV x, by omega, by go_num, rfl, by rw [← Hpre.out]; simp only [List.append_assoc], Hv6.out⟩
          | ((repeat apply Exists.intro); exact ⟨⟨i + 1, _, _, _, l ++ encV x, by omega, by go_num, rfl, by rw [← Hpre.out]; simp only [List.append_assoc], Hv6.out⟩, rfl⟩)
      case measure => simp [intOf]; omega
    case neg =>
      obtain rfl : i = nl := by omega
      clear hat
      go_wp2
      go_ret
      rw [restB_done v i (by rw [Hels.out]; exact Nat.le_refl _), List.append_nil] at hpre
      subst hpre
      exact Hv.out.post Hb0.out
end Go.Proofs.Ytdkmccilnmdhmaa

/- Package columbaryref03: Value, one kind of value. -/
namespace Go.Proofs.Ytdkmccilnmdhmaa
open Go.RowKit

set_option maxRecDepth 100000 in
set_option maxHeartbeats 4000000 in
theorem rval_k6 (d : Nat) (v : V) (cs : List Value) (w : World) (hv : VC w (Old w) v cs) (hf : formP (d + 1) v) (hk : v.kind = 6) (hbd : (encV v).length ≤ 1000000000)
    (ih : ∀ (x : V) (cs' : List Value) (w' : World), VC w' (Old w') x cs' → formP d x → (encV x).length ≤ 1000000000 → Calls Try.prog 15 #[.agg cs'.toArray] w' (ClonePost (encV x) (encV x).length w')) :
    Calls Try.prog 15 #[.agg cs.toArray] w (ClonePost (encV v) (encV v).length w) := by
  have hcs : ∃ x0 x1 x2 x3 x4, cs = [x0, x1, x2, x3, x4] := by cases hv; exact ⟨_, _, _, _, _, rfl⟩
  obtain ⟨x0, x1, x2, x3, x4, rfl⟩ := hcs
  have hpv := hv.boxed
  obtain ⟨w0, hw0⟩ : ∃ w0, w.alloc (.cells [x0, x1, x2, x3, x4].toArray 25) = w0 := ⟨_, rfl⟩
  have Hb0 := hide (show Below w.heap.size w w0 by rw [← hw0]; exact (Below.refl w.heap.size w).alloc (Nat.le_refl _) _)
  rw [hw0] at hpv
  have hw0' : w.alloc (.cells #[x0, x1, x2, x3, x4] 25) = w0 := hw0
  have Hwlt := hide (show w.heap.size < w0.heap.size from hpv.lt)
  obtain ⟨KA, LA, kc, lc, hat⟩ := hpv.at_
  have c0 : w0.cell? ⟨w.heap.size, 0, none⟩ = some (.int .u8 6) := by have := hat.c0; rw [hk] at this; simpa using this
  have Hat := hide hat
  have Hk := hide hk
  have Hf := hide hf
  have Hbd0 := hide hbd
  have Ih := hide ih
  have Hc1 := hide (show Calls Try.prog 32 #[.int .u64 6] w0 (ClonePost (Lib.uvarint 6) (Lib.uvarint 6).length w0) from ruint_any 6 6 w0 (Nat.le_refl _) (by omega))
  clear hv hpv hat hw0 hk hf hbd ih
  go_enter Try.func15, Try.ntmps15
  go_wp2_with fail
  with_reducible (refine Hc1.out.mono ?_)
  rintro e w1 ⟨A1, c1, rfl, ho1, hA1, hb1⟩
  have Hv1 := hide (VO.start ho1 hA1 hb1)
  have Hat1 := hide (Hat.out.below hb1 Hwlt.out)
  clear ho1 hA1 hb1 c0 hw0'
  have c0 : w1.cell? ⟨w.heap.size, 0, none⟩ = some (.int .u8 6) := by have := Hat1.out.c0; rw [Hk.out] at this; simpa using this
  obtain ⟨nl, hnl⟩ : ∃ nl, v.ls.length = nl := ⟨_, rfl⟩
  have Hnl := hide hnl
  have hnl2 : nl ≤ 200 := by rw [← hnl]; exact Hf.out.1.l
  have c4 : w1.cell? ⟨w.heap.size, 4, none⟩ = some (.slice LA nl lc) := by have := Hat1.out.c4; rw [hnl] at this; simpa using this
  clear hnl
  have Hels := hide (show v.els = nl by rw [Hf.out.1.els (by rw [Hk.out]; omega), Hnl.out])
  have Hc2 := hide (ruint_any nl nl w1 (Nat.le_refl _) (by omega))
  have Henc := hide (show encV v = (Lib.uvarint 6 ++ Lib.uvarint nl) ++ restB v 0 by rw [enc_l v (by rw [Hk.out]; omega), Hk.out, Hels.out])
  have Hbd := hide (show (Lib.uvarint 6).length + (Lib.uvarint nl).length ≤ 1000000000 by have h := Hbd0.out; rw [Henc.out, List.length_append, List.length_append] at h; omega)
  go_wp2_with fail
  with_reducible (refine Hc2.out.mono ?_)
  rintro e w2 ⟨A2, c2, rfl, ho2, hA2, hb2⟩
  have Hv2 := hide (Hv1.out.later hb2)
  have Ho3 := hide ho2
  clear ho2 hA2 hb2 c0 c4 Hat1
  go_wp2_with (refine wpList_append_bytes rfl (.tmp 32) (.tmp 37) 30 rfl Try.underlying30 infoU8 _ _ _ _ rfl Hv2.out.own _ _ _ _ rfl rfl Ho3.out.bytes (by have := Hbd.out; omega) ?_; intro A4 c4 w4 ho4 hf4 hn4 hs4; have Hv4 := hide (Hv2.out.join ho4 hf4 hn4); clear ho4 hf4 hn4 hs4)
  go_loopw [3, 4] (fun av iv wr => ∃ (i : Nat) (A : Option Addr) (m c : Nat) (l : List UInt8), i ≤ nl ∧ iv = .int .i64 (i : Int) ∧ av = .slice A m c ∧ l ++ restB v i = encV v ∧ VO w0 wr A m c l) (fun _ iv _ => nl - (intOf iv).toNat)
  case atStart => exact ⟨0, _, _, _, _, Nat.zero_le _, rfl, rfl, Henc.out.symm, Hv4.out⟩
  case round =>
    obtain ⟨i, A, m, c, l, hi, rfl, rfl, hpre, hvo⟩ := hrel
    have hat := Hat.out.below hvo.below Hwlt.out
    have c0 : wr.cell? ⟨w.heap.size, 0, none⟩ = some (.int .u8 6) := by have := hat.c0; rw [Hk.out] at this; simpa using this
    have c4 : wr.cell? ⟨w.heap.size, 4, none⟩ = some (.slice LA nl lc) := by have := hat.c4; rw [Hnl.out] at this; simpa using this
    have Hv := hide hvo
    clear hvo Hv4 Hv2 Hv1 Hbd Ho3
    by_cases hil : i < nl
    case pos =>
      obtain ⟨x, hx⟩ : ∃ x, v.ls[i]? = some x := ⟨_, List.getElem?_eq_getElem (by rw [Hnl.out]; exact hil)⟩
      have Hfx := hide (Hf.out.2 x (List.mem_of_getElem? hx))
      obtain ⟨y, hy⟩ : ∃ y, v.ks[i]? = some y := ⟨_, List.getElem?_eq_getElem (by have := Hf.out.1.o Hk.out; have := Hnl.out; omega)⟩
      obtain ⟨g6, o6, rfl, hK6⟩ : ∃ g' o', KA = some ⟨g', o', none⟩ ∧ wr.cell? ⟨g', o' + i, none⟩ = some (sv y) := by
        rcases hat.K with h | ⟨g', o', h1, h2, h3⟩
        · rw [h] at hy; simp at hy
        · exact ⟨g', o', h1, h3 i (sv y) (by rw [List.getElem?_map, hy]; rfl)⟩
      have hy32 := Hf.out.1.x y (List.mem_of_getElem? hy)
      have Hc4 := hide (rtext_any y wr (by omega))
      have hpre : l ++ (textB y ++ (encV x ++ restB v (i + 1))) = encV v := by
        rw [← hpre, restB_step6 v i x y Hk.out hx hy, encV_eq x]
        simp only [List.append_assoc]
      have hks : wr.cell? ⟨w.heap.size, 3, none⟩ = some (.slice (some ⟨g6, o6, none⟩) nl kc) := by
        have h1 := hat.c3
        have h2 := Hf.out.1.o Hk.out
        rw [h2, Hnl.out] at h1
        simpa using h1
      have Hx := hide hx
      have Hpre := hide hpre
      clear hx hpre hy hat
      go_wp2_with fail
      with_reducible (refine Hc4.out.mono ?_)
      rintro e w2 ⟨A2, c2, rfl, ho2, hA2, hb2⟩
      have Hv2 := hide (Hv.out.later hb2)
      have Ho3 := hide ho2
      clear ho2 hA2 hb2 hK6 hks
      have Hbd := hide (show m + (textB y).length ≤ 1000000000 by have h := Hbd0.out; rw [← Hpre.out] at h; simp only [List.length_append] at h; have := Hv.out.own.1; omega)
      go_upto_region 19 with (refine wpList_append_bytes rfl (.tmp 49) (.tmp 55) 30 rfl Try.underlying30 infoU8 _ _ _ _ rfl Hv2.out.own _ _ _ _ rfl rfl Ho3.out.bytes (by have := Hbd.out; omega) ?_; intro A4 c4 w4 ho4 hf4 hn4 hs4; have Hv4 := hide (Hv2.out.join ho4 hf4 hn4); clear ho4 hf4 hn4 hs4)
      have hat4 := Hat.out.below Hv4.out.below Hwlt.out
      have Hat4 := hide hat4
      have c4' : w4.cell? ⟨w.heap.size, 4, none⟩ = some (.slice LA nl lc) := by have := hat4.c4; rw [Hnl.out] at this; simpa using this
      obtain ⟨g', o', rfl, hL⟩ : ∃ g' o', LA = some ⟨g', o', none⟩ ∧ ∀ j x, v.ls[j]? = some x → PV w4 (Old w4) g' (o' + 5 * j) x := by
        rcases hat4.L with h | h
        · have hx := Hx.out; rw [h] at hx; simp at hx
        · exact h
      clear hat4
      obtain ⟨cs', hg', hr', hv'⟩ := hL i x Hx.out
      rw [Nat.mul_comm 5 i] at hr'
      have Hr := hide hr'
      have Hlen := hide hv'.len
      have Hih := hide (Ih.out x cs' w4 hv' Hfx.out (by have h := Hbd0.out; rw [← Hpre.out] at h; simp only [List.length_append] at h; omega))
      have Hbd := hide (show (l ++ textB y).length + (encV x).length ≤ 1000000000 by have h := Hbd0.out; rw [← Hpre.out] at h; simp only [List.length_append] at h ⊢; omega)
      have Hm := hide (Hv4.out.own.1)
      clear hL hg' hr' hv'
      go_wp2_with (first
        | (refine wpList_load_mid rfl 25 (.tmp 61) rfl g' (o' + i * 5) rfl _ _ Hr.out Try.underlying25 rfl (by rw [Hlen.out]; exact infoV) ?_)
        | (go_at_call 15; refine Hih.out.mono ?_; rintro e w5 ⟨A5, c5, rfl, ho5, hA5, hb5⟩; have Hv5 := hide (Hv4.out.later hb5); have Ho5 := hide ho5; clear ho5 hA5 hb5)
        | (refine wpList_append_bytes rfl (.tmp 57) (.tmp 63) 30 rfl Try.underlying30 infoU8 _ _ _ _ rfl Hv5.out.own _ _ _ _ rfl rfl Ho5.out.bytes (by have := Hbd.out; have := Hm.out; omega) ?_; intro A6 c6 w6 ho6 hf6 hn6 hs6; have Hv6 := hide (Hv5.out.join ho6 hf6 hn6); clear ho6 hf6 hn6 hs6))
      go_roundw
      case rel =>
        first
          | exact ⟨i + 1, _, _, _, (l ++ textB y) ++ encV x, by omega, by go_num, rfl, by rw [← Hpre.out]; simp only [List.append_assoc], Hv6.out⟩
          | ((repeat apply Exists.intro); exact ⟨⟨i + 1, _, _, _, (l ++ textB y) ++ encV x, by omega, by go_num, rfl, by rw [← Hpre.out]; simp only [List.append_assoc], Hv6.out⟩, rfl⟩)
      case measure => simp [intOf]; omega
    case neg =>
      obtain rfl : i = nl := by omega
      clear hat
      go_wp2
      go_ret
      rw [restB_done v i (by rw [Hels.out]; exact Nat.le_refl _), List.append_nil] at hpre
      subst hpre
      exact Hv.out.post Hb0.out
end Go.Proofs.Ytdkmccilnmdhmaa

/- Package columbaryref03: Value, one kind of value. -/
namespace Go.Proofs.Ytdkmccilnmdhmaa
open Go.RowKit

set_option maxRecDepth 100000 in
set_option maxHeartbeats 4000000 in
theorem rval_k7 (d : Nat) (v : V) (cs : List Value) (w : World) (hv : VC w (Old w) v cs) (hf : formP (d + 1) v) (hk : v.kind = 7) (hbd : (encV v).length ≤ 1000000000)
    (ih : ∀ (x : V) (cs' : List Value) (w' : World), VC w' (Old w') x cs' → formP d x → (encV x).length ≤ 1000000000 → Calls Try.prog 15 #[.agg cs'.toArray] w' (ClonePost (encV x) (encV x).length w')) :
    Calls Try.prog 15 #[.agg cs.toArray] w (ClonePost (encV v) (encV v).length w) := by
  have hcs : ∃ x0 x1 x2 x3 x4, cs = [x0, x1, x2, x3, x4] := by cases hv; exact ⟨_, _, _, _, _, rfl⟩
  obtain ⟨x0, x1, x2, x3, x4, rfl⟩ := hcs
  have hpv := hv.boxed
  obtain ⟨w0, hw0⟩ : ∃ w0, w.alloc (.cells [x0, x1, x2, x3, x4].toArray 25) = w0 := ⟨_, rfl⟩
  have Hb0 := hide (show Below w.heap.size w w0 by rw [← hw0]; exact (Below.refl w.heap.size w).alloc (Nat.le_refl _) _)
  rw [hw0] at hpv
  have hw0' : w.alloc (.cells #[x0, x1, x2, x3, x4] 25) = w0 := hw0
  have Hwlt := hide (show w.heap.size < w0.heap.size from hpv.lt)
  obtain ⟨KA, LA, kc, lc, hat⟩ := hpv.at_
  have c0 : w0.cell? ⟨w.heap.size, 0, none⟩ = some (.int .u8 7) := by have := hat.c0; rw [hk] at this; simpa using this
  have Hat := hide hat
  have Hk := hide hk
  have Hf := hide hf
  have Hbd0 := hide hbd
  have Ih := hide ih
  have Hc1 := hide (show Calls Try.prog 32 #[.int .u64 7] w0 (ClonePost (Lib.uvarint 7) (Lib.uvarint 7).length w0) from ruint_any 7 7 w0 (Nat.le_refl _) (by omega))
  clear hv hpv hat hw0 hk hf hbd ih
  go_enter Try.func15, Try.ntmps15
  go_wp2_with fail
  with_reducible (refine Hc1.out.mono ?_)
  rintro e w1 ⟨A1, c1, rfl, ho1, hA1, hb1⟩
  have Hv1 := hide (VO.start ho1 hA1 hb1)
  have Hat1 := hide (Hat.out.below hb1 Hwlt.out)
  clear ho1 hA1 hb1 c0 hw0'
  have c0 : w1.cell? ⟨w.heap.size, 0, none⟩ = some (.int .u8 7) := by have := Hat1.out.c0; rw [Hk.out] at this; simpa using this
  have c2' : w1.cell? ⟨w.heap.size, 2, none⟩ = some (sv v.s) := by have := Hat1.out.c2; simpa using this
  have Hc2 := hide (rtext_any v.s w1 (by have := Hf.out.1.s; omega))
  have Henc := hide (show encV v = Lib.uvarint 7 ++ textB v.s by rw [enc_s v (by rw [Hk.out]; omega), Hk.out])
  have Hbd := hide (show (Lib.uvarint 7).length + (textB v.s).length ≤ 1000000000 by have h := Hbd0.out; rw [Henc.out, List.length_append] at h; exact h)
  go_wp2_with fail
  with_reducible (refine Hc2.out.mono ?_)
  rintro e w2 ⟨A2, c2, rfl, ho2, hA2, hb2⟩
  have Hv2 := hide (Hv1.out.later hb2)
  have Ho3 := hide ho2
  clear ho2 hA2 hb2 c0 c2'
  go_wp2_with (refine wpList_append_bytes rfl (.tmp 24) (.tmp 27) 30 rfl Try.underlying30 infoU8 _ _ _ _ rfl Hv2.out.own _ _ _ _ rfl rfl Ho3.out.bytes (by have := Hbd.out; omega) ?_; intro A4 c4 w4 ho4 hf4 hn4 hs4; have Hv4 := hide (Hv2.out.join ho4 hf4 hn4); clear ho4 hf4 hn4 hs4)
  go_ret
  rw [Henc.out]
  exact Hv4.out.post Hb0.out
end Go.Proofs.Ytdkmccilnmdhmaa

/- Package columbaryref03: Value, one kind of value. -/
namespace Go.Proofs.Ytdkmccilnmdhmaa
open Go.RowKit

set_option maxRecDepth 100000 in
set_option maxHeartbeats 4000000 in
theorem rval_k8 (d : Nat) (v : V) (cs : List Value) (w : World) (hv : VC w (Old w) v cs) (hf : formP (d + 1) v) (hk : v.kind = 8) (hbd : (encV v).length ≤ 1000000000)
    (ih : ∀ (x : V) (cs' : List Value) (w' : World), VC w' (Old w') x cs' → formP d x → (encV x).length ≤ 1000000000 → Calls Try.prog 15 #[.agg cs'.toArray] w' (ClonePost (encV x) (encV x).length w')) :
    Calls Try.prog 15 #[.agg cs.toArray] w (ClonePost (encV v) (encV v).length w) := by
  have hcs : ∃ x0 x1 x2 x3 x4, cs = [x0, x1, x2, x3, x4] := by cases hv; exact ⟨_, _, _, _, _, rfl⟩
  obtain ⟨x0, x1, x2, x3, x4, rfl⟩ := hcs
  have hpv := hv.boxed
  obtain ⟨w0, hw0⟩ : ∃ w0, w.alloc (.cells [x0, x1, x2, x3, x4].toArray 25) = w0 := ⟨_, rfl⟩
  have Hb0 := hide (show Below w.heap.size w w0 by rw [← hw0]; exact (Below.refl w.heap.size w).alloc (Nat.le_refl _) _)
  rw [hw0] at hpv
  have hw0' : w.alloc (.cells #[x0, x1, x2, x3, x4] 25) = w0 := hw0
  have Hwlt := hide (show w.heap.size < w0.heap.size from hpv.lt)
  obtain ⟨KA, LA, kc, lc, hat⟩ := hpv.at_
  have c0 : w0.cell? ⟨w.heap.size, 0, none⟩ = some (.int .u8 8) := by have := hat.c0; rw [hk] at this; simpa using this
  have Hat := hide hat
  have Hk := hide hk
  have Hf := hide hf
  have Hbd0 := hide hbd
  have Ih := hide ih
  have Hc1 := hide (show Calls Try.prog 32 #[.int .u64 8] w0 (ClonePost (Lib.uvarint 8) (Lib.uvarint 8).length w0) from ruint_any 8 8 w0 (Nat.le_refl _) (by omega))
  clear hv hpv hat hw0 hk hf hbd ih
  go_enter Try.func15, Try.ntmps15
  go_wp2_with fail
  with_reducible (refine Hc1.out.mono ?_)
  rintro e w1 ⟨A1, c1, rfl, ho1, hA1, hb1⟩
  have Hv1 := hide (VO.start ho1 hA1 hb1)
  have Hat1 := hide (Hat.out.below hb1 Hwlt.out)
  clear ho1 hA1 hb1 c0 hw0'
  have c0 : w1.cell? ⟨w.heap.size, 0, none⟩ = some (.int .u8 8) := by have := Hat1.out.c0; rw [Hk.out] at this; simpa using this
  have c2' : w1.cell? ⟨w.heap.size, 2, none⟩ = some (sv v.s) := by have := Hat1.out.c2; simpa using this
  have Hc2 := hide (rtext_any v.s w1 (by have := Hf.out.1.s; omega))
  have Henc := hide (show encV v = Lib.uvarint 8 ++ textB v.s by rw [enc_s v (by rw [Hk.out]; omega), Hk.out])
  have Hbd := hide (show (Lib.uvarint 8).length + (textB v.s).length ≤ 1000000000 by have h := Hbd0.out; rw [Henc.out, List.length_append] at h; exact h)
  go_wp2_with fail
  with_reducible (refine Hc2.out.mono ?_)
  rintro e w2 ⟨A2, c2, rfl, ho2, hA2, hb2⟩
  have Hv2 := hide (Hv1.out.later hb2)
  have Ho3 := hide ho2
  clear ho2 hA2 hb2 c0 c2'
  go_wp2_with (refine wpList_append_bytes rfl (.tmp 24) (.tmp 27) 30 rfl Try.underlying30 infoU8 _ _ _ _ rfl Hv2.out.own _ _ _ _ rfl rfl Ho3.out.bytes (by have := Hbd.out; omega) ?_; intro A4 c4 w4 ho4 hf4 hn4 hs4; have Hv4 := hide (Hv2.out.join ho4 hf4 hn4); clear ho4 hf4 hn4 hs4)
  go_ret
  rw [Henc.out]
  exact Hv4.out.post Hb0.out
end Go.Proofs.Ytdkmccilnmdhmaa
