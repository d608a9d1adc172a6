/- Vo0, Vo1, Vo2, Vo3, Vo4, Vo7, Vo8, Vo9, Vo10, Vo5, Vo6, in one text. -/
import Derived.Test.YteoimkjocijcjaaVn
import Derived.Deep.CutRange
import Derived.Deep.CutBlock
import Derived.Test.YteoimkjocijcjaaVqb
import Derived.Test.YteoimkjocijcjaaVqc
/- Package wire: Reader.value, one kind of value. -/
namespace Go.Proofs.Yteoimkjocijcjaa
open Go.RowKit

set_option maxRecDepth 100000 in
set_option maxHeartbeats 4000000 in
theorem rdv_k0 (d op : Nat) (rb : Nat) (l l1 : List UInt8) (bad : Bool) (w : World) (h : Rd w rb l bad) (hd : op + (d + 1) = 24) (hk : rdUint 8 l = some (0, l1)) :
    Calls Try.prog 30 #[.pointer (some ⟨rb, 0, none⟩), .int .i64 (op : Int)] w (RVPost rb (d + 1) l w) := by
  have za := zeroV
  have ba := buildV
  have hop : op < 24 := by omega
  have h0 : Rd (w.alloc (.cells #[.int .u8 0, .int .i64 0, .string ⟨#[]⟩, .slice none 0 0, .slice none 0 0] 27)) rb l bad := h.fr (F := fun _ => False) ((Fr.refl _ _).alloc _) (fun _ h => h.elim)
  have hb0 := Blk.new w 27 #[.int .u8 0, .int .i64 0, .string ⟨#[]⟩, .slice none 0 0, .slice none 0 0]
  obtain ⟨w0, hw0⟩ : ∃ w0, w.alloc (.cells #[.int .u8 0, .int .i64 0, .string ⟨#[]⟩, .slice none 0 0, .slice none 0 0] 27) = w0 := ⟨_, rfl⟩
  have f0 : Fr (fun k => k = rb) w w0 := by rw [← hw0]; exact (Fr.refl _ _).alloc _
  rw [hw0] at h0 hb0
  have hs0 : w0.heap.size = w.heap.size + 1 := by rw [← hw0]; simp
  have hne0 : w.heap.size ≠ rb := h0.ne hb0
  have hu : Calls Try.prog 29 #[.pointer (some ⟨rb, 0, none⟩), .int .u64 8] w0 (UPost rb .u64 ((rdUint 8 l).map fun x => ((x.1 : Int), x.2)) w0) := ruint_all rb l bad 8 w0 h0 (by omega)
  rw [hk] at hu
  have Hu := hide hu
  have Hb0 := hide hb0
  have F0 := hide f0
  have Hne0 := hide hne0
  have Hs0 := hide hs0
  have Hk := hide hk
  have Hh := hide h
  clear hu hb0 f0 hne0 hs0 h0 hk h hd
  go_enter Try.func30, Try.ntmps30
  go_wp2_with fail
  refine Hu.out.mono ?_
  rintro e w2 ⟨rfl, hr2, hf2⟩
  simp only [Option.map_some, Option.getD_some, Option.isNone_some] at hr2 ⊢
  rw [show (((0 : Nat)) : Int) = 0 from rfl]
  have hb2 := Hb0.out.fr hf2 Hne0.out
  have f2 := F0.out.trans' hf2 (fun _ _ h => h)
  have n2 := Blk.new w2 27 #[.int .u8 0, .int .i64 0, .string ⟨#[]⟩, .slice none 0 0, .slice none 0 0]
  have n3 := Blk.new w2 27 #[.int .u8 0, .int .i64 0, .string ⟨#[]⟩, .slice none 0 0, .slice none 0 0]
  have z0 := n2.cell 0
  have z1 := n2.cell 1
  have z2 := n2.cell 2
  have z3 := n2.cell 3
  have z4 := n2.cell 4
  have y0 := n2.frozen 0
  have y1 := n2.frozen 1
  have y2 := n2.frozen 2
  have y3 := n2.frozen 3
  have y4 := n2.frozen 4
  have p0 := n3.cell 0
  have HB2 := hide hb2
  have F2 := hide f2
  have R2 := hide hr2
  have Hf2 := hide hf2
  clear hb2 f2 hr2 hf2 n2 n3 Hu
  go_upto_region 4 with fail
  obtain ⟨wv, hwv⟩ : ∃ wv, w2.alloc (.cells #[.int .u8 0, .int .i64 0, .string ⟨#[]⟩, .slice none 0 0, .slice none 0 0] 27) = wv := ⟨_, rfl⟩
  have Bv : Blk wv w2.heap.size 27 #[.int .u8 0, .int .i64 0, .string ⟨#[]⟩, .slice none 0 0, .slice none 0 0] := by rw [← hwv]; exact Blk.new _ _ _
  have Bz : Blk wv w.heap.size 27 #[.int .u8 0, .int .i64 0, .string ⟨#[]⟩, .slice none 0 0, .slice none 0 0] := by rw [← hwv]; exact HB2.out.alloc _
  have FrW : Fr (fun k => k = rb) w wv := by rw [← hwv]; exact F2.out.alloc _
  have RW : Rd wv rb l1 false := by rw [← hwv]; exact R2.out.fr (F := fun _ => False) ((Fr.refl _ _).alloc _) (fun _ h => h.elim)
  try rw [hwv]
  rw [hwv] at p0
  have hvz : w.heap.size < w2.heap.size := HB2.out.lt
  obtain ⟨vb, hvb⟩ : ∃ vb, w2.heap.size = vb := ⟨_, rfl⟩
  rw [hvb] at Bv p0 hvz ⊢
  have Hvz := hide hvz
  have hvr : vb ≠ rb := RW.ne Bv
  clear z0 z1 z2 z3 z4 y0 y1 y2 y3 y4 hwv hvb za ba hvz HB2 F2 R2 Hf2 Hb0 F0
  clear p0
  have v0 := Bv.cell 0
  have z0 := Bz.cell 0
  have y0 := Bz.frozen 0
  have v1 := Bv.cell 1
  have z1 := Bz.cell 1
  have y1 := Bz.frozen 1
  have v2 := Bv.cell 2
  have z2 := Bz.cell 2
  have y2 := Bz.frozen 2
  have v3 := Bv.cell 3
  have z3 := Bz.cell 3
  have y3 := Bz.frozen 3
  have v4 := Bv.cell 4
  have z4 := Bz.cell 4
  have y4 := Bz.frozen 4
  have q1 := Bz.set_ 0 (.int .u8 0)
  have q2 := q1.set_ 1 (.int .i64 0)
  have q3 := q2.set_ 2 (.string ⟨#[]⟩)
  have q4 := q3.set_ 3 (.slice none 0 0)
  have q5 := q4.set_ 4 (.slice none 0 0)
  have R1 := RW.setV Bz 0 (.int .u8 0)
  have R2 := R1.setV q1 1 (.int .i64 0)
  have R3 := R2.setV q2 2 (.string ⟨#[]⟩)
  have R4 := R3.setV q3 3 (.slice none 0 0)
  have R5 := R4.setV q4 4 (.slice none 0 0)
  have F5 : Fr (fun k => k = rb) w (((((wv.setCell ⟨w.heap.size, 0, none⟩ (.int .u8 0)).setCell ⟨w.heap.size, 1, none⟩ (.int .i64 0)).setCell ⟨w.heap.size, 2, none⟩ (.string ⟨#[]⟩)).setCell ⟨w.heap.size, 3, none⟩ (.slice none 0 0)).setCell ⟨w.heap.size, 4, none⟩ (.slice none 0 0)) := ((((FrW.setCell (p := ⟨w.heap.size, 0, none⟩) (.inr (Nat.le_refl _)) _).setCell (p := ⟨w.heap.size, 1, none⟩) (.inr (Nat.le_refl _)) _).setCell (p := ⟨w.heap.size, 2, none⟩) (.inr (Nat.le_refl _)) _).setCell (p := ⟨w.heap.size, 3, none⟩) (.inr (Nat.le_refl _)) _).setCell (p := ⟨w.heap.size, 4, none⟩) (.inr (Nat.le_refl _)) _
  have r0 : (((((wv.setCell ⟨w.heap.size, 0, none⟩ (.int .u8 0)).setCell ⟨w.heap.size, 1, none⟩ (.int .i64 0)).setCell ⟨w.heap.size, 2, none⟩ (.string ⟨#[]⟩)).setCell ⟨w.heap.size, 3, none⟩ (.slice none 0 0)).setCell ⟨w.heap.size, 4, none⟩ (.slice none 0 0)).cell? ⟨w.heap.size, 0, none⟩ = some (.int .u8 0) := q5.cell 0
  have r1 : (((((wv.setCell ⟨w.heap.size, 0, none⟩ (.int .u8 0)).setCell ⟨w.heap.size, 1, none⟩ (.int .i64 0)).setCell ⟨w.heap.size, 2, none⟩ (.string ⟨#[]⟩)).setCell ⟨w.heap.size, 3, none⟩ (.slice none 0 0)).setCell ⟨w.heap.size, 4, none⟩ (.slice none 0 0)).cell? ⟨w.heap.size, 1, none⟩ = some (.int .i64 0) := q5.cell 1
  have r2 : (((((wv.setCell ⟨w.heap.size, 0, none⟩ (.int .u8 0)).setCell ⟨w.heap.size, 1, none⟩ (.int .i64 0)).setCell ⟨w.heap.size, 2, none⟩ (.string ⟨#[]⟩)).setCell ⟨w.heap.size, 3, none⟩ (.slice none 0 0)).setCell ⟨w.heap.size, 4, none⟩ (.slice none 0 0)).cell? ⟨w.heap.size, 2, none⟩ = some (.string ⟨#[]⟩) := q5.cell 2
  have r3 : (((((wv.setCell ⟨w.heap.size, 0, none⟩ (.int .u8 0)).setCell ⟨w.heap.size, 1, none⟩ (.int .i64 0)).setCell ⟨w.heap.size, 2, none⟩ (.string ⟨#[]⟩)).setCell ⟨w.heap.size, 3, none⟩ (.slice none 0 0)).setCell ⟨w.heap.size, 4, none⟩ (.slice none 0 0)).cell? ⟨w.heap.size, 3, none⟩ = some (.slice none 0 0) := q5.cell 3
  have r4 : (((((wv.setCell ⟨w.heap.size, 0, none⟩ (.int .u8 0)).setCell ⟨w.heap.size, 1, none⟩ (.int .i64 0)).setCell ⟨w.heap.size, 2, none⟩ (.string ⟨#[]⟩)).setCell ⟨w.heap.size, 3, none⟩ (.slice none 0 0)).setCell ⟨w.heap.size, 4, none⟩ (.slice none 0 0)).cell? ⟨w.heap.size, 4, none⟩ = some (.slice none 0 0) := q5.cell 4
  have Hr := hide (show _ ∧ _ ∧ _ ∧ _ ∧ _ from ⟨r0, r1, r2, r3, r4⟩)
  have H5 := hide F5
  have HR := hide R5
  have HRW := hide RW
  clear q1 q2 q3 q4 q5 R1 R2 R3 R4 R5 F5 r0 r1 r2 r3 r4 Bv Bz FrW RW
  go_wp2
  obtain ⟨r0, r1, r2, r3, r4⟩ := Hr.out
  refine bodyPost_ret (v := .agg #[.int .u8 0, .int .i64 0, .string ⟨#[]⟩, .slice none 0 0, .slice none 0 0]) (by simp [results, Try.results30, go_sem, r0, r1, r2, r3, r4, Result.andThen]) rfl ⟨_, _, _, _, _, rfl, ?_, H5.out, ?_⟩
  · intro u hu
    simp only [List.mem_cons, List.not_mem_nil, or_false] at hu
    rcases hu with rfl | rfl | rfl | rfl | rfl <;> rfl
  · exact .inl ⟨_, _, by rw [rdV, Hk.out]; rfl, scalar_vc _ _ 0 0 [] (by omega) (by omega) (by simp), HR.out⟩
end Go.Proofs.Yteoimkjocijcjaa

/- Package wire: Reader.value, one kind of value. -/
namespace Go.Proofs.Yteoimkjocijcjaa
open Go.RowKit

set_option maxRecDepth 100000 in
set_option maxHeartbeats 4000000 in
theorem rdv_k1 (d op : Nat) (rb : Nat) (l l1 : List UInt8) (bad : Bool) (w : World) (h : Rd w rb l bad) (hd : op + (d + 1) = 24) (hk : rdUint 8 l = some (1, l1)) :
    Calls Try.prog 30 #[.pointer (some ⟨rb, 0, none⟩), .int .i64 (op : Int)] w (RVPost rb (d + 1) l w) := by
  have za := zeroV
  have ba := buildV
  have hop : op < 24 := by omega
  have h0 : Rd (w.alloc (.cells #[.int .u8 0, .int .i64 0, .string ⟨#[]⟩, .slice none 0 0, .slice none 0 0] 27)) rb l bad := h.fr (F := fun _ => False) ((Fr.refl _ _).alloc _) (fun _ h => h.elim)
  have hb0 := Blk.new w 27 #[.int .u8 0, .int .i64 0, .string ⟨#[]⟩, .slice none 0 0, .slice none 0 0]
  obtain ⟨w0, hw0⟩ : ∃ w0, w.alloc (.cells #[.int .u8 0, .int .i64 0, .string ⟨#[]⟩, .slice none 0 0, .slice none 0 0] 27) = w0 := ⟨_, rfl⟩
  have f0 : Fr (fun k => k = rb) w w0 := by rw [← hw0]; exact (Fr.refl _ _).alloc _
  rw [hw0] at h0 hb0
  have hs0 : w0.heap.size = w.heap.size + 1 := by rw [← hw0]; simp
  have hne0 : w.heap.size ≠ rb := h0.ne hb0
  have hu : Calls Try.prog 29 #[.pointer (some ⟨rb, 0, none⟩), .int .u64 8] w0 (UPost rb .u64 ((rdUint 8 l).map fun x => ((x.1 : Int), x.2)) w0) := ruint_all rb l bad 8 w0 h0 (by omega)
  rw [hk] at hu
  have Hu := hide hu
  have Hb0 := hide hb0
  have F0 := hide f0
  have Hne0 := hide hne0
  have Hs0 := hide hs0
  have Hk := hide hk
  have Hh := hide h
  clear hu hb0 f0 hne0 hs0 h0 hk h hd
  go_enter Try.func30, Try.ntmps30
  go_wp2_with fail
  refine Hu.out.mono ?_
  rintro e w2 ⟨rfl, hr2, hf2⟩
  simp only [Option.map_some, Option.getD_some, Option.isNone_some] at hr2 ⊢
  rw [show (((1 : Nat)) : Int) = 1 from rfl]
  have hb2 := Hb0.out.fr hf2 Hne0.out
  have f2 := F0.out.trans' hf2 (fun _ _ h => h)
  have n2 := Blk.new w2 27 #[.int .u8 0, .int .i64 0, .string ⟨#[]⟩, .slice none 0 0, .slice none 0 0]
  have n3 := Blk.new w2 27 #[.int .u8 1, .int .i64 0, .string ⟨#[]⟩, .slice none 0 0, .slice none 0 0]
  have z0 := n2.cell 0
  have z1 := n2.cell 1
  have z2 := n2.cell 2
  have z3 := n2.cell 3
  have z4 := n2.cell 4
  have y0 := n2.frozen 0
  have y1 := n2.frozen 1
  have y2 := n2.frozen 2
  have y3 := n2.frozen 3
  have y4 := n2.frozen 4
  have p0 := n3.cell 0
  have HB2 := hide hb2
  have F2 := hide f2
  have R2 := hide hr2
  have Hf2 := hide hf2
  clear hb2 f2 hr2 hf2 n2 n3 Hu
  go_upto_region 4 with fail
  obtain ⟨wv, hwv⟩ : ∃ wv, w2.alloc (.cells #[.int .u8 1, .int .i64 0, .string ⟨#[]⟩, .slice none 0 0, .slice none 0 0] 27) = wv := ⟨_, rfl⟩
  have Bv : Blk wv w2.heap.size 27 #[.int .u8 1, .int .i64 0, .string ⟨#[]⟩, .slice none 0 0, .slice none 0 0] := by rw [← hwv]; exact Blk.new _ _ _
  have Bz : Blk wv w.heap.size 27 #[.int .u8 0, .int .i64 0, .string ⟨#[]⟩, .slice none 0 0, .slice none 0 0] := by rw [← hwv]; exact HB2.out.alloc _
  have FrW : Fr (fun k => k = rb) w wv := by rw [← hwv]; exact F2.out.alloc _
  have RW : Rd wv rb l1 false := by rw [← hwv]; exact R2.out.fr (F := fun _ => False) ((Fr.refl _ _).alloc _) (fun _ h => h.elim)
  try rw [hwv]
  rw [hwv] at p0
  have hvz : w.heap.size < w2.heap.size := HB2.out.lt
  obtain ⟨vb, hvb⟩ : ∃ vb, w2.heap.size = vb := ⟨_, rfl⟩
  rw [hvb] at Bv p0 hvz ⊢
  have Hvz := hide hvz
  have hvr : vb ≠ rb := RW.ne Bv
  clear z0 z1 z2 z3 z4 y0 y1 y2 y3 y4 hwv hvb za ba hvz HB2 F2 R2 Hf2 Hb0 F0
  have Hi := hide (rint_all rb l1 false wv RW)
  go_wp2_with fail
  refine Hi.out.mono ?_
  clear Hi
  cases hz : rdUint u64max l1 with
  | none =>
    rintro e w5 ⟨rfl, R5, hf5⟩
    have hz' : rdUint 18446744073709551615 l1 = none := hz
    try rw [hz'] at R5 ⊢
    simp only [Option.map_none, Option.getD_none, Option.isNone_none] at R5 ⊢
    have Hz := hide hz
    clear hz hz'
    have Bv5 := Bv.fr hf5 hvr
    have Bz5 := Bz.fr hf5 Hne0.out
    have F5a := FrW.trans' hf5 (fun _ _ h => h)
    have yv := Bv5.frozen 1
    have xv := Bv5.cell 1
    have BV := hide Bv5
    have BZ := hide Bz5
    have FW := hide F5a
    have R5h := hide R5
    clear Bv5 Bz5 F5a R5 hf5 Bv Bz FrW RW p0
    go_upto_region 19 with fail
    obtain ⟨W5, hW5⟩ : ∃ W5, w5.setCell ⟨vb, 1, none⟩ (.int .i64 0) = W5 := ⟨_, rfl⟩
    have Bv := BV.out.set_ 1 (.int .i64 0)
    have Bz := BZ.out.far (p := ⟨vb, 1, none⟩) (by have := Hvz.out; show w.heap.size ≠ vb; omega) (.int .i64 0)
    have FrW := FW.out.setCell (p := ⟨vb, 1, none⟩) (.inr (by have := Hvz.out; show w.heap.size ≤ vb; omega)) (.int .i64 0)
    have RW := R5h.out.setV BV.out 1 (.int .i64 0)
    rw [hW5] at Bv Bz FrW RW
    try rw [hW5]
    clear hW5 BV BZ FW R5h xv yv
    have v0 := Bv.cell 0
    have z0 := Bz.cell 0
    have y0 := Bz.frozen 0
    have v1 := Bv.cell 1
    have z1 := Bz.cell 1
    have y1 := Bz.frozen 1
    have v2 := Bv.cell 2
    have z2 := Bz.cell 2
    have y2 := Bz.frozen 2
    have v3 := Bv.cell 3
    have z3 := Bz.cell 3
    have y3 := Bz.frozen 3
    have v4 := Bv.cell 4
    have z4 := Bz.cell 4
    have y4 := Bz.frozen 4
    have q1 := Bz.set_ 0 (.int .u8 1)
    have q2 := q1.set_ 1 (.int .i64 0)
    have q3 := q2.set_ 2 (.string ⟨#[]⟩)
    have q4 := q3.set_ 3 (.slice none 0 0)
    have q5 := q4.set_ 4 (.slice none 0 0)
    have R1 := RW.setV Bz 0 (.int .u8 1)
    have R2 := R1.setV q1 1 (.int .i64 0)
    have R3 := R2.setV q2 2 (.string ⟨#[]⟩)
    have R4 := R3.setV q3 3 (.slice none 0 0)
    have R5 := R4.setV q4 4 (.slice none 0 0)
    have F5 : Fr (fun k => k = rb) w (((((W5.setCell ⟨w.heap.size, 0, none⟩ (.int .u8 1)).setCell ⟨w.heap.size, 1, none⟩ (.int .i64 0)).setCell ⟨w.heap.size, 2, none⟩ (.string ⟨#[]⟩)).setCell ⟨w.heap.size, 3, none⟩ (.slice none 0 0)).setCell ⟨w.heap.size, 4, none⟩ (.slice none 0 0)) := ((((FrW.setCell (p := ⟨w.heap.size, 0, none⟩) (.inr (Nat.le_refl _)) _).setCell (p := ⟨w.heap.size, 1, none⟩) (.inr (Nat.le_refl _)) _).setCell (p := ⟨w.heap.size, 2, none⟩) (.inr (Nat.le_refl _)) _).setCell (p := ⟨w.heap.size, 3, none⟩) (.inr (Nat.le_refl _)) _).setCell (p := ⟨w.heap.size, 4, none⟩) (.inr (Nat.le_refl _)) _
    have r0 : (((((W5.setCell ⟨w.heap.size, 0, none⟩ (.int .u8 1)).setCell ⟨w.heap.size, 1, none⟩ (.int .i64 0)).setCell ⟨w.heap.size, 2, none⟩ (.string ⟨#[]⟩)).setCell ⟨w.heap.size, 3, none⟩ (.slice none 0 0)).setCell ⟨w.heap.size, 4, none⟩ (.slice none 0 0)).cell? ⟨w.heap.size, 0, none⟩ = some (.int .u8 1) := q5.cell 0
    have r1 : (((((W5.setCell ⟨w.heap.size, 0, none⟩ (.int .u8 1)).setCell ⟨w.heap.size, 1, none⟩ (.int .i64 0)).setCell ⟨w.heap.size, 2, none⟩ (.string ⟨#[]⟩)).setCell ⟨w.heap.size, 3, none⟩ (.slice none 0 0)).setCell ⟨w.heap.size, 4, none⟩ (.slice none 0 0)).cell? ⟨w.heap.size, 1, none⟩ = some (.int .i64 0) := q5.cell 1
    have r2 : (((((W5.setCell ⟨w.heap.size, 0, none⟩ (.int .u8 1)).setCell ⟨w.heap.size, 1, none⟩ (.int .i64 0)).setCell ⟨w.heap.size, 2, none⟩ (.string ⟨#[]⟩)).setCell ⟨w.heap.size, 3, none⟩ (.slice none 0 0)).setCell ⟨w.heap.size, 4, none⟩ (.slice none 0 0)).cell? ⟨w.heap.size, 2, none⟩ = some (.string ⟨#[]⟩) := q5.cell 2
    have r3 : (((((W5.setCell ⟨w.heap.size, 0, none⟩ (.int .u8 1)).setCell ⟨w.heap.size, 1, none⟩ (.int .i64 0)).setCell ⟨w.heap.size, 2, none⟩ (.string ⟨#[]⟩)).setCell ⟨w.heap.size, 3, none⟩ (.slice none 0 0)).setCell ⟨w.heap.size, 4, none⟩ (.slice none 0 0)).cell? ⟨w.heap.size, 3, none⟩ = some (.slice none 0 0) := q5.cell 3
    have r4 : (((((W5.setCell ⟨w.heap.size, 0, none⟩ (.int .u8 1)).setCell ⟨w.heap.size, 1, none⟩ (.int .i64 0)).setCell ⟨w.heap.size, 2, none⟩ (.string ⟨#[]⟩)).setCell ⟨w.heap.size, 3, none⟩ (.slice none 0 0)).setCell ⟨w.heap.size, 4, none⟩ (.slice none 0 0)).cell? ⟨w.heap.size, 4, none⟩ = some (.slice none 0 0) := q5.cell 4
    have Hr := hide (show _ ∧ _ ∧ _ ∧ _ ∧ _ from ⟨r0, r1, r2, r3, r4⟩)
    have H5 := hide F5
    have HR := hide R5
    have HRW := hide RW
    clear q1 q2 q3 q4 q5 R1 R2 R3 R4 R5 F5 r0 r1 r2 r3 r4 Bv Bz FrW RW
    go_wp2
    obtain ⟨r0, r1, r2, r3, r4⟩ := Hr.out
    refine bodyPost_ret (v := .agg #[.int .u8 1, .int .i64 0, .string ⟨#[]⟩, .slice none 0 0, .slice none 0 0]) (by simp [results, Try.results30, go_sem, r0, r1, r2, r3, r4, Result.andThen]) rfl ⟨_, _, _, _, _, rfl, ?_, H5.out, ?_⟩
    · intro u hu
      simp only [List.mem_cons, List.not_mem_nil, or_false] at hu
      rcases hu with rfl | rfl | rfl | rfl | rfl <;> rfl
    · exact .inr ⟨by rw [rdV, Hk.out]; simp only []; rw [if_neg (by decide), if_pos trivial, Hz.out]; rfl, HR.out⟩
  | some p =>
    obtain ⟨z, l2⟩ := p
    rintro e w5 ⟨rfl, R5, hf5⟩
    have hz' : rdUint 18446744073709551615 l1 = some (z, l2) := hz
    have hzl : z ≤ u64max := rdUint_le hz
    try rw [hz'] at R5 ⊢
    simp only [Option.map_some, Option.getD_some, Option.isNone_some] at R5 ⊢
    have Hz := hide hz
    have Hzr := hide (unzig_range z hzl)
    obtain ⟨n, hn⟩ : ∃ n, unzig z = n := ⟨_, rfl⟩
    rw [hn] at Hzr ⊢
    have Hn := hide hn
    clear hz hz' hzl hn
    have Bv5 := Bv.fr hf5 hvr
    have Bz5 := Bz.fr hf5 Hne0.out
    have F5a := FrW.trans' hf5 (fun _ _ h => h)
    have yv := Bv5.frozen 1
    have xv := Bv5.cell 1
    have BV := hide Bv5
    have BZ := hide Bz5
    have FW := hide F5a
    have R5h := hide R5
    clear Bv5 Bz5 F5a R5 hf5 Bv Bz FrW RW p0
    go_upto_region 19 with fail
    obtain ⟨W5, hW5⟩ : ∃ W5, w5.setCell ⟨vb, 1, none⟩ (.int .i64 n) = W5 := ⟨_, rfl⟩
    have Bv := BV.out.set_ 1 (.int .i64 n)
    have Bz := BZ.out.far (p := ⟨vb, 1, none⟩) (by have := Hvz.out; show w.heap.size ≠ vb; omega) (.int .i64 n)
    have FrW := FW.out.setCell (p := ⟨vb, 1, none⟩) (.inr (by have := Hvz.out; show w.heap.size ≤ vb; omega)) (.int .i64 n)
    have RW := R5h.out.setV BV.out 1 (.int .i64 n)
    rw [hW5] at Bv Bz FrW RW
    try rw [hW5]
    clear hW5 BV BZ FW R5h xv yv
    have v0 := Bv.cell 0
    have z0 := Bz.cell 0
    have y0 := Bz.frozen 0
    have v1 := Bv.cell 1
    have z1 := Bz.cell 1
    have y1 := Bz.frozen 1
    have v2 := Bv.cell 2
    have z2 := Bz.cell 2
    have y2 := Bz.frozen 2
    have v3 := Bv.cell 3
    have z3 := Bz.cell 3
    have y3 := Bz.frozen 3
    have v4 := Bv.cell 4
    have z4 := Bz.cell 4
    have y4 := Bz.frozen 4
    have q1 := Bz.set_ 0 (.int .u8 1)
    have q2 := q1.set_ 1 (.int .i64 n)
    have q3 := q2.set_ 2 (.string ⟨#[]⟩)
    have q4 := q3.set_ 3 (.slice none 0 0)
    have q5 := q4.set_ 4 (.slice none 0 0)
    have R1 := RW.setV Bz 0 (.int .u8 1)
    have R2 := R1.setV q1 1 (.int .i64 n)
    have R3 := R2.setV q2 2 (.string ⟨#[]⟩)
    have R4 := R3.setV q3 3 (.slice none 0 0)
    have R5 := R4.setV q4 4 (.slice none 0 0)
    have F5 : Fr (fun k => k = rb) w (((((W5.setCell ⟨w.heap.size, 0, none⟩ (.int .u8 1)).setCell ⟨w.heap.size, 1, none⟩ (.int .i64 n)).setCell ⟨w.heap.size, 2, none⟩ (.string ⟨#[]⟩)).setCell ⟨w.heap.size, 3, none⟩ (.slice none 0 0)).setCell ⟨w.heap.size, 4, none⟩ (.slice none 0 0)) := ((((FrW.setCell (p := ⟨w.heap.size, 0, none⟩) (.inr (Nat.le_refl _)) _).setCell (p := ⟨w.heap.size, 1, none⟩) (.inr (Nat.le_refl _)) _).setCell (p := ⟨w.heap.size, 2, none⟩) (.inr (Nat.le_refl _)) _).setCell (p := ⟨w.heap.size, 3, none⟩) (.inr (Nat.le_refl _)) _).setCell (p := ⟨w.heap.size, 4, none⟩) (.inr (Nat.le_refl _)) _
    have r0 : (((((W5.setCell ⟨w.heap.size, 0, none⟩ (.int .u8 1)).setCell ⟨w.heap.size, 1, none⟩ (.int .i64 n)).setCell ⟨w.heap.size, 2, none⟩ (.string ⟨#[]⟩)).setCell ⟨w.heap.size, 3, none⟩ (.slice none 0 0)).setCell ⟨w.heap.size, 4, none⟩ (.slice none 0 0)).cell? ⟨w.heap.size, 0, none⟩ = some (.int .u8 1) := q5.cell 0
    have r1 : (((((W5.setCell ⟨w.heap.size, 0, none⟩ (.int .u8 1)).setCell ⟨w.heap.size, 1, none⟩ (.int .i64 n)).setCell ⟨w.heap.size, 2, none⟩ (.string ⟨#[]⟩)).setCell ⟨w.heap.size, 3, none⟩ (.slice none 0 0)).setCell ⟨w.heap.size, 4, none⟩ (.slice none 0 0)).cell? ⟨w.heap.size, 1, none⟩ = some (.int .i64 n) := q5.cell 1
    have r2 : (((((W5.setCell ⟨w.heap.size, 0, none⟩ (.int .u8 1)).setCell ⟨w.heap.size, 1, none⟩ (.int .i64 n)).setCell ⟨w.heap.size, 2, none⟩ (.string ⟨#[]⟩)).setCell ⟨w.heap.size, 3, none⟩ (.slice none 0 0)).setCell ⟨w.heap.size, 4, none⟩ (.slice none 0 0)).cell? ⟨w.heap.size, 2, none⟩ = some (.string ⟨#[]⟩) := q5.cell 2
    have r3 : (((((W5.setCell ⟨w.heap.size, 0, none⟩ (.int .u8 1)).setCell ⟨w.heap.size, 1, none⟩ (.int .i64 n)).setCell ⟨w.heap.size, 2, none⟩ (.string ⟨#[]⟩)).setCell ⟨w.heap.size, 3, none⟩ (.slice none 0 0)).setCell ⟨w.heap.size, 4, none⟩ (.slice none 0 0)).cell? ⟨w.heap.size, 3, none⟩ = some (.slice none 0 0) := q5.cell 3
    have r4 : (((((W5.setCell ⟨w.heap.size, 0, none⟩ (.int .u8 1)).setCell ⟨w.heap.size, 1, none⟩ (.int .i64 n)).setCell ⟨w.heap.size, 2, none⟩ (.string ⟨#[]⟩)).setCell ⟨w.heap.size, 3, none⟩ (.slice none 0 0)).setCell ⟨w.heap.size, 4, none⟩ (.slice none 0 0)).cell? ⟨w.heap.size, 4, none⟩ = some (.slice none 0 0) := q5.cell 4
    have Hr := hide (show _ ∧ _ ∧ _ ∧ _ ∧ _ from ⟨r0, r1, r2, r3, r4⟩)
    have H5 := hide F5
    have HR := hide R5
    have HRW := hide RW
    clear q1 q2 q3 q4 q5 R1 R2 R3 R4 R5 F5 r0 r1 r2 r3 r4 Bv Bz FrW RW
    go_wp2
    obtain ⟨r0, r1, r2, r3, r4⟩ := Hr.out
    refine bodyPost_ret (v := .agg #[.int .u8 1, .int .i64 n, .string ⟨#[]⟩, .slice none 0 0, .slice none 0 0]) (by simp [results, Try.results30, go_sem, r0, r1, r2, r3, r4, Result.andThen]) rfl ⟨_, _, _, _, _, rfl, ?_, H5.out, ?_⟩
    · intro u hu
      simp only [List.mem_cons, List.not_mem_nil, or_false] at hu
      rcases hu with rfl | rfl | rfl | rfl | rfl <;> rfl
    · exact .inl ⟨_, _, by rw [rdV, Hk.out]; simp only []; rw [if_neg (by decide), if_pos trivial, Hz.out]; rfl, by rw [Hn.out]; exact scalar_vc _ _ 1 n [] (by omega) Hzr.out (by simp), HR.out⟩
end Go.Proofs.Yteoimkjocijcjaa

/- Package wire: Reader.value, one kind of value. -/
namespace Go.Proofs.Yteoimkjocijcjaa
open Go.RowKit

set_option maxRecDepth 100000 in
set_option maxHeartbeats 4000000 in
theorem rdv_k2 (d op : Nat) (rb : Nat) (l l1 : List UInt8) (bad : Bool) (w : World) (h : Rd w rb l bad) (hd : op + (d + 1) = 24) (hk : rdUint 8 l = some (2, l1)) :
    Calls Try.prog 30 #[.pointer (some ⟨rb, 0, none⟩), .int .i64 (op : Int)] w (RVPost rb (d + 1) l w) := by
  have za := zeroV
  have ba := buildV
  have hop : op < 24 := by omega
  have h0 : Rd (w.alloc (.cells #[.int .u8 0, .int .i64 0, .string ⟨#[]⟩, .slice none 0 0, .slice none 0 0] 27)) rb l bad := h.fr (F := fun _ => False) ((Fr.refl _ _).alloc _) (fun _ h => h.elim)
  have hb0 := Blk.new w 27 #[.int .u8 0, .int .i64 0, .string ⟨#[]⟩, .slice none 0 0, .slice none 0 0]
  obtain ⟨w0, hw0⟩ : ∃ w0, w.alloc (.cells #[.int .u8 0, .int .i64 0, .string ⟨#[]⟩, .slice none 0 0, .slice none 0 0] 27) = w0 := ⟨_, rfl⟩
  have f0 : Fr (fun k => k = rb) w w0 := by rw [← hw0]; exact (Fr.refl _ _).alloc _
  rw [hw0] at h0 hb0
  have hs0 : w0.heap.size = w.heap.size + 1 := by rw [← hw0]; simp
  have hne0 : w.heap.size ≠ rb := h0.ne hb0
  have hu : Calls Try.prog 29 #[.pointer (some ⟨rb, 0, none⟩), .int .u64 8] w0 (UPost rb .u64 ((rdUint 8 l).map fun x => ((x.1 : Int), x.2)) w0) := ruint_all rb l bad 8 w0 h0 (by omega)
  rw [hk] at hu
  have Hu := hide hu
  have Hb0 := hide hb0
  have F0 := hide f0
  have Hne0 := hide hne0
  have Hs0 := hide hs0
  have Hk := hide hk
  have Hh := hide h
  clear hu hb0 f0 hne0 hs0 h0 hk h hd
  go_enter Try.func30, Try.ntmps30
  go_wp2_with fail
  refine Hu.out.mono ?_
  rintro e w2 ⟨rfl, hr2, hf2⟩
  simp only [Option.map_some, Option.getD_some, Option.isNone_some] at hr2 ⊢
  rw [show (((2 : Nat)) : Int) = 2 from rfl]
  have hb2 := Hb0.out.fr hf2 Hne0.out
  have f2 := F0.out.trans' hf2 (fun _ _ h => h)
  have n2 := Blk.new w2 27 #[.int .u8 0, .int .i64 0, .string ⟨#[]⟩, .slice none 0 0, .slice none 0 0]
  have n3 := Blk.new w2 27 #[.int .u8 2, .int .i64 0, .string ⟨#[]⟩, .slice none 0 0, .slice none 0 0]
  have z0 := n2.cell 0
  have z1 := n2.cell 1
  have z2 := n2.cell 2
  have z3 := n2.cell 3
  have z4 := n2.cell 4
  have y0 := n2.frozen 0
  have y1 := n2.frozen 1
  have y2 := n2.frozen 2
  have y3 := n2.frozen 3
  have y4 := n2.frozen 4
  have p0 := n3.cell 0
  have HB2 := hide hb2
  have F2 := hide f2
  have R2 := hide hr2
  have Hf2 := hide hf2
  clear hb2 f2 hr2 hf2 n2 n3 Hu
  go_upto_region 4 with fail
  obtain ⟨wv, hwv⟩ : ∃ wv, w2.alloc (.cells #[.int .u8 2, .int .i64 0, .string ⟨#[]⟩, .slice none 0 0, .slice none 0 0] 27) = wv := ⟨_, rfl⟩
  have Bv : Blk wv w2.heap.size 27 #[.int .u8 2, .int .i64 0, .string ⟨#[]⟩, .slice none 0 0, .slice none 0 0] := by rw [← hwv]; exact Blk.new _ _ _
  have Bz : Blk wv w.heap.size 27 #[.int .u8 0, .int .i64 0, .string ⟨#[]⟩, .slice none 0 0, .slice none 0 0] := by rw [← hwv]; exact HB2.out.alloc _
  have FrW : Fr (fun k => k = rb) w wv := by rw [← hwv]; exact F2.out.alloc _
  have RW : Rd wv rb l1 false := by rw [← hwv]; exact R2.out.fr (F := fun _ => False) ((Fr.refl _ _).alloc _) (fun _ h => h.elim)
  try rw [hwv]
  rw [hwv] at p0
  have hvz : w.heap.size < w2.heap.size := HB2.out.lt
  obtain ⟨vb, hvb⟩ : ∃ vb, w2.heap.size = vb := ⟨_, rfl⟩
  rw [hvb] at Bv p0 hvz ⊢
  have Hvz := hide hvz
  have hvr : vb ≠ rb := RW.ne Bv
  clear z0 z1 z2 z3 z4 y0 y1 y2 y3 y4 hwv hvb za ba hvz HB2 F2 R2 Hf2 Hb0 F0
  have Ht := hide (rtext_all rb l1 false 200 wv RW (by omega))
  go_wp2_with fail
  refine Ht.out.mono ?_
  clear Ht
  cases hz : rdText 200 l1 with
  | none =>
    rintro e w5 ⟨rfl, R5, hf5⟩
    have hz' : rdText (200 : Int).toNat l1 = none := hz
    try rw [hz'] at R5 ⊢
    simp only [Option.map_none, Option.getD_none, Option.isNone_none] at R5 ⊢
    have Hz := hide hz
    clear hz hz'
    have Bv5 := Bv.fr hf5 hvr
    have Bz5 := Bz.fr hf5 Hne0.out
    have F5a := FrW.trans' hf5 (fun _ _ h => h)
    have yv := Bv5.frozen 2
    have xv := Bv5.cell 2
    have BV := hide Bv5
    have BZ := hide Bz5
    have FW := hide F5a
    have R5h := hide R5
    clear Bv5 Bz5 F5a R5 hf5 Bv Bz FrW RW p0
    go_upto_region 19 with fail
    obtain ⟨W5, hW5⟩ : ∃ W5, w5.setCell ⟨vb, 2, none⟩ (sv []) = W5 := ⟨_, rfl⟩
    have Bv := BV.out.set_ 2 (sv [])
    have Bz := BZ.out.far (p := ⟨vb, 2, none⟩) (by have := Hvz.out; show w.heap.size ≠ vb; omega) (sv [])
    have FrW := FW.out.setCell (p := ⟨vb, 2, none⟩) (.inr (by have := Hvz.out; show w.heap.size ≤ vb; omega)) (sv [])
    have RW := R5h.out.setV BV.out 2 (sv [])
    rw [hW5] at Bv Bz FrW RW
    try rw [hW5]
    clear hW5 BV BZ FW R5h xv yv
    have v0 := Bv.cell 0
    have z0 := Bz.cell 0
    have y0 := Bz.frozen 0
    have v1 := Bv.cell 1
    have z1 := Bz.cell 1
    have y1 := Bz.frozen 1
    have v2 := Bv.cell 2
    have z2 := Bz.cell 2
    have y2 := Bz.frozen 2
    have v3 := Bv.cell 3
    have z3 := Bz.cell 3
    have y3 := Bz.frozen 3
    have v4 := Bv.cell 4
    have z4 := Bz.cell 4
    have y4 := Bz.frozen 4
    have q1 := Bz.set_ 0 (.int .u8 2)
    have q2 := q1.set_ 1 (.int .i64 0)
    have q3 := q2.set_ 2 (sv [])
    have q4 := q3.set_ 3 (.slice none 0 0)
    have q5 := q4.set_ 4 (.slice none 0 0)
    have R1 := RW.setV Bz 0 (.int .u8 2)
    have R2 := R1.setV q1 1 (.int .i64 0)
    have R3 := R2.setV q2 2 (sv [])
    have R4 := R3.setV q3 3 (.slice none 0 0)
    have R5 := R4.setV q4 4 (.slice none 0 0)
    have F5 : Fr (fun k => k = rb) w (((((W5.setCell ⟨w.heap.size, 0, none⟩ (.int .u8 2)).setCell ⟨w.heap.size, 1, none⟩ (.int .i64 0)).setCell ⟨w.heap.size, 2, none⟩ (sv [])).setCell ⟨w.heap.size, 3, none⟩ (.slice none 0 0)).setCell ⟨w.heap.size, 4, none⟩ (.slice none 0 0)) := ((((FrW.setCell (p := ⟨w.heap.size, 0, none⟩) (.inr (Nat.le_refl _)) _).setCell (p := ⟨w.heap.size, 1, none⟩) (.inr (Nat.le_refl _)) _).setCell (p := ⟨w.heap.size, 2, none⟩) (.inr (Nat.le_refl _)) _).setCell (p := ⟨w.heap.size, 3, none⟩) (.inr (Nat.le_refl _)) _).setCell (p := ⟨w.heap.size, 4, none⟩) (.inr (Nat.le_refl _)) _
    have r0 : (((((W5.setCell ⟨w.heap.size, 0, none⟩ (.int .u8 2)).setCell ⟨w.heap.size, 1, none⟩ (.int .i64 0)).setCell ⟨w.heap.size, 2, none⟩ (sv [])).setCell ⟨w.heap.size, 3, none⟩ (.slice none 0 0)).setCell ⟨w.heap.size, 4, none⟩ (.slice none 0 0)).cell? ⟨w.heap.size, 0, none⟩ = some (.int .u8 2) := q5.cell 0
    have r1 : (((((W5.setCell ⟨w.heap.size, 0, none⟩ (.int .u8 2)).setCell ⟨w.heap.size, 1, none⟩ (.int .i64 0)).setCell ⟨w.heap.size, 2, none⟩ (sv [])).setCell ⟨w.heap.size, 3, none⟩ (.slice none 0 0)).setCell ⟨w.heap.size, 4, none⟩ (.slice none 0 0)).cell? ⟨w.heap.size, 1, none⟩ = some (.int .i64 0) := q5.cell 1
    have r2 : (((((W5.setCell ⟨w.heap.size, 0, none⟩ (.int .u8 2)).setCell ⟨w.heap.size, 1, none⟩ (.int .i64 0)).setCell ⟨w.heap.size, 2, none⟩ (sv [])).setCell ⟨w.heap.size, 3, none⟩ (.slice none 0 0)).setCell ⟨w.heap.size, 4, none⟩ (.slice none 0 0)).cell? ⟨w.heap.size, 2, none⟩ = some (sv []) := q5.cell 2
    have r3 : (((((W5.setCell ⟨w.heap.size, 0, none⟩ (.int .u8 2)).setCell ⟨w.heap.size, 1, none⟩ (.int .i64 0)).setCell ⟨w.heap.size, 2, none⟩ (sv [])).setCell ⟨w.heap.size, 3, none⟩ (.slice none 0 0)).setCell ⟨w.heap.size, 4, none⟩ (.slice none 0 0)).cell? ⟨w.heap.size, 3, none⟩ = some (.slice none 0 0) := q5.cell 3
    have r4 : (((((W5.setCell ⟨w.heap.size, 0, none⟩ (.int .u8 2)).setCell ⟨w.heap.size, 1, none⟩ (.int .i64 0)).setCell ⟨w.heap.size, 2, none⟩ (sv [])).setCell ⟨w.heap.size, 3, none⟩ (.slice none 0 0)).setCell ⟨w.heap.size, 4, none⟩ (.slice none 0 0)).cell? ⟨w.heap.size, 4, none⟩ = some (.slice none 0 0) := q5.cell 4
    have Hr := hide (show _ ∧ _ ∧ _ ∧ _ ∧ _ from ⟨r0, r1, r2, r3, r4⟩)
    have H5 := hide F5
    have HR := hide R5
    have HRW := hide RW
    clear q1 q2 q3 q4 q5 R1 R2 R3 R4 R5 F5 r0 r1 r2 r3 r4 Bv Bz FrW RW
    go_wp2
    obtain ⟨r0, r1, r2, r3, r4⟩ := Hr.out
    refine bodyPost_ret (v := .agg #[.int .u8 2, .int .i64 0, sv [], .slice none 0 0, .slice none 0 0]) (by simp [results, Try.results30, go_sem, r0, r1, r2, r3, r4, Result.andThen]) rfl ⟨_, _, _, _, _, rfl, ?_, H5.out, ?_⟩
    · intro u hu
      simp only [List.mem_cons, List.not_mem_nil, or_false] at hu
      rcases hu with rfl | rfl | rfl | rfl | rfl <;> rfl
    · exact .inr ⟨by rw [rdV, Hk.out]; simp only []; rw [if_neg (by decide), if_neg (by decide), if_neg (by decide), if_neg (by decide), if_neg (by decide), Hz.out]; rfl, HR.out⟩
  | some p =>
    obtain ⟨s, l2⟩ := p
    rintro e w5 ⟨rfl, R5, hf5⟩
    have hz' : rdText (200 : Int).toNat l1 = some (s, l2) := hz
    have hsl : s.length ≤ 200 := rdText_le hz
    try rw [hz'] at R5 ⊢
    simp only [Option.map_some, Option.getD_some, Option.isNone_some] at R5 ⊢
    have Hz := hide hz
    have Hsl := hide hsl
    clear hz hz' hsl
    have Bv5 := Bv.fr hf5 hvr
    have Bz5 := Bz.fr hf5 Hne0.out
    have F5a := FrW.trans' hf5 (fun _ _ h => h)
    have yv := Bv5.frozen 2
    have xv := Bv5.cell 2
    have BV := hide Bv5
    have BZ := hide Bz5
    have FW := hide F5a
    have R5h := hide R5
    clear Bv5 Bz5 F5a R5 hf5 Bv Bz FrW RW p0
    go_upto_region 19 with fail
    obtain ⟨W5, hW5⟩ : ∃ W5, w5.setCell ⟨vb, 2, none⟩ (sv s) = W5 := ⟨_, rfl⟩
    have Bv := BV.out.set_ 2 (sv s)
    have Bz := BZ.out.far (p := ⟨vb, 2, none⟩) (by have := Hvz.out; show w.heap.size ≠ vb; omega) (sv s)
    have FrW := FW.out.setCell (p := ⟨vb, 2, none⟩) (.inr (by have := Hvz.out; show w.heap.size ≤ vb; omega)) (sv s)
    have RW := R5h.out.setV BV.out 2 (sv s)
    rw [hW5] at Bv Bz FrW RW
    try rw [hW5]
    clear hW5 BV BZ FW R5h xv yv
    have v0 := Bv.cell 0
    have z0 := Bz.cell 0
    have y0 := Bz.frozen 0
    have v1 := Bv.cell 1
    have z1 := Bz.cell 1
    have y1 := Bz.frozen 1
    have v2 := Bv.cell 2
    have z2 := Bz.cell 2
    have y2 := Bz.frozen 2
    have v3 := Bv.cell 3
    have z3 := Bz.cell 3
    have y3 := Bz.frozen 3
    have v4 := Bv.cell 4
    have z4 := Bz.cell 4
    have y4 := Bz.frozen 4
    have q1 := Bz.set_ 0 (.int .u8 2)
    have q2 := q1.set_ 1 (.int .i64 0)
    have q3 := q2.set_ 2 (sv s)
    have q4 := q3.set_ 3 (.slice none 0 0)
    have q5 := q4.set_ 4 (.slice none 0 0)
    have R1 := RW.setV Bz 0 (.int .u8 2)
    have R2 := R1.setV q1 1 (.int .i64 0)
    have R3 := R2.setV q2 2 (sv s)
    have R4 := R3.setV q3 3 (.slice none 0 0)
    have R5 := R4.setV q4 4 (.slice none 0 0)
    have F5 : Fr (fun k => k = rb) w (((((W5.setCell ⟨w.heap.size, 0, none⟩ (.int .u8 2)).setCell ⟨w.heap.size, 1, none⟩ (.int .i64 0)).setCell ⟨w.heap.size, 2, none⟩ (sv s)).setCell ⟨w.heap.size, 3, none⟩ (.slice none 0 0)).setCell ⟨w.heap.size, 4, none⟩ (.slice none 0 0)) := ((((FrW.setCell (p := ⟨w.heap.size, 0, none⟩) (.inr (Nat.le_refl _)) _).setCell (p := ⟨w.heap.size, 1, none⟩) (.inr (Nat.le_refl _)) _).setCell (p := ⟨w.heap.size, 2, none⟩) (.inr (Nat.le_refl _)) _).setCell (p := ⟨w.heap.size, 3, none⟩) (.inr (Nat.le_refl _)) _).setCell (p := ⟨w.heap.size, 4, none⟩) (.inr (Nat.le_refl _)) _
    have r0 : (((((W5.setCell ⟨w.heap.size, 0, none⟩ (.int .u8 2)).setCell ⟨w.heap.size, 1, none⟩ (.int .i64 0)).setCell ⟨w.heap.size, 2, none⟩ (sv s)).setCell ⟨w.heap.size, 3, none⟩ (.slice none 0 0)).setCell ⟨w.heap.size, 4, none⟩ (.slice none 0 0)).cell? ⟨w.heap.size, 0, none⟩ = some (.int .u8 2) := q5.cell 0
    have r1 : (((((W5.setCell ⟨w.heap.size, 0, none⟩ (.int .u8 2)).setCell ⟨w.heap.size, 1, none⟩ (.int .i64 0)).setCell ⟨w.heap.size, 2, none⟩ (sv s)).setCell ⟨w.heap.size, 3, none⟩ (.slice none 0 0)).setCell ⟨w.heap.size, 4, none⟩ (.slice none 0 0)).cell? ⟨w.heap.size, 1, none⟩ = some (.int .i64 0) := q5.cell 1
    have r2 : (((((W5.setCell ⟨w.heap.size, 0, none⟩ (.int .u8 2)).setCell ⟨w.heap.size, 1, none⟩ (.int .i64 0)).setCell ⟨w.heap.size, 2, none⟩ (sv s)).setCell ⟨w.heap.size, 3, none⟩ (.slice none 0 0)).setCell ⟨w.heap.size, 4, none⟩ (.slice none 0 0)).cell? ⟨w.heap.size, 2, none⟩ = some (sv s) := q5.cell 2
    have r3 : (((((W5.setCell ⟨w.heap.size, 0, none⟩ (.int .u8 2)).setCell ⟨w.heap.size, 1, none⟩ (.int .i64 0)).setCell ⟨w.heap.size, 2, none⟩ (sv s)).setCell ⟨w.heap.size, 3, none⟩ (.slice none 0 0)).setCell ⟨w.heap.size, 4, none⟩ (.slice none 0 0)).cell? ⟨w.heap.size, 3, none⟩ = some (.slice none 0 0) := q5.cell 3
    have r4 : (((((W5.setCell ⟨w.heap.size, 0, none⟩ (.int .u8 2)).setCell ⟨w.heap.size, 1, none⟩ (.int .i64 0)).setCell ⟨w.heap.size, 2, none⟩ (sv s)).setCell ⟨w.heap.size, 3, none⟩ (.slice none 0 0)).setCell ⟨w.heap.size, 4, none⟩ (.slice none 0 0)).cell? ⟨w.heap.size, 4, none⟩ = some (.slice none 0 0) := q5.cell 4
    have Hr := hide (show _ ∧ _ ∧ _ ∧ _ ∧ _ from ⟨r0, r1, r2, r3, r4⟩)
    have H5 := hide F5
    have HR := hide R5
    have HRW := hide RW
    clear q1 q2 q3 q4 q5 R1 R2 R3 R4 R5 F5 r0 r1 r2 r3 r4 Bv Bz FrW RW
    go_wp2
    obtain ⟨r0, r1, r2, r3, r4⟩ := Hr.out
    refine bodyPost_ret (v := .agg #[.int .u8 2, .int .i64 0, sv s, .slice none 0 0, .slice none 0 0]) (by simp [results, Try.results30, go_sem, r0, r1, r2, r3, r4, Result.andThen]) rfl ⟨_, _, _, _, _, rfl, ?_, H5.out, ?_⟩
    · intro u hu
      simp only [List.mem_cons, List.not_mem_nil, or_false] at hu
      rcases hu with rfl | rfl | rfl | rfl | rfl <;> rfl
    · exact .inl ⟨_, _, by rw [rdV, Hk.out]; simp only []; rw [if_neg (by decide), if_neg (by decide), if_neg (by decide), if_neg (by decide), if_neg (by decide), Hz.out]; rfl, scalar_vc _ _ 2 0 s (by omega) (by omega) Hsl.out, HR.out⟩
end Go.Proofs.Yteoimkjocijcjaa

/- Package wire: Reader.value, one kind of value. -/
namespace Go.Proofs.Yteoimkjocijcjaa
open Go.RowKit

set_option maxRecDepth 100000 in
set_option maxHeartbeats 4000000 in
theorem rdv_k3 (d op : Nat) (rb : Nat) (l l1 : List UInt8) (bad : Bool) (w : World) (h : Rd w rb l bad) (hd : op + (d + 1) = 24) (hk : rdUint 8 l = some (3, l1)) :
    Calls Try.prog 30 #[.pointer (some ⟨rb, 0, none⟩), .int .i64 (op : Int)] w (RVPost rb (d + 1) l w) := by
  have za := zeroV
  have ba := buildV
  have hop : op < 24 := by omega
  have h0 : Rd (w.alloc (.cells #[.int .u8 0, .int .i64 0, .string ⟨#[]⟩, .slice none 0 0, .slice none 0 0] 27)) rb l bad := h.fr (F := fun _ => False) ((Fr.refl _ _).alloc _) (fun _ h => h.elim)
  have hb0 := Blk.new w 27 #[.int .u8 0, .int .i64 0, .string ⟨#[]⟩, .slice none 0 0, .slice none 0 0]
  obtain ⟨w0, hw0⟩ : ∃ w0, w.alloc (.cells #[.int .u8 0, .int .i64 0, .string ⟨#[]⟩, .slice none 0 0, .slice none 0 0] 27) = w0 := ⟨_, rfl⟩
  have f0 : Fr (fun k => k = rb) w w0 := by rw [← hw0]; exact (Fr.refl _ _).alloc _
  rw [hw0] at h0 hb0
  have hs0 : w0.heap.size = w.heap.size + 1 := by rw [← hw0]; simp
  have hne0 : w.heap.size ≠ rb := h0.ne hb0
  have hu : Calls Try.prog 29 #[.pointer (some ⟨rb, 0, none⟩), .int .u64 8] w0 (UPost rb .u64 ((rdUint 8 l).map fun x => ((x.1 : Int), x.2)) w0) := ruint_all rb l bad 8 w0 h0 (by omega)
  rw [hk] at hu
  have Hu := hide hu
  have Hb0 := hide hb0
  have F0 := hide f0
  have Hne0 := hide hne0
  have Hs0 := hide hs0
  have Hk := hide hk
  have Hh := hide h
  clear hu hb0 f0 hne0 hs0 h0 hk h hd
  go_enter Try.func30, Try.ntmps30
  go_wp2_with fail
  refine Hu.out.mono ?_
  rintro e w2 ⟨rfl, hr2, hf2⟩
  simp only [Option.map_some, Option.getD_some, Option.isNone_some] at hr2 ⊢
  rw [show (((3 : Nat)) : Int) = 3 from rfl]
  have hb2 := Hb0.out.fr hf2 Hne0.out
  have f2 := F0.out.trans' hf2 (fun _ _ h => h)
  have n2 := Blk.new w2 27 #[.int .u8 0, .int .i64 0, .string ⟨#[]⟩, .slice none 0 0, .slice none 0 0]
  have n3 := Blk.new w2 27 #[.int .u8 3, .int .i64 0, .string ⟨#[]⟩, .slice none 0 0, .slice none 0 0]
  have z0 := n2.cell 0
  have z1 := n2.cell 1
  have z2 := n2.cell 2
  have z3 := n2.cell 3
  have z4 := n2.cell 4
  have y0 := n2.frozen 0
  have y1 := n2.frozen 1
  have y2 := n2.frozen 2
  have y3 := n2.frozen 3
  have y4 := n2.frozen 4
  have p0 := n3.cell 0
  have HB2 := hide hb2
  have F2 := hide f2
  have R2 := hide hr2
  have Hf2 := hide hf2
  clear hb2 f2 hr2 hf2 n2 n3 Hu
  go_upto_region 4 with fail
  obtain ⟨wv, hwv⟩ : ∃ wv, w2.alloc (.cells #[.int .u8 3, .int .i64 0, .string ⟨#[]⟩, .slice none 0 0, .slice none 0 0] 27) = wv := ⟨_, rfl⟩
  have Bv : Blk wv w2.heap.size 27 #[.int .u8 3, .int .i64 0, .string ⟨#[]⟩, .slice none 0 0, .slice none 0 0] := by rw [← hwv]; exact Blk.new _ _ _
  have Bz : Blk wv w.heap.size 27 #[.int .u8 0, .int .i64 0, .string ⟨#[]⟩, .slice none 0 0, .slice none 0 0] := by rw [← hwv]; exact HB2.out.alloc _
  have FrW : Fr (fun k => k = rb) w wv := by rw [← hwv]; exact F2.out.alloc _
  have RW : Rd wv rb l1 false := by rw [← hwv]; exact R2.out.fr (F := fun _ => False) ((Fr.refl _ _).alloc _) (fun _ h => h.elim)
  try rw [hwv]
  rw [hwv] at p0
  have hvz : w.heap.size < w2.heap.size := HB2.out.lt
  obtain ⟨vb, hvb⟩ : ∃ vb, w2.heap.size = vb := ⟨_, rfl⟩
  rw [hvb] at Bv p0 hvz ⊢
  have Hvz := hide hvz
  have hvr : vb ≠ rb := RW.ne Bv
  clear z0 z1 z2 z3 z4 y0 y1 y2 y3 y4 hwv hvb za ba hvz HB2 F2 R2 Hf2 Hb0 F0
  have Hi := hide (rint_all rb l1 false wv RW)
  go_wp2_with fail
  refine Hi.out.mono ?_
  clear Hi
  cases hz : rdUint u64max l1 with
  | none =>
    rintro e w5 ⟨rfl, R5, hf5⟩
    have hz' : rdUint 18446744073709551615 l1 = none := hz
    try rw [hz'] at R5 ⊢
    simp only [Option.map_none, Option.getD_none, Option.isNone_none] at R5 ⊢
    have Hz := hide hz
    clear hz hz'
    have Bv5 := Bv.fr hf5 hvr
    have Bz5 := Bz.fr hf5 Hne0.out
    have F5a := FrW.trans' hf5 (fun _ _ h => h)
    have yv := Bv5.frozen 1
    have xv := Bv5.cell 1
    have BV := hide Bv5
    have BZ := hide Bz5
    have FW := hide F5a
    have R5h := hide R5
    clear Bv5 Bz5 F5a R5 hf5 Bv Bz FrW RW p0
    go_upto_region 9 with fail
    obtain ⟨W5, hW5⟩ : ∃ W5, w5.setCell ⟨vb, 1, none⟩ (.int .i64 0) = W5 := ⟨_, rfl⟩
    have Bv := BV.out.set_ 1 (.int .i64 0)
    have Bz := BZ.out.far (p := ⟨vb, 1, none⟩) (by have := Hvz.out; show w.heap.size ≠ vb; omega) (.int .i64 0)
    have FrW := FW.out.setCell (p := ⟨vb, 1, none⟩) (.inr (by have := Hvz.out; show w.heap.size ≤ vb; omega)) (.int .i64 0)
    have RW := R5h.out.setV BV.out 1 (.int .i64 0)
    rw [hW5] at Bv Bz FrW RW
    try rw [hW5]
    clear hW5 BV BZ FW R5h xv yv
    have xn := Bv.cell 1
    go_upto_region 19 with fail
    clear xn
    have v0 := Bv.cell 0
    have z0 := Bz.cell 0
    have y0 := Bz.frozen 0
    have v1 := Bv.cell 1
    have z1 := Bz.cell 1
    have y1 := Bz.frozen 1
    have v2 := Bv.cell 2
    have z2 := Bz.cell 2
    have y2 := Bz.frozen 2
    have v3 := Bv.cell 3
    have z3 := Bz.cell 3
    have y3 := Bz.frozen 3
    have v4 := Bv.cell 4
    have z4 := Bz.cell 4
    have y4 := Bz.frozen 4
    have q1 := Bz.set_ 0 (.int .u8 3)
    have q2 := q1.set_ 1 (.int .i64 0)
    have q3 := q2.set_ 2 (.string ⟨#[]⟩)
    have q4 := q3.set_ 3 (.slice none 0 0)
    have q5 := q4.set_ 4 (.slice none 0 0)
    have R1 := RW.setV Bz 0 (.int .u8 3)
    have R2 := R1.setV q1 1 (.int .i64 0)
    have R3 := R2.setV q2 2 (.string ⟨#[]⟩)
    have R4 := R3.setV q3 3 (.slice none 0 0)
    have R5 := R4.setV q4 4 (.slice none 0 0)
    have F5 : Fr (fun k => k = rb) w (((((W5.setCell ⟨w.heap.size, 0, none⟩ (.int .u8 3)).setCell ⟨w.heap.size, 1, none⟩ (.int .i64 0)).setCell ⟨w.heap.size, 2, none⟩ (.string ⟨#[]⟩)).setCell ⟨w.heap.size, 3, none⟩ (.slice none 0 0)).setCell ⟨w.heap.size, 4, none⟩ (.slice none 0 0)) := ((((FrW.setCell (p := ⟨w.heap.size, 0, none⟩) (.inr (Nat.le_refl _)) _).setCell (p := ⟨w.heap.size, 1, none⟩) (.inr (Nat.le_refl _)) _).setCell (p := ⟨w.heap.size, 2, none⟩) (.inr (Nat.le_refl _)) _).setCell (p := ⟨w.heap.size, 3, none⟩) (.inr (Nat.le_refl _)) _).setCell (p := ⟨w.heap.size, 4, none⟩) (.inr (Nat.le_refl _)) _
    have r0 : (((((W5.setCell ⟨w.heap.size, 0, none⟩ (.int .u8 3)).setCell ⟨w.heap.size, 1, none⟩ (.int .i64 0)).setCell ⟨w.heap.size, 2, none⟩ (.string ⟨#[]⟩)).setCell ⟨w.heap.size, 3, none⟩ (.slice none 0 0)).setCell ⟨w.heap.size, 4, none⟩ (.slice none 0 0)).cell? ⟨w.heap.size, 0, none⟩ = some (.int .u8 3) := q5.cell 0
    have r1 : (((((W5.setCell ⟨w.heap.size, 0, none⟩ (.int .u8 3)).setCell ⟨w.heap.size, 1, none⟩ (.int .i64 0)).setCell ⟨w.heap.size, 2, none⟩ (.string ⟨#[]⟩)).setCell ⟨w.heap.size, 3, none⟩ (.slice none 0 0)).setCell ⟨w.heap.size, 4, none⟩ (.slice none 0 0)).cell? ⟨w.heap.size, 1, none⟩ = some (.int .i64 0) := q5.cell 1
    have r2 : (((((W5.setCell ⟨w.heap.size, 0, none⟩ (.int .u8 3)).setCell ⟨w.heap.size, 1, none⟩ (.int .i64 0)).setCell ⟨w.heap.size, 2, none⟩ (.string ⟨#[]⟩)).setCell ⟨w.heap.size, 3, none⟩ (.slice none 0 0)).setCell ⟨w.heap.size, 4, none⟩ (.slice none 0 0)).cell? ⟨w.heap.size, 2, none⟩ = some (.string ⟨#[]⟩) := q5.cell 2
    have r3 : (((((W5.setCell ⟨w.heap.size, 0, none⟩ (.int .u8 3)).setCell ⟨w.heap.size, 1, none⟩ (.int .i64 0)).setCell ⟨w.heap.size, 2, none⟩ (.string ⟨#[]⟩)).setCell ⟨w.heap.size, 3, none⟩ (.slice none 0 0)).setCell ⟨w.heap.size, 4, none⟩ (.slice none 0 0)).cell? ⟨w.heap.size, 3, none⟩ = some (.slice none 0 0) := q5.cell 3
    have r4 : (((((W5.setCell ⟨w.heap.size, 0, none⟩ (.int .u8 3)).setCell ⟨w.heap.size, 1, none⟩ (.int .i64 0)).setCell ⟨w.heap.size, 2, none⟩ (.string ⟨#[]⟩)).setCell ⟨w.heap.size, 3, none⟩ (.slice none 0 0)).setCell ⟨w.heap.size, 4, none⟩ (.slice none 0 0)).cell? ⟨w.heap.size, 4, none⟩ = some (.slice none 0 0) := q5.cell 4
    have Hr := hide (show _ ∧ _ ∧ _ ∧ _ ∧ _ from ⟨r0, r1, r2, r3, r4⟩)
    have H5 := hide F5
    have HR := hide R5
    have HRW := hide RW
    clear q1 q2 q3 q4 q5 R1 R2 R3 R4 R5 F5 r0 r1 r2 r3 r4 Bv Bz FrW RW
    go_wp2
    obtain ⟨r0, r1, r2, r3, r4⟩ := Hr.out
    refine bodyPost_ret (v := .agg #[.int .u8 3, .int .i64 0, .string ⟨#[]⟩, .slice none 0 0, .slice none 0 0]) (by simp [results, Try.results30, go_sem, r0, r1, r2, r3, r4, Result.andThen]) rfl ⟨_, _, _, _, _, rfl, ?_, H5.out, ?_⟩
    · intro u hu
      simp only [List.mem_cons, List.not_mem_nil, or_false] at hu
      rcases hu with rfl | rfl | rfl | rfl | rfl <;> rfl
    · exact .inr ⟨by rw [rdV, Hk.out]; simp only []; rw [if_neg (by decide), if_neg (by decide), if_pos trivial, Hz.out]; rfl, HR.out⟩
  | some p =>
    obtain ⟨z, l2⟩ := p
    rintro e w5 ⟨rfl, R5, hf5⟩
    have hz' : rdUint 18446744073709551615 l1 = some (z, l2) := hz
    have hzl : z ≤ u64max := rdUint_le hz
    try rw [hz'] at R5 ⊢
    simp only [Option.map_some, Option.getD_some, Option.isNone_some] at R5 ⊢
    have Hz := hide hz
    have Hzr := hide (unzig_range z hzl)
    obtain ⟨n, hn⟩ : ∃ n, unzig z = n := ⟨_, rfl⟩
    rw [hn] at Hzr ⊢
    have Hn := hide hn
    clear hz hz' hzl hn
    have Bv5 := Bv.fr hf5 hvr
    have Bz5 := Bz.fr hf5 Hne0.out
    have F5a := FrW.trans' hf5 (fun _ _ h => h)
    have yv := Bv5.frozen 1
    have xv := Bv5.cell 1
    have BV := hide Bv5
    have BZ := hide Bz5
    have FW := hide F5a
    have R5h := hide R5
    clear Bv5 Bz5 F5a R5 hf5 Bv Bz FrW RW p0
    go_upto_region 9 with fail
    obtain ⟨W5, hW5⟩ : ∃ W5, w5.setCell ⟨vb, 1, none⟩ (.int .i64 n) = W5 := ⟨_, rfl⟩
    have Bv := BV.out.set_ 1 (.int .i64 n)
    have Bz := BZ.out.far (p := ⟨vb, 1, none⟩) (by have := Hvz.out; show w.heap.size ≠ vb; omega) (.int .i64 n)
    have FrW := FW.out.setCell (p := ⟨vb, 1, none⟩) (.inr (by have := Hvz.out; show w.heap.size ≤ vb; omega)) (.int .i64 n)
    have RW := R5h.out.setV BV.out 1 (.int .i64 n)
    rw [hW5] at Bv Bz FrW RW
    try rw [hW5]
    clear hW5 BV BZ FW R5h xv yv
    have xn := Bv.cell 1
    by_cases h01 : n = 0 ∨ n = 1
    · have H01 := hide h01
      rcases h01 with rfl | rfl
      · go_upto_region 19 with fail
        clear xn
        have v0 := Bv.cell 0
        have z0 := Bz.cell 0
        have y0 := Bz.frozen 0
        have v1 := Bv.cell 1
        have z1 := Bz.cell 1
        have y1 := Bz.frozen 1
        have v2 := Bv.cell 2
        have z2 := Bz.cell 2
        have y2 := Bz.frozen 2
        have v3 := Bv.cell 3
        have z3 := Bz.cell 3
        have y3 := Bz.frozen 3
        have v4 := Bv.cell 4
        have z4 := Bz.cell 4
        have y4 := Bz.frozen 4
        have q1 := Bz.set_ 0 (.int .u8 3)
        have q2 := q1.set_ 1 (.int .i64 0)
        have q3 := q2.set_ 2 (.string ⟨#[]⟩)
        have q4 := q3.set_ 3 (.slice none 0 0)
        have q5 := q4.set_ 4 (.slice none 0 0)
        have R1 := RW.setV Bz 0 (.int .u8 3)
        have R2 := R1.setV q1 1 (.int .i64 0)
        have R3 := R2.setV q2 2 (.string ⟨#[]⟩)
        have R4 := R3.setV q3 3 (.slice none 0 0)
        have R5 := R4.setV q4 4 (.slice none 0 0)
        have F5 : Fr (fun k => k = rb) w (((((W5.setCell ⟨w.heap.size, 0, none⟩ (.int .u8 3)).setCell ⟨w.heap.size, 1, none⟩ (.int .i64 0)).setCell ⟨w.heap.size, 2, none⟩ (.string ⟨#[]⟩)).setCell ⟨w.heap.size, 3, none⟩ (.slice none 0 0)).setCell ⟨w.heap.size, 4, none⟩ (.slice none 0 0)) := ((((FrW.setCell (p := ⟨w.heap.size, 0, none⟩) (.inr (Nat.le_refl _)) _).setCell (p := ⟨w.heap.size, 1, none⟩) (.inr (Nat.le_refl _)) _).setCell (p := ⟨w.heap.size, 2, none⟩) (.inr (Nat.le_refl _)) _).setCell (p := ⟨w.heap.size, 3, none⟩) (.inr (Nat.le_refl _)) _).setCell (p := ⟨w.heap.size, 4, none⟩) (.inr (Nat.le_refl _)) _
        have r0 : (((((W5.setCell ⟨w.heap.size, 0, none⟩ (.int .u8 3)).setCell ⟨w.heap.size, 1, none⟩ (.int .i64 0)).setCell ⟨w.heap.size, 2, none⟩ (.string ⟨#[]⟩)).setCell ⟨w.heap.size, 3, none⟩ (.slice none 0 0)).setCell ⟨w.heap.size, 4, none⟩ (.slice none 0 0)).cell? ⟨w.heap.size, 0, none⟩ = some (.int .u8 3) := q5.cell 0
        have r1 : (((((W5.setCell ⟨w.heap.size, 0, none⟩ (.int .u8 3)).setCell ⟨w.heap.size, 1, none⟩ (.int .i64 0)).setCell ⟨w.heap.size, 2, none⟩ (.string ⟨#[]⟩)).setCell ⟨w.heap.size, 3, none⟩ (.slice none 0 0)).setCell ⟨w.heap.size, 4, none⟩ (.slice none 0 0)).cell? ⟨w.heap.size, 1, none⟩ = some (.int .i64 0) := q5.cell 1
        have r2 : (((((W5.setCell ⟨w.heap.size, 0, none⟩ (.int .u8 3)).setCell ⟨w.heap.size, 1, none⟩ (.int .i64 0)).setCell ⟨w.heap.size, 2, none⟩ (.string ⟨#[]⟩)).setCell ⟨w.heap.size, 3, none⟩ (.slice none 0 0)).setCell ⟨w.heap.size, 4, none⟩ (.slice none 0 0)).cell? ⟨w.heap.size, 2, none⟩ = some (.string ⟨#[]⟩) := q5.cell 2
        have r3 : (((((W5.setCell ⟨w.heap.size, 0, none⟩ (.int .u8 3)).setCell ⟨w.heap.size, 1, none⟩ (.int .i64 0)).setCell ⟨w.heap.size, 2, none⟩ (.string ⟨#[]⟩)).setCell ⟨w.heap.size, 3, none⟩ (.slice none 0 0)).setCell ⟨w.heap.size, 4, none⟩ (.slice none 0 0)).cell? ⟨w.heap.size, 3, none⟩ = some (.slice none 0 0) := q5.cell 3
        have r4 : (((((W5.setCell ⟨w.heap.size, 0, none⟩ (.int .u8 3)).setCell ⟨w.heap.size, 1, none⟩ (.int .i64 0)).setCell ⟨w.heap.size, 2, none⟩ (.string ⟨#[]⟩)).setCell ⟨w.heap.size, 3, none⟩ (.slice none 0 0)).setCell ⟨w.heap.size, 4, none⟩ (.slice none 0 0)).cell? ⟨w.heap.size, 4, none⟩ = some (.slice none 0 0) := q5.cell 4
        have Hr := hide (show _ ∧ _ ∧ _ ∧ _ ∧ _ from ⟨r0, r1, r2, r3, r4⟩)
        have H5 := hide F5
        have HR := hide R5
        have HRW := hide RW
        clear q1 q2 q3 q4 q5 R1 R2 R3 R4 R5 F5 r0 r1 r2 r3 r4 Bv Bz FrW RW
        go_wp2
        obtain ⟨r0, r1, r2, r3, r4⟩ := Hr.out
        refine bodyPost_ret (v := .agg #[.int .u8 3, .int .i64 0, .string ⟨#[]⟩, .slice none 0 0, .slice none 0 0]) (by simp [results, Try.results30, go_sem, r0, r1, r2, r3, r4, Result.andThen]) rfl ⟨_, _, _, _, _, rfl, ?_, H5.out, ?_⟩
        · intro u hu
          simp only [List.mem_cons, List.not_mem_nil, or_false] at hu
          rcases hu with rfl | rfl | rfl | rfl | rfl <;> rfl
        · exact .inl ⟨_, _, by rw [rdV, Hk.out]; simp only []; rw [if_neg (by decide), if_neg (by decide), if_pos trivial, Hz.out]; simp only [Option.bind_some]; rw [Hn.out]; exact if_pos (by decide), scalar_vc _ _ 3 0 [] (by omega) Hzr.out (by simp), HR.out⟩
      · go_upto_region 19 with fail
        clear xn
        have v0 := Bv.cell 0
        have z0 := Bz.cell 0
        have y0 := Bz.frozen 0
        have v1 := Bv.cell 1
        have z1 := Bz.cell 1
        have y1 := Bz.frozen 1
        have v2 := Bv.cell 2
        have z2 := Bz.cell 2
        have y2 := Bz.frozen 2
        have v3 := Bv.cell 3
        have z3 := Bz.cell 3
        have y3 := Bz.frozen 3
        have v4 := Bv.cell 4
        have z4 := Bz.cell 4
        have y4 := Bz.frozen 4
        have q1 := Bz.set_ 0 (.int .u8 3)
        have q2 := q1.set_ 1 (.int .i64 1)
        have q3 := q2.set_ 2 (.string ⟨#[]⟩)
        have q4 := q3.set_ 3 (.slice none 0 0)
        have q5 := q4.set_ 4 (.slice none 0 0)
        have R1 := RW.setV Bz 0 (.int .u8 3)
        have R2 := R1.setV q1 1 (.int .i64 1)
        have R3 := R2.setV q2 2 (.string ⟨#[]⟩)
        have R4 := R3.setV q3 3 (.slice none 0 0)
        have R5 := R4.setV q4 4 (.slice none 0 0)
        have F5 : Fr (fun k => k = rb) w (((((W5.setCell ⟨w.heap.size, 0, none⟩ (.int .u8 3)).setCell ⟨w.heap.size, 1, none⟩ (.int .i64 1)).setCell ⟨w.heap.size, 2, none⟩ (.string ⟨#[]⟩)).setCell ⟨w.heap.size, 3, none⟩ (.slice none 0 0)).setCell ⟨w.heap.size, 4, none⟩ (.slice none 0 0)) := ((((FrW.setCell (p := ⟨w.heap.size, 0, none⟩) (.inr (Nat.le_refl _)) _).setCell (p := ⟨w.heap.size, 1, none⟩) (.inr (Nat.le_refl _)) _).setCell (p := ⟨w.heap.size, 2, none⟩) (.inr (Nat.le_refl _)) _).setCell (p := ⟨w.heap.size, 3, none⟩) (.inr (Nat.le_refl _)) _).setCell (p := ⟨w.heap.size, 4, none⟩) (.inr (Nat.le_refl _)) _
        have r0 : (((((W5.setCell ⟨w.heap.size, 0, none⟩ (.int .u8 3)).setCell ⟨w.heap.size, 1, none⟩ (.int .i64 1)).setCell ⟨w.heap.size, 2, none⟩ (.string ⟨#[]⟩)).setCell ⟨w.heap.size, 3, none⟩ (.slice none 0 0)).setCell ⟨w.heap.size, 4, none⟩ (.slice none 0 0)).cell? ⟨w.heap.size, 0, none⟩ = some (.int .u8 3) := q5.cell 0
        have r1 : (((((W5.setCell ⟨w.heap.size, 0, none⟩ (.int .u8 3)).setCell ⟨w.heap.size, 1, none⟩ (.int .i64 1)).setCell ⟨w.heap.size, 2, none⟩ (.string ⟨#[]⟩)).setCell ⟨w.heap.size, 3, none⟩ (.slice none 0 0)).setCell ⟨w.heap.size, 4, none⟩ (.slice none 0 0)).cell? ⟨w.heap.size, 1, none⟩ = some (.int .i64 1) := q5.cell 1
        have r2 : (((((W5.setCell ⟨w.heap.size, 0, none⟩ (.int .u8 3)).setCell ⟨w.heap.size, 1, none⟩ (.int .i64 1)).setCell ⟨w.heap.size, 2, none⟩ (.string ⟨#[]⟩)).setCell ⟨w.heap.size, 3, none⟩ (.slice none 0 0)).setCell ⟨w.heap.size, 4, none⟩ (.slice none 0 0)).cell? ⟨w.heap.size, 2, none⟩ = some (.string ⟨#[]⟩) := q5.cell 2
        have r3 : (((((W5.setCell ⟨w.heap.size, 0, none⟩ (.int .u8 3)).setCell ⟨w.heap.size, 1, none⟩ (.int .i64 1)).setCell ⟨w.heap.size, 2, none⟩ (.string ⟨#[]⟩)).setCell ⟨w.heap.size, 3, none⟩ (.slice none 0 0)).setCell ⟨w.heap.size, 4, none⟩ (.slice none 0 0)).cell? ⟨w.heap.size, 3, none⟩ = some (.slice none 0 0) := q5.cell 3
        have r4 : (((((W5.setCell ⟨w.heap.size, 0, none⟩ (.int .u8 3)).setCell ⟨w.heap.size, 1, none⟩ (.int .i64 1)).setCell ⟨w.heap.size, 2, none⟩ (.string ⟨#[]⟩)).setCell ⟨w.heap.size, 3, none⟩ (.slice none 0 0)).setCell ⟨w.heap.size, 4, none⟩ (.slice none 0 0)).cell? ⟨w.heap.size, 4, none⟩ = some (.slice none 0 0) := q5.cell 4
        have Hr := hide (show _ ∧ _ ∧ _ ∧ _ ∧ _ from ⟨r0, r1, r2, r3, r4⟩)
        have H5 := hide F5
        have HR := hide R5
        have HRW := hide RW
        clear q1 q2 q3 q4 q5 R1 R2 R3 R4 R5 F5 r0 r1 r2 r3 r4 Bv Bz FrW RW
        go_wp2
        obtain ⟨r0, r1, r2, r3, r4⟩ := Hr.out
        refine bodyPost_ret (v := .agg #[.int .u8 3, .int .i64 1, .string ⟨#[]⟩, .slice none 0 0, .slice none 0 0]) (by simp [results, Try.results30, go_sem, r0, r1, r2, r3, r4, Result.andThen]) rfl ⟨_, _, _, _, _, rfl, ?_, H5.out, ?_⟩
        · intro u hu
          simp only [List.mem_cons, List.not_mem_nil, or_false] at hu
          rcases hu with rfl | rfl | rfl | rfl | rfl <;> rfl
        · exact .inl ⟨_, _, by rw [rdV, Hk.out]; simp only []; rw [if_neg (by decide), if_neg (by decide), if_pos trivial, Hz.out]; simp only [Option.bind_some]; rw [Hn.out]; exact if_pos (by decide), scalar_vc _ _ 3 1 [] (by omega) Hzr.out (by simp), HR.out⟩
    · have h0 : ¬ n = 0 := fun h => h01 (.inl h)
      have h1 : ¬ n = 1 := fun h => h01 (.inr h)
      have hb0 : (n != 0) = true := by simp [h0]
      have hb1 : (n != 1) = true := by simp [h1]
      have he0 : (n == 0) = false := by simp [h0]
      have he1 : (n == 1) = false := by simp [h1]
      clear h0 h1
      have Hfl := hide (rfail_any rb l2 false W5 RW)
      have H01 := hide h01
      clear h01
      go_wp2_with fail
      refine Hfl.out.mono ?_
      rintro e w6 ⟨rfl, R6, hf6⟩
      have Bv6 := Bv.fr hf6 hvr
      have Bz6 := Bz.fr hf6 Hne0.out
      have F6 := FrW.trans' hf6 (fun _ _ h => h)
      clear Bv Bz FrW RW xn Hfl hb0 hb1 he0 he1 hf6
      go_upto_region 19 with fail
      have Bv := Bv6
      have Bz := Bz6
      have FrW := F6
      have RW := R6
      clear Bv6 Bz6 F6 R6
      have v0 := Bv.cell 0
      have z0 := Bz.cell 0
      have y0 := Bz.frozen 0
      have v1 := Bv.cell 1
      have z1 := Bz.cell 1
      have y1 := Bz.frozen 1
      have v2 := Bv.cell 2
      have z2 := Bz.cell 2
      have y2 := Bz.frozen 2
      have v3 := Bv.cell 3
      have z3 := Bz.cell 3
      have y3 := Bz.frozen 3
      have v4 := Bv.cell 4
      have z4 := Bz.cell 4
      have y4 := Bz.frozen 4
      have q1 := Bz.set_ 0 (.int .u8 3)
      have q2 := q1.set_ 1 (.int .i64 n)
      have q3 := q2.set_ 2 (.string ⟨#[]⟩)
      have q4 := q3.set_ 3 (.slice none 0 0)
      have q5 := q4.set_ 4 (.slice none 0 0)
      have R1 := RW.setV Bz 0 (.int .u8 3)
      have R2 := R1.setV q1 1 (.int .i64 n)
      have R3 := R2.setV q2 2 (.string ⟨#[]⟩)
      have R4 := R3.setV q3 3 (.slice none 0 0)
      have R5 := R4.setV q4 4 (.slice none 0 0)
      have F5 : Fr (fun k => k = rb) w (((((w6.setCell ⟨w.heap.size, 0, none⟩ (.int .u8 3)).setCell ⟨w.heap.size, 1, none⟩ (.int .i64 n)).setCell ⟨w.heap.size, 2, none⟩ (.string ⟨#[]⟩)).setCell ⟨w.heap.size, 3, none⟩ (.slice none 0 0)).setCell ⟨w.heap.size, 4, none⟩ (.slice none 0 0)) := ((((FrW.setCell (p := ⟨w.heap.size, 0, none⟩) (.inr (Nat.le_refl _)) _).setCell (p := ⟨w.heap.size, 1, none⟩) (.inr (Nat.le_refl _)) _).setCell (p := ⟨w.heap.size, 2, none⟩) (.inr (Nat.le_refl _)) _).setCell (p := ⟨w.heap.size, 3, none⟩) (.inr (Nat.le_refl _)) _).setCell (p := ⟨w.heap.size, 4, none⟩) (.inr (Nat.le_refl _)) _
      have r0 : (((((w6.setCell ⟨w.heap.size, 0, none⟩ (.int .u8 3)).setCell ⟨w.heap.size, 1, none⟩ (.int .i64 n)).setCell ⟨w.heap.size, 2, none⟩ (.string ⟨#[]⟩)).setCell ⟨w.heap.size, 3, none⟩ (.slice none 0 0)).setCell ⟨w.heap.size, 4, none⟩ (.slice none 0 0)).cell? ⟨w.heap.size, 0, none⟩ = some (.int .u8 3) := q5.cell 0
      have r1 : (((((w6.setCell ⟨w.heap.size, 0, none⟩ (.int .u8 3)).setCell ⟨w.heap.size, 1, none⟩ (.int .i64 n)).setCell ⟨w.heap.size, 2, none⟩ (.string ⟨#[]⟩)).setCell ⟨w.heap.size, 3, none⟩ (.slice none 0 0)).setCell ⟨w.heap.size, 4, none⟩ (.slice none 0 0)).cell? ⟨w.heap.size, 1, none⟩ = some (.int .i64 n) := q5.cell 1
      have r2 : (((((w6.setCell ⟨w.heap.size, 0, none⟩ (.int .u8 3)).setCell ⟨w.heap.size, 1, none⟩ (.int .i64 n)).setCell ⟨w.heap.size, 2, none⟩ (.string ⟨#[]⟩)).setCell ⟨w.heap.size, 3, none⟩ (.slice none 0 0)).setCell ⟨w.heap.size, 4, none⟩ (.slice none 0 0)).cell? ⟨w.heap.size, 2, none⟩ = some (.string ⟨#[]⟩) := q5.cell 2
      have r3 : (((((w6.setCell ⟨w.heap.size, 0, none⟩ (.int .u8 3)).setCell ⟨w.heap.size, 1, none⟩ (.int .i64 n)).setCell ⟨w.heap.size, 2, none⟩ (.string ⟨#[]⟩)).setCell ⟨w.heap.size, 3, none⟩ (.slice none 0 0)).setCell ⟨w.heap.size, 4, none⟩ (.slice none 0 0)).cell? ⟨w.heap.size, 3, none⟩ = some (.slice none 0 0) := q5.cell 3
      have r4 : (((((w6.setCell ⟨w.heap.size, 0, none⟩ (.int .u8 3)).setCell ⟨w.heap.size, 1, none⟩ (.int .i64 n)).setCell ⟨w.heap.size, 2, none⟩ (.string ⟨#[]⟩)).setCell ⟨w.heap.size, 3, none⟩ (.slice none 0 0)).setCell ⟨w.heap.size, 4, none⟩ (.slice none 0 0)).cell? ⟨w.heap.size, 4, none⟩ = some (.slice none 0 0) := q5.cell 4
      have Hr := hide (show _ ∧ _ ∧ _ ∧ _ ∧ _ from ⟨r0, r1, r2, r3, r4⟩)
      have H5 := hide F5
      have HR := hide R5
      have HRW := hide RW
      clear q1 q2 q3 q4 q5 R1 R2 R3 R4 R5 F5 r0 r1 r2 r3 r4 Bv Bz FrW RW
      go_wp2
      obtain ⟨r0, r1, r2, r3, r4⟩ := Hr.out
      refine bodyPost_ret (v := .agg #[.int .u8 3, .int .i64 n, .string ⟨#[]⟩, .slice none 0 0, .slice none 0 0]) (by simp [results, Try.results30, go_sem, r0, r1, r2, r3, r4, Result.andThen]) rfl ⟨_, _, _, _, _, rfl, ?_, H5.out, ?_⟩
      · intro u hu
        simp only [List.mem_cons, List.not_mem_nil, or_false] at hu
        rcases hu with rfl | rfl | rfl | rfl | rfl <;> rfl
      · exact .inr ⟨by rw [rdV, Hk.out]; simp only []; rw [if_neg (by decide), if_neg (by decide), if_pos trivial, Hz.out]; simp only [Option.bind_some]; rw [Hn.out, if_neg H01.out], HR.out⟩
end Go.Proofs.Yteoimkjocijcjaa

/- Package wire: Reader.value, one kind of value. -/
namespace Go.Proofs.Yteoimkjocijcjaa
open Go.RowKit

set_option maxRecDepth 100000 in
set_option maxHeartbeats 4000000 in
theorem rdv_k4 (d op : Nat) (rb : Nat) (l l1 : List UInt8) (bad : Bool) (w : World) (h : Rd w rb l bad) (hd : op + (d + 1) = 24) (hk : rdUint 8 l = some (4, l1)) :
    Calls Try.prog 30 #[.pointer (some ⟨rb, 0, none⟩), .int .i64 (op : Int)] w (RVPost rb (d + 1) l w) := by
  have za := zeroV
  have ba := buildV
  have hop : op < 24 := by omega
  have h0 : Rd (w.alloc (.cells #[.int .u8 0, .int .i64 0, .string ⟨#[]⟩, .slice none 0 0, .slice none 0 0] 27)) rb l bad := h.fr (F := fun _ => False) ((Fr.refl _ _).alloc _) (fun _ h => h.elim)
  have hb0 := Blk.new w 27 #[.int .u8 0, .int .i64 0, .string ⟨#[]⟩, .slice none 0 0, .slice none 0 0]
  obtain ⟨w0, hw0⟩ : ∃ w0, w.alloc (.cells #[.int .u8 0, .int .i64 0, .string ⟨#[]⟩, .slice none 0 0, .slice none 0 0] 27) = w0 := ⟨_, rfl⟩
  have f0 : Fr (fun k => k = rb) w w0 := by rw [← hw0]; exact (Fr.refl _ _).alloc _
  rw [hw0] at h0 hb0
  have hs0 : w0.heap.size = w.heap.size + 1 := by rw [← hw0]; simp
  have hne0 : w.heap.size ≠ rb := h0.ne hb0
  have hu : Calls Try.prog 29 #[.pointer (some ⟨rb, 0, none⟩), .int .u64 8] w0 (UPost rb .u64 ((rdUint 8 l).map fun x => ((x.1 : Int), x.2)) w0) := ruint_all rb l bad 8 w0 h0 (by omega)
  rw [hk] at hu
  have Hu := hide hu
  have Hb0 := hide hb0
  have F0 := hide f0
  have Hne0 := hide hne0
  have Hs0 := hide hs0
  have Hk := hide hk
  have Hh := hide h
  clear hu hb0 f0 hne0 hs0 h0 hk h hd
  go_enter Try.func30, Try.ntmps30
  go_wp2_with fail
  refine Hu.out.mono ?_
  rintro e w2 ⟨rfl, hr2, hf2⟩
  simp only [Option.map_some, Option.getD_some, Option.isNone_some] at hr2 ⊢
  rw [show (((4 : Nat)) : Int) = 4 from rfl]
  have hb2 := Hb0.out.fr hf2 Hne0.out
  have f2 := F0.out.trans' hf2 (fun _ _ h => h)
  have n2 := Blk.new w2 27 #[.int .u8 0, .int .i64 0, .string ⟨#[]⟩, .slice none 0 0, .slice none 0 0]
  have n3 := Blk.new w2 27 #[.int .u8 4, .int .i64 0, .string ⟨#[]⟩, .slice none 0 0, .slice none 0 0]
  have z0 := n2.cell 0
  have z1 := n2.cell 1
  have z2 := n2.cell 2
  have z3 := n2.cell 3
  have z4 := n2.cell 4
  have y0 := n2.frozen 0
  have y1 := n2.frozen 1
  have y2 := n2.frozen 2
  have y3 := n2.frozen 3
  have y4 := n2.frozen 4
  have p0 := n3.cell 0
  have HB2 := hide hb2
  have F2 := hide f2
  have R2 := hide hr2
  have Hf2 := hide hf2
  clear hb2 f2 hr2 hf2 n2 n3 Hu
  go_upto_region 4 with fail
  obtain ⟨wv, hwv⟩ : ∃ wv, w2.alloc (.cells #[.int .u8 4, .int .i64 0, .string ⟨#[]⟩, .slice none 0 0, .slice none 0 0] 27) = wv := ⟨_, rfl⟩
  have Bv : Blk wv w2.heap.size 27 #[.int .u8 4, .int .i64 0, .string ⟨#[]⟩, .slice none 0 0, .slice none 0 0] := by rw [← hwv]; exact Blk.new _ _ _
  have Bz : Blk wv w.heap.size 27 #[.int .u8 0, .int .i64 0, .string ⟨#[]⟩, .slice none 0 0, .slice none 0 0] := by rw [← hwv]; exact HB2.out.alloc _
  have FrW : Fr (fun k => k = rb) w wv := by rw [← hwv]; exact F2.out.alloc _
  have RW : Rd wv rb l1 false := by rw [← hwv]; exact R2.out.fr (F := fun _ => False) ((Fr.refl _ _).alloc _) (fun _ h => h.elim)
  try rw [hwv]
  rw [hwv] at p0
  have hvz : w.heap.size < w2.heap.size := HB2.out.lt
  obtain ⟨vb, hvb⟩ : ∃ vb, w2.heap.size = vb := ⟨_, rfl⟩
  rw [hvb] at Bv p0 hvz ⊢
  have Hvz := hide hvz
  have hvr : vb ≠ rb := RW.ne Bv
  clear z0 z1 z2 z3 z4 y0 y1 y2 y3 y4 hwv hvb za ba hvz HB2 F2 R2 Hf2 Hb0 F0
  have Ht := hide (rtext_all rb l1 false 200 wv RW (by omega))
  go_wp2_with fail
  refine Ht.out.mono ?_
  clear Ht
  cases hz : rdText 200 l1 with
  | none =>
    rintro e w5 ⟨rfl, R5, hf5⟩
    have hz' : rdText (200 : Int).toNat l1 = none := hz
    try rw [hz'] at R5 ⊢
    simp only [Option.map_none, Option.getD_none, Option.isNone_none] at R5 ⊢
    have Hz := hide hz
    clear hz hz'
    have Bv5 := Bv.fr hf5 hvr
    have Bz5 := Bz.fr hf5 Hne0.out
    have F5a := FrW.trans' hf5 (fun _ _ h => h)
    have yv := Bv5.frozen 2
    have xv := Bv5.cell 2
    have BV := hide Bv5
    have BZ := hide Bz5
    have FW := hide F5a
    have R5h := hide R5
    clear Bv5 Bz5 F5a R5 hf5 Bv Bz FrW RW p0
    go_upto_region 19 with fail
    obtain ⟨W5, hW5⟩ : ∃ W5, w5.setCell ⟨vb, 2, none⟩ (sv []) = W5 := ⟨_, rfl⟩
    have Bv := BV.out.set_ 2 (sv [])
    have Bz := BZ.out.far (p := ⟨vb, 2, none⟩) (by have := Hvz.out; show w.heap.size ≠ vb; omega) (sv [])
    have FrW := FW.out.setCell (p := ⟨vb, 2, none⟩) (.inr (by have := Hvz.out; show w.heap.size ≤ vb; omega)) (sv [])
    have RW := R5h.out.setV BV.out 2 (sv [])
    rw [hW5] at Bv Bz FrW RW
    try rw [hW5]
    clear hW5 BV BZ FW R5h xv yv
    have v0 := Bv.cell 0
    have z0 := Bz.cell 0
    have y0 := Bz.frozen 0
    have v1 := Bv.cell 1
    have z1 := Bz.cell 1
    have y1 := Bz.frozen 1
    have v2 := Bv.cell 2
    have z2 := Bz.cell 2
    have y2 := Bz.frozen 2
    have v3 := Bv.cell 3
    have z3 := Bz.cell 3
    have y3 := Bz.frozen 3
    have v4 := Bv.cell 4
    have z4 := Bz.cell 4
    have y4 := Bz.frozen 4
    have q1 := Bz.set_ 0 (.int .u8 4)
    have q2 := q1.set_ 1 (.int .i64 0)
    have q3 := q2.set_ 2 (sv [])
    have q4 := q3.set_ 3 (.slice none 0 0)
    have q5 := q4.set_ 4 (.slice none 0 0)
    have R1 := RW.setV Bz 0 (.int .u8 4)
    have R2 := R1.setV q1 1 (.int .i64 0)
    have R3 := R2.setV q2 2 (sv [])
    have R4 := R3.setV q3 3 (.slice none 0 0)
    have R5 := R4.setV q4 4 (.slice none 0 0)
    have F5 : Fr (fun k => k = rb) w (((((W5.setCell ⟨w.heap.size, 0, none⟩ (.int .u8 4)).setCell ⟨w.heap.size, 1, none⟩ (.int .i64 0)).setCell ⟨w.heap.size, 2, none⟩ (sv [])).setCell ⟨w.heap.size, 3, none⟩ (.slice none 0 0)).setCell ⟨w.heap.size, 4, none⟩ (.slice none 0 0)) := ((((FrW.setCell (p := ⟨w.heap.size, 0, none⟩) (.inr (Nat.le_refl _)) _).setCell (p := ⟨w.heap.size, 1, none⟩) (.inr (Nat.le_refl _)) _).setCell (p := ⟨w.heap.size, 2, none⟩) (.inr (Nat.le_refl _)) _).setCell (p := ⟨w.heap.size, 3, none⟩) (.inr (Nat.le_refl _)) _).setCell (p := ⟨w.heap.size, 4, none⟩) (.inr (Nat.le_refl _)) _
    have r0 : (((((W5.setCell ⟨w.heap.size, 0, none⟩ (.int .u8 4)).setCell ⟨w.heap.size, 1, none⟩ (.int .i64 0)).setCell ⟨w.heap.size, 2, none⟩ (sv [])).setCell ⟨w.heap.size, 3, none⟩ (.slice none 0 0)).setCell ⟨w.heap.size, 4, none⟩ (.slice none 0 0)).cell? ⟨w.heap.size, 0, none⟩ = some (.int .u8 4) := q5.cell 0
    have r1 : (((((W5.setCell ⟨w.heap.size, 0, none⟩ (.int .u8 4)).setCell ⟨w.heap.size, 1, none⟩ (.int .i64 0)).setCell ⟨w.heap.size, 2, none⟩ (sv [])).setCell ⟨w.heap.size, 3, none⟩ (.slice none 0 0)).setCell ⟨w.heap.size, 4, none⟩ (.slice none 0 0)).cell? ⟨w.heap.size, 1, none⟩ = some (.int .i64 0) := q5.cell 1
    have r2 : (((((W5.setCell ⟨w.heap.size, 0, none⟩ (.int .u8 4)).setCell ⟨w.heap.size, 1, none⟩ (.int .i64 0)).setCell ⟨w.heap.size, 2, none⟩ (sv [])).setCell ⟨w.heap.size, 3, none⟩ (.slice none 0 0)).setCell ⟨w.heap.size, 4, none⟩ (.slice none 0 0)).cell? ⟨w.heap.size, 2, none⟩ = some (sv []) := q5.cell 2
    have r3 : (((((W5.setCell ⟨w.heap.size, 0, none⟩ (.int .u8 4)).setCell ⟨w.heap.size, 1, none⟩ (.int .i64 0)).setCell ⟨w.heap.size, 2, none⟩ (sv [])).setCell ⟨w.heap.size, 3, none⟩ (.slice none 0 0)).setCell ⟨w.heap.size, 4, none⟩ (.slice none 0 0)).cell? ⟨w.heap.size, 3, none⟩ = some (.slice none 0 0) := q5.cell 3
    have r4 : (((((W5.setCell ⟨w.heap.size, 0, none⟩ (.int .u8 4)).setCell ⟨w.heap.size, 1, none⟩ (.int .i64 0)).setCell ⟨w.heap.size, 2, none⟩ (sv [])).setCell ⟨w.heap.size, 3, none⟩ (.slice none 0 0)).setCell ⟨w.heap.size, 4, none⟩ (.slice none 0 0)).cell? ⟨w.heap.size, 4, none⟩ = some (.slice none 0 0) := q5.cell 4
    have Hr := hide (show _ ∧ _ ∧ _ ∧ _ ∧ _ from ⟨r0, r1, r2, r3, r4⟩)
    have H5 := hide F5
    have HR := hide R5
    have HRW := hide RW
    clear q1 q2 q3 q4 q5 R1 R2 R3 R4 R5 F5 r0 r1 r2 r3 r4 Bv Bz FrW RW
    go_wp2
    obtain ⟨r0, r1, r2, r3, r4⟩ := Hr.out
    refine bodyPost_ret (v := .agg #[.int .u8 4, .int .i64 0, sv [], .slice none 0 0, .slice none 0 0]) (by simp [results, Try.results30, go_sem, r0, r1, r2, r3, r4, Result.andThen]) rfl ⟨_, _, _, _, _, rfl, ?_, H5.out, ?_⟩
    · intro u hu
      simp only [List.mem_cons, List.not_mem_nil, or_false] at hu
      rcases hu with rfl | rfl | rfl | rfl | rfl <;> rfl
    · exact .inr ⟨by rw [rdV, Hk.out]; simp only []; rw [if_neg (by decide), if_neg (by decide), if_neg (by decide), if_neg (by decide), if_neg (by decide), Hz.out]; rfl, HR.out⟩
  | some p =>
    obtain ⟨s, l2⟩ := p
    rintro e w5 ⟨rfl, R5, hf5⟩
    have hz' : rdText (200 : Int).toNat l1 = some (s, l2) := hz
    have hsl : s.length ≤ 200 := rdText_le hz
    try rw [hz'] at R5 ⊢
    simp only [Option.map_some, Option.getD_some, Option.isNone_some] at R5 ⊢
    have Hz := hide hz
    have Hsl := hide hsl
    clear hz hz' hsl
    have Bv5 := Bv.fr hf5 hvr
    have Bz5 := Bz.fr hf5 Hne0.out
    have F5a := FrW.trans' hf5 (fun _ _ h => h)
    have yv := Bv5.frozen 2
    have xv := Bv5.cell 2
    have BV := hide Bv5
    have BZ := hide Bz5
    have FW := hide F5a
    have R5h := hide R5
    clear Bv5 Bz5 F5a R5 hf5 Bv Bz FrW RW p0
    go_upto_region 19 with fail
    obtain ⟨W5, hW5⟩ : ∃ W5, w5.setCell ⟨vb, 2, none⟩ (sv s) = W5 := ⟨_, rfl⟩
    have Bv := BV.out.set_ 2 (sv s)
    have Bz := BZ.out.far (p := ⟨vb, 2, none⟩) (by have := Hvz.out; show w.heap.size ≠ vb; omega) (sv s)
    have FrW := FW.out.setCell (p := ⟨vb, 2, none⟩) (.inr (by have := Hvz.out; show w.heap.size ≤ vb; omega)) (sv s)
    have RW := R5h.out.setV BV.out 2 (sv s)
    rw [hW5] at Bv Bz FrW RW
    try rw [hW5]
    clear hW5 BV BZ FW R5h xv yv
    have v0 := Bv.cell 0
    have z0 := Bz.cell 0
    have y0 := Bz.frozen 0
    have v1 := Bv.cell 1
    have z1 := Bz.cell 1
    have y1 := Bz.frozen 1
    have v2 := Bv.cell 2
    have z2 := Bz.cell 2
    have y2 := Bz.frozen 2
    have v3 := Bv.cell 3
    have z3 := Bz.cell 3
    have y3 := Bz.frozen 3
    have v4 := Bv.cell 4
    have z4 := Bz.cell 4
    have y4 := Bz.frozen 4
    have q1 := Bz.set_ 0 (.int .u8 4)
    have q2 := q1.set_ 1 (.int .i64 0)
    have q3 := q2.set_ 2 (sv s)
    have q4 := q3.set_ 3 (.slice none 0 0)
    have q5 := q4.set_ 4 (.slice none 0 0)
    have R1 := RW.setV Bz 0 (.int .u8 4)
    have R2 := R1.setV q1 1 (.int .i64 0)
    have R3 := R2.setV q2 2 (sv s)
    have R4 := R3.setV q3 3 (.slice none 0 0)
    have R5 := R4.setV q4 4 (.slice none 0 0)
    have F5 : Fr (fun k => k = rb) w (((((W5.setCell ⟨w.heap.size, 0, none⟩ (.int .u8 4)).setCell ⟨w.heap.size, 1, none⟩ (.int .i64 0)).setCell ⟨w.heap.size, 2, none⟩ (sv s)).setCell ⟨w.heap.size, 3, none⟩ (.slice none 0 0)).setCell ⟨w.heap.size, 4, none⟩ (.slice none 0 0)) := ((((FrW.setCell (p := ⟨w.heap.size, 0, none⟩) (.inr (Nat.le_refl _)) _).setCell (p := ⟨w.heap.size, 1, none⟩) (.inr (Nat.le_refl _)) _).setCell (p := ⟨w.heap.size, 2, none⟩) (.inr (Nat.le_refl _)) _).setCell (p := ⟨w.heap.size, 3, none⟩) (.inr (Nat.le_refl _)) _).setCell (p := ⟨w.heap.size, 4, none⟩) (.inr (Nat.le_refl _)) _
    have r0 : (((((W5.setCell ⟨w.heap.size, 0, none⟩ (.int .u8 4)).setCell ⟨w.heap.size, 1, none⟩ (.int .i64 0)).setCell ⟨w.heap.size, 2, none⟩ (sv s)).setCell ⟨w.heap.size, 3, none⟩ (.slice none 0 0)).setCell ⟨w.heap.size, 4, none⟩ (.slice none 0 0)).cell? ⟨w.heap.size, 0, none⟩ = some (.int .u8 4) := q5.cell 0
    have r1 : (((((W5.setCell ⟨w.heap.size, 0, none⟩ (.int .u8 4)).setCell ⟨w.heap.size, 1, none⟩ (.int .i64 0)).setCell ⟨w.heap.size, 2, none⟩ (sv s)).setCell ⟨w.heap.size, 3, none⟩ (.slice none 0 0)).setCell ⟨w.heap.size, 4, none⟩ (.slice none 0 0)).cell? ⟨w.heap.size, 1, none⟩ = some (.int .i64 0) := q5.cell 1
    have r2 : (((((W5.setCell ⟨w.heap.size, 0, none⟩ (.int .u8 4)).setCell ⟨w.heap.size, 1, none⟩ (.int .i64 0)).setCell ⟨w.heap.size, 2, none⟩ (sv s)).setCell ⟨w.heap.size, 3, none⟩ (.slice none 0 0)).setCell ⟨w.heap.size, 4, none⟩ (.slice none 0 0)).cell? ⟨w.heap.size, 2, none⟩ = some (sv s) := q5.cell 2
    have r3 : (((((W5.setCell ⟨w.heap.size, 0, none⟩ (.int .u8 4)).setCell ⟨w.heap.size, 1, none⟩ (.int .i64 0)).setCell ⟨w.heap.size, 2, none⟩ (sv s)).setCell ⟨w.heap.size, 3, none⟩ (.slice none 0 0)).setCell ⟨w.heap.size, 4, none⟩ (.slice none 0 0)).cell? ⟨w.heap.size, 3, none⟩ = some (.slice none 0 0) := q5.cell 3
    have r4 : (((((W5.setCell ⟨w.heap.size, 0, none⟩ (.int .u8 4)).setCell ⟨w.heap.size, 1, none⟩ (.int .i64 0)).setCell ⟨w.heap.size, 2, none⟩ (sv s)).setCell ⟨w.heap.size, 3, none⟩ (.slice none 0 0)).setCell ⟨w.heap.size, 4, none⟩ (.slice none 0 0)).cell? ⟨w.heap.size, 4, none⟩ = some (.slice none 0 0) := q5.cell 4
    have Hr := hide (show _ ∧ _ ∧ _ ∧ _ ∧ _ from ⟨r0, r1, r2, r3, r4⟩)
    have H5 := hide F5
    have HR := hide R5
    have HRW := hide RW
    clear q1 q2 q3 q4 q5 R1 R2 R3 R4 R5 F5 r0 r1 r2 r3 r4 Bv Bz FrW RW
    go_wp2
    obtain ⟨r0, r1, r2, r3, r4⟩ := Hr.out
    refine bodyPost_ret (v := .agg #[.int .u8 4, .int .i64 0, sv s, .slice none 0 0, .slice none 0 0]) (by simp [results, Try.results30, go_sem, r0, r1, r2, r3, r4, Result.andThen]) rfl ⟨_, _, _, _, _, rfl, ?_, H5.out, ?_⟩
    · intro u hu
      simp only [List.mem_cons, List.not_mem_nil, or_false] at hu
      rcases hu with rfl | rfl | rfl | rfl | rfl <;> rfl
    · exact .inl ⟨_, _, by rw [rdV, Hk.out]; simp only []; rw [if_neg (by decide), if_neg (by decide), if_neg (by decide), if_neg (by decide), if_neg (by decide), Hz.out]; rfl, scalar_vc _ _ 4 0 s (by omega) (by omega) Hsl.out, HR.out⟩
end Go.Proofs.Yteoimkjocijcjaa

/- Package wire: Reader.value, one kind of value. -/
namespace Go.Proofs.Yteoimkjocijcjaa
open Go.RowKit

set_option maxRecDepth 100000 in
set_option maxHeartbeats 4000000 in
theorem rdv_k7 (d op : Nat) (rb : Nat) (l l1 : List UInt8) (bad : Bool) (w : World) (h : Rd w rb l bad) (hd : op + (d + 1) = 24) (hk : rdUint 8 l = some (7, l1)) :
    Calls Try.prog 30 #[.pointer (some ⟨rb, 0, none⟩), .int .i64 (op : Int)] w (RVPost rb (d + 1) l w) := by
  have za := zeroV
  have ba := buildV
  have hop : op < 24 := by omega
  have h0 : Rd (w.alloc (.cells #[.int .u8 0, .int .i64 0, .string ⟨#[]⟩, .slice none 0 0, .slice none 0 0] 27)) rb l bad := h.fr (F := fun _ => False) ((Fr.refl _ _).alloc _) (fun _ h => h.elim)
  have hb0 := Blk.new w 27 #[.int .u8 0, .int .i64 0, .string ⟨#[]⟩, .slice none 0 0, .slice none 0 0]
  obtain ⟨w0, hw0⟩ : ∃ w0, w.alloc (.cells #[.int .u8 0, .int .i64 0, .string ⟨#[]⟩, .slice none 0 0, .slice none 0 0] 27) = w0 := ⟨_, rfl⟩
  have f0 : Fr (fun k => k = rb) w w0 := by rw [← hw0]; exact (Fr.refl _ _).alloc _
  rw [hw0] at h0 hb0
  have hs0 : w0.heap.size = w.heap.size + 1 := by rw [← hw0]; simp
  have hne0 : w.heap.size ≠ rb := h0.ne hb0
  have hu : Calls Try.prog 29 #[.pointer (some ⟨rb, 0, none⟩), .int .u64 8] w0 (UPost rb .u64 ((rdUint 8 l).map fun x => ((x.1 : Int), x.2)) w0) := ruint_all rb l bad 8 w0 h0 (by omega)
  rw [hk] at hu
  have Hu := hide hu
  have Hb0 := hide hb0
  have F0 := hide f0
  have Hne0 := hide hne0
  have Hs0 := hide hs0
  have Hk := hide hk
  have Hh := hide h
  clear hu hb0 f0 hne0 hs0 h0 hk h hd
  go_enter Try.func30, Try.ntmps30
  go_wp2_with fail
  refine Hu.out.mono ?_
  rintro e w2 ⟨rfl, hr2, hf2⟩
  simp only [Option.map_some, Option.getD_some, Option.isNone_some] at hr2 ⊢
  rw [show (((7 : Nat)) : Int) = 7 from rfl]
  have hb2 := Hb0.out.fr hf2 Hne0.out
  have f2 := F0.out.trans' hf2 (fun _ _ h => h)
  have n2 := Blk.new w2 27 #[.int .u8 0, .int .i64 0, .string ⟨#[]⟩, .slice none 0 0, .slice none 0 0]
  have n3 := Blk.new w2 27 #[.int .u8 7, .int .i64 0, .string ⟨#[]⟩, .slice none 0 0, .slice none 0 0]
  have z0 := n2.cell 0
  have z1 := n2.cell 1
  have z2 := n2.cell 2
  have z3 := n2.cell 3
  have z4 := n2.cell 4
  have y0 := n2.frozen 0
  have y1 := n2.frozen 1
  have y2 := n2.frozen 2
  have y3 := n2.frozen 3
  have y4 := n2.frozen 4
  have p0 := n3.cell 0
  have HB2 := hide hb2
  have F2 := hide f2
  have R2 := hide hr2
  have Hf2 := hide hf2
  clear hb2 f2 hr2 hf2 n2 n3 Hu
  go_upto_region 4 with fail
  obtain ⟨wv, hwv⟩ : ∃ wv, w2.alloc (.cells #[.int .u8 7, .int .i64 0, .string ⟨#[]⟩, .slice none 0 0, .slice none 0 0] 27) = wv := ⟨_, rfl⟩
  have Bv : Blk wv w2.heap.size 27 #[.int .u8 7, .int .i64 0, .string ⟨#[]⟩, .slice none 0 0, .slice none 0 0] := by rw [← hwv]; exact Blk.new _ _ _
  have Bz : Blk wv w.heap.size 27 #[.int .u8 0, .int .i64 0, .string ⟨#[]⟩, .slice none 0 0, .slice none 0 0] := by rw [← hwv]; exact HB2.out.alloc _
  have FrW : Fr (fun k => k = rb) w wv := by rw [← hwv]; exact F2.out.alloc _
  have RW : Rd wv rb l1 false := by rw [← hwv]; exact R2.out.fr (F := fun _ => False) ((Fr.refl _ _).alloc _) (fun _ h => h.elim)
  try rw [hwv]
  rw [hwv] at p0
  have hvz : w.heap.size < w2.heap.size := HB2.out.lt
  obtain ⟨vb, hvb⟩ : ∃ vb, w2.heap.size = vb := ⟨_, rfl⟩
  rw [hvb] at Bv p0 hvz ⊢
  have Hvz := hide hvz
  have hvr : vb ≠ rb := RW.ne Bv
  clear z0 z1 z2 z3 z4 y0 y1 y2 y3 y4 hwv hvb za ba hvz HB2 F2 R2 Hf2 Hb0 F0
  have Ht := hide (rtext_all rb l1 false 200 wv RW (by omega))
  go_wp2_with fail
  refine Ht.out.mono ?_
  clear Ht
  cases hz : rdText 200 l1 with
  | none =>
    rintro e w5 ⟨rfl, R5, hf5⟩
    have hz' : rdText (200 : Int).toNat l1 = none := hz
    try rw [hz'] at R5 ⊢
    simp only [Option.map_none, Option.getD_none, Option.isNone_none] at R5 ⊢
    have Hz := hide hz
    clear hz hz'
    have Bv5 := Bv.fr hf5 hvr
    have Bz5 := Bz.fr hf5 Hne0.out
    have F5a := FrW.trans' hf5 (fun _ _ h => h)
    have yv := Bv5.frozen 2
    have xv := Bv5.cell 2
    have BV := hide Bv5
    have BZ := hide Bz5
    have FW := hide F5a
    have R5h := hide R5
    clear Bv5 Bz5 F5a R5 hf5 Bv Bz FrW RW p0
    go_upto_region 19 with fail
    obtain ⟨W5, hW5⟩ : ∃ W5, w5.setCell ⟨vb, 2, none⟩ (sv []) = W5 := ⟨_, rfl⟩
    have Bv := BV.out.set_ 2 (sv [])
    have Bz := BZ.out.far (p := ⟨vb, 2, none⟩) (by have := Hvz.out; show w.heap.size ≠ vb; omega) (sv [])
    have FrW := FW.out.setCell (p := ⟨vb, 2, none⟩) (.inr (by have := Hvz.out; show w.heap.size ≤ vb; omega)) (sv [])
    have RW := R5h.out.setV BV.out 2 (sv [])
    rw [hW5] at Bv Bz FrW RW
    try rw [hW5]
    clear hW5 BV BZ FW R5h xv yv
    have v0 := Bv.cell 0
    have z0 := Bz.cell 0
    have y0 := Bz.frozen 0
    have v1 := Bv.cell 1
    have z1 := Bz.cell 1
    have y1 := Bz.frozen 1
    have v2 := Bv.cell 2
    have z2 := Bz.cell 2
    have y2 := Bz.frozen 2
    have v3 := Bv.cell 3
    have z3 := Bz.cell 3
    have y3 := Bz.frozen 3
    have v4 := Bv.cell 4
    have z4 := Bz.cell 4
    have y4 := Bz.frozen 4
    have q1 := Bz.set_ 0 (.int .u8 7)
    have q2 := q1.set_ 1 (.int .i64 0)
    have q3 := q2.set_ 2 (sv [])
    have q4 := q3.set_ 3 (.slice none 0 0)
    have q5 := q4.set_ 4 (.slice none 0 0)
    have R1 := RW.setV Bz 0 (.int .u8 7)
    have R2 := R1.setV q1 1 (.int .i64 0)
    have R3 := R2.setV q2 2 (sv [])
    have R4 := R3.setV q3 3 (.slice none 0 0)
    have R5 := R4.setV q4 4 (.slice none 0 0)
    have F5 : Fr (fun k => k = rb) w (((((W5.setCell ⟨w.heap.size, 0, none⟩ (.int .u8 7)).setCell ⟨w.heap.size, 1, none⟩ (.int .i64 0)).setCell ⟨w.heap.size, 2, none⟩ (sv [])).setCell ⟨w.heap.size, 3, none⟩ (.slice none 0 0)).setCell ⟨w.heap.size, 4, none⟩ (.slice none 0 0)) := ((((FrW.setCell (p := ⟨w.heap.size, 0, none⟩) (.inr (Nat.le_refl _)) _).setCell (p := ⟨w.heap.size, 1, none⟩) (.inr (Nat.le_refl _)) _).setCell (p := ⟨w.heap.size, 2, none⟩) (.inr (Nat.le_refl _)) _).setCell (p := ⟨w.heap.size, 3, none⟩) (.inr (Nat.le_refl _)) _).setCell (p := ⟨w.heap.size, 4, none⟩) (.inr (Nat.le_refl _)) _
    have r0 : (((((W5.setCell ⟨w.heap.size, 0, none⟩ (.int .u8 7)).setCell ⟨w.heap.size, 1, none⟩ (.int .i64 0)).setCell ⟨w.heap.size, 2, none⟩ (sv [])).setCell ⟨w.heap.size, 3, none⟩ (.slice none 0 0)).setCell ⟨w.heap.size, 4, none⟩ (.slice none 0 0)).cell? ⟨w.heap.size, 0, none⟩ = some (.int .u8 7) := q5.cell 0
    have r1 : (((((W5.setCell ⟨w.heap.size, 0, none⟩ (.int .u8 7)).setCell ⟨w.heap.size, 1, none⟩ (.int .i64 0)).setCell ⟨w.heap.size, 2, none⟩ (sv [])).setCell ⟨w.heap.size, 3, none⟩ (.slice none 0 0)).setCell ⟨w.heap.size, 4, none⟩ (.slice none 0 0)).cell? ⟨w.heap.size, 1, none⟩ = some (.int .i64 0) := q5.cell 1
    have r2 : (((((W5.setCell ⟨w.heap.size, 0, none⟩ (.int .u8 7)).setCell ⟨w.heap.size, 1, none⟩ (.int .i64 0)).setCell ⟨w.heap.size, 2, none⟩ (sv [])).setCell ⟨w.heap.size, 3, none⟩ (.slice none 0 0)).setCell ⟨w.heap.size, 4, none⟩ (.slice none 0 0)).cell? ⟨w.heap.size, 2, none⟩ = some (sv []) := q5.cell 2
    have r3 : (((((W5.setCell ⟨w.heap.size, 0, none⟩ (.int .u8 7)).setCell ⟨w.heap.size, 1, none⟩ (.int .i64 0)).setCell ⟨w.heap.size, 2, none⟩ (sv [])).setCell ⟨w.heap.size, 3, none⟩ (.slice none 0 0)).setCell ⟨w.heap.size, 4, none⟩ (.slice none 0 0)).cell? ⟨w.heap.size, 3, none⟩ = some (.slice none 0 0) := q5.cell 3
    have r4 : (((((W5.setCell ⟨w.heap.size, 0, none⟩ (.int .u8 7)).setCell ⟨w.heap.size, 1, none⟩ (.int .i64 0)).setCell ⟨w.heap.size, 2, none⟩ (sv [])).setCell ⟨w.heap.size, 3, none⟩ (.slice none 0 0)).setCell ⟨w.heap.size, 4, none⟩ (.slice none 0 0)).cell? ⟨w.heap.size, 4, none⟩ = some (.slice none 0 0) := q5.cell 4
    have Hr := hide (show _ ∧ _ ∧ _ ∧ _ ∧ _ from ⟨r0, r1, r2, r3, r4⟩)
    have H5 := hide F5
    have HR := hide R5
    have HRW := hide RW
    clear q1 q2 q3 q4 q5 R1 R2 R3 R4 R5 F5 r0 r1 r2 r3 r4 Bv Bz FrW RW
    go_wp2
    obtain ⟨r0, r1, r2, r3, r4⟩ := Hr.out
    refine bodyPost_ret (v := .agg #[.int .u8 7, .int .i64 0, sv [], .slice none 0 0, .slice none 0 0]) (by simp [results, Try.results30, go_sem, r0, r1, r2, r3, r4, Result.andThen]) rfl ⟨_, _, _, _, _, rfl, ?_, H5.out, ?_⟩
    · intro u hu
      simp only [List.mem_cons, List.not_mem_nil, or_false] at hu
      rcases hu with rfl | rfl | rfl | rfl | rfl <;> rfl
    · exact .inr ⟨by rw [rdV, Hk.out]; simp only []; rw [if_neg (by decide), if_neg (by decide), if_neg (by decide), if_neg (by decide), if_neg (by decide), Hz.out]; rfl, HR.out⟩
  | some p =>
    obtain ⟨s, l2⟩ := p
    rintro e w5 ⟨rfl, R5, hf5⟩
    have hz' : rdText (200 : Int).toNat l1 = some (s, l2) := hz
    have hsl : s.length ≤ 200 := rdText_le hz
    try rw [hz'] at R5 ⊢
    simp only [Option.map_some, Option.getD_some, Option.isNone_some] at R5 ⊢
    have Hz := hide hz
    have Hsl := hide hsl
    clear hz hz' hsl
    have Bv5 := Bv.fr hf5 hvr
    have Bz5 := Bz.fr hf5 Hne0.out
    have F5a := FrW.trans' hf5 (fun _ _ h => h)
    have yv := Bv5.frozen 2
    have xv := Bv5.cell 2
    have BV := hide Bv5
    have BZ := hide Bz5
    have FW := hide F5a
    have R5h := hide R5
    clear Bv5 Bz5 F5a R5 hf5 Bv Bz FrW RW p0
    go_upto_region 19 with fail
    obtain ⟨W5, hW5⟩ : ∃ W5, w5.setCell ⟨vb, 2, none⟩ (sv s) = W5 := ⟨_, rfl⟩
    have Bv := BV.out.set_ 2 (sv s)
    have Bz := BZ.out.far (p := ⟨vb, 2, none⟩) (by have := Hvz.out; show w.heap.size ≠ vb; omega) (sv s)
    have FrW := FW.out.setCell (p := ⟨vb, 2, none⟩) (.inr (by have := Hvz.out; show w.heap.size ≤ vb; omega)) (sv s)
    have RW := R5h.out.setV BV.out 2 (sv s)
    rw [hW5] at Bv Bz FrW RW
    try rw [hW5]
    clear hW5 BV BZ FW R5h xv yv
    have v0 := Bv.cell 0
    have z0 := Bz.cell 0
    have y0 := Bz.frozen 0
    have v1 := Bv.cell 1
    have z1 := Bz.cell 1
    have y1 := Bz.frozen 1
    have v2 := Bv.cell 2
    have z2 := Bz.cell 2
    have y2 := Bz.frozen 2
    have v3 := Bv.cell 3
    have z3 := Bz.cell 3
    have y3 := Bz.frozen 3
    have v4 := Bv.cell 4
    have z4 := Bz.cell 4
    have y4 := Bz.frozen 4
    have q1 := Bz.set_ 0 (.int .u8 7)
    have q2 := q1.set_ 1 (.int .i64 0)
    have q3 := q2.set_ 2 (sv s)
    have q4 := q3.set_ 3 (.slice none 0 0)
    have q5 := q4.set_ 4 (.slice none 0 0)
    have R1 := RW.setV Bz 0 (.int .u8 7)
    have R2 := R1.setV q1 1 (.int .i64 0)
    have R3 := R2.setV q2 2 (sv s)
    have R4 := R3.setV q3 3 (.slice none 0 0)
    have R5 := R4.setV q4 4 (.slice none 0 0)
    have F5 : Fr (fun k => k = rb) w (((((W5.setCell ⟨w.heap.size, 0, none⟩ (.int .u8 7)).setCell ⟨w.heap.size, 1, none⟩ (.int .i64 0)).setCell ⟨w.heap.size, 2, none⟩ (sv s)).setCell ⟨w.heap.size, 3, none⟩ (.slice none 0 0)).setCell ⟨w.heap.size, 4, none⟩ (.slice none 0 0)) := ((((FrW.setCell (p := ⟨w.heap.size, 0, none⟩) (.inr (Nat.le_refl _)) _).setCell (p := ⟨w.heap.size, 1, none⟩) (.inr (Nat.le_refl _)) _).setCell (p := ⟨w.heap.size, 2, none⟩) (.inr (Nat.le_refl _)) _).setCell (p := ⟨w.heap.size, 3, none⟩) (.inr (Nat.le_refl _)) _).setCell (p := ⟨w.heap.size, 4, none⟩) (.inr (Nat.le_refl _)) _
    have r0 : (((((W5.setCell ⟨w.heap.size, 0, none⟩ (.int .u8 7)).setCell ⟨w.heap.size, 1, none⟩ (.int .i64 0)).setCell ⟨w.heap.size, 2, none⟩ (sv s)).setCell ⟨w.heap.size, 3, none⟩ (.slice none 0 0)).setCell ⟨w.heap.size, 4, none⟩ (.slice none 0 0)).cell? ⟨w.heap.size, 0, none⟩ = some (.int .u8 7) := q5.cell 0
    have r1 : (((((W5.setCell ⟨w.heap.size, 0, none⟩ (.int .u8 7)).setCell ⟨w.heap.size, 1, none⟩ (.int .i64 0)).setCell ⟨w.heap.size, 2, none⟩ (sv s)).setCell ⟨w.heap.size, 3, none⟩ (.slice none 0 0)).setCell ⟨w.heap.size, 4, none⟩ (.slice none 0 0)).cell? ⟨w.heap.size, 1, none⟩ = some (.int .i64 0) := q5.cell 1
    have r2 : (((((W5.setCell ⟨w.heap.size, 0, none⟩ (.int .u8 7)).setCell ⟨w.heap.size, 1, none⟩ (.int .i64 0)).setCell ⟨w.heap.size, 2, none⟩ (sv s)).setCell ⟨w.heap.size, 3, none⟩ (.slice none 0 0)).setCell ⟨w.heap.size, 4, none⟩ (.slice none 0 0)).cell? ⟨w.heap.size, 2, none⟩ = some (sv s) := q5.cell 2
    have r3 : (((((W5.setCell ⟨w.heap.size, 0, none⟩ (.int .u8 7)).setCell ⟨w.heap.size, 1, none⟩ (.int .i64 0)).setCell ⟨w.heap.size, 2, none⟩ (sv s)).setCell ⟨w.heap.size, 3, none⟩ (.slice none 0 0)).setCell ⟨w.heap.size, 4, none⟩ (.slice none 0 0)).cell? ⟨w.heap.size, 3, none⟩ = some (.slice none 0 0) := q5.cell 3
    have r4 : (((((W5.setCell ⟨w.heap.size, 0, none⟩ (.int .u8 7)).setCell ⟨w.heap.size, 1, none⟩ (.int .i64 0)).setCell ⟨w.heap.size, 2, none⟩ (sv s)).setCell ⟨w.heap.size, 3, none⟩ (.slice none 0 0)).setCell ⟨w.heap.size, 4, none⟩ (.slice none 0 0)).cell? ⟨w.heap.size, 4, none⟩ = some (.slice none 0 0) := q5.cell 4
    have Hr := hide (show _ ∧ _ ∧ _ ∧ _ ∧ _ from ⟨r0, r1, r2, r3, r4⟩)
    have H5 := hide F5
    have HR := hide R5
    have HRW := hide RW
    clear q1 q2 q3 q4 q5 R1 R2 R3 R4 R5 F5 r0 r1 r2 r3 r4 Bv Bz FrW RW
    go_wp2
    obtain ⟨r0, r1, r2, r3, r4⟩ := Hr.out
    refine bodyPost_ret (v := .agg #[.int .u8 7, .int .i64 0, sv s, .slice none 0 0, .slice none 0 0]) (by simp [results, Try.results30, go_sem, r0, r1, r2, r3, r4, Result.andThen]) rfl ⟨_, _, _, _, _, rfl, ?_, H5.out, ?_⟩
    · intro u hu
      simp only [List.mem_cons, List.not_mem_nil, or_false] at hu
      rcases hu with rfl | rfl | rfl | rfl | rfl <;> rfl
    · exact .inl ⟨_, _, by rw [rdV, Hk.out]; simp only []; rw [if_neg (by decide), if_neg (by decide), if_neg (by decide), if_neg (by decide), if_neg (by decide), Hz.out]; rfl, scalar_vc _ _ 7 0 s (by omega) (by omega) Hsl.out, HR.out⟩
end Go.Proofs.Yteoimkjocijcjaa

/- Package wire: Reader.value, one kind of value. -/
namespace Go.Proofs.Yteoimkjocijcjaa
open Go.RowKit

set_option maxRecDepth 100000 in
set_option maxHeartbeats 4000000 in
theorem rdv_k8 (d op : Nat) (rb : Nat) (l l1 : List UInt8) (bad : Bool) (w : World) (h : Rd w rb l bad) (hd : op + (d + 1) = 24) (hk : rdUint 8 l = some (8, l1)) :
    Calls Try.prog 30 #[.pointer (some ⟨rb, 0, none⟩), .int .i64 (op : Int)] w (RVPost rb (d + 1) l w) := by
  have za := zeroV
  have ba := buildV
  have hop : op < 24 := by omega
  have h0 : Rd (w.alloc (.cells #[.int .u8 0, .int .i64 0, .string ⟨#[]⟩, .slice none 0 0, .slice none 0 0] 27)) rb l bad := h.fr (F := fun _ => False) ((Fr.refl _ _).alloc _) (fun _ h => h.elim)
  have hb0 := Blk.new w 27 #[.int .u8 0, .int .i64 0, .string ⟨#[]⟩, .slice none 0 0, .slice none 0 0]
  obtain ⟨w0, hw0⟩ : ∃ w0, w.alloc (.cells #[.int .u8 0, .int .i64 0, .string ⟨#[]⟩, .slice none 0 0, .slice none 0 0] 27) = w0 := ⟨_, rfl⟩
  have f0 : Fr (fun k => k = rb) w w0 := by rw [← hw0]; exact (Fr.refl _ _).alloc _
  rw [hw0] at h0 hb0
  have hs0 : w0.heap.size = w.heap.size + 1 := by rw [← hw0]; simp
  have hne0 : w.heap.size ≠ rb := h0.ne hb0
  have hu : Calls Try.prog 29 #[.pointer (some ⟨rb, 0, none⟩), .int .u64 8] w0 (UPost rb .u64 ((rdUint 8 l).map fun x => ((x.1 : Int), x.2)) w0) := ruint_all rb l bad 8 w0 h0 (by omega)
  rw [hk] at hu
  have Hu := hide hu
  have Hb0 := hide hb0
  have F0 := hide f0
  have Hne0 := hide hne0
  have Hs0 := hide hs0
  have Hk := hide hk
  have Hh := hide h
  clear hu hb0 f0 hne0 hs0 h0 hk h hd
  go_enter Try.func30, Try.ntmps30
  go_wp2_with fail
  refine Hu.out.mono ?_
  rintro e w2 ⟨rfl, hr2, hf2⟩
  simp only [Option.map_some, Option.getD_some, Option.isNone_some] at hr2 ⊢
  rw [show (((8 : Nat)) : Int) = 8 from rfl]
  have hb2 := Hb0.out.fr hf2 Hne0.out
  have f2 := F0.out.trans' hf2 (fun _ _ h => h)
  have n2 := Blk.new w2 27 #[.int .u8 0, .int .i64 0, .string ⟨#[]⟩, .slice none 0 0, .slice none 0 0]
  have n3 := Blk.new w2 27 #[.int .u8 8, .int .i64 0, .string ⟨#[]⟩, .slice none 0 0, .slice none 0 0]
  have z0 := n2.cell 0
  have z1 := n2.cell 1
  have z2 := n2.cell 2
  have z3 := n2.cell 3
  have z4 := n2.cell 4
  have y0 := n2.frozen 0
  have y1 := n2.frozen 1
  have y2 := n2.frozen 2
  have y3 := n2.frozen 3
  have y4 := n2.frozen 4
  have p0 := n3.cell 0
  have HB2 := hide hb2
  have F2 := hide f2
  have R2 := hide hr2
  have Hf2 := hide hf2
  clear hb2 f2 hr2 hf2 n2 n3 Hu
  go_upto_region 4 with fail
  obtain ⟨wv, hwv⟩ : ∃ wv, w2.alloc (.cells #[.int .u8 8, .int .i64 0, .string ⟨#[]⟩, .slice none 0 0, .slice none 0 0] 27) = wv := ⟨_, rfl⟩
  have Bv : Blk wv w2.heap.size 27 #[.int .u8 8, .int .i64 0, .string ⟨#[]⟩, .slice none 0 0, .slice none 0 0] := by rw [← hwv]; exact Blk.new _ _ _
  have Bz : Blk wv w.heap.size 27 #[.int .u8 0, .int .i64 0, .string ⟨#[]⟩, .slice none 0 0, .slice none 0 0] := by rw [← hwv]; exact HB2.out.alloc _
  have FrW : Fr (fun k => k = rb) w wv := by rw [← hwv]; exact F2.out.alloc _
  have RW : Rd wv rb l1 false := by rw [← hwv]; exact R2.out.fr (F := fun _ => False) ((Fr.refl _ _).alloc _) (fun _ h => h.elim)
  try rw [hwv]
  rw [hwv] at p0
  have hvz : w.heap.size < w2.heap.size := HB2.out.lt
  obtain ⟨vb, hvb⟩ : ∃ vb, w2.heap.size = vb := ⟨_, rfl⟩
  rw [hvb] at Bv p0 hvz ⊢
  have Hvz := hide hvz
  have hvr : vb ≠ rb := RW.ne Bv
  clear z0 z1 z2 z3 z4 y0 y1 y2 y3 y4 hwv hvb za ba hvz HB2 F2 R2 Hf2 Hb0 F0
  have Ht := hide (rtext_all rb l1 false 200 wv RW (by omega))
  go_wp2_with fail
  refine Ht.out.mono ?_
  clear Ht
  cases hz : rdText 200 l1 with
  | none =>
    rintro e w5 ⟨rfl, R5, hf5⟩
    have hz' : rdText (200 : Int).toNat l1 = none := hz
    try rw [hz'] at R5 ⊢
    simp only [Option.map_none, Option.getD_none, Option.isNone_none] at R5 ⊢
    have Hz := hide hz
    clear hz hz'
    have Bv5 := Bv.fr hf5 hvr
    have Bz5 := Bz.fr hf5 Hne0.out
    have F5a := FrW.trans' hf5 (fun _ _ h => h)
    have yv := Bv5.frozen 2
    have xv := Bv5.cell 2
    have BV := hide Bv5
    have BZ := hide Bz5
    have FW := hide F5a
    have R5h := hide R5
    clear Bv5 Bz5 F5a R5 hf5 Bv Bz FrW RW p0
    go_upto_region 19 with fail
    obtain ⟨W5, hW5⟩ : ∃ W5, w5.setCell ⟨vb, 2, none⟩ (sv []) = W5 := ⟨_, rfl⟩
    have Bv := BV.out.set_ 2 (sv [])
    have Bz := BZ.out.far (p := ⟨vb, 2, none⟩) (by have := Hvz.out; show w.heap.size ≠ vb; omega) (sv [])
    have FrW := FW.out.setCell (p := ⟨vb, 2, none⟩) (.inr (by have := Hvz.out; show w.heap.size ≤ vb; omega)) (sv [])
    have RW := R5h.out.setV BV.out 2 (sv [])
    rw [hW5] at Bv Bz FrW RW
    try rw [hW5]
    clear hW5 BV BZ FW R5h xv yv
    have v0 := Bv.cell 0
    have z0 := Bz.cell 0
    have y0 := Bz.frozen 0
    have v1 := Bv.cell 1
    have z1 := Bz.cell 1
    have y1 := Bz.frozen 1
    have v2 := Bv.cell 2
    have z2 := Bz.cell 2
    have y2 := Bz.frozen 2
    have v3 := Bv.cell 3
    have z3 := Bz.cell 3
    have y3 := Bz.frozen 3
    have v4 := Bv.cell 4
    have z4 := Bz.cell 4
    have y4 := Bz.frozen 4
    have q1 := Bz.set_ 0 (.int .u8 8)
    have q2 := q1.set_ 1 (.int .i64 0)
    have q3 := q2.set_ 2 (sv [])
    have q4 := q3.set_ 3 (.slice none 0 0)
    have q5 := q4.set_ 4 (.slice none 0 0)
    have R1 := RW.setV Bz 0 (.int .u8 8)
    have R2 := R1.setV q1 1 (.int .i64 0)
    have R3 := R2.setV q2 2 (sv [])
    have R4 := R3.setV q3 3 (.slice none 0 0)
    have R5 := R4.setV q4 4 (.slice none 0 0)
    have F5 : Fr (fun k => k = rb) w (((((W5.setCell ⟨w.heap.size, 0, none⟩ (.int .u8 8)).setCell ⟨w.heap.size, 1, none⟩ (.int .i64 0)).setCell ⟨w.heap.size, 2, none⟩ (sv [])).setCell ⟨w.heap.size, 3, none⟩ (.slice none 0 0)).setCell ⟨w.heap.size, 4, none⟩ (.slice none 0 0)) := ((((FrW.setCell (p := ⟨w.heap.size, 0, none⟩) (.inr (Nat.le_refl _)) _).setCell (p := ⟨w.heap.size, 1, none⟩) (.inr (Nat.le_refl _)) _).setCell (p := ⟨w.heap.size, 2, none⟩) (.inr (Nat.le_refl _)) _).setCell (p := ⟨w.heap.size, 3, none⟩) (.inr (Nat.le_refl _)) _).setCell (p := ⟨w.heap.size, 4, none⟩) (.inr (Nat.le_refl _)) _
    have r0 : (((((W5.setCell ⟨w.heap.size, 0, none⟩ (.int .u8 8)).setCell ⟨w.heap.size, 1, none⟩ (.int .i64 0)).setCell ⟨w.heap.size, 2, none⟩ (sv [])).setCell ⟨w.heap.size, 3, none⟩ (.slice none 0 0)).setCell ⟨w.heap.size, 4, none⟩ (.slice none 0 0)).cell? ⟨w.heap.size, 0, none⟩ = some (.int .u8 8) := q5.cell 0
    have r1 : (((((W5.setCell ⟨w.heap.size, 0, none⟩ (.int .u8 8)).setCell ⟨w.heap.size, 1, none⟩ (.int .i64 0)).setCell ⟨w.heap.size, 2, none⟩ (sv [])).setCell ⟨w.heap.size, 3, none⟩ (.slice none 0 0)).setCell ⟨w.heap.size, 4, none⟩ (.slice none 0 0)).cell? ⟨w.heap.size, 1, none⟩ = some (.int .i64 0) := q5.cell 1
    have r2 : (((((W5.setCell ⟨w.heap.size, 0, none⟩ (.int .u8 8)).setCell ⟨w.heap.size, 1, none⟩ (.int .i64 0)).setCell ⟨w.heap.size, 2, none⟩ (sv [])).setCell ⟨w.heap.size, 3, none⟩ (.slice none 0 0)).setCell ⟨w.heap.size, 4, none⟩ (.slice none 0 0)).cell? ⟨w.heap.size, 2, none⟩ = some (sv []) := q5.cell 2
    have r3 : (((((W5.setCell ⟨w.heap.size, 0, none⟩ (.int .u8 8)).setCell ⟨w.heap.size, 1, none⟩ (.int .i64 0)).setCell ⟨w.heap.size, 2, none⟩ (sv [])).setCell ⟨w.heap.size, 3, none⟩ (.slice none 0 0)).setCell ⟨w.heap.size, 4, none⟩ (.slice none 0 0)).cell? ⟨w.heap.size, 3, none⟩ = some (.slice none 0 0) := q5.cell 3
    have r4 : (((((W5.setCell ⟨w.heap.size, 0, none⟩ (.int .u8 8)).setCell ⟨w.heap.size, 1, none⟩ (.int .i64 0)).setCell ⟨w.heap.size, 2, none⟩ (sv [])).setCell ⟨w.heap.size, 3, none⟩ (.slice none 0 0)).setCell ⟨w.heap.size, 4, none⟩ (.slice none 0 0)).cell? ⟨w.heap.size, 4, none⟩ = some (.slice none 0 0) := q5.cell 4
    have Hr := hide (show _ ∧ _ ∧ _ ∧ _ ∧ _ from ⟨r0, r1, r2, r3, r4⟩)
    have H5 := hide F5
    have HR := hide R5
    have HRW := hide RW
    clear q1 q2 q3 q4 q5 R1 R2 R3 R4 R5 F5 r0 r1 r2 r3 r4 Bv Bz FrW RW
    go_wp2
    obtain ⟨r0, r1, r2, r3, r4⟩ := Hr.out
    refine bodyPost_ret (v := .agg #[.int .u8 8, .int .i64 0, sv [], .slice none 0 0, .slice none 0 0]) (by simp [results, Try.results30, go_sem, r0, r1, r2, r3, r4, Result.andThen]) rfl ⟨_, _, _, _, _, rfl, ?_, H5.out, ?_⟩
    · intro u hu
      simp only [List.mem_cons, List.not_mem_nil, or_false] at hu
      rcases hu with rfl | rfl | rfl | rfl | rfl <;> rfl
    · exact .inr ⟨by rw [rdV, Hk.out]; simp only []; rw [if_neg (by decide), if_neg (by decide), if_neg (by decide), if_neg (by decide), if_neg (by decide), Hz.out]; rfl, HR.out⟩
  | some p =>
    obtain ⟨s, l2⟩ := p
    rintro e w5 ⟨rfl, R5, hf5⟩
    have hz' : rdText (200 : Int).toNat l1 = some (s, l2) := hz
    have hsl : s.length ≤ 200 := rdText_le hz
    try rw [hz'] at R5 ⊢
    simp only [Option.map_some, Option.getD_some, Option.isNone_some] at R5 ⊢
    have Hz := hide hz
    have Hsl := hide hsl
    clear hz hz' hsl
    have Bv5 := Bv.fr hf5 hvr
    have Bz5 := Bz.fr hf5 Hne0.out
    have F5a := FrW.trans' hf5 (fun _ _ h => h)
    have yv := Bv5.frozen 2
    have xv := Bv5.cell 2
    have BV := hide Bv5
    have BZ := hide Bz5
    have FW := hide F5a
    have R5h := hide R5
    clear Bv5 Bz5 F5a R5 hf5 Bv Bz FrW RW p0
    go_upto_region 19 with fail
    obtain ⟨W5, hW5⟩ : ∃ W5, w5.setCell ⟨vb, 2, none⟩ (sv s) = W5 := ⟨_, rfl⟩
    have Bv := BV.out.set_ 2 (sv s)
    have Bz := BZ.out.far (p := ⟨vb, 2, none⟩) (by have := Hvz.out; show w.heap.size ≠ vb; omega) (sv s)
    have FrW := FW.out.setCell (p := ⟨vb, 2, none⟩) (.inr (by have := Hvz.out; show w.heap.size ≤ vb; omega)) (sv s)
    have RW := R5h.out.setV BV.out 2 (sv s)
    rw [hW5] at Bv Bz FrW RW
    try rw [hW5]
    clear hW5 BV BZ FW R5h xv yv
    have v0 := Bv.cell 0
    have z0 := Bz.cell 0
    have y0 := Bz.frozen 0
    have v1 := Bv.cell 1
    have z1 := Bz.cell 1
    have y1 := Bz.frozen 1
    have v2 := Bv.cell 2
    have z2 := Bz.cell 2
    have y2 := Bz.frozen 2
    have v3 := Bv.cell 3
    have z3 := Bz.cell 3
    have y3 := Bz.frozen 3
    have v4 := Bv.cell 4
    have z4 := Bz.cell 4
    have y4 := Bz.frozen 4
    have q1 := Bz.set_ 0 (.int .u8 8)
    have q2 := q1.set_ 1 (.int .i64 0)
    have q3 := q2.set_ 2 (sv s)
    have q4 := q3.set_ 3 (.slice none 0 0)
    have q5 := q4.set_ 4 (.slice none 0 0)
    have R1 := RW.setV Bz 0 (.int .u8 8)
    have R2 := R1.setV q1 1 (.int .i64 0)
    have R3 := R2.setV q2 2 (sv s)
    have R4 := R3.setV q3 3 (.slice none 0 0)
    have R5 := R4.setV q4 4 (.slice none 0 0)
    have F5 : Fr (fun k => k = rb) w (((((W5.setCell ⟨w.heap.size, 0, none⟩ (.int .u8 8)).setCell ⟨w.heap.size, 1, none⟩ (.int .i64 0)).setCell ⟨w.heap.size, 2, none⟩ (sv s)).setCell ⟨w.heap.size, 3, none⟩ (.slice none 0 0)).setCell ⟨w.heap.size, 4, none⟩ (.slice none 0 0)) := ((((FrW.setCell (p := ⟨w.heap.size, 0, none⟩) (.inr (Nat.le_refl _)) _).setCell (p := ⟨w.heap.size, 1, none⟩) (.inr (Nat.le_refl _)) _).setCell (p := ⟨w.heap.size, 2, none⟩) (.inr (Nat.le_refl _)) _).setCell (p := ⟨w.heap.size, 3, none⟩) (.inr (Nat.le_refl _)) _).setCell (p := ⟨w.heap.size, 4, none⟩) (.inr (Nat.le_refl _)) _
    have r0 : (((((W5.setCell ⟨w.heap.size, 0, none⟩ (.int .u8 8)).setCell ⟨w.heap.size, 1, none⟩ (.int .i64 0)).setCell ⟨w.heap.size, 2, none⟩ (sv s)).setCell ⟨w.heap.size, 3, none⟩ (.slice none 0 0)).setCell ⟨w.heap.size, 4, none⟩ (.slice none 0 0)).cell? ⟨w.heap.size, 0, none⟩ = some (.int .u8 8) := q5.cell 0
    have r1 : (((((W5.setCell ⟨w.heap.size, 0, none⟩ (.int .u8 8)).setCell ⟨w.heap.size, 1, none⟩ (.int .i64 0)).setCell ⟨w.heap.size, 2, none⟩ (sv s)).setCell ⟨w.heap.size, 3, none⟩ (.slice none 0 0)).setCell ⟨w.heap.size, 4, none⟩ (.slice none 0 0)).cell? ⟨w.heap.size, 1, none⟩ = some (.int .i64 0) := q5.cell 1
    have r2 : (((((W5.setCell ⟨w.heap.size, 0, none⟩ (.int .u8 8)).setCell ⟨w.heap.size, 1, none⟩ (.int .i64 0)).setCell ⟨w.heap.size, 2, none⟩ (sv s)).setCell ⟨w.heap.size, 3, none⟩ (.slice none 0 0)).setCell ⟨w.heap.size, 4, none⟩ (.slice none 0 0)).cell? ⟨w.heap.size, 2, none⟩ = some (sv s) := q5.cell 2
    have r3 : (((((W5.setCell ⟨w.heap.size, 0, none⟩ (.int .u8 8)).setCell ⟨w.heap.size, 1, none⟩ (.int .i64 0)).setCell ⟨w.heap.size, 2, none⟩ (sv s)).setCell ⟨w.heap.size, 3, none⟩ (.slice none 0 0)).setCell ⟨w.heap.size, 4, none⟩ (.slice none 0 0)).cell? ⟨w.heap.size, 3, none⟩ = some (.slice none 0 0) := q5.cell 3
    have r4 : (((((W5.setCell ⟨w.heap.size, 0, none⟩ (.int .u8 8)).setCell ⟨w.heap.size, 1, none⟩ (.int .i64 0)).setCell ⟨w.heap.size, 2, none⟩ (sv s)).setCell ⟨w.heap.size, 3, none⟩ (.slice none 0 0)).setCell ⟨w.heap.size, 4, none⟩ (.slice none 0 0)).cell? ⟨w.heap.size, 4, none⟩ = some (.slice none 0 0) := q5.cell 4
    have Hr := hide (show _ ∧ _ ∧ _ ∧ _ ∧ _ from ⟨r0, r1, r2, r3, r4⟩)
    have H5 := hide F5
    have HR := hide R5
    have HRW := hide RW
    clear q1 q2 q3 q4 q5 R1 R2 R3 R4 R5 F5 r0 r1 r2 r3 r4 Bv Bz FrW RW
    go_wp2
    obtain ⟨r0, r1, r2, r3, r4⟩ := Hr.out
    refine bodyPost_ret (v := .agg #[.int .u8 8, .int .i64 0, sv s, .slice none 0 0, .slice none 0 0]) (by simp [results, Try.results30, go_sem, r0, r1, r2, r3, r4, Result.andThen]) rfl ⟨_, _, _, _, _, rfl, ?_, H5.out, ?_⟩
    · intro u hu
      simp only [List.mem_cons, List.not_mem_nil, or_false] at hu
      rcases hu with rfl | rfl | rfl | rfl | rfl <;> rfl
    · exact .inl ⟨_, _, by rw [rdV, Hk.out]; simp only []; rw [if_neg (by decide), if_neg (by decide), if_neg (by decide), if_neg (by decide), if_neg (by decide), Hz.out]; rfl, scalar_vc _ _ 8 0 s (by omega) (by omega) Hsl.out, HR.out⟩
end Go.Proofs.Yteoimkjocijcjaa

/- Package wire: Reader.value, one kind of value. -/
namespace Go.Proofs.Yteoimkjocijcjaa
open Go.RowKit

set_option maxRecDepth 100000 in
set_option maxHeartbeats 4000000 in
theorem rdv_none (d op : Nat) (rb : Nat) (l : List UInt8) (bad : Bool) (w : World) (h : Rd w rb l bad) (hd : op + (d + 1) = 24) (hk : rdUint 8 l = none) :
    Calls Try.prog 30 #[.pointer (some ⟨rb, 0, none⟩), .int .i64 (op : Int)] w (RVPost rb (d + 1) l w) := by
  have za := zeroV
  have ba := buildV
  have hop : op < 24 := by omega
  have h0 : Rd (w.alloc (.cells #[.int .u8 0, .int .i64 0, .string ⟨#[]⟩, .slice none 0 0, .slice none 0 0] 27)) rb l bad := h.fr (F := fun _ => False) ((Fr.refl _ _).alloc _) (fun _ h => h.elim)
  have hb0 := Blk.new w 27 #[.int .u8 0, .int .i64 0, .string ⟨#[]⟩, .slice none 0 0, .slice none 0 0]
  obtain ⟨w0, hw0⟩ : ∃ w0, w.alloc (.cells #[.int .u8 0, .int .i64 0, .string ⟨#[]⟩, .slice none 0 0, .slice none 0 0] 27) = w0 := ⟨_, rfl⟩
  have f0 : Fr (fun k => k = rb) w w0 := by rw [← hw0]; exact (Fr.refl _ _).alloc _
  rw [hw0] at h0 hb0
  have hs0 : w0.heap.size = w.heap.size + 1 := by rw [← hw0]; simp
  have hne0 : w.heap.size ≠ rb := h0.ne hb0
  have hu : Calls Try.prog 29 #[.pointer (some ⟨rb, 0, none⟩), .int .u64 8] w0 (UPost rb .u64 ((rdUint 8 l).map fun x => ((x.1 : Int), x.2)) w0) := ruint_all rb l bad 8 w0 h0 (by omega)
  rw [hk] at hu
  have Hu := hide hu
  have Hb0 := hide hb0
  have F0 := hide f0
  have Hne0 := hide hne0
  have Hs0 := hide hs0
  have Hk := hide hk
  have Hh := hide h
  clear hu hb0 f0 hne0 hs0 h0 hk h hd
  go_enter Try.func30, Try.ntmps30
  go_wp2_with fail
  refine Hu.out.mono ?_
  rintro e w2 ⟨rfl, hr2, hf2⟩
  simp only [Option.map_none, Option.getD_none, Option.isNone_none] at hr2 ⊢
  have hb2 := Hb0.out.fr hf2 Hne0.out
  have f2 := F0.out.trans' hf2 (fun _ _ h => h)
  have n2 := Blk.new w2 27 #[.int .u8 0, .int .i64 0, .string ⟨#[]⟩, .slice none 0 0, .slice none 0 0]
  have n3 := Blk.new w2 27 #[.int .u8 0, .int .i64 0, .string ⟨#[]⟩, .slice none 0 0, .slice none 0 0]
  have z0 := n2.cell 0
  have z1 := n2.cell 1
  have z2 := n2.cell 2
  have z3 := n2.cell 3
  have z4 := n2.cell 4
  have y0 := n2.frozen 0
  have y1 := n2.frozen 1
  have y2 := n2.frozen 2
  have y3 := n2.frozen 3
  have y4 := n2.frozen 4
  have p0 := n3.cell 0
  have HB2 := hide hb2
  have F2 := hide f2
  have R2 := hide hr2
  have Hf2 := hide hf2
  clear hb2 f2 hr2 hf2 n2 n3 Hu
  go_upto_region 4 with fail
  obtain ⟨wv, hwv⟩ : ∃ wv, w2.alloc (.cells #[.int .u8 0, .int .i64 0, .string ⟨#[]⟩, .slice none 0 0, .slice none 0 0] 27) = wv := ⟨_, rfl⟩
  have Bv : Blk wv w2.heap.size 27 #[.int .u8 0, .int .i64 0, .string ⟨#[]⟩, .slice none 0 0, .slice none 0 0] := by rw [← hwv]; exact Blk.new _ _ _
  have Bz : Blk wv w.heap.size 27 #[.int .u8 0, .int .i64 0, .string ⟨#[]⟩, .slice none 0 0, .slice none 0 0] := by rw [← hwv]; exact HB2.out.alloc _
  have FrW : Fr (fun k => k = rb) w wv := by rw [← hwv]; exact F2.out.alloc _
  have RW : Rd wv rb [] true := by rw [← hwv]; exact R2.out.fr (F := fun _ => False) ((Fr.refl _ _).alloc _) (fun _ h => h.elim)
  try rw [hwv]
  rw [hwv] at p0
  have hvz : w.heap.size < w2.heap.size := HB2.out.lt
  obtain ⟨vb, hvb⟩ : ∃ vb, w2.heap.size = vb := ⟨_, rfl⟩
  rw [hvb] at Bv p0 hvz ⊢
  have Hvz := hide hvz
  have hvr : vb ≠ rb := RW.ne Bv
  clear z0 z1 z2 z3 z4 y0 y1 y2 y3 y4 hwv hvb za ba hvz HB2 F2 R2 Hf2 Hb0 F0
  clear p0
  have v0 := Bv.cell 0
  have z0 := Bz.cell 0
  have y0 := Bz.frozen 0
  have v1 := Bv.cell 1
  have z1 := Bz.cell 1
  have y1 := Bz.frozen 1
  have v2 := Bv.cell 2
  have z2 := Bz.cell 2
  have y2 := Bz.frozen 2
  have v3 := Bv.cell 3
  have z3 := Bz.cell 3
  have y3 := Bz.frozen 3
  have v4 := Bv.cell 4
  have z4 := Bz.cell 4
  have y4 := Bz.frozen 4
  have q1 := Bz.set_ 0 (.int .u8 0)
  have q2 := q1.set_ 1 (.int .i64 0)
  have q3 := q2.set_ 2 (.string ⟨#[]⟩)
  have q4 := q3.set_ 3 (.slice none 0 0)
  have q5 := q4.set_ 4 (.slice none 0 0)
  have R1 := RW.setV Bz 0 (.int .u8 0)
  have R2 := R1.setV q1 1 (.int .i64 0)
  have R3 := R2.setV q2 2 (.string ⟨#[]⟩)
  have R4 := R3.setV q3 3 (.slice none 0 0)
  have R5 := R4.setV q4 4 (.slice none 0 0)
  have F5 : Fr (fun k => k = rb) w (((((wv.setCell ⟨w.heap.size, 0, none⟩ (.int .u8 0)).setCell ⟨w.heap.size, 1, none⟩ (.int .i64 0)).setCell ⟨w.heap.size, 2, none⟩ (.string ⟨#[]⟩)).setCell ⟨w.heap.size, 3, none⟩ (.slice none 0 0)).setCell ⟨w.heap.size, 4, none⟩ (.slice none 0 0)) := ((((FrW.setCell (p := ⟨w.heap.size, 0, none⟩) (.inr (Nat.le_refl _)) _).setCell (p := ⟨w.heap.size, 1, none⟩) (.inr (Nat.le_refl _)) _).setCell (p := ⟨w.heap.size, 2, none⟩) (.inr (Nat.le_refl _)) _).setCell (p := ⟨w.heap.size, 3, none⟩) (.inr (Nat.le_refl _)) _).setCell (p := ⟨w.heap.size, 4, none⟩) (.inr (Nat.le_refl _)) _
  have r0 : (((((wv.setCell ⟨w.heap.size, 0, none⟩ (.int .u8 0)).setCell ⟨w.heap.size, 1, none⟩ (.int .i64 0)).setCell ⟨w.heap.size, 2, none⟩ (.string ⟨#[]⟩)).setCell ⟨w.heap.size, 3, none⟩ (.slice none 0 0)).setCell ⟨w.heap.size, 4, none⟩ (.slice none 0 0)).cell? ⟨w.heap.size, 0, none⟩ = some (.int .u8 0) := q5.cell 0
  have r1 : (((((wv.setCell ⟨w.heap.size, 0, none⟩ (.int .u8 0)).setCell ⟨w.heap.size, 1, none⟩ (.int .i64 0)).setCell ⟨w.heap.size, 2, none⟩ (.string ⟨#[]⟩)).setCell ⟨w.heap.size, 3, none⟩ (.slice none 0 0)).setCell ⟨w.heap.size, 4, none⟩ (.slice none 0 0)).cell? ⟨w.heap.size, 1, none⟩ = some (.int .i64 0) := q5.cell 1
  have r2 : (((((wv.setCell ⟨w.heap.size, 0, none⟩ (.int .u8 0)).setCell ⟨w.heap.size, 1, none⟩ (.int .i64 0)).setCell ⟨w.heap.size, 2, none⟩ (.string ⟨#[]⟩)).setCell ⟨w.heap.size, 3, none⟩ (.slice none 0 0)).setCell ⟨w.heap.size, 4, none⟩ (.slice none 0 0)).cell? ⟨w.heap.size, 2, none⟩ = some (.string ⟨#[]⟩) := q5.cell 2
  have r3 : (((((wv.setCell ⟨w.heap.size, 0, none⟩ (.int .u8 0)).setCell ⟨w.heap.size, 1, none⟩ (.int .i64 0)).setCell ⟨w.heap.size, 2, none⟩ (.string ⟨#[]⟩)).setCell ⟨w.heap.size, 3, none⟩ (.slice none 0 0)).setCell ⟨w.heap.size, 4, none⟩ (.slice none 0 0)).cell? ⟨w.heap.size, 3, none⟩ = some (.slice none 0 0) := q5.cell 3
  have r4 : (((((wv.setCell ⟨w.heap.size, 0, none⟩ (.int .u8 0)).setCell ⟨w.heap.size, 1, none⟩ (.int .i64 0)).setCell ⟨w.heap.size, 2, none⟩ (.string ⟨#[]⟩)).setCell ⟨w.heap.size, 3, none⟩ (.slice none 0 0)).setCell ⟨w.heap.size, 4, none⟩ (.slice none 0 0)).cell? ⟨w.heap.size, 4, none⟩ = some (.slice none 0 0) := q5.cell 4
  have Hr := hide (show _ ∧ _ ∧ _ ∧ _ ∧ _ from ⟨r0, r1, r2, r3, r4⟩)
  have H5 := hide F5
  have HR := hide R5
  have HRW := hide RW
  clear q1 q2 q3 q4 q5 R1 R2 R3 R4 R5 F5 r0 r1 r2 r3 r4 Bv Bz FrW RW
  go_wp2
  obtain ⟨r0, r1, r2, r3, r4⟩ := Hr.out
  refine bodyPost_ret (v := .agg #[.int .u8 0, .int .i64 0, .string ⟨#[]⟩, .slice none 0 0, .slice none 0 0]) (by simp [results, Try.results30, go_sem, r0, r1, r2, r3, r4, Result.andThen]) rfl ⟨_, _, _, _, _, rfl, ?_, H5.out, ?_⟩
  · intro u hu
    simp only [List.mem_cons, List.not_mem_nil, or_false] at hu
    rcases hu with rfl | rfl | rfl | rfl | rfl <;> rfl
  · exact .inr ⟨by rw [rdV, Hk.out], HR.out⟩
end Go.Proofs.Yteoimkjocijcjaa

/- Package wire: Reader.value, one kind of value. -/
namespace Go.Proofs.Yteoimkjocijcjaa
open Go.RowKit

set_option maxRecDepth 100000 in
set_option maxHeartbeats 4000000 in
theorem rdv_deep (op : Nat) (rb : Nat) (l : List UInt8) (bad : Bool) (w : World) (h : Rd w rb l bad) (hop : op = 24) :
    Calls Try.prog 30 #[.pointer (some ⟨rb, 0, none⟩), .int .i64 (op : Int)] w (RVPost rb 0 l w) := by
  have za := zeroV
  have ba := buildV
  subst hop
  have h0 : Rd (w.alloc (.cells #[.int .u8 0, .int .i64 0, .string ⟨#[]⟩, .slice none 0 0, .slice none 0 0] 27)) rb l bad := h.fr (F := fun _ => False) ((Fr.refl _ _).alloc _) (fun _ h => h.elim)
  have hb0 := Blk.new w 27 #[.int .u8 0, .int .i64 0, .string ⟨#[]⟩, .slice none 0 0, .slice none 0 0]
  obtain ⟨w0, hw0⟩ : ∃ w0, w.alloc (.cells #[.int .u8 0, .int .i64 0, .string ⟨#[]⟩, .slice none 0 0, .slice none 0 0] 27) = w0 := ⟨_, rfl⟩
  have f0 : Fr (fun k => k = rb) w w0 := by rw [← hw0]; exact (Fr.refl _ _).alloc _
  rw [hw0] at h0 hb0
  have hs0 : w0.heap.size = w.heap.size + 1 := by rw [← hw0]; simp
  have hne0 : w.heap.size ≠ rb := h0.ne hb0
  have Hfl := hide (rfail_any rb l bad w0 h0)
  have Hb0 := hide hb0
  have F0 := hide f0
  have Hne0 := hide hne0
  have Hs0 := hide hs0
  have Hh := hide h
  clear hb0 f0 hne0 hs0 h0 h
  go_enter Try.func30, Try.ntmps30
  go_wp2_with fail
  refine Hfl.out.mono ?_
  rintro e w1 ⟨rfl, hr1, hf1⟩
  have Hu := hide (ruint_all rb [] true 8 w1 hr1 (by omega))
  have Hb1 := hide (Hb0.out.fr hf1 Hne0.out)
  have F1 := hide (F0.out.trans' hf1 (fun _ _ h => h))
  clear Hb0 F0 Hfl hr1 hf1
  have Hb0 := Hb1
  have F0 := F1
  clear Hb1 F1
  go_wp2_with fail
  refine Hu.out.mono ?_
  rintro e w2 ⟨rfl, hr2, hf2⟩
  try rw [show rdUint 8 [] = none from rfl] at hr2 ⊢
  simp only [Option.map_none, Option.getD_none, Option.isNone_none] at hr2 ⊢
  have hb2 := Hb0.out.fr hf2 Hne0.out
  have f2 := F0.out.trans' hf2 (fun _ _ h => h)
  have n2 := Blk.new w2 27 #[.int .u8 0, .int .i64 0, .string ⟨#[]⟩, .slice none 0 0, .slice none 0 0]
  have n3 := Blk.new w2 27 #[.int .u8 0, .int .i64 0, .string ⟨#[]⟩, .slice none 0 0, .slice none 0 0]
  have z0 := n2.cell 0
  have z1 := n2.cell 1
  have z2 := n2.cell 2
  have z3 := n2.cell 3
  have z4 := n2.cell 4
  have y0 := n2.frozen 0
  have y1 := n2.frozen 1
  have y2 := n2.frozen 2
  have y3 := n2.frozen 3
  have y4 := n2.frozen 4
  have p0 := n3.cell 0
  have HB2 := hide hb2
  have F2 := hide f2
  have R2 := hide hr2
  have Hf2 := hide hf2
  clear hb2 f2 hr2 hf2 n2 n3 Hu
  go_upto_region 4 with fail
  obtain ⟨wv, hwv⟩ : ∃ wv, w2.alloc (.cells #[.int .u8 0, .int .i64 0, .string ⟨#[]⟩, .slice none 0 0, .slice none 0 0] 27) = wv := ⟨_, rfl⟩
  have Bv : Blk wv w2.heap.size 27 #[.int .u8 0, .int .i64 0, .string ⟨#[]⟩, .slice none 0 0, .slice none 0 0] := by rw [← hwv]; exact Blk.new _ _ _
  have Bz : Blk wv w.heap.size 27 #[.int .u8 0, .int .i64 0, .string ⟨#[]⟩, .slice none 0 0, .slice none 0 0] := by rw [← hwv]; exact HB2.out.alloc _
  have FrW : Fr (fun k => k = rb) w wv := by rw [← hwv]; exact F2.out.alloc _
  have RW : Rd wv rb [] true := by rw [← hwv]; exact R2.out.fr (F := fun _ => False) ((Fr.refl _ _).alloc _) (fun _ h => h.elim)
  try rw [hwv]
  rw [hwv] at p0
  have hvz : w.heap.size < w2.heap.size := HB2.out.lt
  obtain ⟨vb, hvb⟩ : ∃ vb, w2.heap.size = vb := ⟨_, rfl⟩
  rw [hvb] at Bv p0 hvz ⊢
  have Hvz := hide hvz
  have hvr : vb ≠ rb := RW.ne Bv
  clear z0 z1 z2 z3 z4 y0 y1 y2 y3 y4 hwv hvb za ba hvz HB2 F2 R2 Hf2 Hb0 F0
  clear p0
  have v0 := Bv.cell 0
  have z0 := Bz.cell 0
  have y0 := Bz.frozen 0
  have v1 := Bv.cell 1
  have z1 := Bz.cell 1
  have y1 := Bz.frozen 1
  have v2 := Bv.cell 2
  have z2 := Bz.cell 2
  have y2 := Bz.frozen 2
  have v3 := Bv.cell 3
  have z3 := Bz.cell 3
  have y3 := Bz.frozen 3
  have v4 := Bv.cell 4
  have z4 := Bz.cell 4
  have y4 := Bz.frozen 4
  have q1 := Bz.set_ 0 (.int .u8 0)
  have q2 := q1.set_ 1 (.int .i64 0)
  have q3 := q2.set_ 2 (.string ⟨#[]⟩)
  have q4 := q3.set_ 3 (.slice none 0 0)
  have q5 := q4.set_ 4 (.slice none 0 0)
  have R1 := RW.setV Bz 0 (.int .u8 0)
  have R2 := R1.setV q1 1 (.int .i64 0)
  have R3 := R2.setV q2 2 (.string ⟨#[]⟩)
  have R4 := R3.setV q3 3 (.slice none 0 0)
  have R5 := R4.setV q4 4 (.slice none 0 0)
  have F5 : Fr (fun k => k = rb) w (((((wv.setCell ⟨w.heap.size, 0, none⟩ (.int .u8 0)).setCell ⟨w.heap.size, 1, none⟩ (.int .i64 0)).setCell ⟨w.heap.size, 2, none⟩ (.string ⟨#[]⟩)).setCell ⟨w.heap.size, 3, none⟩ (.slice none 0 0)).setCell ⟨w.heap.size, 4, none⟩ (.slice none 0 0)) := ((((FrW.setCell (p := ⟨w.heap.size, 0, none⟩) (.inr (Nat.le_refl _)) _).setCell (p := ⟨w.heap.size, 1, none⟩) (.inr (Nat.le_refl _)) _).setCell (p := ⟨w.heap.size, 2, none⟩) (.inr (Nat.le_refl _)) _).setCell (p := ⟨w.heap.size, 3, none⟩) (.inr (Nat.le_refl _)) _).setCell (p := ⟨w.heap.size, 4, none⟩) (.inr (Nat.le_refl _)) _
  have r0 : (((((wv.setCell ⟨w.heap.size, 0, none⟩ (.int .u8 0)).setCell ⟨w.heap.size, 1, none⟩ (.int .i64 0)).setCell ⟨w.heap.size, 2, none⟩ (.string ⟨#[]⟩)).setCell ⟨w.heap.size, 3, none⟩ (.slice none 0 0)).setCell ⟨w.heap.size, 4, none⟩ (.slice none 0 0)).cell? ⟨w.heap.size, 0, none⟩ = some (.int .u8 0) := q5.cell 0
  have r1 : (((((wv.setCell ⟨w.heap.size, 0, none⟩ (.int .u8 0)).setCell ⟨w.heap.size, 1, none⟩ (.int .i64 0)).setCell ⟨w.heap.size, 2, none⟩ (.string ⟨#[]⟩)).setCell ⟨w.heap.size, 3, none⟩ (.slice none 0 0)).setCell ⟨w.heap.size, 4, none⟩ (.slice none 0 0)).cell? ⟨w.heap.size, 1, none⟩ = some (.int .i64 0) := q5.cell 1
  have r2 : (((((wv.setCell ⟨w.heap.size, 0, none⟩ (.int .u8 0)).setCell ⟨w.heap.size, 1, none⟩ (.int .i64 0)).setCell ⟨w.heap.size, 2, none⟩ (.string ⟨#[]⟩)).setCell ⟨w.heap.size, 3, none⟩ (.slice none 0 0)).setCell ⟨w.heap.size, 4, none⟩ (.slice none 0 0)).cell? ⟨w.heap.size, 2, none⟩ = some (.string ⟨#[]⟩) := q5.cell 2
  have r3 : (((((wv.setCell ⟨w.heap.size, 0, none⟩ (.int .u8 0)).setCell ⟨w.heap.size, 1, none⟩ (.int .i64 0)).setCell ⟨w.heap.size, 2, none⟩ (.string ⟨#[]⟩)).setCell ⟨w.heap.size, 3, none⟩ (.slice none 0 0)).setCell ⟨w.heap.size, 4, none⟩ (.slice none 0 0)).cell? ⟨w.heap.size, 3, none⟩ = some (.slice none 0 0) := q5.cell 3
  have r4 : (((((wv.setCell ⟨w.heap.size, 0, none⟩ (.int .u8 0)).setCell ⟨w.heap.size, 1, none⟩ (.int .i64 0)).setCell ⟨w.heap.size, 2, none⟩ (.string ⟨#[]⟩)).setCell ⟨w.heap.size, 3, none⟩ (.slice none 0 0)).setCell ⟨w.heap.size, 4, none⟩ (.slice none 0 0)).cell? ⟨w.heap.size, 4, none⟩ = some (.slice none 0 0) := q5.cell 4
  have Hr := hide (show _ ∧ _ ∧ _ ∧ _ ∧ _ from ⟨r0, r1, r2, r3, r4⟩)
  have H5 := hide F5
  have HR := hide R5
  have HRW := hide RW
  clear q1 q2 q3 q4 q5 R1 R2 R3 R4 R5 F5 r0 r1 r2 r3 r4 Bv Bz FrW RW
  go_wp2
  obtain ⟨r0, r1, r2, r3, r4⟩ := Hr.out
  refine bodyPost_ret (v := .agg #[.int .u8 0, .int .i64 0, .string ⟨#[]⟩, .slice none 0 0, .slice none 0 0]) (by simp [results, Try.results30, go_sem, r0, r1, r2, r3, r4, Result.andThen]) rfl ⟨_, _, _, _, _, rfl, ?_, H5.out, ?_⟩
  · intro u hu
    simp only [List.mem_cons, List.not_mem_nil, or_false] at hu
    rcases hu with rfl | rfl | rfl | rfl | rfl <;> rfl
  · exact .inr ⟨by rw [rdV], HR.out⟩
end Go.Proofs.Yteoimkjocijcjaa

/- Package wire: Reader.value, one kind of value. -/
namespace Go.Proofs.Yteoimkjocijcjaa
open Go.RowKit

theorem rdE5 (d : Nat) (l : List UInt8) : ((rdUint 200 l).bind fun x => (rdL d x.1 x.2).map fun y => (V.mk 5 0 [] [] y.1, y.2)) = (rdE d 5 l).map fun y => (V.mk 5 0 [] y.1 y.2.1, y.2.2) := by
  unfold rdE rdS
  cases rdUint 200 l with
  | none => rfl
  | some x => simp only [Option.bind_some]; cases rdL d x.1 x.2 <;> simp

set_option maxRecDepth 100000 in
set_option maxHeartbeats 4000000 in
theorem rdv_k5 (d op : Nat) (rb : Nat) (l l1 : List UInt8) (bad : Bool) (w : World) (h : Rd w rb l bad) (hd : op + (d + 1) = 24) (hk : rdUint 8 l = some (5, l1)) (ih : ∀ (l : List UInt8) (bad : Bool) (w : World), Rd w rb l bad → Calls Try.prog 30 #[.pointer (some ⟨rb, 0, none⟩), .int .i64 ((op + 1 : Nat) : Int)] w (RVPost rb d l w)) :
    Calls Try.prog 30 #[.pointer (some ⟨rb, 0, none⟩), .int .i64 (op : Int)] w (RVPost rb (d + 1) l w) := by
  have Hih := hide ih
  clear ih
  have Hd := hide hd
  have za := zeroV
  have ba := buildV
  have hop : op < 24 := by omega
  have h0 : Rd (w.alloc (.cells #[.int .u8 0, .int .i64 0, .string ⟨#[]⟩, .slice none 0 0, .slice none 0 0] 27)) rb l bad := h.fr (F := fun _ => False) ((Fr.refl _ _).alloc _) (fun _ h => h.elim)
  have hb0 := Blk.new w 27 #[.int .u8 0, .int .i64 0, .string ⟨#[]⟩, .slice none 0 0, .slice none 0 0]
  obtain ⟨w0, hw0⟩ : ∃ w0, w.alloc (.cells #[.int .u8 0, .int .i64 0, .string ⟨#[]⟩, .slice none 0 0, .slice none 0 0] 27) = w0 := ⟨_, rfl⟩
  have f0 : Fr (fun k => k = rb) w w0 := by rw [← hw0]; exact (Fr.refl _ _).alloc _
  rw [hw0] at h0 hb0
  have hs0 : w0.heap.size = w.heap.size + 1 := by rw [← hw0]; simp
  have hne0 : w.heap.size ≠ rb := h0.ne hb0
  have hu : Calls Try.prog 29 #[.pointer (some ⟨rb, 0, none⟩), .int .u64 8] w0 (UPost rb .u64 ((rdUint 8 l).map fun x => ((x.1 : Int), x.2)) w0) := ruint_all rb l bad 8 w0 h0 (by omega)
  rw [hk] at hu
  have Hu := hide hu
  have Hb0 := hide hb0
  have F0 := hide f0
  have Hne0 := hide hne0
  have Hs0 := hide hs0
  have Hk := hide hk
  have Hh := hide h
  clear hu hb0 f0 hne0 hs0 h0 hk h hd
  go_enter Try.func30, Try.ntmps30
  go_wp2_with fail
  refine Hu.out.mono ?_
  rintro e w2 ⟨rfl, hr2, hf2⟩
  simp only [Option.map_some, Option.getD_some, Option.isNone_some] at hr2 ⊢
  rw [show (((5 : Nat)) : Int) = 5 from rfl]
  have hb2 := Hb0.out.fr hf2 Hne0.out
  have f2 := F0.out.trans' hf2 (fun _ _ h => h)
  have n2 := Blk.new w2 27 #[.int .u8 0, .int .i64 0, .string ⟨#[]⟩, .slice none 0 0, .slice none 0 0]
  have n3 := Blk.new w2 27 #[.int .u8 5, .int .i64 0, .string ⟨#[]⟩, .slice none 0 0, .slice none 0 0]
  have z0 := n2.cell 0
  have z1 := n2.cell 1
  have z2 := n2.cell 2
  have z3 := n2.cell 3
  have z4 := n2.cell 4
  have y0 := n2.frozen 0
  have y1 := n2.frozen 1
  have y2 := n2.frozen 2
  have y3 := n2.frozen 3
  have y4 := n2.frozen 4
  have p0 := n3.cell 0
  have HB2 := hide hb2
  have F2 := hide f2
  have R2 := hide hr2
  have Hf2 := hide hf2
  clear hb2 f2 hr2 hf2 n2 n3 Hu
  go_upto_region 4 with fail
  obtain ⟨wv, hwv⟩ : ∃ wv, w2.alloc (.cells #[.int .u8 5, .int .i64 0, .string ⟨#[]⟩, .slice none 0 0, .slice none 0 0] 27) = wv := ⟨_, rfl⟩
  have Bv : Blk wv w2.heap.size 27 #[.int .u8 5, .int .i64 0, .string ⟨#[]⟩, .slice none 0 0, .slice none 0 0] := by rw [← hwv]; exact Blk.new _ _ _
  have Bz : Blk wv w.heap.size 27 #[.int .u8 0, .int .i64 0, .string ⟨#[]⟩, .slice none 0 0, .slice none 0 0] := by rw [← hwv]; exact HB2.out.alloc _
  have FrW : Fr (fun k => k = rb) w wv := by rw [← hwv]; exact F2.out.alloc _
  have RW : Rd wv rb l1 false := by rw [← hwv]; exact R2.out.fr (F := fun _ => False) ((Fr.refl _ _).alloc _) (fun _ h => h.elim)
  try rw [hwv]
  rw [hwv] at p0
  have hvz : w.heap.size < w2.heap.size := HB2.out.lt
  obtain ⟨vb, hvb⟩ : ∃ vb, w2.heap.size = vb := ⟨_, rfl⟩
  rw [hvb] at Bv p0 hvz ⊢
  have Hvz := hide hvz
  have hvr : vb ≠ rb := RW.ne Bv
  clear z0 z1 z2 z3 z4 y0 y1 y2 y3 y4 hwv hvb za ba hvz HB2 F2 R2 Hf2 Hb0 F0
  have he := elements_5 d (op + 1) rb vb l1 wv RW (by omega) Bv Hih.out
  rw [show (((op + 1 : Nat)) : Int) = (op : Int) + 1 by omega] at he
  have He := hide he
  clear he
  go_wp2_with fail
  refine He.out.mono ?_
  clear He
  rintro e w5 ⟨rfl, hf5, KA, LA, kn, kc, ln, lc, Bv5, hout⟩
  have Bz5 := Bz.fr hf5 (fun h => by have := Hne0.out; have := Hvz.out; omega)
  have F5a := FrW.trans' hf5 (fun q hq h => by
    rcases h with h | h
    · exact h
    · have := Hvz.out; omega)
  have hsz := hf5.size
  have hszw : w.heap.size < wv.heap.size := Bz.lt
  have Hsw := hide hszw
  have Hsz := hide (show w.heap.size ≤ wv.heap.size ∧ wv.heap.size ≤ w5.heap.size from ⟨by omega, hsz⟩)
  clear Bv Bz FrW RW hf5 p0 hsz hszw
  have Bv := Bv5
  have Bz := Bz5
  have FrW := F5a
  clear Bv5 Bz5 F5a
  rcases hout with ⟨ks, ls, r, hq, hv, RW⟩ | ⟨hq, RW⟩
  · have HV := hide hv
    have Hq := hide hq
    clear hv hq
    have FZ : Fr (fun q => q = w.heap.size) w5 (((((w5.setCell ⟨w.heap.size, 0, none⟩ (.int .u8 5)).setCell ⟨w.heap.size, 1, none⟩ (.int .i64 0)).setCell ⟨w.heap.size, 2, none⟩ (.string ⟨#[]⟩)).setCell ⟨w.heap.size, 3, none⟩ (.slice KA kn kc)).setCell ⟨w.heap.size, 4, none⟩ (.slice LA ln lc)) := (((((Fr.refl (fun q => q = w.heap.size) w5).put1 0 _).put1 1 _).put1 2 _).put1 3 _).put1 4 _
    have HFZ := hide FZ
    clear FZ
    have v0 := Bv.cell 0
    have z0 := Bz.cell 0
    have y0 := Bz.frozen 0
    have v1 := Bv.cell 1
    have z1 := Bz.cell 1
    have y1 := Bz.frozen 1
    have v2 := Bv.cell 2
    have z2 := Bz.cell 2
    have y2 := Bz.frozen 2
    have v3 := Bv.cell 3
    have z3 := Bz.cell 3
    have y3 := Bz.frozen 3
    have v4 := Bv.cell 4
    have z4 := Bz.cell 4
    have y4 := Bz.frozen 4
    have q1 := Bz.set_ 0 (.int .u8 5)
    have q2 := q1.set_ 1 (.int .i64 0)
    have q3 := q2.set_ 2 (.string ⟨#[]⟩)
    have q4 := q3.set_ 3 (.slice KA kn kc)
    have q5 := q4.set_ 4 (.slice LA ln lc)
    have R1 := RW.setV Bz 0 (.int .u8 5)
    have R2 := R1.setV q1 1 (.int .i64 0)
    have R3 := R2.setV q2 2 (.string ⟨#[]⟩)
    have R4 := R3.setV q3 3 (.slice KA kn kc)
    have R5 := R4.setV q4 4 (.slice LA ln lc)
    have F5 : Fr (fun k => k = rb) w (((((w5.setCell ⟨w.heap.size, 0, none⟩ (.int .u8 5)).setCell ⟨w.heap.size, 1, none⟩ (.int .i64 0)).setCell ⟨w.heap.size, 2, none⟩ (.string ⟨#[]⟩)).setCell ⟨w.heap.size, 3, none⟩ (.slice KA kn kc)).setCell ⟨w.heap.size, 4, none⟩ (.slice LA ln lc)) := ((((FrW.setCell (p := ⟨w.heap.size, 0, none⟩) (.inr (Nat.le_refl _)) _).setCell (p := ⟨w.heap.size, 1, none⟩) (.inr (Nat.le_refl _)) _).setCell (p := ⟨w.heap.size, 2, none⟩) (.inr (Nat.le_refl _)) _).setCell (p := ⟨w.heap.size, 3, none⟩) (.inr (Nat.le_refl _)) _).setCell (p := ⟨w.heap.size, 4, none⟩) (.inr (Nat.le_refl _)) _
    have r0 : (((((w5.setCell ⟨w.heap.size, 0, none⟩ (.int .u8 5)).setCell ⟨w.heap.size, 1, none⟩ (.int .i64 0)).setCell ⟨w.heap.size, 2, none⟩ (.string ⟨#[]⟩)).setCell ⟨w.heap.size, 3, none⟩ (.slice KA kn kc)).setCell ⟨w.heap.size, 4, none⟩ (.slice LA ln lc)).cell? ⟨w.heap.size, 0, none⟩ = some (.int .u8 5) := q5.cell 0
    have r1 : (((((w5.setCell ⟨w.heap.size, 0, none⟩ (.int .u8 5)).setCell ⟨w.heap.size, 1, none⟩ (.int .i64 0)).setCell ⟨w.heap.size, 2, none⟩ (.string ⟨#[]⟩)).setCell ⟨w.heap.size, 3, none⟩ (.slice KA kn kc)).setCell ⟨w.heap.size, 4, none⟩ (.slice LA ln lc)).cell? ⟨w.heap.size, 1, none⟩ = some (.int .i64 0) := q5.cell 1
    have r2 : (((((w5.setCell ⟨w.heap.size, 0, none⟩ (.int .u8 5)).setCell ⟨w.heap.size, 1, none⟩ (.int .i64 0)).setCell ⟨w.heap.size, 2, none⟩ (.string ⟨#[]⟩)).setCell ⟨w.heap.size, 3, none⟩ (.slice KA kn kc)).setCell ⟨w.heap.size, 4, none⟩ (.slice LA ln lc)).cell? ⟨w.heap.size, 2, none⟩ = some (.string ⟨#[]⟩) := q5.cell 2
    have r3 : (((((w5.setCell ⟨w.heap.size, 0, none⟩ (.int .u8 5)).setCell ⟨w.heap.size, 1, none⟩ (.int .i64 0)).setCell ⟨w.heap.size, 2, none⟩ (.string ⟨#[]⟩)).setCell ⟨w.heap.size, 3, none⟩ (.slice KA kn kc)).setCell ⟨w.heap.size, 4, none⟩ (.slice LA ln lc)).cell? ⟨w.heap.size, 3, none⟩ = some (.slice KA kn kc) := q5.cell 3
    have r4 : (((((w5.setCell ⟨w.heap.size, 0, none⟩ (.int .u8 5)).setCell ⟨w.heap.size, 1, none⟩ (.int .i64 0)).setCell ⟨w.heap.size, 2, none⟩ (.string ⟨#[]⟩)).setCell ⟨w.heap.size, 3, none⟩ (.slice KA kn kc)).setCell ⟨w.heap.size, 4, none⟩ (.slice LA ln lc)).cell? ⟨w.heap.size, 4, none⟩ = some (.slice LA ln lc) := q5.cell 4
    have Hr := hide (show _ ∧ _ ∧ _ ∧ _ ∧ _ from ⟨r0, r1, r2, r3, r4⟩)
    have H5 := hide F5
    have HR := hide R5
    have HRW := hide RW
    clear q1 q2 q3 q4 q5 R1 R2 R3 R4 R5 F5 r0 r1 r2 r3 r4 Bv Bz FrW RW
    go_wp2
    obtain ⟨r0, r1, r2, r3, r4⟩ := Hr.out
    refine bodyPost_ret (v := .agg #[.int .u8 5, .int .i64 0, .string ⟨#[]⟩, .slice KA kn kc, .slice LA ln lc]) (by simp [results, Try.results30, go_sem, r0, r1, r2, r3, r4, Result.andThen]) rfl ⟨_, _, _, _, _, rfl, ?_, H5.out, ?_⟩
    · intro u hu
      simp only [List.mem_cons, List.not_mem_nil, or_false] at hu
      rcases hu with rfl | rfl | rfl | rfl | rfl <;> rfl
    · exact .inl ⟨.mk 5 0 [] ks ls, r, by rw [rdV, Hk.out]; simp only []; rw [if_neg (by decide), if_neg (by decide), if_neg (by decide), if_pos trivial, rdE5, Hq.out]; rfl, (HV.out.fr HFZ.out (fun q hq e => by have h1 : wv.heap.size ≤ q := hq.1; have := Hsz.out; have h2 : w.heap.size < wv.heap.size := Hsw.out; omega)).mono (fun q hq => ⟨Nat.le_trans Hsz.out.1 hq.1, Nat.lt_of_lt_of_le hq.2 HFZ.out.size⟩), HR.out⟩
  · have Hq := hide hq
    clear hq
    have v0 := Bv.cell 0
    have z0 := Bz.cell 0
    have y0 := Bz.frozen 0
    have v1 := Bv.cell 1
    have z1 := Bz.cell 1
    have y1 := Bz.frozen 1
    have v2 := Bv.cell 2
    have z2 := Bz.cell 2
    have y2 := Bz.frozen 2
    have v3 := Bv.cell 3
    have z3 := Bz.cell 3
    have y3 := Bz.frozen 3
    have v4 := Bv.cell 4
    have z4 := Bz.cell 4
    have y4 := Bz.frozen 4
    have q1 := Bz.set_ 0 (.int .u8 5)
    have q2 := q1.set_ 1 (.int .i64 0)
    have q3 := q2.set_ 2 (.string ⟨#[]⟩)
    have q4 := q3.set_ 3 (.slice KA kn kc)
    have q5 := q4.set_ 4 (.slice LA ln lc)
    have R1 := RW.setV Bz 0 (.int .u8 5)
    have R2 := R1.setV q1 1 (.int .i64 0)
    have R3 := R2.setV q2 2 (.string ⟨#[]⟩)
    have R4 := R3.setV q3 3 (.slice KA kn kc)
    have R5 := R4.setV q4 4 (.slice LA ln lc)
    have F5 : Fr (fun k => k = rb) w (((((w5.setCell ⟨w.heap.size, 0, none⟩ (.int .u8 5)).setCell ⟨w.heap.size, 1, none⟩ (.int .i64 0)).setCell ⟨w.heap.size, 2, none⟩ (.string ⟨#[]⟩)).setCell ⟨w.heap.size, 3, none⟩ (.slice KA kn kc)).setCell ⟨w.heap.size, 4, none⟩ (.slice LA ln lc)) := ((((FrW.setCell (p := ⟨w.heap.size, 0, none⟩) (.inr (Nat.le_refl _)) _).setCell (p := ⟨w.heap.size, 1, none⟩) (.inr (Nat.le_refl _)) _).setCell (p := ⟨w.heap.size, 2, none⟩) (.inr (Nat.le_refl _)) _).setCell (p := ⟨w.heap.size, 3, none⟩) (.inr (Nat.le_refl _)) _).setCell (p := ⟨w.heap.size, 4, none⟩) (.inr (Nat.le_refl _)) _
    have r0 : (((((w5.setCell ⟨w.heap.size, 0, none⟩ (.int .u8 5)).setCell ⟨w.heap.size, 1, none⟩ (.int .i64 0)).setCell ⟨w.heap.size, 2, none⟩ (.string ⟨#[]⟩)).setCell ⟨w.heap.size, 3, none⟩ (.slice KA kn kc)).setCell ⟨w.heap.size, 4, none⟩ (.slice LA ln lc)).cell? ⟨w.heap.size, 0, none⟩ = some (.int .u8 5) := q5.cell 0
    have r1 : (((((w5.setCell ⟨w.heap.size, 0, none⟩ (.int .u8 5)).setCell ⟨w.heap.size, 1, none⟩ (.int .i64 0)).setCell ⟨w.heap.size, 2, none⟩ (.string ⟨#[]⟩)).setCell ⟨w.heap.size, 3, none⟩ (.slice KA kn kc)).setCell ⟨w.heap.size, 4, none⟩ (.slice LA ln lc)).cell? ⟨w.heap.size, 1, none⟩ = some (.int .i64 0) := q5.cell 1
    have r2 : (((((w5.setCell ⟨w.heap.size, 0, none⟩ (.int .u8 5)).setCell ⟨w.heap.size, 1, none⟩ (.int .i64 0)).setCell ⟨w.heap.size, 2, none⟩ (.string ⟨#[]⟩)).setCell ⟨w.heap.size, 3, none⟩ (.slice KA kn kc)).setCell ⟨w.heap.size, 4, none⟩ (.slice LA ln lc)).cell? ⟨w.heap.size, 2, none⟩ = some (.string ⟨#[]⟩) := q5.cell 2
    have r3 : (((((w5.setCell ⟨w.heap.size, 0, none⟩ (.int .u8 5)).setCell ⟨w.heap.size, 1, none⟩ (.int .i64 0)).setCell ⟨w.heap.size, 2, none⟩ (.string ⟨#[]⟩)).setCell ⟨w.heap.size, 3, none⟩ (.slice KA kn kc)).setCell ⟨w.heap.size, 4, none⟩ (.slice LA ln lc)).cell? ⟨w.heap.size, 3, none⟩ = some (.slice KA kn kc) := q5.cell 3
    have r4 : (((((w5.setCell ⟨w.heap.size, 0, none⟩ (.int .u8 5)).setCell ⟨w.heap.size, 1, none⟩ (.int .i64 0)).setCell ⟨w.heap.size, 2, none⟩ (.string ⟨#[]⟩)).setCell ⟨w.heap.size, 3, none⟩ (.slice KA kn kc)).setCell ⟨w.heap.size, 4, none⟩ (.slice LA ln lc)).cell? ⟨w.heap.size, 4, none⟩ = some (.slice LA ln lc) := q5.cell 4
    have Hr := hide (show _ ∧ _ ∧ _ ∧ _ ∧ _ from ⟨r0, r1, r2, r3, r4⟩)
    have H5 := hide F5
    have HR := hide R5
    have HRW := hide RW
    clear q1 q2 q3 q4 q5 R1 R2 R3 R4 R5 F5 r0 r1 r2 r3 r4 Bv Bz FrW RW
    go_wp2
    obtain ⟨r0, r1, r2, r3, r4⟩ := Hr.out
    refine bodyPost_ret (v := .agg #[.int .u8 5, .int .i64 0, .string ⟨#[]⟩, .slice KA kn kc, .slice LA ln lc]) (by simp [results, Try.results30, go_sem, r0, r1, r2, r3, r4, Result.andThen]) rfl ⟨_, _, _, _, _, rfl, ?_, H5.out, ?_⟩
    · intro u hu
      simp only [List.mem_cons, List.not_mem_nil, or_false] at hu
      rcases hu with rfl | rfl | rfl | rfl | rfl <;> rfl
    · exact .inr ⟨by rw [rdV, Hk.out]; simp only []; rw [if_neg (by decide), if_neg (by decide), if_neg (by decide), if_pos trivial, rdE5, Hq.out]; rfl, HR.out⟩
end Go.Proofs.Yteoimkjocijcjaa

/- Package wire: Reader.value, one kind of value. -/
namespace Go.Proofs.Yteoimkjocijcjaa
open Go.RowKit

theorem rdE6 (d : Nat) (l : List UInt8) : ((rdUint 200 l).bind fun x => (rdO d x.1 x.2).map fun y => (V.mk 6 0 [] y.1 y.2.1, y.2.2)) = (rdE d 6 l).map fun y => (V.mk 6 0 [] y.1 y.2.1, y.2.2) := by
  unfold rdE rdS
  cases rdUint 200 l with
  | none => rfl
  | some x => simp

set_option maxRecDepth 100000 in
set_option maxHeartbeats 4000000 in
theorem rdv_k6 (d op : Nat) (rb : Nat) (l l1 : List UInt8) (bad : Bool) (w : World) (h : Rd w rb l bad) (hd : op + (d + 1) = 24) (hk : rdUint 8 l = some (6, l1)) (ih : ∀ (l : List UInt8) (bad : Bool) (w : World), Rd w rb l bad → Calls Try.prog 30 #[.pointer (some ⟨rb, 0, none⟩), .int .i64 ((op + 1 : Nat) : Int)] w (RVPost rb d l w)) :
    Calls Try.prog 30 #[.pointer (some ⟨rb, 0, none⟩), .int .i64 (op : Int)] w (RVPost rb (d + 1) l w) := by
  have Hih := hide ih
  clear ih
  have Hd := hide hd
  have za := zeroV
  have ba := buildV
  have hop : op < 24 := by omega
  have h0 : Rd (w.alloc (.cells #[.int .u8 0, .int .i64 0, .string ⟨#[]⟩, .slice none 0 0, .slice none 0 0] 27)) rb l bad := h.fr (F := fun _ => False) ((Fr.refl _ _).alloc _) (fun _ h => h.elim)
  have hb0 := Blk.new w 27 #[.int .u8 0, .int .i64 0, .string ⟨#[]⟩, .slice none 0 0, .slice none 0 0]
  obtain ⟨w0, hw0⟩ : ∃ w0, w.alloc (.cells #[.int .u8 0, .int .i64 0, .string ⟨#[]⟩, .slice none 0 0, .slice none 0 0] 27) = w0 := ⟨_, rfl⟩
  have f0 : Fr (fun k => k = rb) w w0 := by rw [← hw0]; exact (Fr.refl _ _).alloc _
  rw [hw0] at h0 hb0
  have hs0 : w0.heap.size = w.heap.size + 1 := by rw [← hw0]; simp
  have hne0 : w.heap.size ≠ rb := h0.ne hb0
  have hu : Calls Try.prog 29 #[.pointer (some ⟨rb, 0, none⟩), .int .u64 8] w0 (UPost rb .u64 ((rdUint 8 l).map fun x => ((x.1 : Int), x.2)) w0) := ruint_all rb l bad 8 w0 h0 (by omega)
  rw [hk] at hu
  have Hu := hide hu
  have Hb0 := hide hb0
  have F0 := hide f0
  have Hne0 := hide hne0
  have Hs0 := hide hs0
  have Hk := hide hk
  have Hh := hide h
  clear hu hb0 f0 hne0 hs0 h0 hk h hd
  go_enter Try.func30, Try.ntmps30
  go_wp2_with fail
  refine Hu.out.mono ?_
  rintro e w2 ⟨rfl, hr2, hf2⟩
  simp only [Option.map_some, Option.getD_some, Option.isNone_some] at hr2 ⊢
  rw [show (((6 : Nat)) : Int) = 6 from rfl]
  have hb2 := Hb0.out.fr hf2 Hne0.out
  have f2 := F0.out.trans' hf2 (fun _ _ h => h)
  have n2 := Blk.new w2 27 #[.int .u8 0, .int .i64 0, .string ⟨#[]⟩, .slice none 0 0, .slice none 0 0]
  have n3 := Blk.new w2 27 #[.int .u8 6, .int .i64 0, .string ⟨#[]⟩, .slice none 0 0, .slice none 0 0]
  have z0 := n2.cell 0
  have z1 := n2.cell 1
  have z2 := n2.cell 2
  have z3 := n2.cell 3
  have z4 := n2.cell 4
  have y0 := n2.frozen 0
  have y1 := n2.frozen 1
  have y2 := n2.frozen 2
  have y3 := n2.frozen 3
  have y4 := n2.frozen 4
  have p0 := n3.cell 0
  have HB2 := hide hb2
  have F2 := hide f2
  have R2 := hide hr2
  have Hf2 := hide hf2
  clear hb2 f2 hr2 hf2 n2 n3 Hu
  go_upto_region 4 with fail
  obtain ⟨wv, hwv⟩ : ∃ wv, w2.alloc (.cells #[.int .u8 6, .int .i64 0, .string ⟨#[]⟩, .slice none 0 0, .slice none 0 0] 27) = wv := ⟨_, rfl⟩
  have Bv : Blk wv w2.heap.size 27 #[.int .u8 6, .int .i64 0, .string ⟨#[]⟩, .slice none 0 0, .slice none 0 0] := by rw [← hwv]; exact Blk.new _ _ _
  have Bz : Blk wv w.heap.size 27 #[.int .u8 0, .int .i64 0, .string ⟨#[]⟩, .slice none 0 0, .slice none 0 0] := by rw [← hwv]; exact HB2.out.alloc _
  have FrW : Fr (fun k => k = rb) w wv := by rw [← hwv]; exact F2.out.alloc _
  have RW : Rd wv rb l1 false := by rw [← hwv]; exact R2.out.fr (F := fun _ => False) ((Fr.refl _ _).alloc _) (fun _ h => h.elim)
  try rw [hwv]
  rw [hwv] at p0
  have hvz : w.heap.size < w2.heap.size := HB2.out.lt
  obtain ⟨vb, hvb⟩ : ∃ vb, w2.heap.size = vb := ⟨_, rfl⟩
  rw [hvb] at Bv p0 hvz ⊢
  have Hvz := hide hvz
  have hvr : vb ≠ rb := RW.ne Bv
  clear z0 z1 z2 z3 z4 y0 y1 y2 y3 y4 hwv hvb za ba hvz HB2 F2 R2 Hf2 Hb0 F0
  have he := elements_6 d (op + 1) rb vb l1 wv RW (by omega) Bv Hih.out
  rw [show (((op + 1 : Nat)) : Int) = (op : Int) + 1 by omega] at he
  have He := hide he
  clear he
  go_wp2_with fail
  refine He.out.mono ?_
  clear He
  rintro e w5 ⟨rfl, hf5, KA, LA, kn, kc, ln, lc, Bv5, hout⟩
  have Bz5 := Bz.fr hf5 (fun h => by have := Hne0.out; have := Hvz.out; omega)
  have F5a := FrW.trans' hf5 (fun q hq h => by
    rcases h with h | h
    · exact h
    · have := Hvz.out; omega)
  have hsz := hf5.size
  have hszw : w.heap.size < wv.heap.size := Bz.lt
  have Hsw := hide hszw
  have Hsz := hide (show w.heap.size ≤ wv.heap.size ∧ wv.heap.size ≤ w5.heap.size from ⟨by omega, hsz⟩)
  clear Bv Bz FrW RW hf5 p0 hsz hszw
  have Bv := Bv5
  have Bz := Bz5
  have FrW := F5a
  clear Bv5 Bz5 F5a
  rcases hout with ⟨ks, ls, r, hq, hv, RW⟩ | ⟨hq, RW⟩
  · have HV := hide hv
    have Hq := hide hq
    clear hv hq
    have FZ : Fr (fun q => q = w.heap.size) w5 (((((w5.setCell ⟨w.heap.size, 0, none⟩ (.int .u8 6)).setCell ⟨w.heap.size, 1, none⟩ (.int .i64 0)).setCell ⟨w.heap.size, 2, none⟩ (.string ⟨#[]⟩)).setCell ⟨w.heap.size, 3, none⟩ (.slice KA kn kc)).setCell ⟨w.heap.size, 4, none⟩ (.slice LA ln lc)) := (((((Fr.refl (fun q => q = w.heap.size) w5).put1 0 _).put1 1 _).put1 2 _).put1 3 _).put1 4 _
    have HFZ := hide FZ
    clear FZ
    have v0 := Bv.cell 0
    have z0 := Bz.cell 0
    have y0 := Bz.frozen 0
    have v1 := Bv.cell 1
    have z1 := Bz.cell 1
    have y1 := Bz.frozen 1
    have v2 := Bv.cell 2
    have z2 := Bz.cell 2
    have y2 := Bz.frozen 2
    have v3 := Bv.cell 3
    have z3 := Bz.cell 3
    have y3 := Bz.frozen 3
    have v4 := Bv.cell 4
    have z4 := Bz.cell 4
    have y4 := Bz.frozen 4
    have q1 := Bz.set_ 0 (.int .u8 6)
    have q2 := q1.set_ 1 (.int .i64 0)
    have q3 := q2.set_ 2 (.string ⟨#[]⟩)
    have q4 := q3.set_ 3 (.slice KA kn kc)
    have q5 := q4.set_ 4 (.slice LA ln lc)
    have R1 := RW.setV Bz 0 (.int .u8 6)
    have R2 := R1.setV q1 1 (.int .i64 0)
    have R3 := R2.setV q2 2 (.string ⟨#[]⟩)
    have R4 := R3.setV q3 3 (.slice KA kn kc)
    have R5 := R4.setV q4 4 (.slice LA ln lc)
    have F5 : Fr (fun k => k = rb) w (((((w5.setCell ⟨w.heap.size, 0, none⟩ (.int .u8 6)).setCell ⟨w.heap.size, 1, none⟩ (.int .i64 0)).setCell ⟨w.heap.size, 2, none⟩ (.string ⟨#[]⟩)).setCell ⟨w.heap.size, 3, none⟩ (.slice KA kn kc)).setCell ⟨w.heap.size, 4, none⟩ (.slice LA ln lc)) := ((((FrW.setCell (p := ⟨w.heap.size, 0, none⟩) (.inr (Nat.le_refl _)) _).setCell (p := ⟨w.heap.size, 1, none⟩) (.inr (Nat.le_refl _)) _).setCell (p := ⟨w.heap.size, 2, none⟩) (.inr (Nat.le_refl _)) _).setCell (p := ⟨w.heap.size, 3, none⟩) (.inr (Nat.le_refl _)) _).setCell (p := ⟨w.heap.size, 4, none⟩) (.inr (Nat.le_refl _)) _
    have r0 : (((((w5.setCell ⟨w.heap.size, 0, none⟩ (.int .u8 6)).setCell ⟨w.heap.size, 1, none⟩ (.int .i64 0)).setCell ⟨w.heap.size, 2, none⟩ (.string ⟨#[]⟩)).setCell ⟨w.heap.size, 3, none⟩ (.slice KA kn kc)).setCell ⟨w.heap.size, 4, none⟩ (.slice LA ln lc)).cell? ⟨w.heap.size, 0, none⟩ = some (.int .u8 6) := q5.cell 0
    have r1 : (((((w5.setCell ⟨w.heap.size, 0, none⟩ (.int .u8 6)).setCell ⟨w.heap.size, 1, none⟩ (.int .i64 0)).setCell ⟨w.heap.size, 2, none⟩ (.string ⟨#[]⟩)).setCell ⟨w.heap.size, 3, none⟩ (.slice KA kn kc)).setCell ⟨w.heap.size, 4, none⟩ (.slice LA ln lc)).cell? ⟨w.heap.size, 1, none⟩ = some (.int .i64 0) := q5.cell 1
    have r2 : (((((w5.setCell ⟨w.heap.size, 0, none⟩ (.int .u8 6)).setCell ⟨w.heap.size, 1, none⟩ (.int .i64 0)).setCell ⟨w.heap.size, 2, none⟩ (.string ⟨#[]⟩)).setCell ⟨w.heap.size, 3, none⟩ (.slice KA kn kc)).setCell ⟨w.heap.size, 4, none⟩ (.slice LA ln lc)).cell? ⟨w.heap.size, 2, none⟩ = some (.string ⟨#[]⟩) := q5.cell 2
    have r3 : (((((w5.setCell ⟨w.heap.size, 0, none⟩ (.int .u8 6)).setCell ⟨w.heap.size, 1, none⟩ (.int .i64 0)).setCell ⟨w.heap.size, 2, none⟩ (.string ⟨#[]⟩)).setCell ⟨w.heap.size, 3, none⟩ (.slice KA kn kc)).setCell ⟨w.heap.size, 4, none⟩ (.slice LA ln lc)).cell? ⟨w.heap.size, 3, none⟩ = some (.slice KA kn kc) := q5.cell 3
    have r4 : (((((w5.setCell ⟨w.heap.size, 0, none⟩ (.int .u8 6)).setCell ⟨w.heap.size, 1, none⟩ (.int .i64 0)).setCell ⟨w.heap.size, 2, none⟩ (.string ⟨#[]⟩)).setCell ⟨w.heap.size, 3, none⟩ (.slice KA kn kc)).setCell ⟨w.heap.size, 4, none⟩ (.slice LA ln lc)).cell? ⟨w.heap.size, 4, none⟩ = some (.slice LA ln lc) := q5.cell 4
    have Hr := hide (show _ ∧ _ ∧ _ ∧ _ ∧ _ from ⟨r0, r1, r2, r3, r4⟩)
    have H5 := hide F5
    have HR := hide R5
    have HRW := hide RW
    clear q1 q2 q3 q4 q5 R1 R2 R3 R4 R5 F5 r0 r1 r2 r3 r4 Bv Bz FrW RW
    go_wp2
    obtain ⟨r0, r1, r2, r3, r4⟩ := Hr.out
    refine bodyPost_ret (v := .agg #[.int .u8 6, .int .i64 0, .string ⟨#[]⟩, .slice KA kn kc, .slice LA ln lc]) (by simp [results, Try.results30, go_sem, r0, r1, r2, r3, r4, Result.andThen]) rfl ⟨_, _, _, _, _, rfl, ?_, H5.out, ?_⟩
    · intro u hu
      simp only [List.mem_cons, List.not_mem_nil, or_false] at hu
      rcases hu with rfl | rfl | rfl | rfl | rfl <;> rfl
    · exact .inl ⟨.mk 6 0 [] ks ls, r, by rw [rdV, Hk.out]; simp only []; rw [if_neg (by decide), if_neg (by decide), if_neg (by decide), if_neg (by decide), if_pos trivial, rdE6, Hq.out]; rfl, (HV.out.fr HFZ.out (fun q hq e => by have h1 : wv.heap.size ≤ q := hq.1; have := Hsz.out; have h2 : w.heap.size < wv.heap.size := Hsw.out; omega)).mono (fun q hq => ⟨Nat.le_trans Hsz.out.1 hq.1, Nat.lt_of_lt_of_le hq.2 HFZ.out.size⟩), HR.out⟩
  · have Hq := hide hq
    clear hq
    have v0 := Bv.cell 0
    have z0 := Bz.cell 0
    have y0 := Bz.frozen 0
    have v1 := Bv.cell 1
    have z1 := Bz.cell 1
    have y1 := Bz.frozen 1
    have v2 := Bv.cell 2
    have z2 := Bz.cell 2
    have y2 := Bz.frozen 2
    have v3 := Bv.cell 3
    have z3 := Bz.cell 3
    have y3 := Bz.frozen 3
    have v4 := Bv.cell 4
    have z4 := Bz.cell 4
    have y4 := Bz.frozen 4
    have q1 := Bz.set_ 0 (.int .u8 6)
    have q2 := q1.set_ 1 (.int .i64 0)
    have q3 := q2.set_ 2 (.string ⟨#[]⟩)
    have q4 := q3.set_ 3 (.slice KA kn kc)
    have q5 := q4.set_ 4 (.slice LA ln lc)
    have R1 := RW.setV Bz 0 (.int .u8 6)
    have R2 := R1.setV q1 1 (.int .i64 0)
    have R3 := R2.setV q2 2 (.string ⟨#[]⟩)
    have R4 := R3.setV q3 3 (.slice KA kn kc)
    have R5 := R4.setV q4 4 (.slice LA ln lc)
    have F5 : Fr (fun k => k = rb) w (((((w5.setCell ⟨w.heap.size, 0, none⟩ (.int .u8 6)).setCell ⟨w.heap.size, 1, none⟩ (.int .i64 0)).setCell ⟨w.heap.size, 2, none⟩ (.string ⟨#[]⟩)).setCell ⟨w.heap.size, 3, none⟩ (.slice KA kn kc)).setCell ⟨w.heap.size, 4, none⟩ (.slice LA ln lc)) := ((((FrW.setCell (p := ⟨w.heap.size, 0, none⟩) (.inr (Nat.le_refl _)) _).setCell (p := ⟨w.heap.size, 1, none⟩) (.inr (Nat.le_refl _)) _).setCell (p := ⟨w.heap.size, 2, none⟩) (.inr (Nat.le_refl _)) _).setCell (p := ⟨w.heap.size, 3, none⟩) (.inr (Nat.le_refl _)) _).setCell (p := ⟨w.heap.size, 4, none⟩) (.inr (Nat.le_refl _)) _
    have r0 : (((((w5.setCell ⟨w.heap.size, 0, none⟩ (.int .u8 6)).setCell ⟨w.heap.size, 1, none⟩ (.int .i64 0)).setCell ⟨w.heap.size, 2, none⟩ (.string ⟨#[]⟩)).setCell ⟨w.heap.size, 3, none⟩ (.slice KA kn kc)).setCell ⟨w.heap.size, 4, none⟩ (.slice LA ln lc)).cell? ⟨w.heap.size, 0, none⟩ = some (.int .u8 6) := q5.cell 0
    have r1 : (((((w5.setCell ⟨w.heap.size, 0, none⟩ (.int .u8 6)).setCell ⟨w.heap.size, 1, none⟩ (.int .i64 0)).setCell ⟨w.heap.size, 2, none⟩ (.string ⟨#[]⟩)).setCell ⟨w.heap.size, 3, none⟩ (.slice KA kn kc)).setCell ⟨w.heap.size, 4, none⟩ (.slice LA ln lc)).cell? ⟨w.heap.size, 1, none⟩ = some (.int .i64 0) := q5.cell 1
    have r2 : (((((w5.setCell ⟨w.heap.size, 0, none⟩ (.int .u8 6)).setCell ⟨w.heap.size, 1, none⟩ (.int .i64 0)).setCell ⟨w.heap.size, 2, none⟩ (.string ⟨#[]⟩)).setCell ⟨w.heap.size, 3, none⟩ (.slice KA kn kc)).setCell ⟨w.heap.size, 4, none⟩ (.slice LA ln lc)).cell? ⟨w.heap.size, 2, none⟩ = some (.string ⟨#[]⟩) := q5.cell 2
    have r3 : (((((w5.setCell ⟨w.heap.size, 0, none⟩ (.int .u8 6)).setCell ⟨w.heap.size, 1, none⟩ (.int .i64 0)).setCell ⟨w.heap.size, 2, none⟩ (.string ⟨#[]⟩)).setCell ⟨w.heap.size, 3, none⟩ (.slice KA kn kc)).setCell ⟨w.heap.size, 4, none⟩ (.slice LA ln lc)).cell? ⟨w.heap.size, 3, none⟩ = some (.slice KA kn kc) := q5.cell 3
    have r4 : (((((w5.setCell ⟨w.heap.size, 0, none⟩ (.int .u8 6)).setCell ⟨w.heap.size, 1, none⟩ (.int .i64 0)).setCell ⟨w.heap.size, 2, none⟩ (.string ⟨#[]⟩)).setCell ⟨w.heap.size, 3, none⟩ (.slice KA kn kc)).setCell ⟨w.heap.size, 4, none⟩ (.slice LA ln lc)).cell? ⟨w.heap.size, 4, none⟩ = some (.slice LA ln lc) := q5.cell 4
    have Hr := hide (show _ ∧ _ ∧ _ ∧ _ ∧ _ from ⟨r0, r1, r2, r3, r4⟩)
    have H5 := hide F5
    have HR := hide R5
    have HRW := hide RW
    clear q1 q2 q3 q4 q5 R1 R2 R3 R4 R5 F5 r0 r1 r2 r3 r4 Bv Bz FrW RW
    go_wp2
    obtain ⟨r0, r1, r2, r3, r4⟩ := Hr.out
    refine bodyPost_ret (v := .agg #[.int .u8 6, .int .i64 0, .string ⟨#[]⟩, .slice KA kn kc, .slice LA ln lc]) (by simp [results, Try.results30, go_sem, r0, r1, r2, r3, r4, Result.andThen]) rfl ⟨_, _, _, _, _, rfl, ?_, H5.out, ?_⟩
    · intro u hu
      simp only [List.mem_cons, List.not_mem_nil, or_false] at hu
      rcases hu with rfl | rfl | rfl | rfl | rfl <;> rfl
    · exact .inr ⟨by rw [rdV, Hk.out]; simp only []; rw [if_neg (by decide), if_neg (by decide), if_neg (by decide), if_neg (by decide), if_pos trivial, rdE6, Hq.out]; rfl, HR.out⟩
end Go.Proofs.Yteoimkjocijcjaa
