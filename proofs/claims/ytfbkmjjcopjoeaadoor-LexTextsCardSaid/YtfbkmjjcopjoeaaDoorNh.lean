/- Package lex: name. -/
import Derived.Test.YtfbkmjjcopjoeaaDoorNg
namespace Go.Proofs.YtfbkmjjcopjoeaaDoor
open Go.RowKit

/-- What a token's method hands back, and leaves. -/
def TPost (B : Nat) (w0 : World) (xb : Nat) (s : List UInt8) (F : Fns) (j : Nat) (w : World) : Lx.R → Ending → World → Prop
  | .ok k t n len, e, w' => e = .returned (.tuple #[.agg #[.int .u8 (k : Int), .string ⟨t.toArray⟩, .int .i64 n, .int .i64 (j : Int)], .int .i64 0]) ∧ LexAt B w0 w' xb s F (j + len) ∧ Fr (fun q => q = xb) w w'
  | .bad off er, e, w' => e = .returned (.tuple #[tokZ, .int .i64 (er : Int)]) ∧ LexAt B w0 w' xb s F (j + off) ∧ Fr (fun q => q = xb) w w'
theorem buildL3 (k : Int) (a : ByteArray) (j : Int) (w : World) : (Instr.build 33 #[(0, .int .u8 k), (1, .string a), (3, .int .i64 j)]).run Tryd.prog w = .ok (.agg #[.int .u8 k, .string a, .int .i64 0, .int .i64 j]) w := run_build w _ _ _ (by kernel_rfl)
set_option maxRecDepth 100000 in
set_option maxHeartbeats 4000000 in
theorem name_any {B xb j : Nat} {w0 w : World} {s : List UInt8} {F : Fns} (H : LexAt B w0 w xb s F j) (hl : (s[j]?).any Lx.isLetter = true) :
    Calls Tryd.prog 24 #[.pointer (some ⟨xb, 0, none⟩)] w (TPost B w0 xb s F j w (Lx.oneT (s.drop j))) := by
  have hb3 := buildL3
  have za := zeroLT
  obtain ⟨w1, hw1⟩ : ∃ w1, w.alloc (.cells #[.int .u8 0, .string ⟨#[]⟩, .int .i64 0, .int .i64 0] 33) = w1 := ⟨_, rfl⟩
  obtain ⟨tb, htb⟩ : ∃ tb, w.heap.size = tb := ⟨_, rfl⟩
  have Htb := hide htb
  have hx : xb < w.heap.size := H.blk.lt
  have HT1 := hide (show Blk w1 tb 33 #[.int .u8 0, .string ⟨#[]⟩, .int .i64 0, .int .i64 0] from by rw [← hw1, ← htb]; exact Blk.new w _ _)
  have H1 := hide (H.other (w' := w1) (by rw [← hw1]; exact (Below.refl _ _).alloc (Nat.le_refl _) _))
  have F1 := hide (show Fr (fun q => q = xb) w w1 from by rw [← hw1]; exact (Fr.refl _ _).alloc _)
  have Hne := hide (show xb ≠ tb ∧ w0.heap.size ≤ tb from ⟨by omega, by rw [← htb]; exact H.fr.size⟩)
  have hsz : (⟨s.toArray⟩ : ByteArray).size = s.length := rfl
  obtain ⟨ws, hws⟩ : ∃ ws, (s.drop j).takeWhile Lx.isWord = ws := ⟨_, rfl⟩
  have hp := pass_any H1.out H1.out.cls.c5
  rw [hws] at hp
  have Hp := hide hp
  have hwz : (⟨ws.toArray⟩ : ByteArray).size = ws.length := rfl
  obtain ⟨R, hR⟩ : ∃ R, Lx.oneT (s.drop j) = R := ⟨_, rfl⟩
  rw [hR]
  obtain ⟨c, hc, hcl⟩ := (Option.any_eq_true _ _).1 hl
  rw [drop_at hc, Lx.oneT, if_pos hcl, ← drop_at hc, hws] at hR
  simp only at hR
  have Hj := hide H.le
  clear hp hws hc hcl hl H
  have dc1 := H1.out.c1
  have df5 := H1.out.f5
  go_enter Tryd.func24, Tryd.ntmps24
  go_wp2_with fail
  refine Hp.out.mono ?_
  rintro e w2 ⟨rfl, hL, hf⟩
  have H2 := hide hL
  have F2 := hide (fr_xb F1.out hf (fun _ h => h))
  have HT2 := hide (HT1.out.fr hf (fun h => Hne.out.1 h.symm))
  clear hL hf
  clear dc1 df5
  by_cases h32 : 32 < ws.length
  case pos =>
    rw [if_pos h32] at hR
    have HR := hide (show Lx.R.bad 0 2 = R from hR)
    clear hR
    go_wp2_with fail
    refine (fault_any (j) 2 H2.out Hj.out).mono ?_
    rintro e w3 ⟨rfl, hL, hf⟩
    have H3 := hide hL
    have F3 := hide (fr_xb F2.out hf (fun _ h => h))
    have HT3 := hide (HT2.out.fr hf (fun h => Hne.out.1 h.symm))
    clear hL hf
    simp only [tokZ]
    have q0 := HT3.out
    have y0 := q0.frozen 0
    have x0 := q0.cell 0
    have y1 := q0.frozen 1
    have x1 := q0.cell 1
    have y2 := q0.frozen 2
    have x2 := q0.cell 2
    have y3 := q0.frozen 3
    have x3 := q0.cell 3
    have q1 := q0.set_ 0 (.int .u8 0)
    have q2 := q1.set_ 1 (.string ⟨#[]⟩)
    have q3 := q2.set_ 2 (.int .i64 0)
    have q4 := q3.set_ 3 (.int .i64 0)
    have Q4 := hide q4
    clear q0 q1 q2 q3 q4
    go_wp2_with fail
    have r0 := Q4.out.cell 0
    have r1 := Q4.out.cell 1
    have r2 := Q4.out.cell 2
    have r3 := Q4.out.cell 3
    refine bodyPost_ret (v := .tuple #[.agg #[.int .u8 0, .string ⟨#[]⟩, .int .i64 0, .int .i64 0], .int .i64 2]) (by simp [results, Tryd.results24, go_sem, r0, r1, r2, r3, Result.andThen]) rfl ?_
    rw [← HR.out]
    exact ⟨rfl, H3.out.put4 Hne.out.1 Hne.out.2 _ _ _ _, F3.out.put4 (by rw [Htb.out]; exact Nat.le_refl _) _ _ _ _⟩
  rw [if_neg h32] at hR
  have HR := hide (show Lx.R.ok 1 ws 0 ws.length = R from hR)
  clear hR
  have q0 := HT2.out
  have y0 := q0.frozen 0
  have x0 := q0.cell 0
  have y1 := q0.frozen 1
  have x1 := q0.cell 1
  have y2 := q0.frozen 2
  have x2 := q0.cell 2
  have y3 := q0.frozen 3
  have x3 := q0.cell 3
  have q1 := q0.set_ 0 (.int .u8 1)
  have q2 := q1.set_ 1 (.string ⟨ws.toArray⟩)
  have q3 := q2.set_ 2 (.int .i64 0)
  have q4 := q3.set_ 3 (.int .i64 (j : Int))
  have Q4 := hide q4
  clear q0 q1 q2 q3 q4
  go_wp2_with fail
  have r0 := Q4.out.cell 0
  have r1 := Q4.out.cell 1
  have r2 := Q4.out.cell 2
  have r3 := Q4.out.cell 3
  refine bodyPost_ret (v := .tuple #[.agg #[.int .u8 1, .string ⟨ws.toArray⟩, .int .i64 0, .int .i64 (j : Int)], .int .i64 0]) (by simp [results, Tryd.results24, go_sem, r0, r1, r2, r3, Result.andThen]) rfl ?_
  rw [← HR.out]
  exact ⟨rfl, H2.out.put4 Hne.out.1 Hne.out.2 _ _ _ _, F2.out.put4 (by rw [Htb.out]; exact Nat.le_refl _) _ _ _ _⟩
end Go.Proofs.YtfbkmjjcopjoeaaDoor
