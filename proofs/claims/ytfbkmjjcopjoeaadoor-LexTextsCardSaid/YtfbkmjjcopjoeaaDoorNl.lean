/- Package lex: next. -/
import Derived.Test.YtfbkmjjcopjoeaaDoorNi
import Derived.Test.YtfbkmjjcopjoeaaDoorNj
import Derived.Test.YtfbkmjjcopjoeaaDoorNk
namespace Go.Proofs.YtfbkmjjcopjoeaaDoor
open Go.RowKit

/-- What next hands back from place i on, and leaves. -/
def NPost (B : Nat) (w0 : World) (xb : Nat) (s : List UInt8) (F : Fns) (i : Nat) (w : World) (e : Ending) (w' : World) : Prop :=
  ∃ j, i ≤ j ∧ s.drop j = Lx.skipL false (s.drop i) ∧ j ≤ s.length ∧
    ((j = s.length ∧ e = .returned (.tuple #[.agg #[.int .u8 0, .string ⟨#[]⟩, .int .i64 0, .int .i64 (j : Int)], .int .i64 0]) ∧ LexAt B w0 w' xb s F j ∧ Fr (fun q => q = xb) w w') ∨
     (j < s.length ∧ TPost B w0 xb s F j w (Lx.oneT (s.drop j)) e w'))
theorem buildLE (j : Int) (w : World) : (Instr.build 33 #[(0, .int .u8 0), (3, .int .i64 j)]).run Tryd.prog w = .ok (.agg #[.int .u8 0, .string ⟨#[]⟩, .int .i64 0, .int .i64 j]) w := run_build w _ _ _ (by kernel_rfl)
set_option maxRecDepth 100000 in
set_option maxHeartbeats 8000000 in
theorem next_any {B xb i : Nat} {w0 w : World} {s : List UInt8} {F : Fns} (H : LexAt B w0 w xb s F i) :
    Calls Tryd.prog 16 #[.pointer (some ⟨xb, 0, none⟩)] w (NPost B w0 xb s F i w) := by
  have hbe := buildLE
  have za := zeroLT
  obtain ⟨w1, hw1⟩ : ∃ w1, w.alloc (.cells #[.int .u8 0, .string ⟨#[]⟩, .int .i64 0, .int .i64 0] 33) = w1 := ⟨_, rfl⟩
  obtain ⟨tb, htb⟩ : ∃ tb, w.heap.size = tb := ⟨_, rfl⟩
  have Htb := hide htb
  have hx : xb < w.heap.size := H.blk.lt
  have HT1 := hide (show Blk w1 tb 33 #[.int .u8 0, .string ⟨#[]⟩, .int .i64 0, .int .i64 0] from by rw [← hw1, ← htb]; exact Blk.new w _ _)
  have H1 := hide (H.other (w' := w1) (by rw [← hw1]; exact (Below.refl _ _).alloc (Nat.le_refl _) _))
  have F1 := hide (show Fr (fun q => q = xb) w w1 from by rw [← hw1]; exact (Fr.refl _ _).alloc _)
  have Hne := hide (show xb ≠ tb ∧ w0.heap.size ≤ tb from ⟨by omega, by rw [← htb]; exact H.fr.size⟩)
  have hsz : (⟨s.toArray⟩ : ByteArray).size = s.length := rfl
  have Hsk := hide (skip_any H1.out)
  have hlen := H.len
  clear H
  go_enter Tryd.func16, Tryd.ntmps16
  go_wp2_with fail
  refine Hsk.out.mono ?_
  rintro e w2 ⟨rfl, j, hL, hf, hij, hsj⟩
  have H2 := hide hL
  have F2 := hide (fr_xb F1.out hf (fun _ h => h))
  have HT2 := hide (HT1.out.fr hf (fun h => Hne.out.1 h.symm))
  have hjs := hL.le
  have Hj := hide (show i ≤ j ∧ s.drop j = Lx.skipL false (s.drop i) ∧ j ≤ s.length from ⟨hij, hsj, hL.le⟩)
  clear hL hf hij hsj Hsk
  have dc0 := H2.out.c0
  have dc1 := H2.out.c1
  go_upto_region 2 with fail
  by_cases hjl : j < s.length
  case neg =>
    obtain ⟨n1, hn1⟩ : ∃ n1, s.length = n1 := ⟨_, rfl⟩
    obtain rfl : j = n1 := by omega
    have Hn1 := hide hn1
    rw [hn1] at hsz
    clear hn1 hjs hjl hlen
    go_quiet (fail)
    have H3 := hide (H2.out.drewN nq)
    have F3 := hide (F2.out.drewN nq)
    have HT3 := hide (HT2.out.drewN nq)
    have q0 := HT3.out
    have y0 := q0.frozen 0
    have x0 := q0.cell 0
    have y1 := q0.frozen 1
    have x1 := q0.cell 1
    have y2 := q0.frozen 2
    have x2 := q0.cell 2
    have y3 := q0.frozen 3
    have x3 := q0.cell 3
    have q1 := q0.set_ 0 (.int .u8 0)
    have q2 := q1.set_ 1 (.string ⟨#[]⟩)
    have q3 := q2.set_ 2 (.int .i64 0)
    have q4 := q3.set_ 3 (.int .i64 (j : Int))
    have Q4 := hide q4
    clear q0 q1 q2 q3 q4
    go_wp2_with fail
    have r0 := Q4.out.cell 0
    have r1 := Q4.out.cell 1
    have r2 := Q4.out.cell 2
    have r3 := Q4.out.cell 3
    refine bodyPost_ret (v := .tuple #[.agg #[.int .u8 0, .string ⟨#[]⟩, .int .i64 0, .int .i64 (j : Int)], .int .i64 0]) (by simp [results, Tryd.results16, go_sem, r0, r1, r2, r3, Result.andThen]) rfl ?_
    exact ⟨j, Hj.out.1, Hj.out.2.1, Hj.out.2.2, .inl ⟨Hn1.out.symm, rfl, H3.out.put4 Hne.out.1 Hne.out.2 _ _ _ _, F3.out.put4 (by rw [Htb.out]; exact Nat.le_refl _) _ _ _ _⟩⟩
  obtain ⟨c, hc⟩ : ∃ c, s[j]? = some c := ⟨_, List.getElem?_eq_getElem hjl⟩
  have Hc := hide hc
  have Hjl := hide hjl
  have hne9 : ((j : Int) == (s.length : Int)) = false := by rw [beq_eq_false_iff_ne]; omega
  have hne8 : (j == s.length) = false := by rw [beq_eq_false_iff_ne]; omega
  have hne7 : decide (j = s.length) = false := decide_eq_false (by omega)
  clear hc hjs hjl
  go_quiet (fail)
  clear dc0 dc1
  clear hne9 hne8 hne7
  have hL0 := H2.out.drewN nq
  have hT0 := HT2.out.drewN nq
  have hF0 := F2.out.drewN nq
  obtain ⟨w3, hw3⟩ : ∃ wz, w2.drewN nq = wz := ⟨_, rfl⟩
  rw [hw3] at hL0 hT0 hF0 ⊢
  have H3 := hide hL0
  have F3 := hide hF0
  have HT3 := hide hT0
  clear hL0 hT0 hF0 hw3
  obtain ⟨R, hR⟩ : ∃ R, Lx.oneT (s.drop j) = R := ⟨_, rfl⟩
  have HR := hide hR
  clear hR
  have hs3 := H3.out.sees H3.out.cls.c3
  rw [any_get Hc.out] at hs3
  cases hl : Lx.isLetter c with
  | true =>
    rw [hl] at hs3
    have Hs3 := hide hs3
    have Hl := hide (show (s[j]?).any Lx.isLetter = true from by rw [any_get Hc.out]; exact hl)
    clear hs3 hl
    have df3 := H3.out.f3
    go_wp2_with fail
    refine Hs3.out.mono ?_
    rintro e w4 ⟨rfl, hL, hf⟩
    have H4 := hide hL
    have F4 := hide (fr_xb F3.out hf (fun _ h => h.elim))
    have HT4 := hide (HT3.out.fr hf (fun h => h.elim))
    clear hL hf
    clear df3
    have Hc9 := hide (name_any H4.out Hl.out)
    rw [HR.out] at Hc9
    go_wp2_with fail
    refine Hc9.out.mono ?_
    rintro e we h
    clear Hc9
    cases R with
    | ok kd t n len =>
      obtain ⟨rfl, hL, hf⟩ := h
      have HE := hide hL
      have FE := hide (fr_xb F4.out hf (fun _ h => h))
      have HTE := hide (HT4.out.fr hf (fun h => Hne.out.1 h.symm))
      clear hL hf
      have q0 := HTE.out
      have y0 := q0.frozen 0
      have x0 := q0.cell 0
      have y1 := q0.frozen 1
      have x1 := q0.cell 1
      have y2 := q0.frozen 2
      have x2 := q0.cell 2
      have y3 := q0.frozen 3
      have x3 := q0.cell 3
      have q1 := q0.set_ 0 (.int .u8 (kd : Int))
      have q2 := q1.set_ 1 (.string ⟨t.toArray⟩)
      have q3 := q2.set_ 2 (.int .i64 n)
      have q4 := q3.set_ 3 (.int .i64 (j : Int))
      have Q4 := hide q4
      clear q0 q1 q2 q3 q4
      go_wp2_with fail
      have r0 := Q4.out.cell 0
      have r1 := Q4.out.cell 1
      have r2 := Q4.out.cell 2
      have r3 := Q4.out.cell 3
      refine bodyPost_ret (v := .tuple #[.agg #[.int .u8 (kd : Int), .string ⟨t.toArray⟩, .int .i64 n, .int .i64 (j : Int)], .int .i64 0]) (by simp [results, Tryd.results16, go_sem, r0, r1, r2, r3, Result.andThen]) rfl ?_
      exact ⟨j, Hj.out.1, Hj.out.2.1, Hj.out.2.2, .inr ⟨Hjl.out, by rw [HR.out]; exact ⟨rfl, HE.out.put4 Hne.out.1 Hne.out.2 _ _ _ _, FE.out.put4 (by rw [Htb.out]; exact Nat.le_refl _) _ _ _ _⟩⟩⟩
    | bad off er =>
      obtain ⟨rfl, hL, hf⟩ := h
      have HE := hide hL
      have FE := hide (fr_xb F4.out hf (fun _ h => h))
      have HTE := hide (HT4.out.fr hf (fun h => Hne.out.1 h.symm))
      clear hL hf
      simp only [tokZ]
      have q0 := HTE.out
      have y0 := q0.frozen 0
      have x0 := q0.cell 0
      have y1 := q0.frozen 1
      have x1 := q0.cell 1
      have y2 := q0.frozen 2
      have x2 := q0.cell 2
      have y3 := q0.frozen 3
      have x3 := q0.cell 3
      have q1 := q0.set_ 0 (.int .u8 0)
      have q2 := q1.set_ 1 (.string ⟨#[]⟩)
      have q3 := q2.set_ 2 (.int .i64 0)
      have q4 := q3.set_ 3 (.int .i64 0)
      have Q4 := hide q4
      clear q0 q1 q2 q3 q4
      go_wp2_with fail
      have r0 := Q4.out.cell 0
      have r1 := Q4.out.cell 1
      have r2 := Q4.out.cell 2
      have r3 := Q4.out.cell 3
      refine bodyPost_ret (v := .tuple #[.agg #[.int .u8 0, .string ⟨#[]⟩, .int .i64 0, .int .i64 0], .int .i64 (er : Int)]) (by simp [results, Tryd.results16, go_sem, r0, r1, r2, r3, Result.andThen]) rfl ?_
      exact ⟨j, Hj.out.1, Hj.out.2.1, Hj.out.2.2, .inr ⟨Hjl.out, by rw [HR.out]; exact ⟨rfl, HE.out.put4 Hne.out.1 Hne.out.2 _ _ _ _, FE.out.put4 (by rw [Htb.out]; exact Nat.le_refl _) _ _ _ _⟩⟩⟩
  | false =>
    rw [hl] at hs3
    have Hs3 := hide hs3
    have Hl := hide hl
    clear hs3 hl
    have df3 := H3.out.f3
    go_wp2_with fail
    refine Hs3.out.mono ?_
    rintro e w4 ⟨rfl, hL, hf⟩
    have H4 := hide hL
    have F4 := hide (fr_xb F3.out hf (fun _ h => h.elim))
    have HT4 := hide (HT3.out.fr hf (fun h => h.elim))
    clear hL hf
    clear df3
    have hs4 := H4.out.sees H4.out.cls.c4
    rw [any_get Hc.out] at hs4
    cases hd : Lx.isDigit c with
    | true =>
      rw [hd] at hs4
      have Hs4 := hide hs4
      have h45 : c ≠ 45 := (Lx.digit_not c hd).2.1
      have Hone := hide (show Lx.oneT (s.drop j) = Lx.numT (s.drop j) 0 from by rw [drop_at Hc.out, Lx.oneT, if_neg (by rw [Hl.out]; simp), if_neg h45, if_pos hd])
      have Hm := hide h45
      clear hs4 hd h45
      have df4 := H4.out.f4
      go_wp2_with fail
      refine Hs4.out.mono ?_
      rintro e w5 ⟨rfl, hL, hf⟩
      have H5 := hide hL
      have F5 := hide (fr_xb F4.out hf (fun _ h => h.elim))
      have HT5 := hide (HT4.out.fr hf (fun h => h.elim))
      clear hL hf
      clear df4
      rw [Hone.out] at HR
      have Hc9 := hide (number_any' (m := 0) H5.out Hc.out (.inr ⟨Hm.out, rfl⟩))
      rw [HR.out] at Hc9
      go_wp2_with fail
      refine Hc9.out.mono ?_
      rintro e we h
      clear Hc9
      cases R with
      | ok kd t n len =>
        obtain ⟨rfl, hL, hf⟩ := h
        have HE := hide hL
        have FE := hide (fr_xb F5.out hf (fun _ h => h))
        have HTE := hide (HT5.out.fr hf (fun h => Hne.out.1 h.symm))
        clear hL hf
        have q0 := HTE.out
        have y0 := q0.frozen 0
        have x0 := q0.cell 0
        have y1 := q0.frozen 1
        have x1 := q0.cell 1
        have y2 := q0.frozen 2
        have x2 := q0.cell 2
        have y3 := q0.frozen 3
        have x3 := q0.cell 3
        have q1 := q0.set_ 0 (.int .u8 (kd : Int))
        have q2 := q1.set_ 1 (.string ⟨t.toArray⟩)
        have q3 := q2.set_ 2 (.int .i64 n)
        have q4 := q3.set_ 3 (.int .i64 (j : Int))
        have Q4 := hide q4
        clear q0 q1 q2 q3 q4
        go_wp2_with fail
        have r0 := Q4.out.cell 0
        have r1 := Q4.out.cell 1
        have r2 := Q4.out.cell 2
        have r3 := Q4.out.cell 3
        refine bodyPost_ret (v := .tuple #[.agg #[.int .u8 (kd : Int), .string ⟨t.toArray⟩, .int .i64 n, .int .i64 (j : Int)], .int .i64 0]) (by simp [results, Tryd.results16, go_sem, r0, r1, r2, r3, Result.andThen]) rfl ?_
        exact ⟨j, Hj.out.1, Hj.out.2.1, Hj.out.2.2, .inr ⟨Hjl.out, by rw [Hone.out, HR.out]; exact ⟨rfl, HE.out.put4 Hne.out.1 Hne.out.2 _ _ _ _, FE.out.put4 (by rw [Htb.out]; exact Nat.le_refl _) _ _ _ _⟩⟩⟩
      | bad off er =>
        obtain ⟨rfl, hL, hf⟩ := h
        have HE := hide hL
        have FE := hide (fr_xb F5.out hf (fun _ h => h))
        have HTE := hide (HT5.out.fr hf (fun h => Hne.out.1 h.symm))
        clear hL hf
        simp only [tokZ]
        have q0 := HTE.out
        have y0 := q0.frozen 0
        have x0 := q0.cell 0
        have y1 := q0.frozen 1
        have x1 := q0.cell 1
        have y2 := q0.frozen 2
        have x2 := q0.cell 2
        have y3 := q0.frozen 3
        have x3 := q0.cell 3
        have q1 := q0.set_ 0 (.int .u8 0)
        have q2 := q1.set_ 1 (.string ⟨#[]⟩)
        have q3 := q2.set_ 2 (.int .i64 0)
        have q4 := q3.set_ 3 (.int .i64 0)
        have Q4 := hide q4
        clear q0 q1 q2 q3 q4
        go_wp2_with fail
        have r0 := Q4.out.cell 0
        have r1 := Q4.out.cell 1
        have r2 := Q4.out.cell 2
        have r3 := Q4.out.cell 3
        refine bodyPost_ret (v := .tuple #[.agg #[.int .u8 0, .string ⟨#[]⟩, .int .i64 0, .int .i64 0], .int .i64 (er : Int)]) (by simp [results, Tryd.results16, go_sem, r0, r1, r2, r3, Result.andThen]) rfl ?_
        exact ⟨j, Hj.out.1, Hj.out.2.1, Hj.out.2.2, .inr ⟨Hjl.out, by rw [Hone.out, HR.out]; exact ⟨rfl, HE.out.put4 Hne.out.1 Hne.out.2 _ _ _ _, FE.out.put4 (by rw [Htb.out]; exact Nat.le_refl _) _ _ _ _⟩⟩⟩
    | false =>
      rw [hd] at hs4
      have Hs4 := hide hs4
      have Hd := hide hd
      clear hs4 hd
      have df4 := H4.out.f4
      go_wp2_with fail
      refine Hs4.out.mono ?_
      rintro e w5 ⟨rfl, hL, hf⟩
      have H5 := hide hL
      have F5 := hide (fr_xb F4.out hf (fun _ h => h.elim))
      have HT5 := hide (HT4.out.fr hf (fun h => h.elim))
      clear hL hf
      clear df4
      have hs6 := H5.out.sees H5.out.cls.c6
      rw [any_get Hc.out] at hs6
      by_cases h45 : c = 45
      · rw [show (c == 45) = true from by rw [h45]; rfl] at hs6
        have Hs6 := hide hs6
        have Hone := hide (show Lx.oneT (s.drop j) = Lx.numT (s.drop j) 1 from by rw [drop_at Hc.out, Lx.oneT, if_neg (by rw [Hl.out]; simp), if_pos h45])
        have Hm := hide h45
        clear hs6 h45
        have df6 := H5.out.f6
        go_wp2_with fail
        refine Hs6.out.mono ?_
        rintro e w6 ⟨rfl, hL, hf⟩
        have H6 := hide hL
        have F6 := hide (fr_xb F5.out hf (fun _ h => h.elim))
        have HT6 := hide (HT5.out.fr hf (fun h => h.elim))
        clear hL hf
        clear df6
        rw [Hone.out] at HR
        have Hc9 := hide (number_any' (m := 1) H6.out Hc.out (.inl ⟨Hm.out, rfl⟩))
        rw [HR.out] at Hc9
        go_wp2_with fail
        refine Hc9.out.mono ?_
        rintro e we h
        clear Hc9
        cases R with
        | ok kd t n len =>
          obtain ⟨rfl, hL, hf⟩ := h
          have HE := hide hL
          have FE := hide (fr_xb F6.out hf (fun _ h => h))
          have HTE := hide (HT6.out.fr hf (fun h => Hne.out.1 h.symm))
          clear hL hf
          have q0 := HTE.out
          have y0 := q0.frozen 0
          have x0 := q0.cell 0
          have y1 := q0.frozen 1
          have x1 := q0.cell 1
          have y2 := q0.frozen 2
          have x2 := q0.cell 2
          have y3 := q0.frozen 3
          have x3 := q0.cell 3
          have q1 := q0.set_ 0 (.int .u8 (kd : Int))
          have q2 := q1.set_ 1 (.string ⟨t.toArray⟩)
          have q3 := q2.set_ 2 (.int .i64 n)
          have q4 := q3.set_ 3 (.int .i64 (j : Int))
          have Q4 := hide q4
          clear q0 q1 q2 q3 q4
          go_wp2_with fail
          have r0 := Q4.out.cell 0
          have r1 := Q4.out.cell 1
          have r2 := Q4.out.cell 2
          have r3 := Q4.out.cell 3
          refine bodyPost_ret (v := .tuple #[.agg #[.int .u8 (kd : Int), .string ⟨t.toArray⟩, .int .i64 n, .int .i64 (j : Int)], .int .i64 0]) (by simp [results, Tryd.results16, go_sem, r0, r1, r2, r3, Result.andThen]) rfl ?_
          exact ⟨j, Hj.out.1, Hj.out.2.1, Hj.out.2.2, .inr ⟨Hjl.out, by rw [Hone.out, HR.out]; exact ⟨rfl, HE.out.put4 Hne.out.1 Hne.out.2 _ _ _ _, FE.out.put4 (by rw [Htb.out]; exact Nat.le_refl _) _ _ _ _⟩⟩⟩
        | bad off er =>
          obtain ⟨rfl, hL, hf⟩ := h
          have HE := hide hL
          have FE := hide (fr_xb F6.out hf (fun _ h => h))
          have HTE := hide (HT6.out.fr hf (fun h => Hne.out.1 h.symm))
          clear hL hf
          simp only [tokZ]
          have q0 := HTE.out
          have y0 := q0.frozen 0
          have x0 := q0.cell 0
          have y1 := q0.frozen 1
          have x1 := q0.cell 1
          have y2 := q0.frozen 2
          have x2 := q0.cell 2
          have y3 := q0.frozen 3
          have x3 := q0.cell 3
          have q1 := q0.set_ 0 (.int .u8 0)
          have q2 := q1.set_ 1 (.string ⟨#[]⟩)
          have q3 := q2.set_ 2 (.int .i64 0)
          have q4 := q3.set_ 3 (.int .i64 0)
          have Q4 := hide q4
          clear q0 q1 q2 q3 q4
          go_wp2_with fail
          have r0 := Q4.out.cell 0
          have r1 := Q4.out.cell 1
          have r2 := Q4.out.cell 2
          have r3 := Q4.out.cell 3
          refine bodyPost_ret (v := .tuple #[.agg #[.int .u8 0, .string ⟨#[]⟩, .int .i64 0, .int .i64 0], .int .i64 (er : Int)]) (by simp [results, Tryd.results16, go_sem, r0, r1, r2, r3, Result.andThen]) rfl ?_
          exact ⟨j, Hj.out.1, Hj.out.2.1, Hj.out.2.2, .inr ⟨Hjl.out, by rw [Hone.out, HR.out]; exact ⟨rfl, HE.out.put4 Hne.out.1 Hne.out.2 _ _ _ _, FE.out.put4 (by rw [Htb.out]; exact Nat.le_refl _) _ _ _ _⟩⟩⟩
      · rw [show (c == 45) = false from by simpa using h45] at hs6
        have Hs6 := hide hs6
        have H45 := hide h45
        clear hs6 h45
        have df6 := H5.out.f6
        go_wp2_with fail
        refine Hs6.out.mono ?_
        rintro e w6 ⟨rfl, hL, hf⟩
        have H6 := hide hL
        have F6 := hide (fr_xb F5.out hf (fun _ h => h.elim))
        have HT6 := hide (HT5.out.fr hf (fun h => h.elim))
        clear hL hf
        clear df6
        have hs9 := H6.out.sees H6.out.cls.c9
        rw [any_get Hc.out] at hs9
        by_cases h34 : c = 34
        · rw [show (c == 34) = true from by rw [h34]; rfl] at hs9
          have Hs9 := hide hs9
          have Hc34 := hide (show s[j]? = some 34 from by rw [Hc.out, h34])
          clear hs9 h34
          have df9 := H6.out.f9
          go_wp2_with fail
          refine Hs9.out.mono ?_
          rintro e w7 ⟨rfl, hL, hf⟩
          have H7 := hide hL
          have F7 := hide (fr_xb F6.out hf (fun _ h => h.elim))
          have HT7 := hide (HT6.out.fr hf (fun h => h.elim))
          clear hL hf
          clear df9
          have Hc9 := hide (quoted_any H7.out Hc34.out)
          rw [HR.out] at Hc9
          go_wp2_with fail
          refine Hc9.out.mono ?_
          rintro e we h
          clear Hc9
          cases R with
          | ok kd t n len =>
            obtain ⟨rfl, hL, hf⟩ := h
            have HE := hide hL
            have FE := hide (fr_xb F7.out hf (fun _ h => h))
            have HTE := hide (HT7.out.fr hf (fun h => Hne.out.1 h.symm))
            clear hL hf
            have q0 := HTE.out
            have y0 := q0.frozen 0
            have x0 := q0.cell 0
            have y1 := q0.frozen 1
            have x1 := q0.cell 1
            have y2 := q0.frozen 2
            have x2 := q0.cell 2
            have y3 := q0.frozen 3
            have x3 := q0.cell 3
            have q1 := q0.set_ 0 (.int .u8 (kd : Int))
            have q2 := q1.set_ 1 (.string ⟨t.toArray⟩)
            have q3 := q2.set_ 2 (.int .i64 n)
            have q4 := q3.set_ 3 (.int .i64 (j : Int))
            have Q4 := hide q4
            clear q0 q1 q2 q3 q4
            go_wp2_with fail
            have r0 := Q4.out.cell 0
            have r1 := Q4.out.cell 1
            have r2 := Q4.out.cell 2
            have r3 := Q4.out.cell 3
            refine bodyPost_ret (v := .tuple #[.agg #[.int .u8 (kd : Int), .string ⟨t.toArray⟩, .int .i64 n, .int .i64 (j : Int)], .int .i64 0]) (by simp [results, Tryd.results16, go_sem, r0, r1, r2, r3, Result.andThen]) rfl ?_
            exact ⟨j, Hj.out.1, Hj.out.2.1, Hj.out.2.2, .inr ⟨Hjl.out, by rw [HR.out]; exact ⟨rfl, HE.out.put4 Hne.out.1 Hne.out.2 _ _ _ _, FE.out.put4 (by rw [Htb.out]; exact Nat.le_refl _) _ _ _ _⟩⟩⟩
          | bad off er =>
            obtain ⟨rfl, hL, hf⟩ := h
            have HE := hide hL
            have FE := hide (fr_xb F7.out hf (fun _ h => h))
            have HTE := hide (HT7.out.fr hf (fun h => Hne.out.1 h.symm))
            clear hL hf
            simp only [tokZ]
            have q0 := HTE.out
            have y0 := q0.frozen 0
            have x0 := q0.cell 0
            have y1 := q0.frozen 1
            have x1 := q0.cell 1
            have y2 := q0.frozen 2
            have x2 := q0.cell 2
            have y3 := q0.frozen 3
            have x3 := q0.cell 3
            have q1 := q0.set_ 0 (.int .u8 0)
            have q2 := q1.set_ 1 (.string ⟨#[]⟩)
            have q3 := q2.set_ 2 (.int .i64 0)
            have q4 := q3.set_ 3 (.int .i64 0)
            have Q4 := hide q4
            clear q0 q1 q2 q3 q4
            go_wp2_with fail
            have r0 := Q4.out.cell 0
            have r1 := Q4.out.cell 1
            have r2 := Q4.out.cell 2
            have r3 := Q4.out.cell 3
            refine bodyPost_ret (v := .tuple #[.agg #[.int .u8 0, .string ⟨#[]⟩, .int .i64 0, .int .i64 0], .int .i64 (er : Int)]) (by simp [results, Tryd.results16, go_sem, r0, r1, r2, r3, Result.andThen]) rfl ?_
            exact ⟨j, Hj.out.1, Hj.out.2.1, Hj.out.2.2, .inr ⟨Hjl.out, by rw [HR.out]; exact ⟨rfl, HE.out.put4 Hne.out.1 Hne.out.2 _ _ _ _, FE.out.put4 (by rw [Htb.out]; exact Nat.le_refl _) _ _ _ _⟩⟩⟩
        · rw [show (c == 34) = false from by simpa using h34] at hs9
          have Hs9 := hide hs9
          have H34 := hide h34
          clear hs9 h34
          have df9 := H6.out.f9
          go_wp2_with fail
          refine Hs9.out.mono ?_
          rintro e w7 ⟨rfl, hL, hf⟩
          have H7 := hide hL
          have F7 := hide (fr_xb F6.out hf (fun _ h => h.elim))
          have HT7 := hide (HT6.out.fr hf (fun h => h.elim))
          clear hL hf
          clear df9
          have Hc9 := hide (sign_any H7.out Hc.out Hl.out H45.out Hd.out H34.out)
          rw [HR.out] at Hc9
          go_wp2_with fail
          refine Hc9.out.mono ?_
          rintro e we h
          clear Hc9
          cases R with
          | ok kd t n len =>
            obtain ⟨rfl, hL, hf⟩ := h
            have HE := hide hL
            have FE := hide (fr_xb F7.out hf (fun _ h => h))
            have HTE := hide (HT7.out.fr hf (fun h => Hne.out.1 h.symm))
            clear hL hf
            have q0 := HTE.out
            have y0 := q0.frozen 0
            have x0 := q0.cell 0
            have y1 := q0.frozen 1
            have x1 := q0.cell 1
            have y2 := q0.frozen 2
            have x2 := q0.cell 2
            have y3 := q0.frozen 3
            have x3 := q0.cell 3
            have q1 := q0.set_ 0 (.int .u8 (kd : Int))
            have q2 := q1.set_ 1 (.string ⟨t.toArray⟩)
            have q3 := q2.set_ 2 (.int .i64 n)
            have q4 := q3.set_ 3 (.int .i64 (j : Int))
            have Q4 := hide q4
            clear q0 q1 q2 q3 q4
            go_wp2_with fail
            have r0 := Q4.out.cell 0
            have r1 := Q4.out.cell 1
            have r2 := Q4.out.cell 2
            have r3 := Q4.out.cell 3
            refine bodyPost_ret (v := .tuple #[.agg #[.int .u8 (kd : Int), .string ⟨t.toArray⟩, .int .i64 n, .int .i64 (j : Int)], .int .i64 0]) (by simp [results, Tryd.results16, go_sem, r0, r1, r2, r3, Result.andThen]) rfl ?_
            exact ⟨j, Hj.out.1, Hj.out.2.1, Hj.out.2.2, .inr ⟨Hjl.out, by rw [HR.out]; exact ⟨rfl, HE.out.put4 Hne.out.1 Hne.out.2 _ _ _ _, FE.out.put4 (by rw [Htb.out]; exact Nat.le_refl _) _ _ _ _⟩⟩⟩
          | bad off er =>
            obtain ⟨rfl, hL, hf⟩ := h
            have HE := hide hL
            have FE := hide (fr_xb F7.out hf (fun _ h => h))
            have HTE := hide (HT7.out.fr hf (fun h => Hne.out.1 h.symm))
            clear hL hf
            simp only [tokZ]
            have q0 := HTE.out
            have y0 := q0.frozen 0
            have x0 := q0.cell 0
            have y1 := q0.frozen 1
            have x1 := q0.cell 1
            have y2 := q0.frozen 2
            have x2 := q0.cell 2
            have y3 := q0.frozen 3
            have x3 := q0.cell 3
            have q1 := q0.set_ 0 (.int .u8 0)
            have q2 := q1.set_ 1 (.string ⟨#[]⟩)
            have q3 := q2.set_ 2 (.int .i64 0)
            have q4 := q3.set_ 3 (.int .i64 0)
            have Q4 := hide q4
            clear q0 q1 q2 q3 q4
            go_wp2_with fail
            have r0 := Q4.out.cell 0
            have r1 := Q4.out.cell 1
            have r2 := Q4.out.cell 2
            have r3 := Q4.out.cell 3
            refine bodyPost_ret (v := .tuple #[.agg #[.int .u8 0, .string ⟨#[]⟩, .int .i64 0, .int .i64 0], .int .i64 (er : Int)]) (by simp [results, Tryd.results16, go_sem, r0, r1, r2, r3, Result.andThen]) rfl ?_
            exact ⟨j, Hj.out.1, Hj.out.2.1, Hj.out.2.2, .inr ⟨Hjl.out, by rw [HR.out]; exact ⟨rfl, HE.out.put4 Hne.out.1 Hne.out.2 _ _ _ _, FE.out.put4 (by rw [Htb.out]; exact Nat.le_refl _) _ _ _ _⟩⟩⟩
end Go.Proofs.YtfbkmjjcopjoeaaDoor
