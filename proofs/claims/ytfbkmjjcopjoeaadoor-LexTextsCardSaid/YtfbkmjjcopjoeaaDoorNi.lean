/- Package lex: sign. -/
import Derived.Test.YtfbkmjjcopjoeaaDoorNh
namespace Go.Proofs.YtfbkmjjcopjoeaaDoor
open Go.RowKit

theorem prefix_any (s p : List UInt8) (w : World) : Calls Tryd.prog 40 #[.string ⟨s.toArray⟩, .string ⟨p.toArray⟩] w fun e w' => e = .returned (.bool (Lib.hasPrefix s p)) ∧ w = w' := by
  refine (Tryd.strings_HasPrefix ⟨s.toArray⟩ ⟨p.toArray⟩ w).mono ?_
  rintro e w' ⟨rfl, rfl⟩
  exact ⟨rfl, rfl⟩
theorem prefix_dots {s : List UInt8} {j : Nat} {c : UInt8} (hc : s[j]? = some c) (h : Lib.hasPrefix (s.drop j) [46, 46, 46] = true) : c = 46 ∧ (s.drop (j + 1)).take 2 = [46, 46] ∧ j + 3 ≤ s.length := by
  have hl := (List.isPrefixOf_iff_prefix.1 h).length_le
  rw [List.length_drop] at hl
  simp only [List.length_cons, List.length_nil] at hl
  rw [drop_at hc, Lib.hasPrefix, List.isPrefixOf] at h
  simp only [Bool.and_eq_true, beq_iff_eq] at h
  refine ⟨h.1.symm, ?_, by omega⟩
  obtain ⟨d1, hd1⟩ : ∃ d, s[j + 1]? = some d := ⟨_, List.getElem?_eq_getElem (by omega)⟩
  obtain ⟨d2, hd2⟩ : ∃ d, s[j + 2]? = some d := ⟨_, List.getElem?_eq_getElem (by omega)⟩
  have h2 := h.2
  rw [drop_at hd1, drop_at hd2, List.isPrefixOf, List.isPrefixOf] at h2
  simp only [Bool.and_eq_true, beq_iff_eq] at h2
  rw [drop_at hd1, drop_at hd2, ← h2.1, ← h2.2.1]
  rfl
theorem dots_at {s : List UInt8} {j : Nat} {c : UInt8} (hc : s[j]? = some c) (h : c = 46 ∧ (s.drop (j + 1)).take 2 = [46, 46] ∧ j + 3 ≤ s.length) : (⟨s.toArray⟩ : ByteArray).extract j (j + 3) = ⟨#[46, 46, 46]⟩ := by
  rw [ba_extract]
  have e : (s.take (j + 3)).drop j = [46, 46, 46] := by
    rw [← List.take_drop, drop_at hc, List.take_succ_cons, h.2.1, h.1]
  rw [e]
theorem no_dots {s : List UInt8} {j : Nat} {c : UInt8} (hc : s[j]? = some c) (h : Lib.hasPrefix (s.drop j) [46, 46, 46] = false) : ¬ (c = 46 ∧ (s.drop (j + 1)).take 2 = [46, 46]) := by
  rintro ⟨rfl, h2⟩
  rw [drop_at hc, Lib.hasPrefix] at h
  have : s.drop (j + 1) = [46, 46] ++ (s.drop (j + 1)).drop 2 := by rw [← h2, List.take_append_drop]
  rw [this] at h
  simp [List.isPrefixOf] at h
set_option maxRecDepth 100000 in
set_option maxHeartbeats 4000000 in
theorem sign_any {B xb j : Nat} {w0 w : World} {s : List UInt8} {F : Fns} {c : UInt8} (H : LexAt B w0 w xb s F j) (hc : s[j]? = some c) (hL : Lx.isLetter c = false) (h45 : ¬ c = 45) (hD : Lx.isDigit c = false) (h34 : ¬ c = 34) :
    Calls Tryd.prog 27 #[.pointer (some ⟨xb, 0, none⟩)] w (TPost B w0 xb s F j w (Lx.oneT (s.drop j))) := by
  have hb3 := buildL3
  have za := zeroLT
  obtain ⟨w1, hw1⟩ : ∃ w1, w.alloc (.cells #[.int .u8 0, .string ⟨#[]⟩, .int .i64 0, .int .i64 0] 33) = w1 := ⟨_, rfl⟩
  obtain ⟨tb, htb⟩ : ∃ tb, w.heap.size = tb := ⟨_, rfl⟩
  have Htb := hide htb
  have hx : xb < w.heap.size := H.blk.lt
  have HT1 := hide (show Blk w1 tb 33 #[.int .u8 0, .string ⟨#[]⟩, .int .i64 0, .int .i64 0] from by rw [← hw1, ← htb]; exact Blk.new w _ _)
  have H1 := hide (H.other (w' := w1) (by rw [← hw1]; exact (Below.refl _ _).alloc (Nat.le_refl _) _))
  have F1 := hide (show Fr (fun q => q = xb) w w1 from by rw [← hw1]; exact (Fr.refl _ _).alloc _)
  have Hne := hide (show xb ≠ tb ∧ w0.heap.size ≤ tb from ⟨by omega, by rw [← htb]; exact H.fr.size⟩)
  have hsz : (⟨s.toArray⟩ : ByteArray).size = s.length := rfl
  obtain ⟨R, hR⟩ : ∃ R, Lx.oneT (s.drop j) = R := ⟨_, rfl⟩
  rw [hR]
  have hjl : j < s.length := (List.getElem?_eq_some_iff.1 hc).1
  have hex : (⟨s.toArray⟩ : ByteArray).extract j s.length = ⟨(s.drop j).toArray⟩ := by rw [ba_extract, List.take_length]
  have hex2 : (⟨s.toArray⟩ : ByteArray).extract j (⟨s.toArray⟩ : ByteArray).size = ⟨(s.drop j).toArray⟩ := hex
  have Hp := hide (prefix_any (s.drop j) [46, 46, 46] w1)
  have Hc := hide hc
  have Hjl := hide hjl
  have hlen := H.len
  have Hone := hide (ba_one hc)
  rw [drop_at hc, Lx.oneT, if_neg (by rw [hL]; simp), if_neg h45, if_neg (by rw [hD]; simp), if_neg h34] at hR
  clear hc hL hD h45 h34 H
  have dc0 := H1.out.c0
  have dc1 := H1.out.c1
  go_enter Tryd.func27, Tryd.ntmps27
  cases hpf : Lib.hasPrefix (s.drop j) [46, 46, 46] with
  | true =>
    rw [hpf] at Hp
    have htk := prefix_dots (s := s) (j := j) Hc.out hpf
    rw [if_pos htk.1, if_pos htk.2.1] at hR
    have Hj3 := hide htk.2.2
    have hj3 := htk.2.2
    have Htk := hide htk
    clear hpf htk
    have HR := hide (show Lx.R.ok 4 [46, 46, 46] 0 3 = R from hR)
    clear hR
    go_wp2_with fail
    refine Hp.out.mono ?_
    rintro e w' ⟨rfl, rfl⟩
    have dy1 := H1.out.y1
    clear Hp
    go_wp2_with fail
    obtain ⟨w2, hw2⟩ : ∃ w', w1.setCell ⟨xb, 1, none⟩ (.int .i64 ((j : Int) + 3)) = w' := ⟨_, rfl⟩
    rw [hw2]
    have H2 := hide (show LexAt B w0 w2 xb s F (j + 3) from by rw [← hw2]; exact H1.out.move Hj3.out)
    have F2 := hide (show Fr (fun q => q = xb) w w2 from by rw [← hw2]; exact F1.out.put1 1 _)
    have HT2 := hide (show Blk w2 tb 33 #[.int .u8 0, .string ⟨#[]⟩, .int .i64 0, .int .i64 0] from by rw [← hw2]; exact HT1.out.far (p := ⟨xb, 1, none⟩) (fun h => Hne.out.1 h.symm) _)
    clear hw2
    clear dc0 dc1 dy1
    have he := dots_at Hc.out Htk.out
    have hqs : j + 3 ≤ s.length := Hj3.out
    have hjq : j ≤ j + 3 := by omega
    obtain ⟨q, hq⟩ : ∃ q, j + 3 = q := ⟨_, rfl⟩
    have Hq := hide hq
    rw [hq] at he hqs hjq H2
    clear hq
    have q0 := HT2.out
    have y0 := q0.frozen 0
    have x0 := q0.cell 0
    have y1 := q0.frozen 1
    have x1 := q0.cell 1
    have y2 := q0.frozen 2
    have x2 := q0.cell 2
    have y3 := q0.frozen 3
    have x3 := q0.cell 3
    have q1 := q0.set_ 0 (.int .u8 4)
    have q2 := q1.set_ 1 (.string ⟨#[46, 46, 46]⟩)
    have q3 := q2.set_ 2 (.int .i64 0)
    have q4 := q3.set_ 3 (.int .i64 (j : Int))
    have Q4 := hide q4
    clear q0 q1 q2 q3 q4
    have dc0 := H2.out.c0
    have dc1 := H2.out.c1
    go_upto_region 7 with fail
    refine wp_region_tail 12 (by kernel_rfl) (by kernel_rfl) ?_
    iterate 12 still_step
    refine wpStill_nil ?_
    go_wp2_with fail
    have r0 := Q4.out.cell 0
    have r1 := Q4.out.cell 1
    have r2 := Q4.out.cell 2
    have r3 := Q4.out.cell 3
    refine bodyPost_ret (v := .tuple #[.agg #[.int .u8 4, .string ⟨#[46, 46, 46]⟩, .int .i64 0, .int .i64 (j : Int)], .int .i64 0]) (by simp [results, Tryd.results27, go_sem, r0, r1, r2, r3, Result.andThen]) rfl ?_
    rw [← HR.out]
    rw [← Hq.out] at H2
    exact ⟨rfl, H2.out.drewN 1 |>.put4 Hne.out.1 Hne.out.2 _ _ _ _, (F2.out.drew).put4 (by rw [Htb.out]; exact Nat.le_refl _) _ _ _ _⟩
  | false =>
    have hno := no_dots Hc.out hpf
    rw [hpf] at Hp
    have hR2 : (if Lx.isSign c then Lx.R.ok 4 [c] 0 1 else Lx.R.bad 0 4) = R := by
      rw [← hR]
      by_cases h46 : c = 46
      · rw [if_pos h46, if_neg (fun h => hno ⟨h46, h⟩), h46]; rfl
      · rw [if_neg h46]
    have hs8 := H1.out.sees H1.out.cls.c8
    rw [any_get Hc.out] at hs8
    have Hs := hide hs8
    clear hR hno hpf hs8
    go_wp2_with fail
    refine Hp.out.mono ?_
    rintro e w' ⟨rfl, rfl⟩
    have df8 := H1.out.f8
    clear Hp
    cases hsg : Lx.isSign c with
    | true =>
      rw [hsg] at Hs hR2
      rw [if_pos rfl] at hR2
      have hR := hR2
      clear hR2 hsg
      have HR := hide (show Lx.R.ok 4 [c] 0 1 = R from hR)
      clear hR
      go_wp2_with fail
      refine Hs.out.mono ?_
      rintro e w2 ⟨rfl, hL, hf⟩
      have H2 := hide hL
      have F2 := hide (fr_xb F1.out hf (fun _ h => h.elim))
      have HT2 := hide (HT1.out.fr hf (fun h => h.elim))
      clear hL hf
      clear dc0 dc1 df8
      have dc0 := H2.out.c0
      have dc1 := H2.out.c1
      have dy1 := H2.out.y1
      go_wp2_with fail
      obtain ⟨w3, hw3⟩ : ∃ w', w2.setCell ⟨xb, 1, none⟩ (.int .i64 ((j : Int) + 1)) = w' := ⟨_, rfl⟩
      rw [hw3]
      have H3 := hide (show LexAt B w0 w3 xb s F (j + 1) from by rw [← hw3]; exact H2.out.move Hjl.out)
      have F3 := hide (show Fr (fun q => q = xb) w w3 from by rw [← hw3]; exact F2.out.put1 1 _)
      have HT3 := hide (show Blk w3 tb 33 #[.int .u8 0, .string ⟨#[]⟩, .int .i64 0, .int .i64 0] from by rw [← hw3]; exact HT2.out.far (p := ⟨xb, 1, none⟩) (fun h => Hne.out.1 h.symm) _)
      clear hw3
      clear dc0 dc1 dy1
      have he := Hone.out
      have hqs : j + 1 ≤ s.length := Hjl.out
      have hjq : j ≤ j + 1 := by omega
      obtain ⟨q, hq⟩ : ∃ q, j + 1 = q := ⟨_, rfl⟩
      have Hq := hide hq
      rw [hq] at he hqs hjq H3
      clear hq
      have q0 := HT3.out
      have y0 := q0.frozen 0
      have x0 := q0.cell 0
      have y1 := q0.frozen 1
      have x1 := q0.cell 1
      have y2 := q0.frozen 2
      have x2 := q0.cell 2
      have y3 := q0.frozen 3
      have x3 := q0.cell 3
      have q1 := q0.set_ 0 (.int .u8 4)
      have q2 := q1.set_ 1 (.string ⟨[c].toArray⟩)
      have q3 := q2.set_ 2 (.int .i64 0)
      have q4 := q3.set_ 3 (.int .i64 (j : Int))
      have Q4 := hide q4
      clear q0 q1 q2 q3 q4
      have dc0 := H3.out.c0
      have dc1 := H3.out.c1
      go_upto_region 7 with fail
      refine wp_region_tail 12 (by kernel_rfl) (by kernel_rfl) ?_
      iterate 12 still_step
      refine wpStill_nil ?_
      go_wp2_with fail
      have r0 := Q4.out.cell 0
      have r1 := Q4.out.cell 1
      have r2 := Q4.out.cell 2
      have r3 := Q4.out.cell 3
      refine bodyPost_ret (v := .tuple #[.agg #[.int .u8 4, .string ⟨[c].toArray⟩, .int .i64 0, .int .i64 (j : Int)], .int .i64 0]) (by simp [results, Tryd.results27, go_sem, r0, r1, r2, r3, Result.andThen]) rfl ?_
      rw [← HR.out]
      rw [← Hq.out] at H3
      exact ⟨rfl, H3.out.drewN 1 |>.put4 Hne.out.1 Hne.out.2 _ _ _ _, (F3.out.drew).put4 (by rw [Htb.out]; exact Nat.le_refl _) _ _ _ _⟩
    | false =>
      rw [hsg] at Hs hR2
      rw [if_neg (by simp)] at hR2
      have hR := hR2
      clear hR2 hsg
      have HR := hide (show Lx.R.bad 0 4 = R from hR)
      clear hR
      go_wp2_with fail
      refine Hs.out.mono ?_
      rintro e w2 ⟨rfl, hL, hf⟩
      have H2 := hide hL
      have F2 := hide (fr_xb F1.out hf (fun _ h => h.elim))
      have HT2 := hide (HT1.out.fr hf (fun h => h.elim))
      clear hL hf
      clear dc0 dc1 df8
      go_wp2_with fail
      refine (fault_any (j) 4 H2.out (Nat.le_of_lt Hjl.out)).mono ?_
      rintro e w3 ⟨rfl, hL, hf⟩
      have H3 := hide hL
      have F3 := hide (fr_xb F2.out hf (fun _ h => h))
      have HT3 := hide (HT2.out.fr hf (fun h => Hne.out.1 h.symm))
      clear hL hf
      simp only [tokZ]
      have q0 := HT3.out
      have y0 := q0.frozen 0
      have x0 := q0.cell 0
      have y1 := q0.frozen 1
      have x1 := q0.cell 1
      have y2 := q0.frozen 2
      have x2 := q0.cell 2
      have y3 := q0.frozen 3
      have x3 := q0.cell 3
      have q1 := q0.set_ 0 (.int .u8 0)
      have q2 := q1.set_ 1 (.string ⟨#[]⟩)
      have q3 := q2.set_ 2 (.int .i64 0)
      have q4 := q3.set_ 3 (.int .i64 0)
      have Q4 := hide q4
      clear q0 q1 q2 q3 q4
      go_wp2_with fail
      have r0 := Q4.out.cell 0
      have r1 := Q4.out.cell 1
      have r2 := Q4.out.cell 2
      have r3 := Q4.out.cell 3
      refine bodyPost_ret (v := .tuple #[.agg #[.int .u8 0, .string ⟨#[]⟩, .int .i64 0, .int .i64 0], .int .i64 4]) (by simp [results, Tryd.results27, go_sem, r0, r1, r2, r3, Result.andThen]) rfl ?_
      rw [← HR.out]
      exact ⟨rfl, H3.out.put4 Hne.out.1 Hne.out.2 _ _ _ _, F3.out.put4 (by rw [Htb.out]; exact Nat.le_refl _) _ _ _ _⟩
end Go.Proofs.YtfbkmjjcopjoeaaDoor
