/- Package lex: quoted. -/
import Derived.Test.YtfbkmjjcopjoeaaDoorNh
namespace Go.Proofs.YtfbkmjjcopjoeaaDoor
open Go.RowKit

def plainB (c : UInt8) : Bool := !(c == 34 || c == 92 || c == 10)
def escB (c : UInt8) : Bool := c == 34 || c == 92 || c == 47 || c == 110 || c == 116
theorem textT_plain : ∀ (l acc : List UInt8) (k : Nat), Lx.textT l acc k = Lx.textT (l.drop (l.takeWhile plainB).length) (acc ++ l.takeWhile plainB) (k + (l.takeWhile plainB).length)
  | [], acc, k => by simp
  | c :: r, acc, k => by
    rw [List.takeWhile_cons]
    by_cases hc : plainB c = true
    · rw [if_pos hc, List.length_cons, List.drop_succ_cons]
      have h : c ≠ 34 ∧ c ≠ 92 ∧ c ≠ 10 := by
        simp only [plainB, Bool.not_eq_true', Bool.or_eq_false_iff, beq_eq_false_iff_ne] at hc
        exact ⟨hc.1.1, hc.1.2, hc.2⟩
      rw [Lx.textT.eq_def]
      simp only
      rw [if_neg h.1, if_neg h.2.2, if_neg h.2.1, textT_plain r (acc ++ [c]) (k + 1), List.append_assoc, List.singleton_append, Nat.add_assoc, Nat.add_comm 1]
    · rw [if_neg hc]; simp
section
variable {s acc : List UInt8} {q k : Nat}
theorem text_none (h : s[q]? = none) : Lx.textT (s.drop q) acc k = .bad k 4 := by
  rw [List.getElem?_eq_none_iff] at h
  rw [List.drop_eq_nil_of_le h, Lx.textT]
theorem text_34 (h : s[q]? = some 34) : Lx.textT (s.drop q) acc k = if 200 < acc.length then .bad 0 2 else .ok 3 acc 0 (k + 1) := by
  rw [drop_at h, Lx.textT.eq_def]; rfl
theorem text_10 (h : s[q]? = some 10) : Lx.textT (s.drop q) acc k = .bad k 4 := by
  rw [drop_at h, Lx.textT.eq_def]; rfl
theorem text_92n (h : s[q]? = some 92) (h2 : (s[q + 1]?).any escB = false) : Lx.textT (s.drop q) acc k = .bad (k + 1) 4 := by
  rw [drop_at h, Lx.textT.eq_def]
  cases hx : s[q + 1]? with
  | none =>
    rw [List.getElem?_eq_none_iff] at hx
    rw [List.drop_eq_nil_of_le hx]; rfl
  | some e =>
    rw [hx] at h2
    rw [drop_at hx]
    have he : Lx.esc e = none := by
      simp only [Option.any_some, escB, Bool.or_eq_false_iff, beq_eq_false_iff_ne] at h2
      simp [Lx.esc, h2]
    simp only [he]
    rfl
theorem text_92s {e b : UInt8} (h : s[q]? = some 92) (h2 : s[q + 1]? = some e) (h3 : Lx.esc e = some b) : Lx.textT (s.drop q) acc k = Lx.textT (s.drop (q + 2)) (acc ++ [b]) (k + 2) := by
  rw [drop_at h, Lx.textT.eq_def, drop_at h2]
  simp only [h3]
  rfl
theorem escB_some {e : UInt8} (h : escB e = true) : ∃ b, Lx.esc e = some b := by
  simp only [escB, Bool.or_eq_true, beq_iff_eq] at h
  rcases h with (((h | h) | h) | h) | h <;> subst h <;> exact ⟨_, rfl⟩
end
set_option maxRecDepth 100000 in
set_option maxHeartbeats 8000000 in
theorem quoted_any {B xb j : Nat} {w0 w : World} {s : List UInt8} {F : Fns} (H : LexAt B w0 w xb s F j) (hc : s[j]? = some 34) :
    Calls Tryd.prog 26 #[.pointer (some ⟨xb, 0, none⟩)] w (TPost B w0 xb s F j w (Lx.oneT (s.drop j))) := by
  have hb3 := buildL3
  have za := zeroLT
  obtain ⟨w1, hw1⟩ : ∃ w1, w.alloc (.cells #[.int .u8 0, .string ⟨#[]⟩, .int .i64 0, .int .i64 0] 33) = w1 := ⟨_, rfl⟩
  obtain ⟨tb, htb⟩ : ∃ tb, w.heap.size = tb := ⟨_, rfl⟩
  have Htb := hide htb
  have hx : xb < w.heap.size := H.blk.lt
  have HT1 := hide (show Blk w1 tb 33 #[.int .u8 0, .string ⟨#[]⟩, .int .i64 0, .int .i64 0] from by rw [← hw1, ← htb]; exact Blk.new w _ _)
  have H1 := hide (H.other (w' := w1) (by rw [← hw1]; exact (Below.refl _ _).alloc (Nat.le_refl _) _))
  have F1 := hide (show Fr (fun q => q = xb) w w1 from by rw [← hw1]; exact (Fr.refl _ _).alloc _)
  have Hne := hide (show xb ≠ tb ∧ w0.heap.size ≤ tb from ⟨by omega, by rw [← htb]; exact H.fr.size⟩)
  have hsz : (⟨s.toArray⟩ : ByteArray).size = s.length := rfl
  obtain ⟨R, hR⟩ : ∃ R, Lx.oneT (s.drop j) = R := ⟨_, rfl⟩
  rw [hR]
  rw [drop_at hc, Lx.oneT_34] at hR
  have hjl : j < s.length := (List.getElem?_eq_some_iff.1 hc).1
  have hlen := H.len
  have Hj := hide (show j ≤ s.length from H.le)
  have hj1 : j + 1 ≤ s.length := hjl
  have Hj1 := hide hj1
  have HR0 := hide hR
  clear hc hR H hjl
  have dc1 := H1.out.c1
  have dy1 := H1.out.y1
  go_enter Tryd.func26, Tryd.ntmps26
  go_upto_region 3 with fail
  obtain ⟨w2, hw2⟩ : ∃ w', w1.setCell ⟨xb, 1, none⟩ (.int .i64 ((j : Int) + 1)) = w' := ⟨_, rfl⟩
  rw [hw2]
  have H2 := hide (show LexAt B w0 w2 xb s F (j + 1) from by rw [← hw2]; exact H1.out.move Hj1.out)
  have F2 := hide (show Fr (fun q => q = xb) w w2 from by rw [← hw2]; exact F1.out.put1 1 _)
  have HT2 := hide (show Blk w2 tb 33 #[.int .u8 0, .string ⟨#[]⟩, .int .i64 0, .int .i64 0] from by rw [← hw2]; exact HT1.out.far (p := ⟨xb, 1, none⟩) (fun h => Hne.out.1 h.symm) _)
  clear hw2
  clear dc1 dy1
  obtain ⟨m0, hm0⟩ : ∃ m, j + 1 + ((s.drop (j + 1)).takeWhile plainB).length = m := ⟨_, rfl⟩
  obtain ⟨a0, ha0⟩ : ∃ a, (s.drop (j + 1)).takeWhile plainB = a := ⟨_, rfl⟩
  have hp := pass_any H2.out H2.out.cls.c10
  change Calls _ _ _ _ (fun e w' => e = .returned (.string ⟨((s.drop (j + 1)).takeWhile plainB).toArray⟩) ∧ LexAt B w0 w' xb s F (j + 1 + ((s.drop (j + 1)).takeWhile plainB).length) ∧ Fr (fun q => q = xb) w2 w') at hp
  rw [hm0, ha0] at hp
  have Hp := hide hp
  have h0 : Lx.textT (s.drop m0) a0 (m0 - j) = R := by
    have h := textT_plain (s.drop (j + 1)) [] 1
    rw [List.drop_drop, hm0, ha0, List.nil_append] at h
    rw [← HR0.out, h, ← hm0, ha0]
    congr 1
    omega
  have hn0 : (s[m0]?).any plainB = false := by rw [← hm0]; exact tw_end _ _ _ _ rfl
  have hal : a0.length ≤ m0 := by rw [← hm0, ha0]; omega
  have Hat := hide (show j < m0 ∧ a0.length ≤ m0 ∧ Lx.textT (s.drop m0) a0 (m0 - j) = R ∧ (s[m0]?).any plainB = false from ⟨by omega, hal, h0, hn0⟩)
  clear hp hm0 ha0 h0 hn0 hal hj1
  have df10 := H2.out.f10
  go_wp2_with fail
  refine Hp.out.mono ?_
  rintro e w3 ⟨rfl, hL, hf⟩
  have H3 := hide hL
  have F3 := hide (fr_xb F2.out hf (fun _ h => h))
  have HT3 := hide (HT2.out.fr hf (fun h => Hne.out.1 h.symm))
  clear hL hf
  clear df10
  clear Hp
  go_wp2_with fail
  go_loopg [5] (s.length - m0) (fun gk tv wr => ∃ (acc : List UInt8) (q : Nat), tv = .string ⟨acc.toArray⟩ ∧ gk = s.length - q ∧ j < q ∧ acc.length ≤ q ∧ LexAt B w0 wr xb s F q ∧ Fr (fun q => q = xb) w wr ∧ Blk wr tb 33 #[.int .u8 0, .string ⟨#[]⟩, .int .i64 0, .int .i64 0] ∧ Lx.textT (s.drop q) acc (q - j) = R ∧ (s[q]?).any plainB = false)
  case atStart => exact ⟨a0, m0, rfl, rfl, Hat.out.1, Hat.out.2.1, H3.out, F3.out, HT3.out, Hat.out.2.2.1, Hat.out.2.2.2⟩
  case round =>
  obtain ⟨acc, q, rfl, rfl, hjq, hal, hL, hf, hT, hR, hnp⟩ := hrel
  clear H1 H2 H3 F1 F2 F3 HT1 HT2 HT3 Hat
  have H4 := hide hL
  have F4 := hide hf
  have HT4 := hide hT
  have hasz : (⟨acc.toArray⟩ : ByteArray).size = acc.length := rfl
  have hql := hL.le
  have Hk := hide (show j < q ∧ acc.length ≤ q ∧ q ≤ s.length from ⟨hjq, hal, hL.le⟩)
  have Hs11 := hide (hL.sees hL.cls.c11)
  clear hL hf hT hjq
  cases hb : (s[q]?).any (fun c => c == 92) with
  | true =>
    rw [hb] at Hs11
    have hq92 : s[q]? = some 92 := by
      obtain ⟨c, h1, h2⟩ := (Option.any_eq_true _ _).1 hb
      rw [h1, show c = 92 by simpa using h2]
    have hql1 : q + 1 ≤ s.length := (List.getElem?_eq_some_iff.1 hq92).1
    have Hq92 := hide hq92
    have Hql1 := hide hql1
    have HRq := hide hR
    clear hb hnp hR hq92
    have df11 := H4.out.f11
    go_wp2_with fail
    refine Hs11.out.mono ?_
    rintro e w5 ⟨rfl, hL, hf⟩
    have H5 := hide hL
    have F5 := hide (fr_xb F4.out hf (fun _ h => h.elim))
    have HT5 := hide (HT4.out.fr hf (fun h => h.elim))
    clear hL hf
    clear df11
    have dc1 := H5.out.c1
    have dy1 := H5.out.y1
    go_upto_region 6 with fail
    obtain ⟨w6, hw6⟩ : ∃ w', w5.setCell ⟨xb, 1, none⟩ (.int .i64 ((q : Int) + 1)) = w' := ⟨_, rfl⟩
    rw [hw6]
    have H6 := hide (show LexAt B w0 w6 xb s F (q + 1) from by rw [← hw6]; exact H5.out.move Hql1.out)
    have F6 := hide (show Fr (fun q => q = xb) w w6 from by rw [← hw6]; exact F5.out.put1 1 _)
    have HT6 := hide (show Blk w6 tb 33 #[.int .u8 0, .string ⟨#[]⟩, .int .i64 0, .int .i64 0] from by rw [← hw6]; exact HT5.out.far (p := ⟨xb, 1, none⟩) (fun h => Hne.out.1 h.symm) _)
    clear hw6
    clear dc1 dy1
    obtain ⟨p, hp⟩ : ∃ p, q + 1 = p := ⟨_, rfl⟩
    rw [hp] at H6
    have Hs12 := hide (H6.out.sees H6.out.cls.c12)
    cases he : (s[p]?).any (fun c => c == 34 || c == 92 || c == 47 || c == 110 || c == 116) with
    | false =>
      rw [he] at Hs12
      have hR := HRq.out
      rw [text_92n Hq92.out (by rw [hp]; exact he)] at hR
      have Hpp := hide (show j + (q - j + 1) = p from by have := Hk.out; omega)
      clear he hp
      have HR := hide (show Lx.R.bad (q - j + 1) 4 = R from hR)
      clear hR
      have df12 := H6.out.f12
      go_wp2_with fail
      refine Hs12.out.mono ?_
      rintro e w7 ⟨rfl, hL, hf⟩
      have H7 := hide hL
      have F7 := hide (fr_xb F6.out hf (fun _ h => h.elim))
      have HT7 := hide (HT6.out.fr hf (fun h => h.elim))
      clear hL hf
      clear df12
      have dc1 := H7.out.c1
      go_wp2_with fail
      refine (fault_any p 4 H7.out H7.out.le).mono ?_
      rintro e w8 ⟨rfl, hL, hf⟩
      have H8 := hide hL
      have F8 := hide (fr_xb F7.out hf (fun _ h => h))
      have HT8 := hide (HT7.out.fr hf (fun h => Hne.out.1 h.symm))
      clear hL hf
      simp only [tokZ]
      rw [← Hpp.out] at H8
      have q0 := HT8.out
      have y0 := q0.frozen 0
      have x0 := q0.cell 0
      have y1 := q0.frozen 1
      have x1 := q0.cell 1
      have y2 := q0.frozen 2
      have x2 := q0.cell 2
      have y3 := q0.frozen 3
      have x3 := q0.cell 3
      have q1 := q0.set_ 0 (.int .u8 0)
      have q2 := q1.set_ 1 (.string ⟨#[]⟩)
      have q3 := q2.set_ 2 (.int .i64 0)
      have q4 := q3.set_ 3 (.int .i64 0)
      have Q4 := hide q4
      clear q0 q1 q2 q3 q4
      go_wp2_with fail
      have r0 := Q4.out.cell 0
      have r1 := Q4.out.cell 1
      have r2 := Q4.out.cell 2
      have r3 := Q4.out.cell 3
      refine bodyPost_ret (v := .tuple #[.agg #[.int .u8 0, .string ⟨#[]⟩, .int .i64 0, .int .i64 0], .int .i64 4]) (by simp [results, Tryd.results26, go_sem, r0, r1, r2, r3, Result.andThen]) rfl ?_
      rw [← HR.out]
      exact ⟨rfl, H8.out.put4 Hne.out.1 Hne.out.2 _ _ _ _, F8.out.put4 (by rw [Htb.out]; exact Nat.le_refl _) _ _ _ _⟩
    | true =>
      rw [he] at Hs12
      obtain ⟨e', hpe, hee⟩ := (Option.any_eq_true _ _).1 he
      obtain ⟨b, hbe⟩ := escB_some hee
      have hpl : p < s.length := (List.getElem?_eq_some_iff.1 hpe).1
      have hg := fun h => ba_get hpe h
      have Hpl := hide hpl
      have hp1 : p + 1 ≤ s.length := hpl
      obtain ⟨r, hr⟩ : ∃ r, q + 2 = r := ⟨_, rfl⟩
      obtain ⟨m1, hm1⟩ : ∃ m, r + ((s.drop r).takeWhile plainB).length = m := ⟨_, rfl⟩
      obtain ⟨a1, ha1⟩ : ∃ a, (s.drop r).takeWhile plainB = a := ⟨_, rfl⟩
      have hR2 : Lx.textT (s.drop m1) (acc ++ [b] ++ a1) (m1 - j) = R := by
        have h1 := text_92s (acc := acc) (k := q - j) Hq92.out (by rw [hp]; exact hpe) hbe
        rw [HRq.out, hr, textT_plain, List.drop_drop, hm1, ha1] at h1
        rw [h1]
        congr 1
        rw [← hm1, ha1]
        have := Hk.out
        omega
      have hnp2 : (s[m1]?).any plainB = false := by rw [← hm1]; exact tw_end _ _ _ _ rfl
      have hm1l : m1 ≤ s.length := by rw [← hm1]; exact tw_len_le _ _ _ (by omega)
      have hla : a1.length + r = m1 := by rw [← hm1, ha1]; omega
      have Hnx := hide (show Lx.textT (s.drop m1) (acc ++ [b] ++ a1) (m1 - j) = R ∧ (s[m1]?).any plainB = false ∧ m1 ≤ s.length ∧ r ≤ m1 ∧ a1.length + r = m1 ∧ q + 2 = r from ⟨hR2, hnp2, hm1l, by omega, hla, hr⟩)
      have Hme := hide (fun w => meaning_any e' b w hbe)
      have hcat : (⟨acc.toArray⟩ : ByteArray) ++ (⟨#[b]⟩ : ByteArray) = ⟨(acc ++ [b]).toArray⟩ := ba_cat acc [b]
      have hcat2 : (⟨(acc ++ [b]).toArray⟩ : ByteArray) ++ (⟨a1.toArray⟩ : ByteArray) = ⟨(acc ++ [b] ++ a1).toArray⟩ := ba_cat (acc ++ [b]) a1
      have hb1 : (⟨#[b]⟩ : ByteArray).size = 1 := rfl
      have hlim : ¬ 9223372036854775807 < acc.length + 1 := by omega
      have Hpr := hide (show p + 1 = r from by omega)
      have Hma := hide (show r + ((s.drop r).takeWhile plainB).length = m1 ∧ (s.drop r).takeWhile plainB = a1 from ⟨hm1, ha1⟩)
      clear hR2 hnp2 hm1l hla hbe hee hpe he hp hr hm1 ha1
      have df12 := H6.out.f12
      go_wp2_with fail
      refine Hs12.out.mono ?_
      rintro e w7 ⟨rfl, hL, hf⟩
      have H7 := hide hL
      have F7 := hide (fr_xb F6.out hf (fun _ h => h.elim))
      have HT7 := hide (HT6.out.fr hf (fun h => h.elim))
      clear hL hf
      clear df12
      have dc0 := H7.out.c0
      have dc1 := H7.out.c1
      have Hm2 := hide (show ∀ n, Calls Tryd.prog 39 #[.int .u8 (e'.toNat : Int)] (w7.drewN n) fun en w' => en = .returned (.string ⟨#[b]⟩) ∧ w' = w7.drewN n from fun n => (Hme.out (w7.drewN n)).mono (fun e w' ⟨h1, h2⟩ => ⟨h1, h2.symm⟩))
      go_upto_region 8 with fail
      go_quiet (exact Calls.quiet_of_same (Hm2.out _))
      have hL0 := H7.out.drewN nq
      have hT0 := HT7.out.drewN nq
      have hF0 := F7.out.drewN nq
      clear dc0 dc1
      obtain ⟨w8, hw8⟩ : ∃ wz, w7.drewN nq = wz := ⟨_, rfl⟩
      rw [hw8] at hL0 hT0 hF0 ⊢
      have H8 := hide hL0
      have F8 := hide hF0
      have HT8 := hide hT0
      clear hL0 hT0 hF0 hw8 Hm2 Hme hg
      have dc1 := H8.out.c1
      have dy1 := H8.out.y1
      go_upto_region 10 with fail
      obtain ⟨w9, hw9⟩ : ∃ w', w8.setCell ⟨xb, 1, none⟩ (.int .i64 ((p : Int) + 1)) = w' := ⟨_, rfl⟩
      rw [hw9]
      have H9 := hide (show LexAt B w0 w9 xb s F (p + 1) from by rw [← hw9]; exact H8.out.move hp1)
      have F9 := hide (show Fr (fun q => q = xb) w w9 from by rw [← hw9]; exact F8.out.put1 1 _)
      have HT9 := hide (show Blk w9 tb 33 #[.int .u8 0, .string ⟨#[]⟩, .int .i64 0, .int .i64 0] from by rw [← hw9]; exact HT8.out.far (p := ⟨xb, 1, none⟩) (fun h => Hne.out.1 h.symm) _)
      clear hw9
      clear dc1 dy1
      rw [Hpr.out] at H9
      have hp9 := pass_any H9.out H9.out.cls.c10
      change Calls _ _ _ _ (fun e w' => e = .returned (.string ⟨((s.drop r).takeWhile plainB).toArray⟩) ∧ LexAt B w0 w' xb s F (r + ((s.drop r).takeWhile plainB).length) ∧ Fr (fun q => q = xb) w9 w') at hp9
      rw [Hma.out.1, Hma.out.2] at hp9
      have Hp9 := hide hp9
      have hz1 : (⟨(acc ++ [b]).toArray⟩ : ByteArray).size = acc.length + 1 := by show (acc ++ [b]).length = _; simp
      have hz2 : (⟨a1.toArray⟩ : ByteArray).size = a1.length := rfl
      have hz3 : a1.length ≤ s.length := by have := Hnx.out; omega
      have hz4 : acc.length ≤ s.length := by have := Hk.out; omega
      have hlim2 : ¬ 9223372036854775807 < acc.length + 1 + a1.length := by omega
      clear hp9 hp1 hpl hql1 hql hal hlim
      have df10 := H9.out.f10
      go_wp2_with fail
      refine Hp9.out.mono ?_
      rintro e wx ⟨rfl, hL, hf⟩
      have HX := hide hL
      have FX := hide (fr_xb F9.out hf (fun _ h => h))
      have HTX := hide (HT9.out.fr hf (fun h => Hne.out.1 h.symm))
      clear hL hf
      clear df10
      go_wp2_with fail
      go_roundg (s.length - m1)
      case measure => have := Hnx.out; omega
      case rel => exact ⟨acc ++ [b] ++ a1, m1, by rw [List.append_assoc]; rfl, rfl, by have := Hnx.out; have := Hk.out; omega, by have := Hnx.out; have := Hk.out; simp; omega, HX.out, FX.out, HTX.out, Hnx.out.1, Hnx.out.2.1⟩
  | false =>
    rw [hb] at Hs11
    have Hb := hide hb
    have Hnp := hide hnp
    have HRq := hide hR
    clear hb hnp hR
    have df11 := H4.out.f11
    go_wp2_with fail
    refine Hs11.out.mono ?_
    rintro e w5 ⟨rfl, hL, hf⟩
    have H5 := hide hL
    have F5 := hide (fr_xb F4.out hf (fun _ h => h.elim))
    have HT5 := hide (HT4.out.fr hf (fun h => h.elim))
    clear hL hf
    clear df11
    have Hs9 := hide (H5.out.sees H5.out.cls.c9)
    cases hqt : (s[q]?).any (fun c => c == 34) with
    | false =>
      rw [hqt] at Hs9
      have hR := HRq.out
      have hbad : Lx.textT (s.drop q) acc (q - j) = .bad (q - j) 4 := by
        cases hx : s[q]? with
        | none => exact text_none hx
        | some c =>
          have h1 := Hb.out
          have h2 := Hnp.out
          rw [hx] at h1 h2 hqt
          simp only [Option.any_some, plainB, beq_eq_false_iff_ne] at h1 h2 hqt
          have h10 : c = 10 := by
            simp only [Bool.not_eq_false', Bool.or_eq_true, beq_iff_eq] at h2
            rcases h2 with (h | h) | h
            · exact (hqt h).elim
            · exact (h1 h).elim
            · exact h
          exact text_10 (by rw [hx, h10])
      rw [hbad] at hR
      have Hpp := hide (show j + (q - j) = q from by have := Hk.out; omega)
      clear hbad hqt
      have HR := hide (show Lx.R.bad (q - j) 4 = R from hR)
      clear hR
      have df9 := H5.out.f9
      go_wp2_with fail
      refine Hs9.out.mono ?_
      rintro e w6 ⟨rfl, hL, hf⟩
      have H6 := hide hL
      have F6 := hide (fr_xb F5.out hf (fun _ h => h.elim))
      have HT6 := hide (HT5.out.fr hf (fun h => h.elim))
      clear hL hf
      clear df9
      have dc1 := H6.out.c1
      go_wp2_with fail
      refine (fault_any q 4 H6.out H6.out.le).mono ?_
      rintro e w7 ⟨rfl, hL, hf⟩
      have H7 := hide hL
      have F7 := hide (fr_xb F6.out hf (fun _ h => h))
      have HT7 := hide (HT6.out.fr hf (fun h => Hne.out.1 h.symm))
      clear hL hf
      simp only [tokZ]
      rw [← Hpp.out] at H7
      have q0 := HT7.out
      have y0 := q0.frozen 0
      have x0 := q0.cell 0
      have y1 := q0.frozen 1
      have x1 := q0.cell 1
      have y2 := q0.frozen 2
      have x2 := q0.cell 2
      have y3 := q0.frozen 3
      have x3 := q0.cell 3
      have q1 := q0.set_ 0 (.int .u8 0)
      have q2 := q1.set_ 1 (.string ⟨#[]⟩)
      have q3 := q2.set_ 2 (.int .i64 0)
      have q4 := q3.set_ 3 (.int .i64 0)
      have Q4 := hide q4
      clear q0 q1 q2 q3 q4
      go_wp2_with fail
      have r0 := Q4.out.cell 0
      have r1 := Q4.out.cell 1
      have r2 := Q4.out.cell 2
      have r3 := Q4.out.cell 3
      refine bodyPost_ret (v := .tuple #[.agg #[.int .u8 0, .string ⟨#[]⟩, .int .i64 0, .int .i64 0], .int .i64 4]) (by simp [results, Tryd.results26, go_sem, r0, r1, r2, r3, Result.andThen]) rfl ?_
      rw [← HR.out]
      exact ⟨rfl, H7.out.put4 Hne.out.1 Hne.out.2 _ _ _ _, F7.out.put4 (by rw [Htb.out]; exact Nat.le_refl _) _ _ _ _⟩
    | true =>
      rw [hqt] at Hs9
      have hq34 : s[q]? = some 34 := by
        obtain ⟨c, h1, h2⟩ := (Option.any_eq_true _ _).1 hqt
        rw [h1, show c = 34 by simpa using h2]
      have hql1 : q + 1 ≤ s.length := (List.getElem?_eq_some_iff.1 hq34).1
      have hR := HRq.out
      rw [text_34 hq34] at hR
      have Hpp := hide (show j + (q - j + 1) = q + 1 from by have := Hk.out; omega)
      clear hqt hq34
      have df9 := H5.out.f9
      go_wp2_with fail
      refine Hs9.out.mono ?_
      rintro e w6 ⟨rfl, hL, hf⟩
      have H6 := hide hL
      have F6 := hide (fr_xb F5.out hf (fun _ h => h.elim))
      have HT6 := hide (HT5.out.fr hf (fun h => h.elim))
      clear hL hf
      clear df9
      have dc1 := H6.out.c1
      have dy1 := H6.out.y1
      go_upto_region 14 with fail
      obtain ⟨w7, hw7⟩ : ∃ w', w6.setCell ⟨xb, 1, none⟩ (.int .i64 ((q : Int) + 1)) = w' := ⟨_, rfl⟩
      rw [hw7]
      have H7 := hide (show LexAt B w0 w7 xb s F (q + 1) from by rw [← hw7]; exact H6.out.move hql1)
      have F7 := hide (show Fr (fun q => q = xb) w w7 from by rw [← hw7]; exact F6.out.put1 1 _)
      have HT7 := hide (show Blk w7 tb 33 #[.int .u8 0, .string ⟨#[]⟩, .int .i64 0, .int .i64 0] from by rw [← hw7]; exact HT6.out.far (p := ⟨xb, 1, none⟩) (fun h => Hne.out.1 h.symm) _)
      clear hw7
      clear dc1 dy1
      by_cases h200 : 200 < acc.length
      case pos =>
        rw [if_pos h200] at hR
        have HR := hide (show Lx.R.bad 0 2 = R from hR)
        clear hR
        go_wp2_with fail
        refine (fault_any j 2 H7.out Hj.out).mono ?_
        rintro e w8 ⟨rfl, hL, hf⟩
        have H8 := hide hL
        have F8 := hide (fr_xb F7.out hf (fun _ h => h))
        have HT8 := hide (HT7.out.fr hf (fun h => Hne.out.1 h.symm))
        clear hL hf
        simp only [tokZ]
        have q0 := HT8.out
        have y0 := q0.frozen 0
        have x0 := q0.cell 0
        have y1 := q0.frozen 1
        have x1 := q0.cell 1
        have y2 := q0.frozen 2
        have x2 := q0.cell 2
        have y3 := q0.frozen 3
        have x3 := q0.cell 3
        have q1 := q0.set_ 0 (.int .u8 0)
        have q2 := q1.set_ 1 (.string ⟨#[]⟩)
        have q3 := q2.set_ 2 (.int .i64 0)
        have q4 := q3.set_ 3 (.int .i64 0)
        have Q4 := hide q4
        clear q0 q1 q2 q3 q4
        go_wp2_with fail
        have r0 := Q4.out.cell 0
        have r1 := Q4.out.cell 1
        have r2 := Q4.out.cell 2
        have r3 := Q4.out.cell 3
        refine bodyPost_ret (v := .tuple #[.agg #[.int .u8 0, .string ⟨#[]⟩, .int .i64 0, .int .i64 0], .int .i64 2]) (by simp [results, Tryd.results26, go_sem, r0, r1, r2, r3, Result.andThen]) rfl ?_
        rw [← HR.out]
        exact ⟨rfl, H8.out.put4 Hne.out.1 Hne.out.2 _ _ _ _, F8.out.put4 (by rw [Htb.out]; exact Nat.le_refl _) _ _ _ _⟩
      rw [if_neg h200] at hR
      rw [← Hpp.out] at H7
      have HR := hide (show Lx.R.ok 3 acc 0 (q - j + 1) = R from hR)
      clear hR
      have q0 := HT7.out
      have y0 := q0.frozen 0
      have x0 := q0.cell 0
      have y1 := q0.frozen 1
      have x1 := q0.cell 1
      have y2 := q0.frozen 2
      have x2 := q0.cell 2
      have y3 := q0.frozen 3
      have x3 := q0.cell 3
      have q1 := q0.set_ 0 (.int .u8 3)
      have q2 := q1.set_ 1 (.string ⟨acc.toArray⟩)
      have q3 := q2.set_ 2 (.int .i64 0)
      have q4 := q3.set_ 3 (.int .i64 (j : Int))
      have Q4 := hide q4
      clear q0 q1 q2 q3 q4
      go_wp2_with fail
      have r0 := Q4.out.cell 0
      have r1 := Q4.out.cell 1
      have r2 := Q4.out.cell 2
      have r3 := Q4.out.cell 3
      refine bodyPost_ret (v := .tuple #[.agg #[.int .u8 3, .string ⟨acc.toArray⟩, .int .i64 0, .int .i64 (j : Int)], .int .i64 0]) (by simp [results, Tryd.results26, go_sem, r0, r1, r2, r3, Result.andThen]) rfl ?_
      rw [← HR.out]
      exact ⟨rfl, H7.out.put4 Hne.out.1 Hne.out.2 _ _ _ _, F7.out.put4 (by rw [Htb.out]; exact Nat.le_refl _) _ _ _ _⟩
end Go.Proofs.YtfbkmjjcopjoeaaDoor
