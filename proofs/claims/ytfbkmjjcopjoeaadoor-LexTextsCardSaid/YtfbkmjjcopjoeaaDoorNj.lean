/- Package lex: number. -/
import Derived.Test.YtfbkmjjcopjoeaaDoorNh
import Derived.Lib.ParseIntBCases
import Derived.Lib.AtoiErrMem
namespace Go.Proofs.YtfbkmjjcopjoeaaDoor
open Go.RowKit

theorem numT_val {s : List UInt8} {j m f n0 q : Nat} {ds : List UInt8} (hf : j + m = f) (hds : (s.drop f).takeWhile Lx.isDigit = ds) (hn : ds.length = n0) (hq : f + n0 = q) :
    Lx.numT (s.drop j) m = if n0 = 0 then .bad m 4 else if s[f]? = some 48 ∧ 1 < n0 then .bad (m + 1) 4 else if (s[q]?.any fun c => Lx.isLetter c || c == 46) = true then .bad (m + n0) 4
      else if 18 < n0 then .bad 0 1 else .ok 2 ((s.take q).drop j) (if m = 1 then -(Lx.val ds 0 : Int) else (Lx.val ds 0 : Int)) (m + n0) := by
  unfold Lx.numT
  rw [List.drop_drop, hf, hds]
  simp only
  have h0 : ds = [] ↔ n0 = 0 := by rw [← hn, List.length_eq_zero_iff]
  by_cases e0 : n0 = 0
  · rw [if_pos (h0.2 e0), if_pos e0]
  · rw [if_neg (fun h => e0 (h0.1 h)), if_neg e0]
    have hh : ds.head? = s[f]? := by
      have h := Lx.takeWhile_take Lx.isDigit (s.drop f)
      rw [hds] at h
      rw [h, List.head?_take, if_neg (by omega), List.head?_drop]
    rw [hh, hn]
    by_cases e1 : s[f]? = some 48 ∧ 1 < n0
    · rw [if_pos e1, if_pos e1]
    · rw [if_neg e1, if_neg e1, List.drop_drop, show j + (m + n0) = q by omega, List.head?_drop]
      by_cases e2 : (s[q]?.any fun c => Lx.isLetter c || c == 46) = true
      · rw [if_pos e2, if_pos e2]
      · rw [if_neg e2, if_neg e2]
        by_cases e3 : 18 < n0
        · rw [if_pos e3, if_pos e3]
        · rw [if_neg e3, if_neg e3, List.take_drop, show j + (m + n0) = q by omega]
theorem letter_or {o : Option UInt8} (h : o.any Lx.isLetter = true) : (o.any fun c => Lx.isLetter c || c == 46) = true := by
  cases o with
  | none => cases h
  | some c => simp only [Option.any_some] at h ⊢; rw [h]; rfl
theorem dot_or {o : Option UInt8} (h : o.any (fun c => c == 46) = true) : (o.any fun c => Lx.isLetter c || c == 46) = true := by
  cases o with
  | none => cases h
  | some c => simp only [Option.any_some] at h ⊢; rw [h, Bool.or_true]
theorem not_or {o : Option UInt8} (h : o.any Lx.isLetter = false) (h2 : o.any (fun c => c == 46) = false) : ¬ (o.any fun c => Lx.isLetter c || c == 46) = true := by
  cases o with
  | none => simp
  | some c => simp only [Option.any_some] at h h2 ⊢; rw [h, h2]; simp
theorem parseM_ok : ∀ (l : List UInt8) (a : Nat), (∀ c ∈ l, Lx.isDigit c = true) → (a + 1) * 10 ^ l.length ≤ 10 ^ 18 → Lib.parseUintM (2 ^ 64 - 1) a l = .ok (Lx.val l a)
  | [], a, _, _ => rfl
  | c :: r, a, h, hb => by
    have hc := h c List.mem_cons_self
    rw [digit_nat] at hc
    simp at hc
    rw [List.length_cons, Nat.pow_succ] at hb
    have h10 : 1 ≤ 10 ^ r.length := Nat.pow_pos (by decide)
    have h1 : (a + 1) * 10 ≤ 10 ^ 18 := Nat.le_trans (Nat.mul_le_mul_left _ (show 10 ≤ 10 ^ r.length * 10 by omega)) hb
    have h2 : (a * 10 + (c.toNat - 48) + 1) * 10 ^ r.length ≤ 10 ^ 18 := by
      refine Nat.le_trans (Nat.mul_le_mul_right _ (show a * 10 + (c.toNat - 48) + 1 ≤ (a + 1) * 10 by omega)) ?_
      rw [Nat.mul_assoc, Nat.mul_comm 10]
      exact hb
    rw [Lib.parseUintM, if_pos hc, if_neg (by omega), if_neg (by omega), Lx.val]
    exact parseM_ok r _ (fun d hd => h d (List.mem_cons_of_mem _ hd)) h2
def numText (m : Nat) (ds : List UInt8) : List UInt8 := if m = 1 then 45 :: ds else ds
theorem parse_num {c : UInt8} {m : Nat} {ds : List UInt8} (hm : (c = 45 ∧ m = 1) ∨ (c ≠ 45 ∧ m = 0)) (hd : ∀ c ∈ ds, Lx.isDigit c = true) (h18 : ds.length ≤ 18) (h0 : 0 < ds.length) :
    Lib.parseIntB 64 (numText m ds) = .ok (if m = 1 then -(Lx.val ds 0 : Int) else (Lx.val ds 0 : Int)) := by
  have hb : (0 + 1) * 10 ^ ds.length ≤ 10 ^ 18 := by rw [Nat.zero_add, Nat.one_mul]; exact Nat.pow_le_pow_right (by decide) h18
  have hM := parseM_ok ds 0 hd hb
  have hU : Lib.parseUintB 64 ds = .ok (Lx.val ds 0) := by rw [Lib.parseUintB, if_neg (fun h => by rw [h] at h0; cases h0)]; exact hM
  have hv : Lx.val ds 0 < 10 ^ 18 := Nat.lt_of_lt_of_le (val_lt ds hd) (Nat.pow_le_pow_right (by decide) h18)
  rcases hm with ⟨_, rfl⟩ | ⟨_, rfl⟩
  · rw [numText, if_pos rfl, if_pos rfl, Lib.parseIntB]
    simp only [show (45 : UInt8).toNat = 45 from rfl, or_true, if_true, hU, not_true_eq_false, false_and, if_false, true_and]
    rw [if_neg (by omega)]
  · rw [numText, if_neg (by decide), if_neg (by decide)]
    cases ds with
    | nil => cases h0
    | cons d r =>
      have hdd := hd d List.mem_cons_self
      rw [digit_nat] at hdd
      simp at hdd
      rw [Lib.parseIntB]
      simp only [if_neg (show ¬ (d.toNat = 43 ∨ d.toNat = 45) by omega), hU]
      rw [if_neg (by omega), if_neg (by omega), if_neg (by omega)]
theorem num_text {s : List UInt8} {c : UInt8} {j m f q : Nat} {ds : List UInt8} (hm : (c = 45 ∧ m = 1) ∨ (c ≠ 45 ∧ m = 0)) (hc : s[j]? = some c) (hf : j + m = f) (hds : (s.drop f).takeWhile Lx.isDigit = ds) (hq : f + ds.length = q) : (s.take q).drop j = numText m ds := by
  have hdt : ds = (s.drop f).take ds.length := by have h := Lx.takeWhile_take Lx.isDigit (s.drop f); rwa [hds] at h
  rw [show q = j + (m + ds.length) by omega, ← List.take_drop]
  rcases hm with ⟨rfl, rfl⟩ | ⟨_, rfl⟩
  · rw [numText, if_pos rfl, drop_at hc, Nat.add_comm 1, List.take_succ_cons, hf, ← hdt]
  · rw [numText, if_neg (by decide), Nat.zero_add, show j = f by omega, ← hdt]
theorem parse_any (t : List UInt8) (v : Int) (w : World) (h : Lib.parseIntB 64 t = .ok v) (hl : t.length ≤ 2000) : Calls Tryd.prog 38 #[.string ⟨t.toArray⟩, .int .i64 10, .int .i64 64] w fun e w' => e = .returned (.tuple #[.int .i64 v, .nilIface]) ∧ Below w.heap.size w w' := by
  refine (Tryd.strconv_ParseInt_10_at64_ok ⟨t.toArray⟩ (by show t.length ≤ _; omega) v h w).mono ?_
  rintro e w' ⟨rfl, h⟩
  refine ⟨rfl, ?_⟩
  rcases h with rfl | ⟨t, rfl⟩
  · exact Below.refl _ _
  · exact Lib.bytesWorld_below _ _ _
theorem buildL4 (a : ByteArray) (v j : Int) (w : World) : (Instr.build 33 #[(0, .int .u8 2), (1, .string a), (2, .int .i64 v), (3, .int .i64 j)]).run Tryd.prog w = .ok (.agg #[.int .u8 2, .string a, .int .i64 v, .int .i64 j]) w := run_build w _ _ _ (by kernel_rfl)
set_option maxRecDepth 100000 in
set_option maxHeartbeats 8000000 in
theorem number_any' {B xb j m : Nat} {w0 w : World} {s : List UInt8} {F : Fns} {c : UInt8} (H : LexAt B w0 w xb s F j) (hc : s[j]? = some c) (hm : (c = 45 ∧ m = 1) ∨ (c ≠ 45 ∧ m = 0)) :
    Calls Tryd.prog 25 #[.pointer (some ⟨xb, 0, none⟩)] w (TPost B w0 xb s F j w (Lx.numT (s.drop j) m)) := by
  have hb4 := buildL4
  have za := zeroLT
  obtain ⟨w1, hw1⟩ : ∃ w1, w.alloc (.cells #[.int .u8 0, .string ⟨#[]⟩, .int .i64 0, .int .i64 0] 33) = w1 := ⟨_, rfl⟩
  obtain ⟨tb, htb⟩ : ∃ tb, w.heap.size = tb := ⟨_, rfl⟩
  have Htb := hide htb
  have hx : xb < w.heap.size := H.blk.lt
  have HT1 := hide (show Blk w1 tb 33 #[.int .u8 0, .string ⟨#[]⟩, .int .i64 0, .int .i64 0] from by rw [← hw1, ← htb]; exact Blk.new w _ _)
  have H1 := hide (H.other (w' := w1) (by rw [← hw1]; exact (Below.refl _ _).alloc (Nat.le_refl _) _))
  have F1 := hide (show Fr (fun q => q = xb) w w1 from by rw [← hw1]; exact (Fr.refl _ _).alloc _)
  have Hne := hide (show xb ≠ tb ∧ w0.heap.size ≤ tb from ⟨by omega, by rw [← htb]; exact H.fr.size⟩)
  have hsz : (⟨s.toArray⟩ : ByteArray).size = s.length := rfl
  obtain ⟨f, hf⟩ : ∃ f, j + m = f := ⟨_, rfl⟩
  obtain ⟨ds, hds⟩ : ∃ ds, (s.drop f).takeWhile Lx.isDigit = ds := ⟨_, rfl⟩
  obtain ⟨n0, hn0⟩ : ∃ n0, ds.length = n0 := ⟨_, rfl⟩
  obtain ⟨q, hq⟩ : ∃ q, f + n0 = q := ⟨_, rfl⟩
  obtain ⟨R, hR⟩ : ∃ R, Lx.numT (s.drop j) m = R := ⟨_, rfl⟩
  rw [hR]
  rw [numT_val hf hds hn0 hq] at hR
  have hjl : j < s.length := (List.getElem?_eq_some_iff.1 hc).1
  have Hf := hide hf
  have Hds := hide hds
  have Hn0 := hide hn0
  have Hq := hide hq
  have Hc := hide hc
  have Hm := hide hm
  have Hq2 := hide (show j + (m + n0) = q from by rw [← hq, ← hf, Nat.add_assoc])
  have Hf2 := hide (show f ≤ s.length from by rw [← hf]; rcases hm with ⟨_, rfl⟩ | ⟨_, rfl⟩ <;> omega)
  have Hjl := hide (show j ≤ s.length from H.le)
  have Hj1 := hide (show j + 1 ≤ s.length from hjl)
  have Hdt := hide (show ds = (s.drop f).take n0 from by have h := Lx.takeWhile_take Lx.isDigit (s.drop f); rw [hds, hn0] at h; exact h)
  have Hdd := hide (show ∀ c ∈ ds, Lx.isDigit c = true from fun c hcm => by rw [← hds] at hcm; exact Lx.mem_takeWhile_p _ _ c hcm)
  have hdz : (⟨ds.toArray⟩ : ByteArray).size = n0 := hn0
  have hlen := H.len
  have hs6 := H1.out.sees H1.out.cls.c6
  rw [any_get hc] at hs6
  have Hs6 := hide hs6
  clear hf hds hn0 hq hc hs6 H
  have dc1 := H1.out.c1
  have df6 := H1.out.f6
  go_enter Tryd.func25, Tryd.ntmps25
  rcases hm with ⟨hc45, hm1⟩ | ⟨hc45, hm0⟩
  · have hb : (c == 45) = true := by rw [hc45]; rfl
    rw [hb] at Hs6
    clear hb hc45
    go_wp2_with fail
    refine Hs6.out.mono ?_
    rintro e w2 ⟨rfl, hL, hf⟩
    have H2 := hide hL
    have F2 := hide (fr_xb F1.out hf (fun _ h => h.elim))
    have HT2 := hide (HT1.out.fr hf (fun h => h.elim))
    clear hL hf
    clear dc1 df6
    have dc1 := H2.out.c1
    have dy1 := H2.out.y1
    have hj1 := Hj1.out
    go_upto_region 4 with fail
    obtain ⟨w3, hw3⟩ : ∃ w', w2.setCell ⟨xb, 1, none⟩ (.int .i64 ((j : Int) + 1)) = w' := ⟨_, rfl⟩
    rw [hw3]
    have H3 := hide (show LexAt B w0 w3 xb s F (f) from by rw [← hw3, show (.int .i64 ((j : Int) + 1) : Value) = .int .i64 (f : Int) from by rw [← Hf.out, hm1]; rfl]; exact H2.out.move Hf2.out)
    have F3 := hide (show Fr (fun q => q = xb) w w3 from by rw [← hw3]; exact F2.out.put1 1 _)
    have HT3 := hide (show Blk w3 tb 33 #[.int .u8 0, .string ⟨#[]⟩, .int .i64 0, .int .i64 0] from by rw [← hw3]; exact HT2.out.far (p := ⟨xb, 1, none⟩) (fun h => Hne.out.1 h.symm) _)
    clear hw3
    clear dc1 dy1
    clear hm1 hj1
    have hp := pass_any H3.out H3.out.cls.c4
    rw [Hds.out] at hp
    have Hp := hide hp
    clear hp
    have dc1 := H3.out.c1
    have df4 := H3.out.f4
    go_wp2_with fail
    refine Hp.out.mono ?_
    rintro e w4 ⟨rfl, hL, hf⟩
    have H4 := hide hL
    have F4 := hide (fr_xb F3.out hf (fun _ h => h))
    have HT4 := hide (HT3.out.fr hf (fun h => Hne.out.1 h.symm))
    clear hL hf
    clear dc1 df4
    clear Hp
    rw [Hn0.out, Hq.out] at H4
    by_cases e0 : n0 = 0
    case pos =>
      rw [if_pos e0] at hR
      have hem : ds.isEmpty = true := by rw [List.isEmpty_iff_length_eq_zero, Hn0.out]; exact e0
      clear e0
      have HR := hide (show Lx.R.bad m 4 = R from hR)
      clear hR
      go_wp2_with fail
      refine (fault_any (f) 4 H4.out Hf2.out).mono ?_
      rintro e w5 ⟨rfl, hL, hf⟩
      have H5 := hide hL
      have F5 := hide (fr_xb F4.out hf (fun _ h => h))
      have HT5 := hide (HT4.out.fr hf (fun h => Hne.out.1 h.symm))
      clear hL hf
      simp only [tokZ]
      rw [← Hf.out] at H5
      have q0 := HT5.out
      have y0 := q0.frozen 0
      have x0 := q0.cell 0
      have y1 := q0.frozen 1
      have x1 := q0.cell 1
      have y2 := q0.frozen 2
      have x2 := q0.cell 2
      have y3 := q0.frozen 3
      have x3 := q0.cell 3
      have q1 := q0.set_ 0 (.int .u8 0)
      have q2 := q1.set_ 1 (.string ⟨#[]⟩)
      have q3 := q2.set_ 2 (.int .i64 0)
      have q4 := q3.set_ 3 (.int .i64 0)
      have Q4 := hide q4
      clear q0 q1 q2 q3 q4
      go_wp2_with fail
      have r0 := Q4.out.cell 0
      have r1 := Q4.out.cell 1
      have r2 := Q4.out.cell 2
      have r3 := Q4.out.cell 3
      refine bodyPost_ret (v := .tuple #[.agg #[.int .u8 0, .string ⟨#[]⟩, .int .i64 0, .int .i64 0], .int .i64 4]) (by simp [results, Tryd.results25, go_sem, r0, r1, r2, r3, Result.andThen]) rfl ?_
      rw [← HR.out]
      exact ⟨rfl, H5.out.put4 Hne.out.1 Hne.out.2 _ _ _ _, F5.out.put4 (by rw [Htb.out]; exact Nat.le_refl _) _ _ _ _⟩
    rw [if_neg e0] at hR
    have hem : ds.isEmpty = false := by
      cases hx : ds.isEmpty with
      | false => rfl
      | true => rw [List.isEmpty_iff_length_eq_zero, Hn0.out] at hx; exact (e0 hx).elim
    obtain ⟨d0, hd0⟩ : ∃ d, ds[0]? = some d := ⟨_, List.getElem?_eq_getElem (by rw [Hn0.out]; omega)⟩
    have hgd := fun h => ba_get hd0 h
    have hfd : s[f]? = some d0 := by
      rw [Hdt.out, List.getElem?_take, if_pos (by omega), List.getElem?_drop] at hd0
      exact hd0
    rw [hfd] at hR
    have hn1 : 0 < n0 := by omega
    have Hn1 := hide hn1
    clear hd0 hfd e0
    by_cases e1 : (some d0 : Option UInt8) = some 48 ∧ 1 < n0
    case pos =>
      rw [if_pos e1] at hR
      have hz : ((d0.toNat : Int) == 48) = true := by rw [show d0 = 48 from Option.some.inj e1.1]; rfl
      have h1n := e1.2
      clear e1
      have HR := hide (show Lx.R.bad (m + 1) 4 = R from hR)
      clear hR
      have hf9 : f + 1 ≤ s.length := by have := Hn1.out; have := Hq.out; have := H4.out.le; omega
      go_wp2_with fail
      refine (fault_any (f + 1) 4 H4.out (by have := Hn1.out; have := Hq.out; have := H4.out.le; omega)).mono ?_
      rintro e w5 ⟨rfl, hL, hf⟩
      have H5 := hide hL
      have F5 := hide (fr_xb F4.out hf (fun _ h => h))
      have HT5 := hide (HT4.out.fr hf (fun h => Hne.out.1 h.symm))
      clear hL hf
      simp only [tokZ]
      rw [← Hf.out] at H5
      have q0 := HT5.out
      have y0 := q0.frozen 0
      have x0 := q0.cell 0
      have y1 := q0.frozen 1
      have x1 := q0.cell 1
      have y2 := q0.frozen 2
      have x2 := q0.cell 2
      have y3 := q0.frozen 3
      have x3 := q0.cell 3
      have q1 := q0.set_ 0 (.int .u8 0)
      have q2 := q1.set_ 1 (.string ⟨#[]⟩)
      have q3 := q2.set_ 2 (.int .i64 0)
      have q4 := q3.set_ 3 (.int .i64 0)
      have Q4 := hide q4
      clear q0 q1 q2 q3 q4
      go_wp2_with fail
      have r0 := Q4.out.cell 0
      have r1 := Q4.out.cell 1
      have r2 := Q4.out.cell 2
      have r3 := Q4.out.cell 3
      refine bodyPost_ret (v := .tuple #[.agg #[.int .u8 0, .string ⟨#[]⟩, .int .i64 0, .int .i64 0], .int .i64 4]) (by simp [results, Tryd.results25, go_sem, r0, r1, r2, r3, Result.andThen]) rfl ?_
      rw [← HR.out]
      exact ⟨rfl, H5.out.put4 Hne.out.1 Hne.out.2 _ _ _ _, F5.out.put4 (by rw [Htb.out]; exact Nat.le_refl _) _ _ _ _⟩
    rw [if_neg e1] at hR
    have hza : ((d0.toNat : Int) == 48) = false ∨ (((d0.toNat : Int) == 48) = true ∧ ¬ 1 < n0) := by
      by_cases h : d0 = 48
      · exact .inr ⟨by rw [h]; rfl, fun h2 => e1 ⟨by rw [h], h2⟩⟩
      · exact .inl (by rw [beq_eq_false_iff_ne]; exact fun h2 => h (UInt8.toNat_inj.1 (show d0.toNat = 48 by omega)))
    clear e1
    have Hs3 := hide (H4.out.sees H4.out.cls.c3)
    rcases hza with hz | ⟨hz, h1n⟩
    · go_upto_region 10 with fail
      clear hz
      cases hl3 : (s[q]?).any Lx.isLetter with
      | true =>
        rw [hl3] at Hs3
        rw [if_pos (letter_or hl3)] at hR
        clear hl3
        have HR := hide (show Lx.R.bad (m + n0) 4 = R from hR)
        clear hR
        have df3 := H4.out.f3
        go_wp2_with fail
        refine Hs3.out.mono ?_
        rintro e w5 ⟨rfl, hL, hf⟩
        have H5 := hide hL
        have F5 := hide (fr_xb F4.out hf (fun _ h => h.elim))
        have HT5 := hide (HT4.out.fr hf (fun h => h.elim))
        clear hL hf
        clear df3
        have dc1 := H5.out.c1
        go_wp2_with fail
        refine (fault_any (q) 4 H5.out H5.out.le).mono ?_
        rintro e w6 ⟨rfl, hL, hf⟩
        have H6 := hide hL
        have F6 := hide (fr_xb F5.out hf (fun _ h => h))
        have HT6 := hide (HT5.out.fr hf (fun h => Hne.out.1 h.symm))
        clear hL hf
        simp only [tokZ]
        rw [← Hq2.out] at H6
        have q0 := HT6.out
        have y0 := q0.frozen 0
        have x0 := q0.cell 0
        have y1 := q0.frozen 1
        have x1 := q0.cell 1
        have y2 := q0.frozen 2
        have x2 := q0.cell 2
        have y3 := q0.frozen 3
        have x3 := q0.cell 3
        have q1 := q0.set_ 0 (.int .u8 0)
        have q2 := q1.set_ 1 (.string ⟨#[]⟩)
        have q3 := q2.set_ 2 (.int .i64 0)
        have q4 := q3.set_ 3 (.int .i64 0)
        have Q4 := hide q4
        clear q0 q1 q2 q3 q4
        go_wp2_with fail
        have r0 := Q4.out.cell 0
        have r1 := Q4.out.cell 1
        have r2 := Q4.out.cell 2
        have r3 := Q4.out.cell 3
        refine bodyPost_ret (v := .tuple #[.agg #[.int .u8 0, .string ⟨#[]⟩, .int .i64 0, .int .i64 0], .int .i64 4]) (by simp [results, Tryd.results25, go_sem, r0, r1, r2, r3, Result.andThen]) rfl ?_
        rw [← HR.out]
        exact ⟨rfl, H6.out.put4 Hne.out.1 Hne.out.2 _ _ _ _, F6.out.put4 (by rw [Htb.out]; exact Nat.le_refl _) _ _ _ _⟩
      | false =>
        rw [hl3] at Hs3
        have df3 := H4.out.f3
        go_wp2_with fail
        refine Hs3.out.mono ?_
        rintro e w5 ⟨rfl, hL, hf⟩
        have H5 := hide hL
        have F5 := hide (fr_xb F4.out hf (fun _ h => h.elim))
        have HT5 := hide (HT4.out.fr hf (fun h => h.elim))
        clear hL hf
        clear df3
        have Hs7 := hide (H5.out.sees H5.out.cls.c7)
        cases hl7 : (s[q]?).any (fun c => c == 46) with
        | true =>
          rw [hl7] at Hs7
          rw [if_pos (dot_or hl7)] at hR
          clear hl3 hl7
          have HR := hide (show Lx.R.bad (m + n0) 4 = R from hR)
          clear hR
          have df7 := H5.out.f7
          go_wp2_with fail
          refine Hs7.out.mono ?_
          rintro e w6 ⟨rfl, hL, hf⟩
          have H6 := hide hL
          have F6 := hide (fr_xb F5.out hf (fun _ h => h.elim))
          have HT6 := hide (HT5.out.fr hf (fun h => h.elim))
          clear hL hf
          clear df7
          have dc1 := H6.out.c1
          go_wp2_with fail
          refine (fault_any (q) 4 H6.out H6.out.le).mono ?_
          rintro e w7 ⟨rfl, hL, hf⟩
          have H7 := hide hL
          have F7 := hide (fr_xb F6.out hf (fun _ h => h))
          have HT7 := hide (HT6.out.fr hf (fun h => Hne.out.1 h.symm))
          clear hL hf
          simp only [tokZ]
          rw [← Hq2.out] at H7
          have q0 := HT7.out
          have y0 := q0.frozen 0
          have x0 := q0.cell 0
          have y1 := q0.frozen 1
          have x1 := q0.cell 1
          have y2 := q0.frozen 2
          have x2 := q0.cell 2
          have y3 := q0.frozen 3
          have x3 := q0.cell 3
          have q1 := q0.set_ 0 (.int .u8 0)
          have q2 := q1.set_ 1 (.string ⟨#[]⟩)
          have q3 := q2.set_ 2 (.int .i64 0)
          have q4 := q3.set_ 3 (.int .i64 0)
          have Q4 := hide q4
          clear q0 q1 q2 q3 q4
          go_wp2_with fail
          have r0 := Q4.out.cell 0
          have r1 := Q4.out.cell 1
          have r2 := Q4.out.cell 2
          have r3 := Q4.out.cell 3
          refine bodyPost_ret (v := .tuple #[.agg #[.int .u8 0, .string ⟨#[]⟩, .int .i64 0, .int .i64 0], .int .i64 4]) (by simp [results, Tryd.results25, go_sem, r0, r1, r2, r3, Result.andThen]) rfl ?_
          rw [← HR.out]
          exact ⟨rfl, H7.out.put4 Hne.out.1 Hne.out.2 _ _ _ _, F7.out.put4 (by rw [Htb.out]; exact Nat.le_refl _) _ _ _ _⟩
        | false =>
          rw [hl7] at Hs7
          rw [if_neg (not_or hl3 hl7)] at hR
          clear hl3 hl7
          have df7 := H5.out.f7
          go_wp2_with fail
          refine Hs7.out.mono ?_
          rintro e w6 ⟨rfl, hL, hf⟩
          have H6 := hide hL
          have F6 := hide (fr_xb F5.out hf (fun _ h => h.elim))
          have HT6 := hide (HT5.out.fr hf (fun h => h.elim))
          clear hL hf
          clear df7
          by_cases h18 : 18 < n0
          case pos =>
            rw [if_pos h18] at hR
            have HR := hide (show Lx.R.bad 0 1 = R from hR)
            clear hR
            go_wp2_with fail
            refine (fault_any (j) 1 H6.out Hjl.out).mono ?_
            rintro e w7 ⟨rfl, hL, hf⟩
            have H7 := hide hL
            have F7 := hide (fr_xb F6.out hf (fun _ h => h))
            have HT7 := hide (HT6.out.fr hf (fun h => Hne.out.1 h.symm))
            clear hL hf
            simp only [tokZ]
            have q0 := HT7.out
            have y0 := q0.frozen 0
            have x0 := q0.cell 0
            have y1 := q0.frozen 1
            have x1 := q0.cell 1
            have y2 := q0.frozen 2
            have x2 := q0.cell 2
            have y3 := q0.frozen 3
            have x3 := q0.cell 3
            have q1 := q0.set_ 0 (.int .u8 0)
            have q2 := q1.set_ 1 (.string ⟨#[]⟩)
            have q3 := q2.set_ 2 (.int .i64 0)
            have q4 := q3.set_ 3 (.int .i64 0)
            have Q4 := hide q4
            clear q0 q1 q2 q3 q4
            go_wp2_with fail
            have r0 := Q4.out.cell 0
            have r1 := Q4.out.cell 1
            have r2 := Q4.out.cell 2
            have r3 := Q4.out.cell 3
            refine bodyPost_ret (v := .tuple #[.agg #[.int .u8 0, .string ⟨#[]⟩, .int .i64 0, .int .i64 0], .int .i64 1]) (by simp [results, Tryd.results25, go_sem, r0, r1, r2, r3, Result.andThen]) rfl ?_
            rw [← HR.out]
            exact ⟨rfl, H7.out.put4 Hne.out.1 Hne.out.2 _ _ _ _, F7.out.put4 (by rw [Htb.out]; exact Nat.le_refl _) _ _ _ _⟩
          rw [if_neg h18] at hR
          obtain ⟨tx, htx⟩ : ∃ tx, (s.take q).drop j = tx := ⟨_, rfl⟩
          obtain ⟨v, hv⟩ : ∃ v : Int, (if m = 1 then -(Lx.val ds 0 : Int) else (Lx.val ds 0 : Int)) = v := ⟨_, rfl⟩
          rw [htx, hv] at hR
          have hpv := parse_num Hm.out Hdd.out (by rw [Hn0.out]; omega) (by rw [Hn0.out]; have := Hn1.out; omega)
          have htx2 : tx = numText m ds := by rw [← htx, num_text (j := j) Hm.out Hc.out Hf.out Hds.out (by rw [Hn0.out]; exact Hq.out)]
          rw [← htx2, hv] at hpv
          have hts : tx.length ≤ 2000 := by rw [← htx, List.length_drop, List.length_take]; have := H6.out.len; omega
          have Hpv := hide hpv
          have Hts := hide hts
          have he : (⟨s.toArray⟩ : ByteArray).extract j q = ⟨tx.toArray⟩ := by rw [ba_extract, htx]
          have hjq : j ≤ q := by have := Hq2.out; omega
          have hqs := H6.out.le
          clear htx hv hpv htx2 hts
          have HR := hide (show Lx.R.ok 2 tx v (m + n0) = R from hR)
          clear hR
          have dc0 := H6.out.c0
          have dc1 := H6.out.c1
          go_upto_region 15 with fail
          go_quiet (fail)
          have hL0 := H6.out.drewN nq
          have hT0 := HT6.out.drewN nq
          have hF0 := F6.out.drewN nq
          clear dc0 dc1
          obtain ⟨wz, hwz⟩ : ∃ wz, w6.drewN nq = wz := ⟨_, rfl⟩
          rw [hwz] at hL0 hT0 hF0 ⊢
          have HZ := hide hL0
          have FZ := hide hF0
          have HTZ := hide hT0
          clear hL0 hT0 hF0 hwz
          have Hpz := hide (parse_any tx v wz Hpv.out Hts.out)
          go_wp2_with fail
          refine Hpz.out.mono ?_
          rintro e wy ⟨rfl, hb⟩
          have HY := hide (HZ.out.other hb)
          have FY := hide (fr_xb FZ.out (Fr.of_below (F := fun _ => False) hb) (fun _ h => h.elim))
          have HTY := hide (HTZ.out.fr (Fr.of_below (F := fun _ => False) hb) (fun h => h.elim))
          clear hb
          rw [← Hq2.out] at HY
          have q0 := HTY.out
          have y0 := q0.frozen 0
          have x0 := q0.cell 0
          have y1 := q0.frozen 1
          have x1 := q0.cell 1
          have y2 := q0.frozen 2
          have x2 := q0.cell 2
          have y3 := q0.frozen 3
          have x3 := q0.cell 3
          have q1 := q0.set_ 0 (.int .u8 2)
          have q2 := q1.set_ 1 (.string ⟨tx.toArray⟩)
          have q3 := q2.set_ 2 (.int .i64 v)
          have q4 := q3.set_ 3 (.int .i64 (j : Int))
          have Q4 := hide q4
          clear q0 q1 q2 q3 q4
          go_wp2_with fail
          have r0 := Q4.out.cell 0
          have r1 := Q4.out.cell 1
          have r2 := Q4.out.cell 2
          have r3 := Q4.out.cell 3
          refine bodyPost_ret (v := .tuple #[.agg #[.int .u8 2, .string ⟨tx.toArray⟩, .int .i64 v, .int .i64 (j : Int)], .int .i64 0]) (by simp [results, Tryd.results25, go_sem, r0, r1, r2, r3, Result.andThen]) rfl ?_
          rw [← HR.out]
          exact ⟨rfl, HY.out.put4 Hne.out.1 Hne.out.2 _ _ _ _, FY.out.put4 (by rw [Htb.out]; exact Nat.le_refl _) _ _ _ _⟩
    · go_upto_region 10 with fail
      have H1n := hide h1n
      clear hz h1n
      cases hl3 : (s[q]?).any Lx.isLetter with
      | true =>
        rw [hl3] at Hs3
        rw [if_pos (letter_or hl3)] at hR
        clear hl3
        have HR := hide (show Lx.R.bad (m + n0) 4 = R from hR)
        clear hR
        have df3 := H4.out.f3
        go_wp2_with fail
        refine Hs3.out.mono ?_
        rintro e w5 ⟨rfl, hL, hf⟩
        have H5 := hide hL
        have F5 := hide (fr_xb F4.out hf (fun _ h => h.elim))
        have HT5 := hide (HT4.out.fr hf (fun h => h.elim))
        clear hL hf
        clear df3
        have dc1 := H5.out.c1
        go_wp2_with fail
        refine (fault_any (q) 4 H5.out H5.out.le).mono ?_
        rintro e w6 ⟨rfl, hL, hf⟩
        have H6 := hide hL
        have F6 := hide (fr_xb F5.out hf (fun _ h => h))
        have HT6 := hide (HT5.out.fr hf (fun h => Hne.out.1 h.symm))
        clear hL hf
        simp only [tokZ]
        rw [← Hq2.out] at H6
        have q0 := HT6.out
        have y0 := q0.frozen 0
        have x0 := q0.cell 0
        have y1 := q0.frozen 1
        have x1 := q0.cell 1
        have y2 := q0.frozen 2
        have x2 := q0.cell 2
        have y3 := q0.frozen 3
        have x3 := q0.cell 3
        have q1 := q0.set_ 0 (.int .u8 0)
        have q2 := q1.set_ 1 (.string ⟨#[]⟩)
        have q3 := q2.set_ 2 (.int .i64 0)
        have q4 := q3.set_ 3 (.int .i64 0)
        have Q4 := hide q4
        clear q0 q1 q2 q3 q4
        go_wp2_with fail
        have r0 := Q4.out.cell 0
        have r1 := Q4.out.cell 1
        have r2 := Q4.out.cell 2
        have r3 := Q4.out.cell 3
        refine bodyPost_ret (v := .tuple #[.agg #[.int .u8 0, .string ⟨#[]⟩, .int .i64 0, .int .i64 0], .int .i64 4]) (by simp [results, Tryd.results25, go_sem, r0, r1, r2, r3, Result.andThen]) rfl ?_
        rw [← HR.out]
        exact ⟨rfl, H6.out.put4 Hne.out.1 Hne.out.2 _ _ _ _, F6.out.put4 (by rw [Htb.out]; exact Nat.le_refl _) _ _ _ _⟩
      | false =>
        rw [hl3] at Hs3
        have df3 := H4.out.f3
        go_wp2_with fail
        refine Hs3.out.mono ?_
        rintro e w5 ⟨rfl, hL, hf⟩
        have H5 := hide hL
        have F5 := hide (fr_xb F4.out hf (fun _ h => h.elim))
        have HT5 := hide (HT4.out.fr hf (fun h => h.elim))
        clear hL hf
        clear df3
        have Hs7 := hide (H5.out.sees H5.out.cls.c7)
        cases hl7 : (s[q]?).any (fun c => c == 46) with
        | true =>
          rw [hl7] at Hs7
          rw [if_pos (dot_or hl7)] at hR
          clear hl3 hl7
          have HR := hide (show Lx.R.bad (m + n0) 4 = R from hR)
          clear hR
          have df7 := H5.out.f7
          go_wp2_with fail
          refine Hs7.out.mono ?_
          rintro e w6 ⟨rfl, hL, hf⟩
          have H6 := hide hL
          have F6 := hide (fr_xb F5.out hf (fun _ h => h.elim))
          have HT6 := hide (HT5.out.fr hf (fun h => h.elim))
          clear hL hf
          clear df7
          have dc1 := H6.out.c1
          go_wp2_with fail
          refine (fault_any (q) 4 H6.out H6.out.le).mono ?_
          rintro e w7 ⟨rfl, hL, hf⟩
          have H7 := hide hL
          have F7 := hide (fr_xb F6.out hf (fun _ h => h))
          have HT7 := hide (HT6.out.fr hf (fun h => Hne.out.1 h.symm))
          clear hL hf
          simp only [tokZ]
          rw [← Hq2.out] at H7
          have q0 := HT7.out
          have y0 := q0.frozen 0
          have x0 := q0.cell 0
          have y1 := q0.frozen 1
          have x1 := q0.cell 1
          have y2 := q0.frozen 2
          have x2 := q0.cell 2
          have y3 := q0.frozen 3
          have x3 := q0.cell 3
          have q1 := q0.set_ 0 (.int .u8 0)
          have q2 := q1.set_ 1 (.string ⟨#[]⟩)
          have q3 := q2.set_ 2 (.int .i64 0)
          have q4 := q3.set_ 3 (.int .i64 0)
          have Q4 := hide q4
          clear q0 q1 q2 q3 q4
          go_wp2_with fail
          have r0 := Q4.out.cell 0
          have r1 := Q4.out.cell 1
          have r2 := Q4.out.cell 2
          have r3 := Q4.out.cell 3
          refine bodyPost_ret (v := .tuple #[.agg #[.int .u8 0, .string ⟨#[]⟩, .int .i64 0, .int .i64 0], .int .i64 4]) (by simp [results, Tryd.results25, go_sem, r0, r1, r2, r3, Result.andThen]) rfl ?_
          rw [← HR.out]
          exact ⟨rfl, H7.out.put4 Hne.out.1 Hne.out.2 _ _ _ _, F7.out.put4 (by rw [Htb.out]; exact Nat.le_refl _) _ _ _ _⟩
        | false =>
          rw [hl7] at Hs7
          rw [if_neg (not_or hl3 hl7)] at hR
          clear hl3 hl7
          have df7 := H5.out.f7
          go_wp2_with fail
          refine Hs7.out.mono ?_
          rintro e w6 ⟨rfl, hL, hf⟩
          have H6 := hide hL
          have F6 := hide (fr_xb F5.out hf (fun _ h => h.elim))
          have HT6 := hide (HT5.out.fr hf (fun h => h.elim))
          clear hL hf
          clear df7
          by_cases h18 : 18 < n0
          case pos =>
            exact absurd h18 (by have := H1n.out; omega)
          rw [if_neg h18] at hR
          obtain ⟨tx, htx⟩ : ∃ tx, (s.take q).drop j = tx := ⟨_, rfl⟩
          obtain ⟨v, hv⟩ : ∃ v : Int, (if m = 1 then -(Lx.val ds 0 : Int) else (Lx.val ds 0 : Int)) = v := ⟨_, rfl⟩
          rw [htx, hv] at hR
          have hpv := parse_num Hm.out Hdd.out (by rw [Hn0.out]; omega) (by rw [Hn0.out]; have := Hn1.out; omega)
          have htx2 : tx = numText m ds := by rw [← htx, num_text (j := j) Hm.out Hc.out Hf.out Hds.out (by rw [Hn0.out]; exact Hq.out)]
          rw [← htx2, hv] at hpv
          have hts : tx.length ≤ 2000 := by rw [← htx, List.length_drop, List.length_take]; have := H6.out.len; omega
          have Hpv := hide hpv
          have Hts := hide hts
          have he : (⟨s.toArray⟩ : ByteArray).extract j q = ⟨tx.toArray⟩ := by rw [ba_extract, htx]
          have hjq : j ≤ q := by have := Hq2.out; omega
          have hqs := H6.out.le
          clear htx hv hpv htx2 hts
          have HR := hide (show Lx.R.ok 2 tx v (m + n0) = R from hR)
          clear hR
          have dc0 := H6.out.c0
          have dc1 := H6.out.c1
          go_upto_region 15 with fail
          go_quiet (fail)
          have hL0 := H6.out.drewN nq
          have hT0 := HT6.out.drewN nq
          have hF0 := F6.out.drewN nq
          clear dc0 dc1
          obtain ⟨wz, hwz⟩ : ∃ wz, w6.drewN nq = wz := ⟨_, rfl⟩
          rw [hwz] at hL0 hT0 hF0 ⊢
          have HZ := hide hL0
          have FZ := hide hF0
          have HTZ := hide hT0
          clear hL0 hT0 hF0 hwz
          have Hpz := hide (parse_any tx v wz Hpv.out Hts.out)
          go_wp2_with fail
          refine Hpz.out.mono ?_
          rintro e wy ⟨rfl, hb⟩
          have HY := hide (HZ.out.other hb)
          have FY := hide (fr_xb FZ.out (Fr.of_below (F := fun _ => False) hb) (fun _ h => h.elim))
          have HTY := hide (HTZ.out.fr (Fr.of_below (F := fun _ => False) hb) (fun h => h.elim))
          clear hb
          rw [← Hq2.out] at HY
          have q0 := HTY.out
          have y0 := q0.frozen 0
          have x0 := q0.cell 0
          have y1 := q0.frozen 1
          have x1 := q0.cell 1
          have y2 := q0.frozen 2
          have x2 := q0.cell 2
          have y3 := q0.frozen 3
          have x3 := q0.cell 3
          have q1 := q0.set_ 0 (.int .u8 2)
          have q2 := q1.set_ 1 (.string ⟨tx.toArray⟩)
          have q3 := q2.set_ 2 (.int .i64 v)
          have q4 := q3.set_ 3 (.int .i64 (j : Int))
          have Q4 := hide q4
          clear q0 q1 q2 q3 q4
          go_wp2_with fail
          have r0 := Q4.out.cell 0
          have r1 := Q4.out.cell 1
          have r2 := Q4.out.cell 2
          have r3 := Q4.out.cell 3
          refine bodyPost_ret (v := .tuple #[.agg #[.int .u8 2, .string ⟨tx.toArray⟩, .int .i64 v, .int .i64 (j : Int)], .int .i64 0]) (by simp [results, Tryd.results25, go_sem, r0, r1, r2, r3, Result.andThen]) rfl ?_
          rw [← HR.out]
          exact ⟨rfl, HY.out.put4 Hne.out.1 Hne.out.2 _ _ _ _, FY.out.put4 (by rw [Htb.out]; exact Nat.le_refl _) _ _ _ _⟩
  · have hb : (c == 45) = false := by simpa using hc45
    rw [hb] at Hs6
    clear hb hc45
    go_wp2_with fail
    refine Hs6.out.mono ?_
    rintro e w2 ⟨rfl, hL, hf⟩
    have H2 := hide hL
    have F2 := hide (fr_xb F1.out hf (fun _ h => h.elim))
    have HT2 := hide (HT1.out.fr hf (fun h => h.elim))
    clear hL hf
    clear dc1 df6
    rw [show j = f from by rw [← Hf.out, hm0]; rfl] at H2
    clear hm0
    go_upto_region 4 with fail
    have hp := pass_any H2.out H2.out.cls.c4
    rw [Hds.out] at hp
    have Hp := hide hp
    clear hp
    have dc1 := H2.out.c1
    have df4 := H2.out.f4
    go_wp2_with fail
    refine Hp.out.mono ?_
    rintro e w3 ⟨rfl, hL, hf⟩
    have H3 := hide hL
    have F3 := hide (fr_xb F2.out hf (fun _ h => h))
    have HT3 := hide (HT2.out.fr hf (fun h => Hne.out.1 h.symm))
    clear hL hf
    clear dc1 df4
    clear Hp
    rw [Hn0.out, Hq.out] at H3
    by_cases e0 : n0 = 0
    case pos =>
      rw [if_pos e0] at hR
      have hem : ds.isEmpty = true := by rw [List.isEmpty_iff_length_eq_zero, Hn0.out]; exact e0
      clear e0
      have HR := hide (show Lx.R.bad m 4 = R from hR)
      clear hR
      go_wp2_with fail
      refine (fault_any (f) 4 H3.out Hf2.out).mono ?_
      rintro e w4 ⟨rfl, hL, hf⟩
      have H4 := hide hL
      have F4 := hide (fr_xb F3.out hf (fun _ h => h))
      have HT4 := hide (HT3.out.fr hf (fun h => Hne.out.1 h.symm))
      clear hL hf
      simp only [tokZ]
      rw [← Hf.out] at H4
      have q0 := HT4.out
      have y0 := q0.frozen 0
      have x0 := q0.cell 0
      have y1 := q0.frozen 1
      have x1 := q0.cell 1
      have y2 := q0.frozen 2
      have x2 := q0.cell 2
      have y3 := q0.frozen 3
      have x3 := q0.cell 3
      have q1 := q0.set_ 0 (.int .u8 0)
      have q2 := q1.set_ 1 (.string ⟨#[]⟩)
      have q3 := q2.set_ 2 (.int .i64 0)
      have q4 := q3.set_ 3 (.int .i64 0)
      have Q4 := hide q4
      clear q0 q1 q2 q3 q4
      go_wp2_with fail
      have r0 := Q4.out.cell 0
      have r1 := Q4.out.cell 1
      have r2 := Q4.out.cell 2
      have r3 := Q4.out.cell 3
      refine bodyPost_ret (v := .tuple #[.agg #[.int .u8 0, .string ⟨#[]⟩, .int .i64 0, .int .i64 0], .int .i64 4]) (by simp [results, Tryd.results25, go_sem, r0, r1, r2, r3, Result.andThen]) rfl ?_
      rw [← HR.out]
      exact ⟨rfl, H4.out.put4 Hne.out.1 Hne.out.2 _ _ _ _, F4.out.put4 (by rw [Htb.out]; exact Nat.le_refl _) _ _ _ _⟩
    rw [if_neg e0] at hR
    have hem : ds.isEmpty = false := by
      cases hx : ds.isEmpty with
      | false => rfl
      | true => rw [List.isEmpty_iff_length_eq_zero, Hn0.out] at hx; exact (e0 hx).elim
    obtain ⟨d0, hd0⟩ : ∃ d, ds[0]? = some d := ⟨_, List.getElem?_eq_getElem (by rw [Hn0.out]; omega)⟩
    have hgd := fun h => ba_get hd0 h
    have hfd : s[f]? = some d0 := by
      rw [Hdt.out, List.getElem?_take, if_pos (by omega), List.getElem?_drop] at hd0
      exact hd0
    rw [hfd] at hR
    have hn1 : 0 < n0 := by omega
    have Hn1 := hide hn1
    clear hd0 hfd e0
    by_cases e1 : (some d0 : Option UInt8) = some 48 ∧ 1 < n0
    case pos =>
      rw [if_pos e1] at hR
      have hz : ((d0.toNat : Int) == 48) = true := by rw [show d0 = 48 from Option.some.inj e1.1]; rfl
      have h1n := e1.2
      clear e1
      have HR := hide (show Lx.R.bad (m + 1) 4 = R from hR)
      clear hR
      have hf9 : f + 1 ≤ s.length := by have := Hn1.out; have := Hq.out; have := H3.out.le; omega
      go_wp2_with fail
      refine (fault_any (f + 1) 4 H3.out (by have := Hn1.out; have := Hq.out; have := H3.out.le; omega)).mono ?_
      rintro e w4 ⟨rfl, hL, hf⟩
      have H4 := hide hL
      have F4 := hide (fr_xb F3.out hf (fun _ h => h))
      have HT4 := hide (HT3.out.fr hf (fun h => Hne.out.1 h.symm))
      clear hL hf
      simp only [tokZ]
      rw [← Hf.out] at H4
      have q0 := HT4.out
      have y0 := q0.frozen 0
      have x0 := q0.cell 0
      have y1 := q0.frozen 1
      have x1 := q0.cell 1
      have y2 := q0.frozen 2
      have x2 := q0.cell 2
      have y3 := q0.frozen 3
      have x3 := q0.cell 3
      have q1 := q0.set_ 0 (.int .u8 0)
      have q2 := q1.set_ 1 (.string ⟨#[]⟩)
      have q3 := q2.set_ 2 (.int .i64 0)
      have q4 := q3.set_ 3 (.int .i64 0)
      have Q4 := hide q4
      clear q0 q1 q2 q3 q4
      go_wp2_with fail
      have r0 := Q4.out.cell 0
      have r1 := Q4.out.cell 1
      have r2 := Q4.out.cell 2
      have r3 := Q4.out.cell 3
      refine bodyPost_ret (v := .tuple #[.agg #[.int .u8 0, .string ⟨#[]⟩, .int .i64 0, .int .i64 0], .int .i64 4]) (by simp [results, Tryd.results25, go_sem, r0, r1, r2, r3, Result.andThen]) rfl ?_
      rw [← HR.out]
      exact ⟨rfl, H4.out.put4 Hne.out.1 Hne.out.2 _ _ _ _, F4.out.put4 (by rw [Htb.out]; exact Nat.le_refl _) _ _ _ _⟩
    rw [if_neg e1] at hR
    have hza : ((d0.toNat : Int) == 48) = false ∨ (((d0.toNat : Int) == 48) = true ∧ ¬ 1 < n0) := by
      by_cases h : d0 = 48
      · exact .inr ⟨by rw [h]; rfl, fun h2 => e1 ⟨by rw [h], h2⟩⟩
      · exact .inl (by rw [beq_eq_false_iff_ne]; exact fun h2 => h (UInt8.toNat_inj.1 (show d0.toNat = 48 by omega)))
    clear e1
    have Hs3 := hide (H3.out.sees H3.out.cls.c3)
    rcases hza with hz | ⟨hz, h1n⟩
    · go_upto_region 10 with fail
      clear hz
      cases hl3 : (s[q]?).any Lx.isLetter with
      | true =>
        rw [hl3] at Hs3
        rw [if_pos (letter_or hl3)] at hR
        clear hl3
        have HR := hide (show Lx.R.bad (m + n0) 4 = R from hR)
        clear hR
        have df3 := H3.out.f3
        go_wp2_with fail
        refine Hs3.out.mono ?_
        rintro e w4 ⟨rfl, hL, hf⟩
        have H4 := hide hL
        have F4 := hide (fr_xb F3.out hf (fun _ h => h.elim))
        have HT4 := hide (HT3.out.fr hf (fun h => h.elim))
        clear hL hf
        clear df3
        have dc1 := H4.out.c1
        go_wp2_with fail
        refine (fault_any (q) 4 H4.out H4.out.le).mono ?_
        rintro e w5 ⟨rfl, hL, hf⟩
        have H5 := hide hL
        have F5 := hide (fr_xb F4.out hf (fun _ h => h))
        have HT5 := hide (HT4.out.fr hf (fun h => Hne.out.1 h.symm))
        clear hL hf
        simp only [tokZ]
        rw [← Hq2.out] at H5
        have q0 := HT5.out
        have y0 := q0.frozen 0
        have x0 := q0.cell 0
        have y1 := q0.frozen 1
        have x1 := q0.cell 1
        have y2 := q0.frozen 2
        have x2 := q0.cell 2
        have y3 := q0.frozen 3
        have x3 := q0.cell 3
        have q1 := q0.set_ 0 (.int .u8 0)
        have q2 := q1.set_ 1 (.string ⟨#[]⟩)
        have q3 := q2.set_ 2 (.int .i64 0)
        have q4 := q3.set_ 3 (.int .i64 0)
        have Q4 := hide q4
        clear q0 q1 q2 q3 q4
        go_wp2_with fail
        have r0 := Q4.out.cell 0
        have r1 := Q4.out.cell 1
        have r2 := Q4.out.cell 2
        have r3 := Q4.out.cell 3
        refine bodyPost_ret (v := .tuple #[.agg #[.int .u8 0, .string ⟨#[]⟩, .int .i64 0, .int .i64 0], .int .i64 4]) (by simp [results, Tryd.results25, go_sem, r0, r1, r2, r3, Result.andThen]) rfl ?_
        rw [← HR.out]
        exact ⟨rfl, H5.out.put4 Hne.out.1 Hne.out.2 _ _ _ _, F5.out.put4 (by rw [Htb.out]; exact Nat.le_refl _) _ _ _ _⟩
      | false =>
        rw [hl3] at Hs3
        have df3 := H3.out.f3
        go_wp2_with fail
        refine Hs3.out.mono ?_
        rintro e w4 ⟨rfl, hL, hf⟩
        have H4 := hide hL
        have F4 := hide (fr_xb F3.out hf (fun _ h => h.elim))
        have HT4 := hide (HT3.out.fr hf (fun h => h.elim))
        clear hL hf
        clear df3
        have Hs7 := hide (H4.out.sees H4.out.cls.c7)
        cases hl7 : (s[q]?).any (fun c => c == 46) with
        | true =>
          rw [hl7] at Hs7
          rw [if_pos (dot_or hl7)] at hR
          clear hl3 hl7
          have HR := hide (show Lx.R.bad (m + n0) 4 = R from hR)
          clear hR
          have df7 := H4.out.f7
          go_wp2_with fail
          refine Hs7.out.mono ?_
          rintro e w5 ⟨rfl, hL, hf⟩
          have H5 := hide hL
          have F5 := hide (fr_xb F4.out hf (fun _ h => h.elim))
          have HT5 := hide (HT4.out.fr hf (fun h => h.elim))
          clear hL hf
          clear df7
          have dc1 := H5.out.c1
          go_wp2_with fail
          refine (fault_any (q) 4 H5.out H5.out.le).mono ?_
          rintro e w6 ⟨rfl, hL, hf⟩
          have H6 := hide hL
          have F6 := hide (fr_xb F5.out hf (fun _ h => h))
          have HT6 := hide (HT5.out.fr hf (fun h => Hne.out.1 h.symm))
          clear hL hf
          simp only [tokZ]
          rw [← Hq2.out] at H6
          have q0 := HT6.out
          have y0 := q0.frozen 0
          have x0 := q0.cell 0
          have y1 := q0.frozen 1
          have x1 := q0.cell 1
          have y2 := q0.frozen 2
          have x2 := q0.cell 2
          have y3 := q0.frozen 3
          have x3 := q0.cell 3
          have q1 := q0.set_ 0 (.int .u8 0)
          have q2 := q1.set_ 1 (.string ⟨#[]⟩)
          have q3 := q2.set_ 2 (.int .i64 0)
          have q4 := q3.set_ 3 (.int .i64 0)
          have Q4 := hide q4
          clear q0 q1 q2 q3 q4
          go_wp2_with fail
          have r0 := Q4.out.cell 0
          have r1 := Q4.out.cell 1
          have r2 := Q4.out.cell 2
          have r3 := Q4.out.cell 3
          refine bodyPost_ret (v := .tuple #[.agg #[.int .u8 0, .string ⟨#[]⟩, .int .i64 0, .int .i64 0], .int .i64 4]) (by simp [results, Tryd.results25, go_sem, r0, r1, r2, r3, Result.andThen]) rfl ?_
          rw [← HR.out]
          exact ⟨rfl, H6.out.put4 Hne.out.1 Hne.out.2 _ _ _ _, F6.out.put4 (by rw [Htb.out]; exact Nat.le_refl _) _ _ _ _⟩
        | false =>
          rw [hl7] at Hs7
          rw [if_neg (not_or hl3 hl7)] at hR
          clear hl3 hl7
          have df7 := H4.out.f7
          go_wp2_with fail
          refine Hs7.out.mono ?_
          rintro e w5 ⟨rfl, hL, hf⟩
          have H5 := hide hL
          have F5 := hide (fr_xb F4.out hf (fun _ h => h.elim))
          have HT5 := hide (HT4.out.fr hf (fun h => h.elim))
          clear hL hf
          clear df7
          by_cases h18 : 18 < n0
          case pos =>
            rw [if_pos h18] at hR
            have HR := hide (show Lx.R.bad 0 1 = R from hR)
            clear hR
            go_wp2_with fail
            refine (fault_any (j) 1 H5.out Hjl.out).mono ?_
            rintro e w6 ⟨rfl, hL, hf⟩
            have H6 := hide hL
            have F6 := hide (fr_xb F5.out hf (fun _ h => h))
            have HT6 := hide (HT5.out.fr hf (fun h => Hne.out.1 h.symm))
            clear hL hf
            simp only [tokZ]
            have q0 := HT6.out
            have y0 := q0.frozen 0
            have x0 := q0.cell 0
            have y1 := q0.frozen 1
            have x1 := q0.cell 1
            have y2 := q0.frozen 2
            have x2 := q0.cell 2
            have y3 := q0.frozen 3
            have x3 := q0.cell 3
            have q1 := q0.set_ 0 (.int .u8 0)
            have q2 := q1.set_ 1 (.string ⟨#[]⟩)
            have q3 := q2.set_ 2 (.int .i64 0)
            have q4 := q3.set_ 3 (.int .i64 0)
            have Q4 := hide q4
            clear q0 q1 q2 q3 q4
            go_wp2_with fail
            have r0 := Q4.out.cell 0
            have r1 := Q4.out.cell 1
            have r2 := Q4.out.cell 2
            have r3 := Q4.out.cell 3
            refine bodyPost_ret (v := .tuple #[.agg #[.int .u8 0, .string ⟨#[]⟩, .int .i64 0, .int .i64 0], .int .i64 1]) (by simp [results, Tryd.results25, go_sem, r0, r1, r2, r3, Result.andThen]) rfl ?_
            rw [← HR.out]
            exact ⟨rfl, H6.out.put4 Hne.out.1 Hne.out.2 _ _ _ _, F6.out.put4 (by rw [Htb.out]; exact Nat.le_refl _) _ _ _ _⟩
          rw [if_neg h18] at hR
          obtain ⟨tx, htx⟩ : ∃ tx, (s.take q).drop j = tx := ⟨_, rfl⟩
          obtain ⟨v, hv⟩ : ∃ v : Int, (if m = 1 then -(Lx.val ds 0 : Int) else (Lx.val ds 0 : Int)) = v := ⟨_, rfl⟩
          rw [htx, hv] at hR
          have hpv := parse_num Hm.out Hdd.out (by rw [Hn0.out]; omega) (by rw [Hn0.out]; have := Hn1.out; omega)
          have htx2 : tx = numText m ds := by rw [← htx, num_text (j := j) Hm.out Hc.out Hf.out Hds.out (by rw [Hn0.out]; exact Hq.out)]
          rw [← htx2, hv] at hpv
          have hts : tx.length ≤ 2000 := by rw [← htx, List.length_drop, List.length_take]; have := H5.out.len; omega
          have Hpv := hide hpv
          have Hts := hide hts
          have he : (⟨s.toArray⟩ : ByteArray).extract j q = ⟨tx.toArray⟩ := by rw [ba_extract, htx]
          have hjq : j ≤ q := by have := Hq2.out; omega
          have hqs := H5.out.le
          clear htx hv hpv htx2 hts
          have HR := hide (show Lx.R.ok 2 tx v (m + n0) = R from hR)
          clear hR
          have dc0 := H5.out.c0
          have dc1 := H5.out.c1
          go_upto_region 15 with fail
          go_quiet (fail)
          have hL0 := H5.out.drewN nq
          have hT0 := HT5.out.drewN nq
          have hF0 := F5.out.drewN nq
          clear dc0 dc1
          obtain ⟨wz, hwz⟩ : ∃ wz, w5.drewN nq = wz := ⟨_, rfl⟩
          rw [hwz] at hL0 hT0 hF0 ⊢
          have HZ := hide hL0
          have FZ := hide hF0
          have HTZ := hide hT0
          clear hL0 hT0 hF0 hwz
          have Hpz := hide (parse_any tx v wz Hpv.out Hts.out)
          go_wp2_with fail
          refine Hpz.out.mono ?_
          rintro e wy ⟨rfl, hb⟩
          have HY := hide (HZ.out.other hb)
          have FY := hide (fr_xb FZ.out (Fr.of_below (F := fun _ => False) hb) (fun _ h => h.elim))
          have HTY := hide (HTZ.out.fr (Fr.of_below (F := fun _ => False) hb) (fun h => h.elim))
          clear hb
          rw [← Hq2.out] at HY
          have q0 := HTY.out
          have y0 := q0.frozen 0
          have x0 := q0.cell 0
          have y1 := q0.frozen 1
          have x1 := q0.cell 1
          have y2 := q0.frozen 2
          have x2 := q0.cell 2
          have y3 := q0.frozen 3
          have x3 := q0.cell 3
          have q1 := q0.set_ 0 (.int .u8 2)
          have q2 := q1.set_ 1 (.string ⟨tx.toArray⟩)
          have q3 := q2.set_ 2 (.int .i64 v)
          have q4 := q3.set_ 3 (.int .i64 (j : Int))
          have Q4 := hide q4
          clear q0 q1 q2 q3 q4
          go_wp2_with fail
          have r0 := Q4.out.cell 0
          have r1 := Q4.out.cell 1
          have r2 := Q4.out.cell 2
          have r3 := Q4.out.cell 3
          refine bodyPost_ret (v := .tuple #[.agg #[.int .u8 2, .string ⟨tx.toArray⟩, .int .i64 v, .int .i64 (j : Int)], .int .i64 0]) (by simp [results, Tryd.results25, go_sem, r0, r1, r2, r3, Result.andThen]) rfl ?_
          rw [← HR.out]
          exact ⟨rfl, HY.out.put4 Hne.out.1 Hne.out.2 _ _ _ _, FY.out.put4 (by rw [Htb.out]; exact Nat.le_refl _) _ _ _ _⟩
    · go_upto_region 10 with fail
      have H1n := hide h1n
      clear hz h1n
      cases hl3 : (s[q]?).any Lx.isLetter with
      | true =>
        rw [hl3] at Hs3
        rw [if_pos (letter_or hl3)] at hR
        clear hl3
        have HR := hide (show Lx.R.bad (m + n0) 4 = R from hR)
        clear hR
        have df3 := H3.out.f3
        go_wp2_with fail
        refine Hs3.out.mono ?_
        rintro e w4 ⟨rfl, hL, hf⟩
        have H4 := hide hL
        have F4 := hide (fr_xb F3.out hf (fun _ h => h.elim))
        have HT4 := hide (HT3.out.fr hf (fun h => h.elim))
        clear hL hf
        clear df3
        have dc1 := H4.out.c1
        go_wp2_with fail
        refine (fault_any (q) 4 H4.out H4.out.le).mono ?_
        rintro e w5 ⟨rfl, hL, hf⟩
        have H5 := hide hL
        have F5 := hide (fr_xb F4.out hf (fun _ h => h))
        have HT5 := hide (HT4.out.fr hf (fun h => Hne.out.1 h.symm))
        clear hL hf
        simp only [tokZ]
        rw [← Hq2.out] at H5
        have q0 := HT5.out
        have y0 := q0.frozen 0
        have x0 := q0.cell 0
        have y1 := q0.frozen 1
        have x1 := q0.cell 1
        have y2 := q0.frozen 2
        have x2 := q0.cell 2
        have y3 := q0.frozen 3
        have x3 := q0.cell 3
        have q1 := q0.set_ 0 (.int .u8 0)
        have q2 := q1.set_ 1 (.string ⟨#[]⟩)
        have q3 := q2.set_ 2 (.int .i64 0)
        have q4 := q3.set_ 3 (.int .i64 0)
        have Q4 := hide q4
        clear q0 q1 q2 q3 q4
        go_wp2_with fail
        have r0 := Q4.out.cell 0
        have r1 := Q4.out.cell 1
        have r2 := Q4.out.cell 2
        have r3 := Q4.out.cell 3
        refine bodyPost_ret (v := .tuple #[.agg #[.int .u8 0, .string ⟨#[]⟩, .int .i64 0, .int .i64 0], .int .i64 4]) (by simp [results, Tryd.results25, go_sem, r0, r1, r2, r3, Result.andThen]) rfl ?_
        rw [← HR.out]
        exact ⟨rfl, H5.out.put4 Hne.out.1 Hne.out.2 _ _ _ _, F5.out.put4 (by rw [Htb.out]; exact Nat.le_refl _) _ _ _ _⟩
      | false =>
        rw [hl3] at Hs3
        have df3 := H3.out.f3
        go_wp2_with fail
        refine Hs3.out.mono ?_
        rintro e w4 ⟨rfl, hL, hf⟩
        have H4 := hide hL
        have F4 := hide (fr_xb F3.out hf (fun _ h => h.elim))
        have HT4 := hide (HT3.out.fr hf (fun h => h.elim))
        clear hL hf
        clear df3
        have Hs7 := hide (H4.out.sees H4.out.cls.c7)
        cases hl7 : (s[q]?).any (fun c => c == 46) with
        | true =>
          rw [hl7] at Hs7
          rw [if_pos (dot_or hl7)] at hR
          clear hl3 hl7
          have HR := hide (show Lx.R.bad (m + n0) 4 = R from hR)
          clear hR
          have df7 := H4.out.f7
          go_wp2_with fail
          refine Hs7.out.mono ?_
          rintro e w5 ⟨rfl, hL, hf⟩
          have H5 := hide hL
          have F5 := hide (fr_xb F4.out hf (fun _ h => h.elim))
          have HT5 := hide (HT4.out.fr hf (fun h => h.elim))
          clear hL hf
          clear df7
          have dc1 := H5.out.c1
          go_wp2_with fail
          refine (fault_any (q) 4 H5.out H5.out.le).mono ?_
          rintro e w6 ⟨rfl, hL, hf⟩
          have H6 := hide hL
          have F6 := hide (fr_xb F5.out hf (fun _ h => h))
          have HT6 := hide (HT5.out.fr hf (fun h => Hne.out.1 h.symm))
          clear hL hf
          simp only [tokZ]
          rw [← Hq2.out] at H6
          have q0 := HT6.out
          have y0 := q0.frozen 0
          have x0 := q0.cell 0
          have y1 := q0.frozen 1
          have x1 := q0.cell 1
          have y2 := q0.frozen 2
          have x2 := q0.cell 2
          have y3 := q0.frozen 3
          have x3 := q0.cell 3
          have q1 := q0.set_ 0 (.int .u8 0)
          have q2 := q1.set_ 1 (.string ⟨#[]⟩)
          have q3 := q2.set_ 2 (.int .i64 0)
          have q4 := q3.set_ 3 (.int .i64 0)
          have Q4 := hide q4
          clear q0 q1 q2 q3 q4
          go_wp2_with fail
          have r0 := Q4.out.cell 0
          have r1 := Q4.out.cell 1
          have r2 := Q4.out.cell 2
          have r3 := Q4.out.cell 3
          refine bodyPost_ret (v := .tuple #[.agg #[.int .u8 0, .string ⟨#[]⟩, .int .i64 0, .int .i64 0], .int .i64 4]) (by simp [results, Tryd.results25, go_sem, r0, r1, r2, r3, Result.andThen]) rfl ?_
          rw [← HR.out]
          exact ⟨rfl, H6.out.put4 Hne.out.1 Hne.out.2 _ _ _ _, F6.out.put4 (by rw [Htb.out]; exact Nat.le_refl _) _ _ _ _⟩
        | false =>
          rw [hl7] at Hs7
          rw [if_neg (not_or hl3 hl7)] at hR
          clear hl3 hl7
          have df7 := H4.out.f7
          go_wp2_with fail
          refine Hs7.out.mono ?_
          rintro e w5 ⟨rfl, hL, hf⟩
          have H5 := hide hL
          have F5 := hide (fr_xb F4.out hf (fun _ h => h.elim))
          have HT5 := hide (HT4.out.fr hf (fun h => h.elim))
          clear hL hf
          clear df7
          by_cases h18 : 18 < n0
          case pos =>
            exact absurd h18 (by have := H1n.out; omega)
          rw [if_neg h18] at hR
          obtain ⟨tx, htx⟩ : ∃ tx, (s.take q).drop j = tx := ⟨_, rfl⟩
          obtain ⟨v, hv⟩ : ∃ v : Int, (if m = 1 then -(Lx.val ds 0 : Int) else (Lx.val ds 0 : Int)) = v := ⟨_, rfl⟩
          rw [htx, hv] at hR
          have hpv := parse_num Hm.out Hdd.out (by rw [Hn0.out]; omega) (by rw [Hn0.out]; have := Hn1.out; omega)
          have htx2 : tx = numText m ds := by rw [← htx, num_text (j := j) Hm.out Hc.out Hf.out Hds.out (by rw [Hn0.out]; exact Hq.out)]
          rw [← htx2, hv] at hpv
          have hts : tx.length ≤ 2000 := by rw [← htx, List.length_drop, List.length_take]; have := H5.out.len; omega
          have Hpv := hide hpv
          have Hts := hide hts
          have he : (⟨s.toArray⟩ : ByteArray).extract j q = ⟨tx.toArray⟩ := by rw [ba_extract, htx]
          have hjq : j ≤ q := by have := Hq2.out; omega
          have hqs := H5.out.le
          clear htx hv hpv htx2 hts
          have HR := hide (show Lx.R.ok 2 tx v (m + n0) = R from hR)
          clear hR
          have dc0 := H5.out.c0
          have dc1 := H5.out.c1
          go_upto_region 15 with fail
          go_quiet (fail)
          have hL0 := H5.out.drewN nq
          have hT0 := HT5.out.drewN nq
          have hF0 := F5.out.drewN nq
          clear dc0 dc1
          obtain ⟨wz, hwz⟩ : ∃ wz, w5.drewN nq = wz := ⟨_, rfl⟩
          rw [hwz] at hL0 hT0 hF0 ⊢
          have HZ := hide hL0
          have FZ := hide hF0
          have HTZ := hide hT0
          clear hL0 hT0 hF0 hwz
          have Hpz := hide (parse_any tx v wz Hpv.out Hts.out)
          go_wp2_with fail
          refine Hpz.out.mono ?_
          rintro e wy ⟨rfl, hb⟩
          have HY := hide (HZ.out.other hb)
          have FY := hide (fr_xb FZ.out (Fr.of_below (F := fun _ => False) hb) (fun _ h => h.elim))
          have HTY := hide (HTZ.out.fr (Fr.of_below (F := fun _ => False) hb) (fun h => h.elim))
          clear hb
          rw [← Hq2.out] at HY
          have q0 := HTY.out
          have y0 := q0.frozen 0
          have x0 := q0.cell 0
          have y1 := q0.frozen 1
          have x1 := q0.cell 1
          have y2 := q0.frozen 2
          have x2 := q0.cell 2
          have y3 := q0.frozen 3
          have x3 := q0.cell 3
          have q1 := q0.set_ 0 (.int .u8 2)
          have q2 := q1.set_ 1 (.string ⟨tx.toArray⟩)
          have q3 := q2.set_ 2 (.int .i64 v)
          have q4 := q3.set_ 3 (.int .i64 (j : Int))
          have Q4 := hide q4
          clear q0 q1 q2 q3 q4
          go_wp2_with fail
          have r0 := Q4.out.cell 0
          have r1 := Q4.out.cell 1
          have r2 := Q4.out.cell 2
          have r3 := Q4.out.cell 3
          refine bodyPost_ret (v := .tuple #[.agg #[.int .u8 2, .string ⟨tx.toArray⟩, .int .i64 v, .int .i64 (j : Int)], .int .i64 0]) (by simp [results, Tryd.results25, go_sem, r0, r1, r2, r3, Result.andThen]) rfl ?_
          rw [← HR.out]
          exact ⟨rfl, HY.out.put4 Hne.out.1 Hne.out.2 _ _ _ _, FY.out.put4 (by rw [Htb.out]; exact Nat.le_refl _) _ _ _ _⟩
end Go.Proofs.YtfbkmjjcopjoeaaDoor
