/-
  Any value with Form as bytes, and back; and whether it has Form: WireValues answers true for any value; no condition.
-/
import Derived.Test.YtdkmccilnmdhmaaVs
import Derived.Test.YtdkmccilnmdhmaaVe
import Derived.Test.YtdkmccilnmdhmaaVt
import Derived.Test.YtdkmccilnmdhmaaVw
import Derived.Test.YtdkmccilnmdhmaaWf
import Derived.Test.YtdkmccilnmdhmaaRf
import Derived.Test.YtdkmccilnmdhmaaRegionF
namespace Go.Proofs.Ytdkmccilnmdhmaa
open Go.RowKit Go.ChangeShapes Go.WideShapes Go.ChangeAt

theorem blk5 {w0 W : World} {g : Nat} {x0 x1 x2 x3 x4 : Value} (hb : Blk w0 g 25 #[x0, x1, x2, x3, x4]) (h : Below w0.heap.size w0 W) : W.cell? ⟨g, 0, none⟩ = some x0 ∧ W.cell? ⟨g, 1, none⟩ = some x1 ∧ W.cell? ⟨g, 2, none⟩ = some x2 ∧ W.cell? ⟨g, 3, none⟩ = some x3 ∧ W.cell? ⟨g, 4, none⟩ = some x4 := by
  have hb' := hb.below h hb.lt
  exact ⟨hb'.cell 0, hb'.cell 1, hb'.cell 2, hb'.cell 3, hb'.cell 4⟩

theorem wp_run_valS {P : Program} {o : Oper} {a : Act} {w : World} {K : Act → World → Prop} {Q : Exit → Act → World → Prop} {v : Value} (hr : (execOp a.eval o).run P w = .ok (.value v) w) (h : K (a.put o.dst v) w) : o.wp P a w K Q := by
  unfold Oper.wp
  rw [hr]
  exact h
theorem enc_pos (v : V) : 1 ≤ (encV v).length := by
  have h : ∀ n : Nat, 1 ≤ (Lib.uvarint n).length := fun n => by rw [Lib.uvarint]; split <;> simp
  have := h v.kind
  rw [encV_eq, beginB]
  split
  · simp only [List.length_append]; omega
  · split
    · simp only [List.length_append]; omega
    · split <;> simp only [List.length_append] <;> omega

set_option maxRecDepth 100000 in
set_option maxHeartbeats 8000000 in
theorem wvalues_any (X : V) (cs : List Value) (w : World) (hX : VC w (Old w) X cs) :
    Calls Try.prog 3 #[.agg cs.toArray] w fun e w' => e = .returned (.bool true) ∧ Below w.heap.size w w' := by
  have hcs : ∃ x0 x1 x2 x3 x4, cs = [x0, x1, x2, x3, x4] := by cases hX; exact ⟨_, _, _, _, _, rfl⟩
  obtain ⟨x0, x1, x2, x3, x4, rfl⟩ := hcs
  have hb1 := (Below.refl w.heap.size w).alloc (Nat.le_refl _) (.cells #[x0, x1, x2, x3, x4] 25)
  have hA1 := Blk.new w 25 #[x0, x1, x2, x3, x4]
  obtain ⟨w0, hw0⟩ : ∃ w0, w.alloc (.cells #[x0, x1, x2, x3, x4] 25) = w0 := ⟨_, rfl⟩
  rw [hw0] at hA1 hb1
  have Hb0 := hide hb1
  have Hle := hide (show w.heap.size ≤ w0.heap.size from hb1.size)
  have HA := hide (fun W h => blk5 (W := W) hA1 h)
  have HVX := hide (fun (W : World) (h : Below w0.heap.size w0 W) => (hX.later hb1).later h)
  clear hX hb1 hA1
  go_enter Try.func3, Try.ntmps3
  go_wp2_with fail
  refine (awake_any w0).mono ?_
  rintro e w1 ⟨rfl, hb1⟩
  have B1 := hide hb1
  clear hb1 hw0
  obtain ⟨qa0, qa1, qa2, qa3, qa4⟩ := HA.out w1 B1.out
  have hc0 := great_any X _ w1 (HVX.out w1 B1.out)
  go_wp2_with fail
  refine hc0.mono ?_
  rintro e w2 ⟨b0, rfl, h0, hb2⟩
  have B2 := hide (B1.out.trans (hb2.mono B1.out.size))
  have H0 := hide h0
  clear hb2 h0 hc0 qa0 qa1 qa2 qa3 qa4
  cases b0 with
  | true =>
    go_wp2_with fail
    refine (awake_any w2).mono ?_
    rintro e wx ⟨rfl, hbx⟩
    have Hfx := hide (Hb0.out.trans ((B2.out.trans (hbx.mono B2.out.size)).mono Hle.out))
    clear hbx
    go_wp2
    go_ret
    exact ⟨rfl, Hfx.out⟩
  | false =>
    go_upto_region 3 with fail
    refine wp_region_tree (fun W => Below w2.heap.size w2 W) 4 (.read 0 (.read 2 (.eff 1 (.eff 3 .nil)))) (by kernel_rfl) (by kernel_rfl) (fun _ _ d _ _ h => by cases d <;> exact h) (Below.refl _ _).drew ?_
    simp only [Plan.ops, List.getElem?_toArray, List.getElem?_cons_zero, List.getElem?_cons_succ, Option.elim, List.drop_succ_cons, List.drop_zero]
    refine wpTree_read (v := .agg #[x0, x1, x2, x3, x4]) rfl (fun W hW => (by obtain ⟨qa0, qa1, qa2, qa3, qa4⟩ := HA.out W (B2.out.trans (hW.mono B2.out.size)); clear hW; go_simp; try with_reducible rfl)) ?_
    refine wpTree_read (v := .agg #[x0, x1, x2, x3, x4]) rfl (fun W hW => (by obtain ⟨qa0, qa1, qa2, qa3, qa4⟩ := HA.out W (B2.out.trans (hW.mono B2.out.size)); clear hW; go_simp; try with_reducible rfl)) ?_
    simp only [Act.put, List.setIfInBounds_toArray, List.set_cons_zero, List.set_cons_succ]
    refine wpTree_eff (wpEff_does rfl (fun K hK => ?_))
    have hs1 : Below w2.heap.size w2 w2.drew := (Below.refl _ _).drew
    refine wp_call_by 9 #[.agg #[x0, x1, x2, x3, x4]] (by kernel_rfl) (wForm_any X [x0, x1, x2, x3, x4] w2.drew (HVX.out _ (B2.out.trans (hs1.mono B2.out.size)))) ?_
    rintro e wf ⟨bf, rfl, hf1, hf2⟩
    have hsf : Below w2.heap.size w2 wf := hs1.trans (hf2.mono hs1.size)
    refine ⟨_, rfl, hK _ _ hsf ?_⟩
    clear hK
    simp only [Act.put, List.setIfInBounds_toArray, List.set_cons_zero, List.set_cons_succ]
    refine wpTree_eff (wpEff_does rfl (fun K hK => ?_))
    refine wp_call_by 10 #[.agg #[x0, x1, x2, x3, x4], .int .i64 0] (by kernel_rfl) (show Calls Try.prog 10 #[.agg [x0, x1, x2, x3, x4].toArray, .int .i64 0] wf (FPostI 24 X wf) from form_iff 24 0 X [x0, x1, x2, x3, x4] wf (by omega) (HVX.out _ (B2.out.trans (hsf.mono B2.out.size)))) ?_
    rintro e wg ⟨bg, rfl, hg1, hg2⟩
    have hsg : Below w2.heap.size w2 wg := hsf.trans (hg2.mono hsf.size)
    obtain rfl : bf = bg := by
      cases bf <;> cases bg
      · rfl
      · have := hf1.2 (hg1.1 rfl); simp at this
      · have := hg1.2 (hf1.1 rfl); simp at this
      · rfl
    refine ⟨_, rfl, hK _ _ hsg ?_⟩
    clear hK
    simp only [Act.put, List.setIfInBounds_toArray, List.set_cons_zero, List.set_cons_succ]
    refine wpTree_nil ?_
    have BG := hide (B2.out.trans (hsg.mono B2.out.size))
    have HG := hide hg1
    clear hsg hsf hs1 hf1 hf2 hg1 hg2
    have hbb : (bf != bf) = false := by simp
    go_upto_region 5 with fail
    clear hbb
    obtain ⟨qa0, qa1, qa2, qa3, qa4⟩ := HA.out wg BG.out
    have hfm : Calls Try.prog 10 #[.agg [x0, x1, x2, x3, x4].toArray, .int .i64 0] wg (FPostI 24 X wg) := form_iff 24 0 X [x0, x1, x2, x3, x4] wg (by omega) (HVX.out _ BG.out)
    have Hfm := hide hfm
    clear hfm
    go_wp2_with fail
    refine Hfm.out.mono ?_
    rintro e w3 ⟨b3, rfl, h3, hb3⟩
    have B3 := hide (BG.out.trans (hb3.mono BG.out.size))
    have H3 := hide h3
    clear h3 hb3 Hfm qa0 qa1 qa2 qa3 qa4
    cases b3 with
    | false =>
      go_wp2
      go_ret
      exact ⟨rfl, Hb0.out.trans (B3.out.mono Hle.out)⟩
    | true =>
      have HFX := hide (H3.out.1 (by simp))
      have Hnx := hide (H0.out (by simp))
      obtain ⟨LX, hLX⟩ : ∃ LX, encV X = LX := ⟨_, rfl⟩
      have hlx : LX.length ≤ 1000000 := by rw [← hLX]; have h1 := enc_len 24 X HFX.out ⟨_, HVX.out _ B3.out⟩; have := Hnx.out; omega
      have hlx1 : 1 ≤ LX.length := by rw [← hLX]; exact enc_pos X
      have Hlx := hide hlx
      have Hlx1 := hide hlx1
      have HLX := hide hLX
      clear hLX hlx hlx1
      go_upto_region 8 with fail
      obtain ⟨w4, hw4⟩ : ∃ w4, w3.alloc (.cells #[.slice none 0 0] 32) = w4 := ⟨_, rfl⟩
      have hwt : Wt w4 w3.heap.size (fun k => k = w3.heap.size ∨ At none k) [] := by rw [← hw4]; exact wt_new w3
      have hb4 : Below w3.heap.size w3 w4 := by rw [← hw4]; exact (Below.refl _ _).alloc (Nat.le_refl _) _
      have hsz4 : w4.heap.size = w3.heap.size + 1 := by rw [← hw4]; simp
      rw [hw4]
      have hB4 := B3.out.trans (hb4.mono B3.out.size)
      obtain ⟨qa0, qa1, qa2, qa3, qa4⟩ := HA.out w4 hB4
      have hwv := wvalue_any w3.heap.size (fun k => k = w3.heap.size ∨ At none k) (Old w3) [] X [x0, x1, x2, x3, x4] w4 hwt (((HVX.out w3 B3.out).fr (F := fun _ => False) (by rw [← hw4]; exact (Fr.refl _ _).alloc _) (fun _ _ h => h))) (fun k hk => ⟨fun h => h.elim (fun e => by have : k < w3.heap.size := hk; omega) (fun h => absurd h At.none_not), by have : k < w3.heap.size := hk; omega⟩) (by rw [List.nil_append, HLX.out]; have := Hlx.out; omega)
      rw [List.nil_append, HLX.out] at hwv
      have Hwv := hide hwv
      have HB4 := hide hB4
      have Hs4 := hide (show w3.heap.size ≤ w4.heap.size by omega)
      clear hwv hB4 hb4 hwt hw4 hsz4
      go_wp2_with fail
      refine Hwv.out.mono ?_
      rintro e w5 ⟨F5, rfl, hwt5, hf5, hn5⟩
      have hB5 : Below w0.heap.size w0 w5 := HB4.out.trans (hf5.below HB4.out.size (fun k hk => hk.elim (fun e => by have := B3.out.size; omega) (fun h => absurd h At.none_not)))
      have Hd := hide (done_any w3.heap.size F5 LX w5 hwt5 (by have := Hlx.out; omega))
      have HB5 := hide hB5
      clear hwt5 hf5 hn5 hB5 Hwv qa0 qa1 qa2 qa3 qa4
      go_wp2_with fail
      refine Hd.out.mono ?_
      rintro e w6 ⟨Ap, cp, rfl, hop, hAp, hb6⟩
      have HOp := hide hop
      have HB6 := hide (HB5.out.trans (hb6.mono HB5.out.size))
      clear hop hAp hb6 Hd
      go_upto_region 9 with fail
      have hrd := read_any Ap LX.length cp LX w6 rfl HOp.out.bytes (by have := Hlx.out; omega)
      have Hrd := hide hrd
      clear hrd
      go_wp2_with fail
      refine Hrd.out.mono ?_
      rintro e w7 ⟨rb, rfl, hr7, hb7, hrb⟩
      have Hv := hide (rvalueM_any rb _ false w7 hr7)
      have HB7 := hide (HB6.out.trans (hb7.mono HB6.out.size))
      have Hop7 := hide (HOp.out.below hb7)
      have Hrb := hide (show w0.heap.size ≤ rb ∧ w6.heap.size ≤ rb from ⟨Nat.le_trans HB6.out.size hrb, hrb⟩)
      have Hap := hide (show ∀ k, At Ap k → k ≠ rb from fun k hk e => by have := HOp.out.lt k hk; omega)
      clear hr7 hb7 hrb Hrd HOp
      have za := zeroV
      go_wp2_with fail
      refine Hv.out.mono ?_
      rintro e w8 ⟨cs8, rfl, h18, hf8, hcase⟩
      have hq : rdV 24 LX = some (X, []) := by
        have h := rdV_enc 24 X [] HFX.out ⟨_, HVX.out _ B3.out⟩
        rwa [List.append_nil, HLX.out] at h
      rcases hcase with ⟨v, r, hq8, hv8, hr8⟩ | ⟨hq8, _⟩
      case inr => exact absurd (hq.symm.trans hq8) (by simp)
      have he8 := hq.symm.trans hq8
      injection he8 with he8
      injection he8 with he1 he2
      subst he1 he2
      have hcs8 : ∃ y0 y1 y2 y3 y4, cs8 = [y0, y1, y2, y3, y4] := by cases hv8; exact ⟨_, _, _, _, _, rfl⟩
      obtain ⟨y0, y1, y2, y3, y4, rfl⟩ := hcs8
      have Hall8 := hide (show (#[y0, y1, y2, y3, y4] : Array Value).all (·.oneCell') = true from all_oneCell_toArray h18)
      have hB8 : Below w0.heap.size w0 w8 := HB7.out.trans (hf8.below HB7.out.size (fun k hk => by rw [show k = rb from hk]; exact Hrb.out.1))
      have HB8 := hide hB8
      have Hop8 := hide (Hop7.out.fr hf8 (fun k hk h => Hap.out k hk h))
      have Hv8 := hide (hv8.mono (G' := Old w8) (fun k hk => hk.2))
      have Hr8 := hide hr8
      clear hv8 hr8 hf8 h18 hq hq8 hB8 Hv Hop7
      go_upto_region 11 with (first
        | (refine wpList_store_mid rfl 25 (.tmp 6) (.tmp 31) rfl w8.heap.size 0 #[y0, y1, y2, y3, y4] rfl rfl (there_new _ _ _ _ (by show 5 ≤ 5; omega)) (by kernel_rfl) Hall8.out ?_
           rw [show (#[y0, y1, y2, y3, y4] : Array Value).toList = [y0, y1, y2, y3, y4] from rfl, setCells_new _ _ _ _ (by rfl)]))
      obtain ⟨w9, hw9⟩ : ∃ w9, w8.alloc (.cells [y0, y1, y2, y3, y4].toArray 25) = w9 := ⟨_, rfl⟩
      have hb9 : Below w8.heap.size w8 w9 := by rw [← hw9]; exact (Below.refl _ _).alloc (Nat.le_refl _) _
      have hU9 : Blk w9 w8.heap.size 25 #[y0, y1, y2, y3, y4] := by rw [← hw9]; exact Blk.new _ _ _
      try rw [hw9]
      have B9 := hide (HB8.out.trans (hb9.mono HB8.out.size))
      have Hop9 := hide (Hop8.out.below hb9)
      have HY := hide (fun W h => blk5 (W := W) hU9 h)
      have HVY := hide (fun (W : World) (h : Below w9.heap.size w9 W) => (Hv8.out.later hb9).later h)
      have Hr9 := hide (Hr8.out.fr (F := fun _ => False) (Fr.of_below hb9) (fun _ h => h.elim))
      clear hb9 hU9 hw9 Hop8 Hv8 Hr8 za
      refine wp_region_tree (fun W => Below w9.heap.size w9 W) 19 (.read 0 (.read 1 (.read 2 (.eff 3 (.eff 4 (.read 5 (.read 6 (.read 7 (.eff 8 (.read 9 (.read 10 (.read 11 (.read 12 (.eff 13 (.read 14 (.read 15 (.read 16 (.read 17 (.eff 18 .nil))))))))))))))))))) (by kernel_rfl) (by kernel_rfl) (fun _ _ d _ _ h => by cases d <;> exact h) (Below.refl _ _).drew ?_
      simp only [Plan.ops, List.getElem?_toArray, List.getElem?_cons_zero, List.getElem?_cons_succ, Option.elim, List.drop_succ_cons, List.drop_zero]
      refine wpTree_read rfl (fun W hW => (by clear hW; go_simp; try with_reducible rfl)) ?_
      simp only [Act.put, List.setIfInBounds_toArray, List.set_cons_zero, List.set_cons_succ]
      refine wpTree_read (v := .string ⟨LX.toArray⟩) rfl (fun W hW => (by
        have hst := str_run (c := cp) rfl (Hop9.out.bytes.below (B := w9.heap.size) hW (Nat.le_refl _))
        clear hW
        go_simp
        try with_reducible rfl)) ?_
      simp only [Act.put, List.setIfInBounds_toArray, List.set_cons_zero, List.set_cons_succ]
      refine wpTree_read (v := .agg #[x0, x1, x2, x3, x4]) rfl (fun W hW => (by obtain ⟨qa0, qa1, qa2, qa3, qa4⟩ := HA.out W (B9.out.trans (hW.mono B9.out.size)); clear hW; go_simp; try with_reducible rfl)) ?_
      simp only [Act.put, List.setIfInBounds_toArray, List.set_cons_zero, List.set_cons_succ]
      refine wpTree_eff (wpEff_does rfl (fun K hK => ?_))
      have hs0 : Below w9.heap.size w9 w9.drew := (Below.refl _ _).drew
      refine wp_call_by 15 #[.agg #[x0, x1, x2, x3, x4]] (by kernel_rfl) (rval_any 24 X [x0, x1, x2, x3, x4] w9.drew (HVX.out _ (B9.out.trans (hs0.mono B9.out.size))) HFX.out (by rw [HLX.out]; have := Hlx.out; omega)) ?_
      rintro e w10 ⟨A10, c10, rfl, ho10, _, hb10⟩
      have hs10 : Below w9.heap.size w9 w10 := hs0.trans (hb10.mono hs0.size)
      refine ⟨_, rfl, hK _ _ hs10 ?_⟩
      clear hK
      simp only [Act.put, List.setIfInBounds_toArray, List.set_cons_zero, List.set_cons_succ]
      rw [HLX.out] at ho10 ⊢
      have hst10 := str_run (c := c10) rfl ho10.bytes
      refine wpTree_eff (wpEff_does rfl (fun K hK => ?_))
      refine wp_run_valS (v := .string ⟨LX.toArray⟩) (by go_simp) ?_
      refine hK _ _ hs10 ?_
      clear hK
      simp only [Act.put, List.setIfInBounds_toArray, List.set_cons_zero, List.set_cons_succ]
      refine wpTree_read (v := .bool true) rfl (fun W hW => (by skip; clear hW; go_simp; try with_reducible rfl)) ?_
      simp only [Act.put, List.setIfInBounds_toArray, List.set_cons_zero, List.set_cons_succ]
      refine wpTree_read rfl (fun W hW => (by clear hW; go_simp; try with_reducible rfl)) ?_
      simp only [Act.put, List.setIfInBounds_toArray, List.set_cons_zero, List.set_cons_succ]
      refine wpTree_read rfl (fun W hW => (by clear hW; go_simp; try with_reducible rfl)) ?_
      simp only [Act.put, List.setIfInBounds_toArray, List.set_cons_zero, List.set_cons_succ]
      refine wpTree_eff (wpEff_does rfl (fun K hK => ?_))
      have hen : Calls Try.prog 16 #[.pointer (some ⟨rb, 0, none⟩)] w10 fun e w' => e = .returned (.bool true) ∧ w10 = w' := rend_any rb [] false w10 (Hr9.out.fr (F := fun _ => False) (Fr.of_below hs10) (fun _ h => h.elim))
      refine wp_call_by 16 #[.pointer (some ⟨rb, 0, none⟩)] (by kernel_rfl) hen ?_
      rintro e w11 ⟨rfl, rfl⟩
      refine ⟨_, rfl, hK _ _ hs10 ?_⟩
      clear hK
      simp only [Act.put, List.setIfInBounds_toArray, List.set_cons_zero, List.set_cons_succ]
      refine wpTree_read rfl (fun W hW => (by clear hW; go_simp; try with_reducible rfl)) ?_
      simp only [Act.put, List.setIfInBounds_toArray, List.set_cons_zero, List.set_cons_succ]
      refine wpTree_read rfl (fun W hW => (by clear hW; go_simp; try with_reducible rfl)) ?_
      simp only [Act.put, List.setIfInBounds_toArray, List.set_cons_zero, List.set_cons_succ]
      refine wpTree_read (v := .agg #[y0, y1, y2, y3, y4]) rfl (fun W hW => (by obtain ⟨p0, p1, p2, p3, p4⟩ := HY.out W hW; clear hW; go_simp; try with_reducible rfl)) ?_
      refine wpTree_read (v := .agg #[x0, x1, x2, x3, x4]) rfl (fun W hW => (by obtain ⟨qa0, qa1, qa2, qa3, qa4⟩ := HA.out W (B9.out.trans (hW.mono B9.out.size)); clear hW; go_simp; try with_reducible rfl)) ?_
      simp only [Act.put, List.setIfInBounds_toArray, List.set_cons_zero, List.set_cons_succ]
      refine wpTree_eff (wpEff_does rfl (fun K hK => ?_))
      refine wp_call_by 17 #[.agg #[y0, y1, y2, y3, y4], .agg #[x0, x1, x2, x3, x4]] (by kernel_rfl) (r3same_any 3000 X X [y0, y1, y2, y3, y4] [x0, x1, x2, x3, x4] w10 Hnx.out (HVY.out _ hs10) (HVX.out _ (B9.out.trans (hs10.mono B9.out.size)))) ?_
      rintro e w12 ⟨b12, rfl, hb12, hbel12⟩
      obtain rfl : b12 = true := hb12.2 rfl
      have hs12 : Below w9.heap.size w9 w12 := hs10.trans (hbel12.mono hs10.size)
      refine ⟨_, rfl, hK _ _ hs12 ?_⟩
      clear hK
      simp only [Act.put, List.setIfInBounds_toArray, List.set_cons_zero, List.set_cons_succ]
      refine wpTree_read rfl (fun W hW => (by clear hW; go_simp; try with_reducible rfl)) ?_
      simp only [Act.put, List.setIfInBounds_toArray, List.set_cons_zero, List.set_cons_succ]
      refine wpTree_read rfl (fun W hW => (by clear hW; go_simp; try with_reducible rfl)) ?_
      simp only [Act.put, List.setIfInBounds_toArray, List.set_cons_zero, List.set_cons_succ]
      refine wpTree_read (v := .agg #[y0, y1, y2, y3, y4]) rfl (fun W hW => (by obtain ⟨p0, p1, p2, p3, p4⟩ := HY.out W hW; clear hW; go_simp; try with_reducible rfl)) ?_
      refine wpTree_read (v := .agg #[x0, x1, x2, x3, x4]) rfl (fun W hW => (by obtain ⟨qa0, qa1, qa2, qa3, qa4⟩ := HA.out W (B9.out.trans (hW.mono B9.out.size)); clear hW; go_simp; try with_reducible rfl)) ?_
      simp only [Act.put, List.setIfInBounds_toArray, List.set_cons_zero, List.set_cons_succ]
      refine wpTree_eff (wpEff_does rfl (fun K hK => ?_))
      refine wp_call_by 18 #[.agg #[y0, y1, y2, y3, y4], .agg #[x0, x1, x2, x3, x4]] (by kernel_rfl) (same_any X X [y0, y1, y2, y3, y4] [x0, x1, x2, x3, x4] w12 (HVY.out _ hs12) (HVX.out _ (B9.out.trans (hs12.mono B9.out.size))) (by have := Hnx.out; omega)) ?_
      rintro e w13 ⟨b13, rfl, hb13, hbel13⟩
      obtain rfl : b13 = true := hb13.2 rfl
      have hs13 : Below w9.heap.size w9 w13 := hs12.trans (hbel13.mono hs12.size)
      refine ⟨_, rfl, hK _ _ hs13 ?_⟩
      clear hK
      simp only [Act.put, List.setIfInBounds_toArray, List.set_cons_zero, List.set_cons_succ]
      refine wpTree_nil ?_
      have Hfin := hide (Hb0.out.trans ((B9.out.trans (hs13.mono B9.out.size)).mono Hle.out))
      clear hs13 hs12 hs10 hs0 hbel13 hbel12 hb13 hb12 hb10 ho10 hst10 hen
      go_wp2
      go_ret
      exact ⟨rfl, Hfin.out⟩

set_option maxRecDepth 100000 in
theorem wireValues_lifted (os : Os) (started : os.Started) (H : Type) (enc : TypeId × Value → H) :
    ReturnsInHanded {} Try.checked os 3 .any (Rows.wireValuesSpec.pre6 enc Try.prog Try.f3 Rows.wireValuesRow.domain false) (Rows.wireValuesSpec.post enc Try.prog Try.f3 false true false false) := by
  refine returnsInHanded_of_change (C := Try.checked) own0 started (by kernel_rfl) Try.func3
    (ChangeSpec.witness6 (enc := enc) (C := Try.checked) false ⟨#[], #[.agg #[.int .u8 0, .int .i64 0, .string ⟨#[]⟩, .slice none 0 0, .slice none 0 0]], []⟩ 8 (by kernel_rfl) (by kernel_rfl) (by kernel_rfl) (by kernel_rfl)) ?_
  intro W base args ds gs before hval0 hW _ _
  have hval : ∀ (j : Nat) t v, Try.f3.params[j]? = some t → args[j]? = some v → Value.okWide Try.prog W .any base t v := hval0
  have hW' := hW
  obtain ⟨p, q, hA0, hV, rfl, hfz, hnd⟩ := hW
  have hA : DataW.TrodAll enc Try.prog W 0 (fun _ => true) true Try.f3.params.toList args.toList ds p := hA0
  rw [Try.params3] at hA hval
  obtain ⟨v0, d0, rfl, rfl, h0⟩ := trodAll_one hA
  obtain ⟨rfl, rfl⟩ := trodVars_none hV
  obtain ⟨X0, cs0, rfl, V0⟩ := open_val (hval 0 25 v0 rfl rfl) h0
  clear hA0 hval0
  refine (wvalues_any X0 cs0 W V0).mono fun e W' ⟨he, hb⟩ => ?_
  subst he
  exact ⟨_, rfl, law_close laid0 Try.underlying4 rfl rfl (by rw [Try.params3]; decide +kernel) hW' (fun gs hg => by subst hg; rfl) hb⟩

theorem wireValues_holds : Rows.WireValuesSaid :=
  OpenClaim.holds_of_wide 3 Try.f3 rfl rfl rfl rfl rfl rfl rfl ⟨rfl, rfl, rfl, rfl, rfl⟩ rfl rfl rfl rfl rfl (by kernel_rfl) Try.func3 (by kernel_rfl)
    (of_decide_eq_true (by kernel_rfl)) (by unfold Func.isWrapper; first | (rw [if_pos (by decide +kernel)]; kernel_rfl) | (rw [if_neg (by decide +kernel)]; exact ⟨rfl, rfl⟩))
    (fun os started H enc _ => wireValues_lifted os started H enc)
end Go.Proofs.Ytdkmccilnmdhmaa
