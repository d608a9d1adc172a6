/-
  Two values are one just if they have the same bytes: WireSame answers true for any two values; no condition.
-/
import Derived.Test.YtbhclfkpkgapaaaVe
import Derived.Test.YtbhclfkpkgapaaaVk
import Derived.Test.YtbhclfkpkgapaaaVl
import Derived.Test.YtbhclfkpkgapaaaWf
import Derived.Test.YtbhclfkpkgapaaaRegionF
namespace Go.Proofs.Ytbhclfkpkgapaaa
open Go.RowKit Go.ChangeShapes Go.WideShapes Go.ChangeAt

theorem wp_run_valS {P : Program} {o : Oper} {a : Act} {w : World} {K : Act → World → Prop} {Q : Exit → Act → World → Prop} {v : Value} (hr : (execOp a.eval o).run P w = .ok (.value v) w) (h : K (a.put o.dst v) w) : o.wp P a w K Q := by
  unfold Oper.wp
  rw [hr]
  exact h
/-- The five cells of a value that lies in a block of its own. -/
theorem blk5 {w0 W : World} {g : Nat} {x0 x1 x2 x3 x4 : Value} (hb : Blk w0 g 44 #[x0, x1, x2, x3, x4]) (h : Below w0.heap.size w0 W) : W.cell? ⟨g, 0, none⟩ = some x0 ∧ W.cell? ⟨g, 1, none⟩ = some x1 ∧ W.cell? ⟨g, 2, none⟩ = some x2 ∧ W.cell? ⟨g, 3, none⟩ = some x3 ∧ W.cell? ⟨g, 4, none⟩ = some x4 := by
  have hb' := hb.below h hb.lt
  exact ⟨hb'.cell 0, hb'.cell 1, hb'.cell 2, hb'.cell 3, hb'.cell 4⟩

set_option maxRecDepth 100000 in
set_option maxHeartbeats 8000000 in
theorem wsame_any (X Y : V) (cs ds : List Value) (w : World) (hX : VC w (Old w) X cs) (hY : VC w (Old w) Y ds) :
    Calls Try.prog 7 #[.agg cs.toArray, .agg ds.toArray] w fun e w' => e = .returned (.bool true) ∧ Below w.heap.size w w' := by
  have hcs : ∃ x0 x1 x2 x3 x4, cs = [x0, x1, x2, x3, x4] := by cases hX; exact ⟨_, _, _, _, _, rfl⟩
  obtain ⟨x0, x1, x2, x3, x4, rfl⟩ := hcs
  have hds : ∃ x0 x1 x2 x3 x4, ds = [x0, x1, x2, x3, x4] := by cases hY; exact ⟨_, _, _, _, _, rfl⟩
  obtain ⟨y0, y1, y2, y3, y4, rfl⟩ := hds
  have hb1 := (Below.refl w.heap.size w).alloc (Nat.le_refl _) (.cells #[x0, x1, x2, x3, x4] 44)
  have hA1 := Blk.new w 44 #[x0, x1, x2, x3, x4]
  obtain ⟨wa, hwa⟩ : ∃ wa, w.alloc (.cells #[x0, x1, x2, x3, x4] 44) = wa := ⟨_, rfl⟩
  rw [hwa] at hA1 hb1
  have hs1 : wa.heap.size = w.heap.size + 1 := by rw [← hwa]; simp
  have hA2 := hA1.alloc (.cells #[y0, y1, y2, y3, y4] 44)
  have hB2 := Blk.new wa 44 #[y0, y1, y2, y3, y4]
  have hb2 : Below w.heap.size w (wa.alloc (.cells #[y0, y1, y2, y3, y4] 44)) := hb1.alloc (by omega) _
  obtain ⟨w0, hw0⟩ : ∃ w0, wa.alloc (.cells #[y0, y1, y2, y3, y4] 44) = w0 := ⟨_, rfl⟩
  rw [hw0] at hA2 hB2 hb2

  have Hb0 := hide hb2
  have Hle := hide (show w.heap.size ≤ w0.heap.size from hb2.size)
  have HA := hide (fun W h => blk5 (W := W) hA2 h)
  have HB := hide (fun W h => blk5 (W := W) hB2 h)
  have HVX := hide (fun (W : World) (h : Below w0.heap.size w0 W) => (hX.later hb2).later h)
  have HVY := hide (fun (W : World) (h : Below w0.heap.size w0 W) => (hY.later hb2).later h)
  clear hX hY hb1 hb2 hA1 hA2 hB2 hs1
  go_enter Try.func7, Try.ntmps7
  go_wp2_with fail
  refine (awake_any w0).mono ?_
  rintro e w1 ⟨rfl, hb1⟩
  have B1 := hide hb1
  clear hb1 hwa hw0
  obtain ⟨qa0, qa1, qa2, qa3, qa4⟩ := HA.out w1 B1.out
  have hc0 := great_any X _ w1 (HVX.out w1 B1.out)
  go_wp2_with fail
  refine hc0.mono ?_
  rintro e w2 ⟨b0, rfl, h0, hb2⟩
  have B2 := hide (B1.out.trans (hb2.mono B1.out.size))
  have H0 := hide h0
  clear hb2 h0 hc0 qa0 qa1 qa2 qa3 qa4
  cases b0 with
  | true =>
    go_wp2_with fail
    refine (awake_any w2).mono ?_
    rintro e wx ⟨rfl, hbx⟩
    have Hfx := hide (Hb0.out.trans ((B2.out.trans (hbx.mono B2.out.size)).mono Hle.out))
    clear hbx
    go_wp2
    go_ret
    exact ⟨rfl, Hfx.out⟩
  | false =>
    obtain ⟨qb0, qb1, qb2, qb3, qb4⟩ := HB.out w2 B2.out
    have hc1 := great_any Y _ w2 (HVY.out w2 B2.out)
    go_wp2_with fail
    refine hc1.mono ?_
    rintro e w3 ⟨b1, rfl, h1, hb3⟩
    have B3 := hide (B2.out.trans (hb3.mono B2.out.size))
    have H1 := hide h1
    clear hb3 h1 hc1 qb0 qb1 qb2 qb3 qb4
    cases b1 with
    | true =>
      go_wp2_with fail
      refine (awake_any w3).mono ?_
      rintro e wx ⟨rfl, hbx⟩
      have Hfx := hide (Hb0.out.trans ((B3.out.trans (hbx.mono B3.out.size)).mono Hle.out))
      clear hbx
      go_wp2
      go_ret
      exact ⟨rfl, Hfx.out⟩
    | false =>
      obtain ⟨qa0, qa1, qa2, qa3, qa4⟩ := HA.out w3 B3.out
      have hc2 : Calls Try.prog 28 #[.agg [x0, x1, x2, x3, x4].toArray, .int .i64 0] w3 (FPost 24 X w3) := form_any 24 0 X [x0, x1, x2, x3, x4] w3 (by omega) (HVX.out w3 B3.out)
      go_wp2_with fail
      refine hc2.mono ?_
      rintro e w4 ⟨b2, rfl, h2, hb4⟩
      have B4 := hide (B3.out.trans (hb4.mono B3.out.size))
      have H2 := hide h2
      clear hb4 h2 hc2 qa0 qa1 qa2 qa3 qa4
      cases b2 with
      | false =>
        go_wp2_with fail
        refine (awake_any w4).mono ?_
        rintro e wx ⟨rfl, hbx⟩
        have Hfx := hide (Hb0.out.trans ((B4.out.trans (hbx.mono B4.out.size)).mono Hle.out))
        clear hbx
        go_wp2
        go_ret
        exact ⟨rfl, Hfx.out⟩
      | true =>
        obtain ⟨qb0, qb1, qb2, qb3, qb4⟩ := HB.out w4 B4.out
        have hc3 : Calls Try.prog 28 #[.agg [y0, y1, y2, y3, y4].toArray, .int .i64 0] w4 (FPost 24 Y w4) := form_any 24 0 Y [y0, y1, y2, y3, y4] w4 (by omega) (HVY.out w4 B4.out)
        go_wp2_with fail
        refine hc3.mono ?_
        rintro e w5 ⟨b3, rfl, h3, hb5⟩
        have B5 := hide (B4.out.trans (hb5.mono B4.out.size))
        have H3 := hide h3
        clear hb5 h3 hc3 qb0 qb1 qb2 qb3 qb4
        cases b3 with
        | false =>
          go_wp2_with fail
          refine (awake_any w5).mono ?_
          rintro e wx ⟨rfl, hbx⟩
          have Hfx := hide (Hb0.out.trans ((B5.out.trans (hbx.mono B5.out.size)).mono Hle.out))
          clear hbx
          go_wp2
          go_ret
          exact ⟨rfl, Hfx.out⟩
        | true =>
          have HFX := hide (H2.out (by simp))
          have HFY := hide (H3.out (by simp))
          have Hnx := hide (H0.out (by simp))
          have Hny := hide (H1.out (by simp))
          have Hlx := hide (show (encV X).length ≤ 1000000000 by have h1 := enc_len 24 X HFX.out ⟨_, HVX.out _ B5.out⟩; have := Hnx.out; omega)
          have Hly := hide (show (encV Y).length ≤ 1000000000 by have h1 := enc_len 24 Y HFY.out ⟨_, HVY.out _ B5.out⟩; have := Hny.out; omega)
          obtain ⟨bS, hbS⟩ : ∃ bS : Bool, (bS = true ↔ X = Y) := by
            by_cases h : X = Y
            · exact ⟨true, ⟨fun _ => h, fun _ => rfl⟩⟩
            · exact ⟨false, ⟨fun h' => by simp at h', fun h' => absurd h' h⟩⟩
          have HbS := hide hbS
          have henc : encV X = encV Y ↔ X = Y := by
            constructor
            · intro h
              exact (enc_inj 24 X Y [] [] HFX.out HFY.out ⟨_, HVX.out _ B5.out⟩ ⟨_, HVY.out _ B5.out⟩ (by rw [h])).1
            · intro h; rw [h]
          have Hd := hide (show decide (encV X = encV Y) = bS by
            cases bS with
            | true => exact decide_eq_true (henc.2 (hbS.1 rfl))
            | false => exact decide_eq_false (fun h => absurd (hbS.2 (henc.1 h)) (by simp)))
          have Hq := hide (show (encV X == encV Y) = bS by
            cases bS with
            | true => rw [beq_iff_eq]; exact henc.2 (hbS.1 rfl)
            | false => rw [beq_eq_false_iff_ne]; exact fun h => absurd (hbS.2 (henc.1 h)) (by simp))
          clear henc hbS
          have B5 := B5
          go_upto_region 3 with fail
          refine wp_region_tree (fun W => Below w5.heap.size w5 W) 16 (.read 0 (.read 1 (.read 3 (.read 6 (.eff 2 (.eff 4 (.fork 5 (.eff 7 (.eff 8 (.read 9 (.read 10 (.read 11 (.read 12 (.read 13 (.eff 14 (.read 15 .nil))))))))) 7 (.fork 5 (.eff 8 (.read 9 (.read 10 (.read 11 (.read 12 (.read 13 (.eff 14 (.read 15 .nil)))))))) 8 (.eff 5 (.read 9 (.read 10 (.read 11 (.read 12 (.read 13 (.eff 14 (.read 15 .nil)))))))))))))))) (by kernel_rfl) (by kernel_rfl) (fun _ _ d _ _ h => by cases d <;> exact h) (Below.refl _ _).drew ?_
          simp only [Plan.ops, List.getElem?_toArray, List.getElem?_cons_zero, List.getElem?_cons_succ, Option.elim, List.drop_succ_cons, List.drop_zero]
          refine wpTree_read (v := .agg #[x0, x1, x2, x3, x4]) rfl (fun W hW => (by
            obtain ⟨qa0, qa1, qa2, qa3, qa4⟩ := HA.out W (B5.out.trans (hW.mono B5.out.size))
            clear hW
            go_simp)) ?_
          refine wpTree_read (v := .agg #[y0, y1, y2, y3, y4]) rfl (fun W hW => (by
            obtain ⟨qb0, qb1, qb2, qb3, qb4⟩ := HB.out W (B5.out.trans (hW.mono B5.out.size))
            clear hW
            go_simp)) ?_
          refine wpTree_read (v := .agg #[x0, x1, x2, x3, x4]) rfl (fun W hW => (by
            obtain ⟨qa0, qa1, qa2, qa3, qa4⟩ := HA.out W (B5.out.trans (hW.mono B5.out.size))
            clear hW
            go_simp)) ?_
          refine wpTree_read (v := .agg #[y0, y1, y2, y3, y4]) rfl (fun W hW => (by
            obtain ⟨qb0, qb1, qb2, qb3, qb4⟩ := HB.out W (B5.out.trans (hW.mono B5.out.size))
            clear hW
            go_simp)) ?_
          simp only [Act.put, List.setIfInBounds_toArray, List.set_cons_zero, List.set_cons_succ]
          have hsd : Below w5.heap.size w5 w5.drew := (Below.refl _ _).drew
          refine wpTree_eff (wpEff_does rfl (fun K hK => ?_))
          refine wp_call_by 33 #[.agg #[x0, x1, x2, x3, x4], .agg #[y0, y1, y2, y3, y4]] (by kernel_rfl) (same_any X Y _ _ w5.drew (HVX.out _ (B5.out.trans (hsd.mono B5.out.size))) (HVY.out _ (B5.out.trans (hsd.mono B5.out.size))) (by have := Hnx.out; omega)) ?_
          rintro e w7 ⟨b7, rfl, hb7, hbel7⟩
          obtain rfl : bS = b7 := by
            have h1 := HbS.out
            cases b7 <;> cases bS <;> simp_all
          have hs7 : Below w5.heap.size w5 w7 := hsd.trans (hbel7.mono hsd.size)
          refine ⟨_, rfl, hK _ _ hs7 ?_⟩
          clear hK hbel7 hb7
          simp only [Act.put, List.setIfInBounds_toArray, List.set_cons_zero, List.set_cons_succ]
          refine wpTree_eff ?_
          refine wpEff_does rfl (fun K hK => ?_)
          refine wp_call_by 31 #[.agg #[x0, x1, x2, x3, x4]] (by kernel_rfl) (rval_any 24 X _ w7 (HVX.out _ (B5.out.trans (hs7.mono B5.out.size))) HFX.out Hlx.out) ?_
          rintro e w8 ⟨A_w8, c_w8, rfl, ho_w8, _, hb_w8⟩
          have hs8 : Below w5.heap.size w5 w8 := hs7.trans (hb_w8.mono hs7.size)
          refine ⟨_, rfl, hK _ _ hs8 ?_⟩
          clear hK
          simp only [Act.put, List.setIfInBounds_toArray, List.set_cons_zero, List.set_cons_succ]
          have hst8 := str_run (c := c_w8) rfl ho_w8.bytes
          refine wpTree_fork ?_ ?_
          · refine wpEff_does rfl (fun K hK => ?_)
            refine wp_run_valS (v := .string ⟨(encV X).toArray⟩) (by go_simp) ?_
            refine hK _ _ hs8 ?_
            clear hK
            simp only [Act.put, List.setIfInBounds_toArray, List.set_cons_zero, List.set_cons_succ]
            refine wpTree_eff ?_
            refine wpEff_does rfl (fun K hK => ?_)
            refine wp_call_by 31 #[.agg #[y0, y1, y2, y3, y4]] (by kernel_rfl) (rval_any 24 Y _ w8 (HVY.out _ (B5.out.trans (hs8.mono B5.out.size))) HFY.out Hly.out) ?_
            rintro e w9 ⟨A_w9, c_w9, rfl, ho_w9, _, hb_w9⟩
            have hs9 : Below w5.heap.size w5 w9 := hs8.trans (hb_w9.mono hs8.size)
            refine ⟨_, rfl, hK _ _ hs9 ?_⟩
            clear hK
            simp only [Act.put, List.setIfInBounds_toArray, List.set_cons_zero, List.set_cons_succ]
            have hst9 := str_run (c := c_w9) rfl ho_w9.bytes
            refine wpTree_eff ?_
            refine wpEff_does rfl (fun K hK => ?_)
            refine wp_run_valS (v := .string ⟨(encV Y).toArray⟩) (by go_simp) ?_
            refine hK _ _ hs9 ?_
            clear hK
            simp only [Act.put, List.setIfInBounds_toArray, List.set_cons_zero, List.set_cons_succ]
            refine wpTree_read (v := .bool bS) rfl (fun W hW => (by
              have hd := Hd.out
              have hq := Hq.out
              clear hW
              go_simp
              try first | exact hd | exact hq | (rw [hd]) | (rw [hq]))) ?_
            refine wpTree_read (v := .bool true) rfl (fun W hW => (by clear hW; cases bS <;> go_simp)) ?_
            simp only [Act.put, List.setIfInBounds_toArray, List.set_cons_zero, List.set_cons_succ]
            refine wpTree_read (v := .bool true) rfl (fun W hW => (by clear hW; go_simp)) ?_
            simp only [Act.put, List.setIfInBounds_toArray, List.set_cons_zero, List.set_cons_succ]
            iterate 2 (refine wpTree_read (v := .agg #[x0, x1, x2, x3, x4]) rfl (fun W hW => (by
              obtain ⟨qa0, qa1, qa2, qa3, qa4⟩ := HA.out W (B5.out.trans (hW.mono B5.out.size))
              clear hW
              go_simp)) ?_)
            simp only [Act.put, List.setIfInBounds_toArray, List.set_cons_zero, List.set_cons_succ]
            refine wpTree_eff (wpEff_does rfl (fun K hK => ?_))
            refine wp_call_by 33 #[.agg #[x0, x1, x2, x3, x4], .agg #[x0, x1, x2, x3, x4]] (by kernel_rfl) (same_any X X _ _ w9 (HVX.out _ (B5.out.trans (hs9.mono B5.out.size))) (HVX.out _ (B5.out.trans (hs9.mono B5.out.size))) (by have := Hnx.out; omega)) ?_
            rintro e wz ⟨bz, rfl, hbz, hbelz⟩
            obtain rfl : bz = true := hbz.2 rfl
            have hsz : Below w5.heap.size w5 wz := hs9.trans (hbelz.mono hs9.size)
            refine ⟨_, rfl, hK _ _ hsz ?_⟩
            clear hK hbelz hbz
            simp only [Act.put, List.setIfInBounds_toArray, List.set_cons_zero, List.set_cons_succ]
            refine wpTree_read (v := .bool true) rfl (fun W hW => (by clear hW; go_simp)) ?_
            refine wpTree_nil ?_
            simp only [Act.put, List.setIfInBounds_toArray, List.set_cons_zero, List.set_cons_succ]
            have Hfin := hide (Hb0.out.trans ((B5.out.trans (hsz.mono B5.out.size)).mono Hle.out))
            clear hsz
            go_wp2
            go_ret
            exact ⟨rfl, Hfin.out⟩
          · refine wpEff_does rfl (fun K hK => ?_)
            refine wp_call_by 31 #[.agg #[y0, y1, y2, y3, y4]] (by kernel_rfl) (rval_any 24 Y _ w8 (HVY.out _ (B5.out.trans (hs8.mono B5.out.size))) HFY.out Hly.out) ?_
            rintro e w9 ⟨A_w9, c_w9, rfl, ho_w9, _, hb_w9⟩
            have hs9 : Below w5.heap.size w5 w9 := hs8.trans (hb_w9.mono hs8.size)
            refine ⟨_, rfl, hK _ _ hs9 ?_⟩
            clear hK
            simp only [Act.put, List.setIfInBounds_toArray, List.set_cons_zero, List.set_cons_succ]
            have hst9 := str_run (c := c_w9) rfl ho_w9.bytes
            have hst89 := str_run (c := c_w8) rfl (ho_w8.bytes.below hb_w9 (Nat.le_refl _))
            refine wpTree_fork ?_ ?_
            · refine wpEff_does rfl (fun K hK => ?_)
              refine wp_run_valS (v := .string ⟨(encV X).toArray⟩) (by go_simp) ?_
              refine hK _ _ hs9 ?_
              clear hK
              simp only [Act.put, List.setIfInBounds_toArray, List.set_cons_zero, List.set_cons_succ]
              refine wpTree_eff ?_
              refine wpEff_does rfl (fun K hK => ?_)
              refine wp_run_valS (v := .string ⟨(encV Y).toArray⟩) (by go_simp) ?_
              refine hK _ _ hs9 ?_
              clear hK
              simp only [Act.put, List.setIfInBounds_toArray, List.set_cons_zero, List.set_cons_succ]
              refine wpTree_read (v := .bool bS) rfl (fun W hW => (by
                have hd := Hd.out
                have hq := Hq.out
                clear hW
                go_simp
                try first | exact hd | exact hq | (rw [hd]) | (rw [hq]))) ?_
              refine wpTree_read (v := .bool true) rfl (fun W hW => (by clear hW; cases bS <;> go_simp)) ?_
              simp only [Act.put, List.setIfInBounds_toArray, List.set_cons_zero, List.set_cons_succ]
              refine wpTree_read (v := .bool true) rfl (fun W hW => (by clear hW; go_simp)) ?_
              simp only [Act.put, List.setIfInBounds_toArray, List.set_cons_zero, List.set_cons_succ]
              iterate 2 (refine wpTree_read (v := .agg #[x0, x1, x2, x3, x4]) rfl (fun W hW => (by
                obtain ⟨qa0, qa1, qa2, qa3, qa4⟩ := HA.out W (B5.out.trans (hW.mono B5.out.size))
                clear hW
                go_simp)) ?_)
              simp only [Act.put, List.setIfInBounds_toArray, List.set_cons_zero, List.set_cons_succ]
              refine wpTree_eff (wpEff_does rfl (fun K hK => ?_))
              refine wp_call_by 33 #[.agg #[x0, x1, x2, x3, x4], .agg #[x0, x1, x2, x3, x4]] (by kernel_rfl) (same_any X X _ _ w9 (HVX.out _ (B5.out.trans (hs9.mono B5.out.size))) (HVX.out _ (B5.out.trans (hs9.mono B5.out.size))) (by have := Hnx.out; omega)) ?_
              rintro e wz ⟨bz, rfl, hbz, hbelz⟩
              obtain rfl : bz = true := hbz.2 rfl
              have hsz : Below w5.heap.size w5 wz := hs9.trans (hbelz.mono hs9.size)
              refine ⟨_, rfl, hK _ _ hsz ?_⟩
              clear hK hbelz hbz
              simp only [Act.put, List.setIfInBounds_toArray, List.set_cons_zero, List.set_cons_succ]
              refine wpTree_read (v := .bool true) rfl (fun W hW => (by clear hW; go_simp)) ?_
              refine wpTree_nil ?_
              simp only [Act.put, List.setIfInBounds_toArray, List.set_cons_zero, List.set_cons_succ]
              have Hfin := hide (Hb0.out.trans ((B5.out.trans (hsz.mono B5.out.size)).mono Hle.out))
              clear hsz
              go_wp2
              go_ret
              exact ⟨rfl, Hfin.out⟩
            · refine wpEff_does rfl (fun K hK => ?_)
              refine wp_run_valS (v := .string ⟨(encV Y).toArray⟩) (by go_simp) ?_
              refine hK _ _ hs9 ?_
              clear hK
              simp only [Act.put, List.setIfInBounds_toArray, List.set_cons_zero, List.set_cons_succ]
              refine wpTree_eff ?_
              refine wpEff_does rfl (fun K hK => ?_)
              refine wp_run_valS (v := .string ⟨(encV X).toArray⟩) (by go_simp) ?_
              refine hK _ _ hs9 ?_
              clear hK
              simp only [Act.put, List.setIfInBounds_toArray, List.set_cons_zero, List.set_cons_succ]
              refine wpTree_read (v := .bool bS) rfl (fun W hW => (by
                have hd := Hd.out
                have hq := Hq.out
                clear hW
                go_simp
                try first | exact hd | exact hq | (rw [hd]) | (rw [hq]))) ?_
              refine wpTree_read (v := .bool true) rfl (fun W hW => (by clear hW; cases bS <;> go_simp)) ?_
              simp only [Act.put, List.setIfInBounds_toArray, List.set_cons_zero, List.set_cons_succ]
              refine wpTree_read (v := .bool true) rfl (fun W hW => (by clear hW; go_simp)) ?_
              simp only [Act.put, List.setIfInBounds_toArray, List.set_cons_zero, List.set_cons_succ]
              iterate 2 (refine wpTree_read (v := .agg #[x0, x1, x2, x3, x4]) rfl (fun W hW => (by
                obtain ⟨qa0, qa1, qa2, qa3, qa4⟩ := HA.out W (B5.out.trans (hW.mono B5.out.size))
                clear hW
                go_simp)) ?_)
              simp only [Act.put, List.setIfInBounds_toArray, List.set_cons_zero, List.set_cons_succ]
              refine wpTree_eff (wpEff_does rfl (fun K hK => ?_))
              refine wp_call_by 33 #[.agg #[x0, x1, x2, x3, x4], .agg #[x0, x1, x2, x3, x4]] (by kernel_rfl) (same_any X X _ _ w9 (HVX.out _ (B5.out.trans (hs9.mono B5.out.size))) (HVX.out _ (B5.out.trans (hs9.mono B5.out.size))) (by have := Hnx.out; omega)) ?_
              rintro e wz ⟨bz, rfl, hbz, hbelz⟩
              obtain rfl : bz = true := hbz.2 rfl
              have hsz : Below w5.heap.size w5 wz := hs9.trans (hbelz.mono hs9.size)
              refine ⟨_, rfl, hK _ _ hsz ?_⟩
              clear hK hbelz hbz
              simp only [Act.put, List.setIfInBounds_toArray, List.set_cons_zero, List.set_cons_succ]
              refine wpTree_read (v := .bool true) rfl (fun W hW => (by clear hW; go_simp)) ?_
              refine wpTree_nil ?_
              simp only [Act.put, List.setIfInBounds_toArray, List.set_cons_zero, List.set_cons_succ]
              have Hfin := hide (Hb0.out.trans ((B5.out.trans (hsz.mono B5.out.size)).mono Hle.out))
              clear hsz
              go_wp2
              go_ret
              exact ⟨rfl, Hfin.out⟩

set_option maxRecDepth 100000 in
theorem wireSame_lifted (os : Os) (started : os.Started) (H : Type) (enc : TypeId × Value → H) :
    ReturnsInHanded {} Try.checked os 7 .any (Rows.wireSameSpec.pre6 enc Try.prog Try.f7 Rows.wireSameRow.domain false) (Rows.wireSameSpec.post enc Try.prog Try.f7 false true false false) := by
  refine returnsInHanded_of_change (C := Try.checked) own0 started (by kernel_rfl) Try.func7
    (ChangeSpec.witness6 (enc := enc) (C := Try.checked) false ⟨#[], #[.agg #[.int .u8 0, .int .i64 0, .string ⟨#[]⟩, .slice none 0 0, .slice none 0 0], .agg #[.int .u8 0, .int .i64 0, .string ⟨#[]⟩, .slice none 0 0, .slice none 0 0]], []⟩ 8 (by kernel_rfl) (by kernel_rfl) (by kernel_rfl) (by kernel_rfl)) ?_
  intro W base args ds gs before hval0 hW _ _
  have hval : ∀ (j : Nat) t v, Try.f7.params[j]? = some t → args[j]? = some v → Value.okWide Try.prog W .any base t v := hval0
  have hW' := hW
  obtain ⟨p, q, hA0, hV, rfl, hfz, hnd⟩ := hW
  have hA : DataW.TrodAll enc Try.prog W 0 (fun _ => true) true Try.f7.params.toList args.toList ds p := hA0
  rw [Try.params7] at hA hval
  obtain ⟨v0, v1, d0, d1, p0, p1, rfl, rfl, rfl, h0, h1⟩ := trodAll_two hA
  obtain ⟨rfl, rfl⟩ := trodVars_none hV
  obtain ⟨X0, cs0, rfl, V0⟩ := open_val (hval 0 44 v0 rfl rfl) h0
  obtain ⟨X1, cs1, rfl, V1⟩ := open_val (hval 1 44 v1 rfl rfl) h1
  clear hA0 hval0
  refine (wsame_any X0 X1 cs0 cs1 W V0 V1).mono fun e W' ⟨he, hb⟩ => ?_
  subst he
  exact ⟨_, rfl, law_close laid0 Try.underlying4 rfl rfl (by rw [Try.params7]; decide +kernel) hW' (fun gs hg => by subst hg; rfl) hb⟩

theorem wireSame_holds : Rows.WireSameSaid :=
  OpenClaim.holds_of_wide 7 Try.f7 rfl rfl rfl rfl rfl rfl rfl ⟨rfl, rfl, rfl, rfl, rfl⟩ rfl rfl rfl rfl rfl (by kernel_rfl) Try.func7 (by kernel_rfl)
    (of_decide_eq_true (by kernel_rfl)) (by unfold Func.isWrapper; first | (rw [if_pos (by decide +kernel)]; kernel_rfl) | (rw [if_neg (by decide +kernel)]; exact ⟨rfl, rfl⟩))
    (fun os started H enc _ => wireSame_lifted os started H enc)
end Go.Proofs.Ytbhclfkpkgapaaa
