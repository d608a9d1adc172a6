/- The law that what was laid is told as often as one asks. -/
import Derived.Test.YtonlpgjcmodpnaaSb
import Derived.Test.YtonlpgjcmodpnaaRegionF
namespace Go.Proofs.Ytonlpgjcmodpnaa
open Go.RowKit

theorem wp_run_val {P : Program} {o : Oper} {a : Act} {w : World} {K : Act → World → Prop} {Q : Exit → Act → World → Prop} {v : Value} (hr : (execOp a.eval o).run P w = .ok (.value v) w) (h : K (a.put o.dst v) w) : o.wp P a w K Q := by
  unfold Oper.wp
  rw [hr]
  exact h
theorem own_cell0 {w : World} {g n c : Nat} {x : UInt8} {r : List UInt8} (h : OwnB w (some ⟨g, 0, none⟩) n c (x :: r)) : w.cell? ⟨g, 0, none⟩ = some (.int .u8 (x.toNat : Int)) := by
  rcases h.bytes with h0 | ⟨g', o', he, hr⟩
  · cases h0
  · cases he
    exact hr 0 (B8 x) rfl
theorem ba_append (x y : List UInt8) : (⟨x.toArray⟩ : ByteArray) ++ ⟨y.toArray⟩ = ⟨(x ++ y).toArray⟩ := by
  apply ByteArray.ext
  simp
set_option maxRecDepth 100000 in
set_option maxHeartbeats 8000000 in
theorem wkeeps_any (a b : List UInt8) (w : World) (ha : a.length ≤ 140737488355328) (hb : b.length ≤ 140737488355328) :
    Calls Try.prog 11 #[sv a, sv b] w fun e w' => e = .returned (.bool true) ∧ Below w.heap.size w w' := by
  go_enter Try.func11, Try.ntmps11
  go_wp2_with fail
  refine (awake_any _).mono ?_
  rintro e w1 ⟨rfl, hb1⟩
  have Hb1 := hide hb1
  clear hb1
  by_cases hlong : 3000 < a.length + b.length
  · go_wp2_with fail
    refine (awake_any _).mono ?_
    rintro e w2 ⟨rfl, hb2⟩
    have Hb2 := hide (Hb1.out.trans (hb2.mono Hb1.out.size))
    clear hb2
    go_wp2
    go_ret
    exact ⟨rfl, Hb2.out⟩
  have hs3 : a.length + b.length ≤ 3000 := by omega
  clear hlong ha hb
  have hta : (textB a).length ≤ 3010 ∧ 1 ≤ (textB a).length := by
    have := Lib.uvarint_length64 (x := a.length) (by omega)
    have := Lib.uvarint_pos a.length
    rw [textB, List.length_append]
    omega
  have htb : (textB b).length ≤ 3010 := by
    have := Lib.uvarint_length64 (x := b.length) (by omega)
    rw [textB, List.length_append]
    omega
  go_wp2_with fail
  refine (wtext_any w1.heap.size _ [] a _ (wt_new w1) (by simp; omega)).mono ?_
  rintro e w2 ⟨F2, rfl, h2, f2, n2⟩
  rw [List.nil_append] at h2
  have b2 : Below w1.heap.size w1 w2 := ((Below.refl _ _).alloc (Nat.le_refl _) _).trans (f2.below (by simp) (fun k hk => hk.elim (fun e => by omega) (fun h => absurd h At.none_not)))
  have n2' : ∀ k, F2 k → w1.heap.size ≤ k := fun k hk => (n2 k hk).elim (fun h => h.elim (fun e => by omega) (fun h => absurd h At.none_not)) (fun h => by rw [World.size_alloc] at h; omega)
  have H2 := hide (show _ ∧ _ ∧ _ from ⟨h2, b2, n2'⟩)
  have hd := done_any w1.heap.size F2 (textB a) w2 h2 (by omega)
  have Hd := hide hd
  clear h2 f2 n2 b2 n2' hd
  go_wp2_with fail
  refine Hd.out.mono ?_
  rintro e w3 ⟨Ap, cp, rfl, hop, hAp, hb3⟩
  obtain ⟨g, rfl⟩ := hop.addr (by omega)
  obtain ⟨x, r, hxr⟩ : ∃ x r, textB a = x :: r := by
    cases h : textB a with
    | nil => rw [h] at hta; simp at hta
    | cons x r => exact ⟨x, r, rfl⟩
  have hst1 := str_run (w := w3) (c := cp) (n := (textB a).length) (l := textB a) rfl hop.bytes
  have d0 : w3.cell? ⟨g, 0, none⟩ = some (.int .u8 (x.toNat : Int)) := own_cell0 (by rw [← hxr]; exact hop)
  have z0 : w3.frozen? ⟨g, 0, none⟩ = false := by
    rcases hop.form with ⟨h, _⟩ | ⟨g', cur, h, hbk, _⟩
    · cases h
    · cases h; exact hbk.frozen 0
  have hxb := x.toNat_lt
  have hgge : w2.heap.size ≤ g := hAp g (At.some_iff.2 rfl)
  have hw3 : Wt w3 w1.heap.size F2 (textB a) := H2.out.1.nofr (Fr.of_below hb3)
  have H3 := hide (show _ ∧ _ ∧ _ from ⟨hw3, H2.out.2.1.trans (hb3.mono H2.out.2.1.size), H2.out.2.2⟩)
  have HF2 := hide (show ∀ k, F2 k → k < g from fun k hk => Nat.lt_of_lt_of_le (H2.out.1.lt k hk) hgge)
  have hs2 := H2.out.2.1.size
  obtain ⟨n1, hn1⟩ : ∃ n1, n1 = (textB a).length := ⟨_, rfl⟩
  have hn1b : 1 ≤ n1 ∧ n1 ≤ 3010 := by omega
  rw [← hn1] at hst1 ⊢
  have Hn1 := hide hn1
  clear hop hAp hb3 hw3 hxr hgge H2 Hd hta hn1
  go_upto_region 7 with fail
  obtain ⟨w4, hw4⟩ : ∃ w4, w4 = w3.setCell ⟨g, 0, none⟩ (.int .u8 (bits .xor .u8 (x.toNat : Int) 1)) := ⟨_, rfl⟩
  rw [← hw4]
  have f4 : Fr (fun k => k = g) w3 w4 := by rw [hw4]; exact (Fr.refl _ _).put1 0 _
  have hgw : w1.heap.size ≤ g := by have := HF2.out w1.heap.size (by obtain ⟨_, _, _, _, _, h⟩ := H3.out.1; rw [h]; exact .inl rfl); omega
  have hw4t : Wt w4 w1.heap.size F2 (textB a) := H3.out.1.fr f4 (fun k hk e => by have := HF2.out k hk; omega)
  have hb4 : Below w1.heap.size w1 w4 := H3.out.2.1.trans (f4.below H3.out.2.1.size (fun k hk => by omega))
  have H4 := hide (show _ ∧ _ ∧ _ from ⟨hw4t, hb4, H3.out.2.2⟩)
  clear hw4 f4 hgw hw4t hb4 d0 z0 hst1 hxb
  go_wp2_with fail
  refine (wtext_any w1.heap.size F2 _ b w4 H4.out.1 (by have := Hn1.out; omega)).mono ?_
  rintro e w5 ⟨F5, rfl, h5, f5, n5⟩
  have b5 : Below w1.heap.size w1 w5 := H4.out.2.1.trans (f5.below H4.out.2.1.size H4.out.2.2)
  obtain ⟨L, hL⟩ : ∃ L, L = textB a ++ textB b := ⟨_, rfl⟩
  have hLl : L.length = n1 + (textB b).length := by rw [hL, List.length_append, ← Hn1.out]
  rw [← hL] at h5
  have hd := done_any w1.heap.size F5 L w5 h5 (by omega)
  have H5 := hide (show _ ∧ _ from ⟨h5, b5⟩)
  have Hd := hide hd
  have HL := hide hL
  obtain ⟨m, hm⟩ : ∃ m, m = L.length := ⟨_, rfl⟩
  rw [← hm] at Hd hLl
  have Hm := hide hm
  have HLl := hide hLl
  have hmb : m ≤ 7000 := by omega
  have hnm : n1 ≤ m := by omega
  clear h5 f5 n5 b5 hd hL hm H4 HF2 H3 hLl
  go_wp2_with fail
  refine Hd.out.mono ?_
  rintro e w6 ⟨Aq, cq, rfl, hoq, hAq, hb6⟩
  have H6 := hide (show _ ∧ _ ∧ _ from ⟨H5.out.1.nofr (Fr.of_below hb6), hoq, H5.out.2.trans (hb6.mono H5.out.2.size)⟩)
  clear hoq hAq hb6 Hd H5
  have hmc : m ≤ cq := by
    rcases H6.out.2.1.form with ⟨_, h, _⟩ | ⟨_, _, _, _, h, _⟩
    · omega
    · exact h
  have hby : Bytes w6 Aq L := H6.out.2.1.bytes
  have Hby := hide hby
  have htk : L.take n1 = textB a := by rw [HL.out, Hn1.out, List.take_left]
  have Htk := hide htk
  clear hby htk
  go_upto_region 8 with fail
  refine wp_region_tree (fun W => Below w6.heap.size w6 W) 26 (.read 0 (.read 1 (.read 2 (.read 3 (.read 4 (.read 5 (.read 6 (.read 7 (.read 8 (.read 9 (.read 10 (.read 11 (.eff 12 (.eff 13 (.read 14 (.read 15 (.read 16 (.read 17 (.read 18 (.read 21 (.eff 19 (.fork 20 (.eff 22 (.eff 23 (.read 24 (.read 25 .nil)))) 22 (.fork 20 (.eff 23 (.read 24 (.read 25 .nil))) 23 (.eff 20 (.read 24 (.read 25 .nil)))))))))))))))))))))))))) (by kernel_rfl) (by kernel_rfl) (fun _ _ d _ _ h => by cases d <;> exact h) (Below.refl _ _).drew ?_
  simp only [Plan.ops, List.getElem?_toArray, List.getElem?_cons_zero, List.getElem?_cons_succ, Option.elim, List.drop_succ_cons, List.drop_zero]
  iterate 2 (refine wpTree_read rfl (fun W hW => (by go_simp; try with_reducible rfl)) ?_)
  refine wpTree_read (v := .int .i64 (n1 : Int)) rfl (fun W hW => (by have hn1 := Hn1.out; go_simp; try (rw [hn1]))) ?_
  refine wpTree_read (v := .slice Aq n1 cq) rfl (fun W hW => (by
    have hnc : n1 ≤ cq := by omega
    go_simp
    try (intro h; omega))) ?_
  refine wpTree_read (v := .string ⟨(textB a).toArray⟩) rfl (fun W hW => (by
    have hc := str_run (n := n1) (c := cq) (l := L.take n1) (by rw [Htk.out, Hn1.out]) ((Hby.out.take n1).below hW (Nat.le_refl _))
    rw [Htk.out] at hc
    clear hW
    go_simp)) ?_
  refine wpTree_read (v := .string ⟨(textB a).toArray⟩) rfl (fun W hW => (by clear hW; go_simp)) ?_
  refine wpTree_read (v := .bool true) rfl (fun W hW => (by clear hW; go_simp)) ?_
  simp only [Act.put, List.setIfInBounds_toArray, List.set_cons_zero, List.set_cons_succ]
  refine wpTree_read (v := .bool true) rfl (fun W hW => (by clear hW; go_simp)) ?_
  simp only [Act.put, List.setIfInBounds_toArray, List.set_cons_zero, List.set_cons_succ]
  refine wpTree_read (v := .slice Aq m cq) rfl (fun W hW => (by clear hW; go_simp)) ?_
  refine wpTree_read (v := .string ⟨L.toArray⟩) rfl (fun W hW => (by
    have hc := str_run (n := m) (c := cq) (l := L) Hm.out.symm (Hby.out.below hW (Nat.le_refl _))
    clear hW
    go_simp)) ?_
  refine wpTree_read (v := .string ⟨(textB a).toArray⟩) rfl (fun W hW => (by clear hW; go_simp)) ?_
  refine wpTree_read (v := sv b) rfl (fun W hW => (by clear hW; go_simp)) ?_
  simp only [Act.put, List.setIfInBounds_toArray, List.set_cons_zero, List.set_cons_succ]
  refine wpTree_eff (wpEff_does rfl (fun K hK => ?_))
  refine wp_call_by 19 #[sv b] (by kernel_rfl) (rtext_any b w6.drew (by omega)) ?_
  rintro e w7 ⟨A7, c7, rfl, ho7, hA7, hb7⟩
  have hs7 : Below w6.heap.size w6 w7 := (Below.refl _ _).drew.trans hb7
  refine ⟨_, rfl, hK _ _ hs7 ?_⟩
  clear hK hb7
  simp only [Act.put, List.setIfInBounds_toArray, List.set_cons_zero, List.set_cons_succ]
  have hst7 := str_run (c := c7) rfl ho7.bytes
  refine wpTree_eff (wpEff_does rfl (fun K hK => ?_))
  refine wp_run_val (v := .string ⟨(textB b).toArray⟩) (by go_simp) ?_
  refine hK _ _ hs7 ?_
  clear hK hst7 ho7 hA7
  simp only [Act.put, List.setIfInBounds_toArray, List.set_cons_zero, List.set_cons_succ]
  refine wpTree_read (v := .string ⟨L.toArray⟩) rfl (fun W hW => (by
    have hL := HL.out
    have hn1 := Hn1.out
    clear hW
    rw [hL]
    go_simp
    rw [if_neg (by omega), ba_append])) ?_
  iterate 3 (refine wpTree_read (v := .bool true) rfl (fun W hW => (by clear hW; go_simp)) ?_)
  simp only [Act.put, List.setIfInBounds_toArray, List.set_cons_zero, List.set_cons_succ]
  refine wpTree_read (v := .pointer (some ⟨w1.heap.size, 0, none⟩)) rfl (fun W hW => (by clear hW; go_simp)) ?_
  refine wpTree_read (v := .slice Aq m cq) rfl (fun W hW => (by clear hW; go_simp)) ?_
  simp only [Act.put, List.setIfInBounds_toArray, List.set_cons_zero, List.set_cons_succ]
  have hw7 := H6.out.1.nofr (Fr.of_below hs7)
  have hsd := sealed_any w1.heap.size F5 L w7 hw7 (by have := Hm.out; omega)
  refine wpTree_eff (wpEff_does rfl (fun K hK => ?_))
  refine wp_call_by 34 #[.pointer (some ⟨w1.heap.size, 0, none⟩)] (by kernel_rfl) hsd ?_
  rintro e w8 ⟨A8, c8, rfl, ho8, hA8, hb8⟩
  have hs8 : Below w6.heap.size w6 w8 := hs7.trans (hb8.mono hs7.size)
  refine ⟨_, rfl, hK _ _ hs8 ?_⟩
  clear hK hb8 hsd hw7
  simp only [Act.put, List.setIfInBounds_toArray, List.set_cons_zero, List.set_cons_succ]
  have hrs := rseal_any Aq cq L w8 (Hby.out.below hs8 (Nat.le_refl _)) (by have := Hm.out; omega)
  rw [← Hm.out] at hrs
  have hst8 := str_run (c := c8) rfl ho8.bytes
  refine wpTree_fork ?_ ?_
  · refine wpEff_does rfl (fun K hK => ?_)
    refine wp_run_val (v := .string ⟨(sealB L).toArray⟩) (by go_simp) ?_
    refine hK _ _ hs8 ?_
    clear hK
    simp only [Act.put, List.setIfInBounds_toArray, List.set_cons_zero, List.set_cons_succ]
    refine wpTree_eff (wpEff_does rfl (fun K hK => ?_))
    refine wp_call_by 35 #[.slice Aq m cq] (by kernel_rfl) hrs ?_
    rintro e w9 ⟨A9, c9, rfl, ho9, hA9, hb9⟩
    have hs9 : Below w6.heap.size w6 w9 := hs8.trans (hb9.mono hs8.size)
    refine ⟨_, rfl, hK _ _ hs9 ?_⟩
    clear hK
    simp only [Act.put, List.setIfInBounds_toArray, List.set_cons_zero, List.set_cons_succ]
    have hst9 := str_run (c := c9) rfl ho9.bytes
    refine wpTree_eff (wpEff_does rfl (fun K hK => ?_))
    refine wp_run_val (v := .string ⟨(sealB L).toArray⟩) (by go_simp) ?_
    refine hK _ _ hs9 ?_
    clear hK
    simp only [Act.put, List.setIfInBounds_toArray, List.set_cons_zero, List.set_cons_succ]
    iterate 2 (refine wpTree_read (v := .bool true) rfl (fun W hW => (by clear hW; go_simp)) ?_)
    refine wpTree_nil ?_
    simp only [Act.put, List.setIfInBounds_toArray, List.set_cons_zero, List.set_cons_succ]
    have Hfin := hide (Hb1.out.trans ((H6.out.2.2.trans (hs9.mono H6.out.2.2.size)).mono Hb1.out.size))
    clear hs7 hs8 hs9 ho8 hA8 hrs hst8 ho9 hA9 hb9 hst9
    go_wp2
    go_ret
    exact ⟨rfl, Hfin.out⟩
  · refine wpEff_does rfl (fun K hK => ?_)
    refine wp_call_by 35 #[.slice Aq m cq] (by kernel_rfl) hrs ?_
    rintro e w9 ⟨A9, c9, rfl, ho9, hA9, hb9⟩
    have hs9 : Below w6.heap.size w6 w9 := hs8.trans (hb9.mono hs8.size)
    refine ⟨_, rfl, hK _ _ hs9 ?_⟩
    clear hK
    simp only [Act.put, List.setIfInBounds_toArray, List.set_cons_zero, List.set_cons_succ]
    have hst9 := str_run (c := c9) rfl ho9.bytes
    have hst8 := str_run (c := c8) rfl (ho8.below hb9).bytes
    refine wpTree_fork ?_ ?_
    all_goals
      refine wpEff_does rfl (fun K hK => ?_)
      refine wp_run_val (v := .string ⟨(sealB L).toArray⟩) (by go_simp) ?_
      refine hK _ _ hs9 ?_
      clear hK
      simp only [Act.put, List.setIfInBounds_toArray, List.set_cons_zero, List.set_cons_succ]
      refine wpTree_eff (wpEff_does rfl (fun K hK => ?_))
      refine wp_run_val (v := .string ⟨(sealB L).toArray⟩) (by go_simp) ?_
      refine hK _ _ hs9 ?_
      clear hK
      simp only [Act.put, List.setIfInBounds_toArray, List.set_cons_zero, List.set_cons_succ]
      iterate 2 (refine wpTree_read (v := .bool true) rfl (fun W hW => (by clear hW; go_simp)) ?_)
      refine wpTree_nil ?_
      simp only [Act.put, List.setIfInBounds_toArray, List.set_cons_zero, List.set_cons_succ]
      have Hfin := hide (Hb1.out.trans ((H6.out.2.2.trans (hs9.mono H6.out.2.2.size)).mono Hb1.out.size))
      clear hs7 hs8 hs9 ho8 hA8 hrs hst8 ho9 hA9 hb9 hst9
      go_wp2
      go_ret
      exact ⟨rfl, Hfin.out⟩
end Go.Proofs.Ytonlpgjcmodpnaa
