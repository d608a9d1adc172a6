/- Package wire: Same: true just of two values that are one. -/
import Derived.Test.YtdkmccilnmdhmaaVj
import Derived.Test.YtdkmccilnmdhmaaRegionQ
import Derived.Deep.CutRange
import Derived.Deep.CutBlock
namespace Go.Proofs.Ytdkmccilnmdhmaa
open Go.RowKit

def SamePost (x y : V) (w : World) (e : Ending) (w' : World) : Prop := ∃ b, e = .returned (.bool b) ∧ (b = true ↔ x = y) ∧ Below w.heap.size w w'

set_option maxRecDepth 100000 in
set_option maxHeartbeats 8000000 in
theorem same_any (X Y : V) (cs ds : List Value) (w : World) (hX : VC w (Old w) X cs) (hY : VC w (Old w) Y ds) (hN : nodes X ≤ 100000) :
    Calls Try.prog 18 #[.agg cs.toArray, .agg ds.toArray] w (SamePost X Y w) := by
  have hcs : ∃ x0 x1 x2 x3 x4, cs = [x0, x1, x2, x3, x4] := by cases hX; exact ⟨_, _, _, _, _, rfl⟩
  obtain ⟨x0, x1, x2, x3, x4, rfl⟩ := hcs
  have hds : ∃ x0 x1 x2 x3 x4, ds = [x0, x1, x2, x3, x4] := by cases hY; exact ⟨_, _, _, _, _, rfl⟩
  obtain ⟨y0, y1, y2, y3, y4, rfl⟩ := hds
  have hp1 := hX.boxed
  have hb1 := (Below.refl w.heap.size w).alloc (Nat.le_refl _) (.cells [x0, x1, x2, x3, x4].toArray 25)
  obtain ⟨wa, hwa⟩ : ∃ wa, w.alloc (.cells [x0, x1, x2, x3, x4].toArray 25) = wa := ⟨_, rfl⟩
  rw [hwa] at hp1 hb1
  have hs1 : wa.heap.size = w.heap.size + 1 := by rw [← hwa]; simp
  have hp2 := (hY.later hb1).boxed
  obtain ⟨w0, hw0⟩ : ∃ w0, wa.alloc (.cells [y0, y1, y2, y3, y4].toArray 25) = w0 := ⟨_, rfl⟩
  have hb2 : Below wa.heap.size wa w0 := by rw [← hw0]; exact (Below.refl wa.heap.size wa).alloc (Nat.le_refl _) _
  rw [hw0, hs1] at hp2
  have hp1 := hp1.later hb2
  have Hb0 := hide (show Below w.heap.size w w0 from hb1.trans (hb2.mono hb1.size))
  have hwa' : w.alloc (.cells #[x0, x1, x2, x3, x4] 25) = wa := hwa
  have hw0' : wa.alloc (.cells #[y0, y1, y2, y3, y4] 25) = w0 := hw0
  have hww : (w.alloc (.cells #[x0, x1, x2, x3, x4] 25)).alloc (.cells #[y0, y1, y2, y3, y4] 25) = w0 := by rw [hwa', hw0']
  have Hp1 := hide hp1
  have Hp2 := hide hp2
  have hsz0 : w.heap.size + 2 = w0.heap.size := by rw [← hw0]; simp [hs1]
  have Hsz0 := hide hsz0
  clear hX hY hb1 hb2 hwa hw0 hwa' hw0' hp1 hp2 hs1 hsz0
  go_enter Try.func18, Try.ntmps18
  go_wp2_with fail
  have hpr0 : PR w0 (w0.alloc (.cells #[.pointer (some ⟨w.heap.size, 0, none⟩), .pointer (some ⟨w.heap.size + 1, 0, none⟩)] 68)) (some ⟨w0.heap.size, 0, none⟩) 1 1 [⟨w.heap.size, 0, w.heap.size + 1, 0, X, Y⟩] := by
    refine ⟨rfl, ⟨rfl, .inr ⟨w0.heap.size, 1, _, rfl, Nat.zero_le _, heap_alloc_new w0 _, Nat.le_refl _, by decide, rfl, rfl⟩⟩, ?_, (Below.refl _ _).alloc (Nat.le_refl _) _, ?_⟩
    · intro k hk
      rw [← At.some_iff.1 hk]
      exact Nat.le_refl _
    · intro e he
      obtain rfl := List.mem_singleton.1 he
      exact ⟨Hp1.out, Hp2.out⟩
  have Hpr0 := hide hpr0
  clear hpr0 Hp1 Hp2 hww
  go_loopg [5] (nodes X + 1) (fun k pv wr => ∃ (A : Option Addr) (n c : Nat) (st : List Ent), pv = .slice A n c ∧ PR w0 wr A n c st ∧ sumN st < k ∧ k ≤ nodes X + 1 ∧ (X = Y ↔ ∀ e ∈ st, e.x = e.y))
  case atStart =>
    refine ⟨_, 1, 1, _, rfl, Hpr0.out, by show nodes X + 0 < nodes X + 1; omega, Nat.le_refl _, ?_⟩
    simp
  case round =>
    obtain ⟨A, n, c, st, rfl, hpr, hsum, hk, hiff⟩ := hrel
    clear Hpr0
    rcases st with _ | ⟨⟨g1, o1, g2, o2, x, y⟩, r⟩
    · obtain rfl : n = 0 := hpr.empty
      have Hpr := hide hpr
      have Hiff := hide hiff
      clear hpr hiff hsum
      go_wp2
      go_ret
      exact ⟨true, rfl, ⟨fun _ => Hiff.out.2 (by simp), fun _ => rfl⟩, Hb0.out.trans (Hpr.out.below.mono (by have := Hsz0.out; omega))⟩
    · obtain ⟨n, rfl⟩ : ∃ m, n = m + 1 := ⟨n - 1, by have := hpr.len; simp only [List.length_cons] at this; omega⟩
      obtain ⟨hpx, hpy⟩ := hpr.ents _ List.mem_cons_self
      obtain ⟨g, rfl, hnc, hcm, d0, d1, hpr'⟩ := hpr.top
      have hc0 : ¬ c = 0 := by omega
      have hn63 : n < 200000 := by have h1 := sum_ge (⟨g1, o1, g2, o2, x, y⟩ :: r); have h2 := hpr.len; omega
      have hx := hpx.later hpr.below
      have hy := hpy.later hpr.below
      have Hal := hide (fun q => alike_any (Old wr) g1 o1 g2 o2 x y (wr.drewN q) (hx.fr (F := fun _ => False) ((Fr.refl _ _).drewN q) (fun _ _ h => h)) (hy.fr (F := fun _ => False) ((Fr.refl _ _).drewN q) (fun _ _ h => h)))
      have Hpr := hide hpr'
      have Hpx := hide hpx
      have Hpy := hide hpy
      have Hiff := hide hiff
      have Hsum := hide hsum
      have Hk := hide hk
      clear hpr hpr' hpx hpy hx hy hiff hsum hcm hk
      go_upto_region 4 with fail
      go_quiet (fail)
      go_wp2_with fail
      refine (Hal.out _).mono ?_
      rintro e' w2 ⟨b, rfl, hb, q2, rfl⟩
      have Hb := hide hb
      clear hb Hal
      cases b with
      | false =>
        go_wp2
        go_ret
        refine ⟨false, rfl, ⟨fun h => by simp at h, fun h => ?_⟩, Hb0.out.trans ((below_drewN Hpr.out.below _).mono (Nat.le_trans (Nat.le_add_right _ 2) (Nat.le_of_eq Hsz0.out)))⟩
        have h1 : x = y := (Hiff.out.1 h) _ List.mem_cons_self
        exact absurd (Hb.out.2 ((V.ext_iff' x y).1 h1).1) (by simp)
      | true =>
        have hal := Hb.out.1 rfl
        obtain ⟨KA, LA, kc, lc, hat1⟩ := Hpx.out.at_
        obtain ⟨KB, LB, kd, ld, hat2⟩ := Hpy.out.at_
        obtain ⟨nl, hnl⟩ : ∃ nl, x.ls.length = nl := ⟨_, rfl⟩
        have hnl2 : y.ls.length = nl := hal.2.2.2.2.symm.trans hnl
        obtain ⟨ch, hch⟩ : ∃ ch : Nat → Ent, ∀ j, j < nl → (x.ls[j]? = some (ch j).x ∧ y.ls[j]? = some (ch j).y) ∧ (PV w0 (Old w0) (ch j).g1 (ch j).o1 (ch j).x ∧ PV w0 (Old w0) (ch j).g2 (ch j).o2 (ch j).y) ∧ (LA = some ⟨(ch j).g1, (ch j).o1 - j * 5, none⟩ ∧ j * 5 ≤ (ch j).o1) ∧ (LB = some ⟨(ch j).g2, (ch j).o2 - j * 5, none⟩ ∧ j * 5 ≤ (ch j).o2) := by
          rcases Nat.eq_zero_or_pos nl with h0 | h0
          · exact ⟨fun _ => ⟨0, 0, 0, 0, x, y⟩, fun j hj => by omega⟩
          · obtain ⟨ga, oa, hA, hLa⟩ : ∃ g' o', LA = some ⟨g', o', none⟩ ∧ ∀ j x', x.ls[j]? = some x' → PV w0 (Old w0) g' (o' + 5 * j) x' := by
              rcases hat1.L with h | h
              · rw [h] at hnl; simp at hnl; omega
              · exact h
            obtain ⟨gb, ob, hB, hLb⟩ : ∃ g' o', LB = some ⟨g', o', none⟩ ∧ ∀ j x', y.ls[j]? = some x' → PV w0 (Old w0) g' (o' + 5 * j) x' := by
              rcases hat2.L with h | h
              · rw [h] at hnl2; simp at hnl2; omega
              · exact h
            refine ⟨fun j => ⟨ga, oa + j * 5, gb, ob + j * 5, x.ls.getD j x, y.ls.getD j y⟩, fun j hj => ?_⟩
            have e1 : x.ls[j]? = some (x.ls.getD j x) := by
              have h := List.getElem?_eq_getElem (l := x.ls) (i := j) (by omega)
              rw [List.getD_eq_getElem?_getD, h]; rfl
            have e2 : y.ls[j]? = some (y.ls.getD j y) := by
              have h := List.getElem?_eq_getElem (l := y.ls) (i := j) (by omega)
              rw [List.getD_eq_getElem?_getD, h]; rfl
            refine ⟨⟨e1, e2⟩, ⟨?_, ?_⟩, ⟨?_, ?_⟩, ⟨?_, ?_⟩⟩
            · have := hLa j _ e1; rw [Nat.mul_comm] at this; exact this
            · have := hLb j _ e2; rw [Nat.mul_comm] at this; exact this
            · show LA = some ⟨ga, oa + j * 5 - j * 5, none⟩
              rw [Nat.add_sub_cancel]; exact hA
            · show j * 5 ≤ oa + j * 5
              omega
            · show LB = some ⟨gb, ob + j * 5 - j * 5, none⟩
              rw [Nat.add_sub_cancel]; exact hB
            · show j * 5 ≤ ob + j * 5
              omega
        have hgx : g1 < w0.heap.size := Hpx.out.lt
        have hgy : g2 < w0.heap.size := Hpy.out.lt
        have c4x : w0.cell? ⟨g1, o1 + 4, none⟩ = some (.slice LA nl lc) := by have := hat1.c4; rwa [hnl] at this
        have c4y : w0.cell? ⟨g2, o2 + 4, none⟩ = some (.slice LB nl ld) := by have := hat2.c4; rwa [hnl2] at this
        have hnl9 : nl ≤ 9223372036854775807 := by have := hat1.ll; omega
        have hbx : ∀ {wr' : World}, Below w0.heap.size w0 wr' → wr'.cell? ⟨g1, o1 + 4, none⟩ = some (.slice LA nl lc) ∧ wr'.cell? ⟨g2, o2 + 4, none⟩ = some (.slice LB nl ld) := fun hb => ⟨(hb.cell (p := ⟨g1, o1 + 4, none⟩) hgx).trans c4x, (hb.cell (p := ⟨g2, o2 + 4, none⟩) hgy).trans c4y⟩
        have hprd := Hpr.out.drewN (nq + q2)
        have k4x := (hbx Hpr.out.below).1
        have Hbx := hide (fun wr' => @hbx wr')
        have Hch := hide hch
        have Hnl := hide hnl
        have Hal0 := hide hal
        have Hprd := hide hprd
        clear hbx hch hnl hal hat1 hat2 hgx hgy c4x c4y hprd hnl2 Hb
        have Hn200 := hide (show nl < 200000 from by
          have h1 : 1 + nodesL x.ls + sumN r < gk := by have h := Hsum.out; rw [sumN, nodes_eq] at h; exact h
          have h2 := Hk.out
          have h3 := kids_sum ch x.ls x.ls.length (Nat.le_refl _) (fun j hj => (Hch.out j (by rw [← Hnl.out]; exact hj)).1.1)
          have h4 := sum_ge (kids ch x.ls.length)
          rw [List.take_length] at h3
          have h5 : (kids ch x.ls.length).length = x.ls.length := by simp [kids]
          have := Hnl.out
          omega)
        have hn200 := Hn200.out
        go_wp2_with fail
        go_loopw [5, 40] (fun pv iv wr' => ∃ (A : Option Addr) (i c : Nat), pv = .slice A (n + i) c ∧ iv = .int .i64 (i : Int) ∧ i ≤ nl ∧ PR w0 wr' A (n + i) c (kids ch i ++ r)) (fun _ iv _ => nl - (intOf iv).toNat)
        case atStart => exact ⟨_, 0, _, rfl, rfl, Nat.zero_le _, Hprd.out⟩
        case round =>
          obtain ⟨A, i, c2, rfl, rfl, hi, hpr2⟩ := hrel
          have Hpr2 := hide hpr2
          obtain ⟨k5x, k5y⟩ := Hbx.out _ hpr2.below
          clear hpr2
          by_cases hil : i < nl
          · obtain ⟨_, ⟨hp1, hp2⟩, ⟨hA, hA5⟩, ⟨hB, hB5⟩⟩ := Hch.out i hil
            obtain ⟨e, he⟩ : ∃ e, ch i = e := ⟨_, rfl⟩
            rw [he] at hp1 hp2 hA hA5 hB hB5
            obtain ⟨ga, oa, gb, ob, xi, yi⟩ := e
            simp only at hp1 hp2 hA hA5 hB hB5
            obtain ⟨oa, rfl⟩ : ∃ q, oa = q + i * 5 := ⟨oa - i * 5, by omega⟩
            obtain ⟨ob, rfl⟩ : ∃ q, ob = q + i * 5 := ⟨ob - i * 5, by omega⟩
            rw [Nat.add_sub_cancel] at hA hB
            have He := hide he
            have Hp1 := hide hp1
            have Hp2 := hide hp2
            clear hp1 hp2 hA5 hB5 he k4x
            have Hbx2 := Hbx
            have Hch2 := Hch
            clear Hbx Hch
            subst hA hB
            go_upto_region 11 with fail
            refine wp_region_planned (fun W => W.cell? ⟨g1, o1 + 4, none⟩ = some (.slice (some ⟨ga, oa, none⟩) nl lc) ∧ W.cell? ⟨g2, o2 + 4, none⟩ = some (.slice (some ⟨gb, ob, none⟩) nl ld)) 16 [(false, 0), (false, 1), (false, 2), (false, 3), (false, 4), (false, 5), (false, 6), (false, 7), (false, 8), (false, 9), (false, 10), (false, 11), (false, 12), (false, 13), (true, 14), (true, 15)] (by kernel_rfl) (by kernel_rfl) (fun _ _ d _ _ h => by cases d <;> exact h) ⟨k5x, k5y⟩ ?_
            simp only [steps, List.getElem?_toArray, List.filterMap_cons, List.filterMap_nil, Option.map_some, List.getElem?_cons_zero, List.getElem?_cons_succ, List.drop_succ_cons, List.drop_zero]
            refine wpPlan_read rfl (fun W hW => (by clear hW; go_simp; try with_reducible rfl)) ?_
            refine wpPlan_read rfl (fun W hW => (by clear hW; go_simp; try with_reducible rfl)) ?_
            refine wpPlan_read rfl (fun W hW => (by clear hW; go_simp; try with_reducible rfl)) ?_
            refine wpPlan_read rfl (fun W hW => (by clear hW; go_simp; try with_reducible rfl)) ?_
            refine wpPlan_read (v := .slice (some ⟨ga, oa, none⟩) nl lc) rfl (fun W hW => (by obtain ⟨hW1, hW2⟩ := hW; go_simp; try with_reducible rfl)) ?_
            refine wpPlan_read rfl (fun W hW => (by clear hW; go_simp; try with_reducible rfl)) ?_
            refine wpPlan_read (v := .pointer (some ⟨ga, oa + i * 5, none⟩)) rfl (fun W hW => (by clear hW; go_simp; try with_reducible rfl)) ?_
            refine wpPlan_read rfl (fun W hW => (by clear hW; go_simp; try with_reducible rfl)) ?_
            refine wpPlan_read rfl (fun W hW => (by clear hW; go_simp; try with_reducible rfl)) ?_
            refine wpPlan_read rfl (fun W hW => (by clear hW; go_simp; try with_reducible rfl)) ?_
            refine wpPlan_read (v := .slice (some ⟨gb, ob, none⟩) nl ld) rfl (fun W hW => (by obtain ⟨hW1, hW2⟩ := hW; go_simp; try with_reducible rfl)) ?_
            refine wpPlan_read rfl (fun W hW => (by clear hW; go_simp; try with_reducible rfl)) ?_
            refine wpPlan_read (v := .pointer (some ⟨gb, ob + i * 5, none⟩)) rfl (fun W hW => (by clear hW; go_simp; try with_reducible rfl)) ?_
            refine wpPlan_read (v := .agg #[.pointer (some ⟨ga, oa + i * 5, none⟩), .pointer (some ⟨gb, ob + i * 5, none⟩)]) rfl (fun W hW => (by clear hW; go_simp; try with_reducible rfl)) ?_
            simp only [Act.put, List.setIfInBounds_toArray, List.set_cons_zero, List.set_cons_succ]
            refine wpPlan_does rfl (fun K hK => ?_)
            refine wp_buildSlice_one 69 (.tmp 56) rfl #[.pointer (some ⟨ga, oa + i * 5, none⟩), .pointer (some ⟨gb, ob + i * 5, none⟩)] rfl 68 2 16 (.agg #[.pointer none, .pointer none]) Try.underlying69 infoPP (by omega) (by omega) rfl ?_
            obtain ⟨wd, hwd⟩ : ∃ wd, wd = wr.drew.alloc (.cells #[.pointer (some ⟨ga, oa + i * 5, none⟩), .pointer (some ⟨gb, ob + i * 5, none⟩)] 68) := ⟨_, rfl⟩
            rw [← hwd]
            have fd : Fr (fun _ => False) wr wd := by rw [hwd]; exact (Fr.refl _ _).drew.alloc _
            have nd : Blk wd wr.heap.size 68 #[.pointer (some ⟨ga, oa + i * 5, none⟩), .pointer (some ⟨gb, ob + i * 5, none⟩)] := by rw [hwd]; exact Blk.new _ _ _
            have sd : wd.heap.size = wr.heap.size + 1 := by rw [hwd, World.size_alloc]; rfl
            have hprd : PR w0 wd A (n + i) c2 (kids ch i ++ r) := ⟨Hpr2.out.len, own_fr Hpr2.out.own fd (fun _ _ h => h), Hpr2.out.new, Hpr2.out.below.trans (fd.below Hpr2.out.below.size (fun _ h => h.elim)), Hpr2.out.ents⟩
            refine hK _ _ (Hbx2.out _ hprd.below) ?_
            clear hK
            simp only [Act.put, List.setIfInBounds_toArray, List.set_cons_zero, List.set_cons_succ]
            refine wpPlan_does rfl (fun K hK => ?_)
            refine wp_append_at wd (.tmp 43) (.tmp 57) 69 rfl 0 68 (.agg #[.pointer none, .pointer none]) 2 16 Try.underlying69 infoPP rfl (by decide) A (n + i) c2 _ rfl hprd.own ⟨wr.heap.size, 0, none⟩ 1 1 [.pointer (some ⟨ga, oa + i * 5, none⟩), .pointer (some ⟨gb, ob + i * 5, none⟩)] rfl rfl ?_ ?_ (by simp only [maxLen]; omega) (by omega) (Nat.zero_le _) ?_
            · intro j u hu
              rw [Addr.add_mid]
              exact (nd.range 0 [.pointer (some ⟨ga, oa + i * 5, none⟩), .pointer (some ⟨gb, ob + i * 5, none⟩)] (fun k v hv => by simpa using hv)) j u hu
            · intro u hu
              simp only [List.mem_cons, List.not_mem_nil, or_false] at hu
              rcases hu with rfl | rfl <;> rfl
            intro A4 c4 w4 Ho4 Hf4 Hn4
            have hfin : PR w0 w4 A4 (n + (i + 1)) c4 (kids ch (i + 1) ++ r) := by
              refine ⟨?_, ?_, ?_, ?_, ?_⟩
              · rw [kids_succ, List.cons_append, List.length_cons, Hpr2.out.len]; omega
              · rw [kids_succ, List.cons_append, ecs, He.out]
                exact Ho4
              · intro k hk
                rcases Hn4 k (at_own.2 hk) with h | h
                · exact Hpr2.out.new k (at_own.1 h)
                · have hsz := hprd.below.size
                  omega
              · exact hprd.below.trans (Hf4.below hprd.below.size (fun k hk => Hpr2.out.new k (at_own.1 hk)))
              · intro e he
                rw [kids_succ, List.cons_append, List.mem_cons] at he
                rcases he with rfl | he
                · rw [He.out]
                  exact ⟨Hp1.out, Hp2.out⟩
                · exact Hpr2.out.ents e he
            refine hK _ _ (Hbx2.out _ hfin.below) ?_
            clear hK
            simp only [Act.put, List.setIfInBounds_toArray, List.set_cons_zero, List.set_cons_succ]
            refine wpPlan_nil ?_
            have Hfin := hide hfin
            clear hfin fd nd sd hprd hwd Ho4 Hf4 Hn4
            go_wp2
            go_roundw
            case rel => exact ⟨_, i + 1, _, rfl, by go_num, by omega, Hfin.out⟩
            case measure => simp [intOf]; omega
          · obtain rfl : i = nl := by omega
            have hks := kids_sum ch x.ls i (by rw [Hnl.out]; exact Nat.le_refl _) (fun j hj => (Hch.out j hj).1.1)
            rw [show x.ls.take i = x.ls by rw [← Hnl.out, List.take_length]] at hks
            have hsm : sumN (kids ch i ++ r) + 1 < gk := by
              have h := Hsum.out
              rw [sumN, nodes_eq] at h
              have h' : 1 + nodesL x.ls + sumN r < gk := h
              rw [sumN_append, hks]
              omega
            have hii : X = Y ↔ ∀ e ∈ kids ch i ++ r, e.x = e.y := by
              rw [Hiff.out]
              have hle := ls_eq_iff ch x.ls y.ls Hal0.out.2.2.2.2 (fun j hj => (Hch.out j (by rw [← Hnl.out]; exact hj)).1)
              rw [Hnl.out] at hle
              constructor
              · intro h e he
                rcases List.mem_append.1 he with he | he
                · have h1 : x = y := h _ List.mem_cons_self
                  exact hle.1 ((V.ext_iff' x y).1 h1).2 e he
                · exact h e (List.mem_cons_of_mem _ he)
              · intro h e he
                rcases List.mem_cons.1 he with rfl | he
                · exact (V.ext_iff' x y).2 ⟨Hal0.out, hle.2 (fun e he => h e (List.mem_append_left _ he))⟩
                · exact h e (List.mem_append_right _ he)
            have Hsm := hide hsm
            have Hii := hide hii
            clear hks hsm hii
            go_wp2
            go_roundg (sumN (kids ch i ++ r) + 1)
            case measure => exact Hsm.out
            case rel => exact ⟨_, _, _, _, rfl, Hpr2.out, Nat.lt_succ_self _, by have := Hsm.out; have := Hk.out; omega, Hii.out⟩
end Go.Proofs.Ytdkmccilnmdhmaa
