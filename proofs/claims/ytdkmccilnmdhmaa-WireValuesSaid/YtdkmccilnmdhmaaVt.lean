/- Package columbaryref03: Same, however deep. -/
import Derived.Test.YtdkmccilnmdhmaaVk
import Derived.Test.YtdkmccilnmdhmaaRegionF
namespace Go.Proofs.Ytdkmccilnmdhmaa
open Go.RowKit

theorem five_cells {w W : World} {g o : Nat} {y0 y1 y2 y3 y4 : Value} (hr : w.rangeAt g o [y0, y1, y2, y3, y4]) (hg : Old w g) (hW : Below w.heap.size w W) : W.cell? ⟨g, o, none⟩ = some y0 ∧ W.cell? ⟨g, o + 1, none⟩ = some y1 ∧ W.cell? ⟨g, o + 2, none⟩ = some y2 ∧ W.cell? ⟨g, o + 3, none⟩ = some y3 ∧ W.cell? ⟨g, o + 4, none⟩ = some y4 :=
  ⟨(hW.cell (p := ⟨g, o + 0, none⟩) hg).trans (hr 0 _ rfl), (hW.cell (p := ⟨g, o + 1, none⟩) hg).trans (hr 1 _ rfl), (hW.cell (p := ⟨g, o + 2, none⟩) hg).trans (hr 2 _ rfl), (hW.cell (p := ⟨g, o + 3, none⟩) hg).trans (hr 3 _ rfl), (hW.cell (p := ⟨g, o + 4, none⟩) hg).trans (hr 4 _ rfl)⟩
theorem nodes_lt {v x : V} {j : Nat} (h : v.ls[j]? = some x) : nodes x < nodes v := by
  rw [nodes_eq v]
  have h1 := nodesL_take v.ls j x h
  have h2 : nodesL v.ls = nodesL (v.ls.take (j + 1)) + nodesL (v.ls.drop (j + 1)) := by rw [← nodesL_append, List.take_append_drop]
  omega
set_option maxRecDepth 100000 in
set_option maxHeartbeats 8000000 in
theorem r3same_any : ∀ (n : Nat) (X Y : V) (cs ds : List Value) (w : World), nodes X ≤ n → VC w (Old w) X cs → VC w (Old w) Y ds →
    Calls Try.prog 17 #[.agg cs.toArray, .agg ds.toArray] w (SamePost X Y w) := by
  intro n
  induction n with
  | zero => intro X Y cs ds w hn; rw [nodes_eq] at hn; omega
  | succ n ih =>
  intro X Y cs ds w hn hX hY
  have hcs : ∃ x0 x1 x2 x3 x4, cs = [x0, x1, x2, x3, x4] := by cases hX; exact ⟨_, _, _, _, _, rfl⟩
  obtain ⟨x0, x1, x2, x3, x4, rfl⟩ := hcs
  have hds : ∃ x0 x1 x2 x3 x4, ds = [x0, x1, x2, x3, x4] := by cases hY; exact ⟨_, _, _, _, _, rfl⟩
  obtain ⟨y0, y1, y2, y3, y4, rfl⟩ := hds
  have hp1 := hX.boxed
  have hb1 := (Below.refl w.heap.size w).alloc (Nat.le_refl _) (.cells [x0, x1, x2, x3, x4].toArray 25)
  obtain ⟨wa, hwa⟩ : ∃ wa, w.alloc (.cells [x0, x1, x2, x3, x4].toArray 25) = wa := ⟨_, rfl⟩
  rw [hwa] at hp1 hb1
  have hs1 : wa.heap.size = w.heap.size + 1 := by rw [← hwa]; simp
  have hp2 := (hY.later hb1).boxed
  obtain ⟨w0, hw0⟩ : ∃ w0, wa.alloc (.cells [y0, y1, y2, y3, y4].toArray 25) = w0 := ⟨_, rfl⟩
  have hb2 : Below wa.heap.size wa w0 := by rw [← hw0]; exact (Below.refl wa.heap.size wa).alloc (Nat.le_refl _) _
  rw [hw0, hs1] at hp2
  have hp1 := hp1.later hb2
  have Hb0 := hide (show Below w.heap.size w w0 from hb1.trans (hb2.mono hb1.size))
  have hwa' : w.alloc (.cells #[x0, x1, x2, x3, x4] 25) = wa := hwa
  have hw0' : wa.alloc (.cells #[y0, y1, y2, y3, y4] 25) = w0 := hw0
  have hww : (w.alloc (.cells #[x0, x1, x2, x3, x4] 25)).alloc (.cells #[y0, y1, y2, y3, y4] 25) = w0 := by rw [hwa', hw0']
  have Hw0 := hide Hb0.out.size
  have Hl1 := hide hp1.lt
  have Hl2 := hide hp2.lt
  obtain ⟨KA, LA, kc, lc, h1⟩ := hp1.at_
  obtain ⟨KB, LB, kd, ld, h2⟩ := hp2.at_
  have H1 := hide h1
  have H2 := hide h2
  have hk1 := h1.k
  have hk2 := h2.k
  have hl1 := h1.ll
  have hl2 := h2.ll
  have hkl1 := h1.kl
  have hkl2 := h2.kl
  have a0 := h1.c0
  have a1 := h1.c1
  have a2 := h1.c2
  have a3 := h1.c3
  have a4 := h1.c4
  have b0 := h2.c0
  have b1 := h2.c1
  have b2 := h2.c2
  have b3 := h2.c3
  have b4 := h2.c4
  have hK1 := h1.K
  have hK2 := h2.K
  have Ih := hide ih
  have Hn := hide hn
  clear hX hY hb1 hb2 hwa hw0 hwa' hw0' hp1 hp2 hs1 h1 h2 ih hn
  obtain ⟨k1, hk1e⟩ : ∃ k, X.kind = k := ⟨_, rfl⟩
  obtain ⟨k2, hk2e⟩ : ∃ k, Y.kind = k := ⟨_, rfl⟩
  obtain ⟨n1, hn1e⟩ : ∃ k, X.n = k := ⟨_, rfl⟩
  obtain ⟨n2, hn2e⟩ : ∃ k, Y.n = k := ⟨_, rfl⟩
  obtain ⟨s1, hs1e⟩ : ∃ k, X.s = k := ⟨_, rfl⟩
  obtain ⟨s2, hs2e⟩ : ∃ k, Y.s = k := ⟨_, rfl⟩
  obtain ⟨ks1, hks1⟩ : ∃ k, X.ks = k := ⟨_, rfl⟩
  obtain ⟨ks2, hks2⟩ : ∃ k, Y.ks = k := ⟨_, rfl⟩
  obtain ⟨m1, hm1⟩ : ∃ k, X.ls.length = k := ⟨_, rfl⟩
  obtain ⟨m2, hm2⟩ : ∃ k, Y.ls.length = k := ⟨_, rfl⟩
  rw [hk1e] at a0 hk1
  rw [hk2e] at b0 hk2
  rw [hn1e] at a1
  rw [hn2e] at b1
  rw [hs1e] at a2
  rw [hs2e] at b2
  rw [hks1] at a3 hkl1 hK1
  rw [hks2] at b3 hkl2 hK2
  rw [hm1] at a4 hl1
  rw [hm2] at b4 hl2
  have Hp := hide (show X = Y ↔ ((k1 = k2 ∧ n1 = n2 ∧ s1 = s2 ∧ ks1 = ks2 ∧ m1 = m2) ∧ X.ls = Y.ls) by rw [V.ext_iff']; unfold Alike0; rw [hk1e, hk2e, hn1e, hn2e, hs1e, hs2e, hks1, hks2, hm1, hm2])
  have Hm1 := hide hm1
  have Hm2 := hide hm2
  have HK1 := hide hK1
  have HK2 := hide hK2
  clear hk1e hk2e hn1e hn2e hs1e hs2e hks1 hks2 hm1 hm2 hK1 hK2
  go_enter Try.func17, Try.ntmps17
  by_cases hx : k1 = k2
  case neg =>
    have hf : ((k1 : Int) == (k2 : Int)) = false := by rw [beq_eq_false_iff_ne]; omega
    have hf2 : ((k1 : Int) != (k2 : Int)) = true := by simp only [bne, hf]; rfl
    have Hx := hide hx
    clear hx
    go_wp2
    go_ret
    exact ⟨false, rfl, ⟨fun h => by simp at h, fun h => absurd (Hp.out.1 h).1.1 Hx.out⟩, Hb0.out⟩
  subst hx
  by_cases hx : n1 = n2
  case neg =>
    have hf : (n1 == n2) = false := by rw [beq_eq_false_iff_ne]; exact hx
    have hf2 : (n1 != n2) = true := by simp only [bne, hf]; rfl
    have Hx := hide hx
    clear hx
    go_wp2
    go_ret
    exact ⟨false, rfl, ⟨fun h => by simp at h, fun h => absurd (Hp.out.1 h).1.2.1 Hx.out⟩, Hb0.out⟩
  subst hx
  by_cases hx : s1 = s2
  case neg =>
    have hf : (s1 == s2) = false := by rw [beq_eq_false_iff_ne]; exact hx
    have hf2 : decide (s1 = s2) = false := decide_eq_false hx
    have Hx := hide hx
    clear hx
    go_wp2
    go_ret
    exact ⟨false, rfl, ⟨fun h => by simp at h, fun h => absurd (Hp.out.1 h).1.2.2.1 Hx.out⟩, Hb0.out⟩
  subst hx
  by_cases hx : ks1.length = ks2.length
  case neg =>
    have hf : ((ks1.length : Int) == (ks2.length : Int)) = false := by rw [beq_eq_false_iff_ne]; omega
    have hf2 : ((ks1.length : Int) != (ks2.length : Int)) = true := by simp only [bne, hf]; rfl
    have Hx := hide hx
    clear hx
    go_wp2
    go_ret
    exact ⟨false, rfl, ⟨fun h => by simp at h, fun h => absurd (congrArg List.length (Hp.out.1 h).1.2.2.2.1) Hx.out⟩, Hb0.out⟩
  obtain ⟨kn, hkn⟩ : ∃ kn, ks1.length = kn := ⟨_, rfl⟩
  have hkn2 : ks2.length = kn := by omega
  rw [hkn] at a3 hkl1
  rw [hkn2] at b3 hkl2
  have Hkn := hide hkn
  have Hkn2 := hide hkn2
  clear hkn hkn2 hx
  by_cases hx : m1 = m2
  case neg =>
    have hf : ((m1 : Int) == (m2 : Int)) = false := by rw [beq_eq_false_iff_ne]; omega
    have hf2 : ((m1 : Int) != (m2 : Int)) = true := by simp only [bne, hf]; rfl
    have Hx := hide hx
    clear hx
    go_wp2
    go_ret
    exact ⟨false, rfl, ⟨fun h => by simp at h, fun h => absurd (Hp.out.1 h).1.2.2.2.2 Hx.out⟩, Hb0.out⟩
  subst hx
  go_wp2_with fail
  clear hww
  go_loopw [5] (fun iv wr => ∃ i : Nat, i ≤ kn ∧ iv = .int .i64 (i : Int) ∧ ks1.take i = ks2.take i ∧ ∃ q, wr = w0.drewN q) (fun iv _ => kn - (intOf iv).toNat)
  case atStart => exact ⟨0, Nat.zero_le _, rfl, by simp, 0, rfl⟩
  case round =>
    obtain ⟨i, hi, rfl, htk, q, rfl⟩ := hrel
    have Htk := hide htk
    clear htk
    have a3' : (w0.drewN q).cell? ⟨w.heap.size, 0 + 3, none⟩ = some (.slice KA kn kc) := a3
    have b3' : (w0.drewN q).cell? ⟨w.heap.size + 1, 0 + 3, none⟩ = some (.slice KB kn kd) := b3
    have a4' : (w0.drewN q).cell? ⟨w.heap.size, 0 + 4, none⟩ = some (.slice LA m1 lc) := a4
    have b4' : (w0.drewN q).cell? ⟨w.heap.size + 1, 0 + 4, none⟩ = some (.slice LB m1 ld) := b4
    by_cases hil : i < kn
    case pos =>
      obtain ⟨x, hx⟩ : ∃ x, ks1[i]? = some x := ⟨_, List.getElem?_eq_getElem (by rw [Hkn.out]; exact hil)⟩
      obtain ⟨y, hy⟩ : ∃ y, ks2[i]? = some y := ⟨_, List.getElem?_eq_getElem (by rw [Hkn2.out]; exact hil)⟩
      obtain ⟨e1, o1, rfl, h1⟩ := HK1.out.get hx
      obtain ⟨e2, o2, rfl, h2⟩ := HK2.out.get hy
      have h1' : (w0.drewN q).cell? ⟨e1, o1 + i, none⟩ = some (sv x) := h1
      have h2' : (w0.drewN q).cell? ⟨e2, o2 + i, none⟩ = some (sv y) := h2
      have Hx := hide hx
      have Hy := hide hy
      clear hx hy
      by_cases hxy : x = y
      · subst hxy
        go_upto_region 6 with fail
        go_quiet (fail)
        go_wp2
        go_roundw
        case rel =>
          refine ⟨i + 1, by omega, by go_num, ?_, _, rfl⟩
          rw [List.take_add_one, List.take_add_one, Hx.out, Hy.out, Htk.out]
        case measure => simp [intOf]; omega
      · have hb1 : (x == y) = false := by rw [beq_eq_false_iff_ne]; exact hxy
        have hb2 : decide (x = y) = false := decide_eq_false hxy
        have Hxy := hide hxy
        clear hxy
        go_upto_region 6 with fail
        go_quiet (fail)
        go_wp2
        go_ret
        refine ⟨false, rfl, ⟨fun h => by simp at h, fun h => ?_⟩, below_drewN (below_drewN Hb0.out _) _⟩
        have hks := (Hp.out.1 h).1.2.2.2.1
        have := Hx.out
        rw [hks, Hy.out] at this
        injection this with this
        exact absurd this.symm Hxy.out
    case neg =>
      obtain rfl : i = kn := by omega
      have Hks := hide (show ks1 = ks2 by
        have := Htk.out
        rwa [show ks1.take i = ks1 by rw [← Hkn.out, List.take_length], show ks2.take i = ks2 by rw [← Hkn2.out, List.take_length]] at this)
      have hbq : Below w0.heap.size w0 (w0.drewN q) := below_drewN (Below.refl _ _) q
      have Hbq := hide hbq
      clear hbq Htk hil hi
      go_wp2_with fail
      go_loopw [6] (fun iv wr => ∃ j : Nat, j ≤ m1 ∧ iv = .int .i64 (j : Int) ∧ X.ls.take j = Y.ls.take j ∧ Below w0.heap.size w0 wr) (fun iv _ => m1 - (intOf iv).toNat)
      case atStart => exact ⟨0, Nat.zero_le _, rfl, by simp, Hbq.out⟩
      case round =>
      obtain ⟨j, hj, rfl, htk, hb⟩ := hrel
      have Htk := hide htk
      have Hb := hide hb
      clear htk hb a3' b3' a4' b4'
      have a4' : wr.cell? ⟨w.heap.size, 0 + 4, none⟩ = some (.slice LA m1 lc) := by have := (H1.out.below Hb.out Hl1.out).c4; rw [Hm1.out] at this; exact this
      have b4' : wr.cell? ⟨w.heap.size + 1, 0 + 4, none⟩ = some (.slice LB m1 ld) := by have := (H2.out.below Hb.out Hl2.out).c4; rw [Hm2.out] at this; exact this
      by_cases hjl : j < m1
      case pos =>
        obtain ⟨x, hx⟩ : ∃ x, X.ls[j]? = some x := ⟨_, List.getElem?_eq_getElem (by rw [Hm1.out]; exact hjl)⟩
        obtain ⟨y, hy⟩ : ∃ y, Y.ls[j]? = some y := ⟨_, List.getElem?_eq_getElem (by rw [Hm2.out]; exact hjl)⟩
        obtain ⟨e1, o1, rfl, hL⟩ : ∃ g' o', LA = some ⟨g', o', none⟩ ∧ ∀ j x, X.ls[j]? = some x → PV wr (Old wr) g' (o' + 5 * j) x := by
          rcases (H1.out.below Hb.out Hl1.out).L with h | h
          · rw [h] at hx; simp at hx
          · exact h
        obtain ⟨e2, o2, rfl, hM⟩ : ∃ g' o', LB = some ⟨g', o', none⟩ ∧ ∀ j x, Y.ls[j]? = some x → PV wr (Old wr) g' (o' + 5 * j) x := by
          rcases (H2.out.below Hb.out Hl2.out).L with h | h
          · rw [h] at hy; simp at hy
          · exact h
        obtain ⟨cs', hg', hr', hv'⟩ := hL j x hx
        obtain ⟨ds', hg2', hr2', hv2'⟩ := hM j y hy
        rw [Nat.mul_comm 5 j] at hr' hr2'
        have hcs' : ∃ y0 y1 y2 y3 y4, cs' = [y0, y1, y2, y3, y4] := by cases hv'; exact ⟨_, _, _, _, _, rfl⟩
        obtain ⟨u0, u1, u2, u3, u4, rfl⟩ := hcs'
        have hds' : ∃ y0 y1 y2 y3 y4, ds' = [y0, y1, y2, y3, y4] := by cases hv2'; exact ⟨_, _, _, _, _, rfl⟩
        obtain ⟨t0, t1, t2, t3, t4, rfl⟩ := hds'
        have HU := hide (fun (W : World) (hW : Below wr.heap.size wr W) => five_cells hr' hg' hW)
        have HT := hide (fun (W : World) (hW : Below wr.heap.size wr W) => five_cells hr2' hg2' hW)
        have Hx := hide hx
        have Hy := hide hy
        have Hih := hide (Ih.out x y _ _ wr.drew (by have := nodes_lt hx; have := Hn.out; omega) (hv'.later (Below.refl _ _).drew) (hv2'.later (Below.refl _ _).drew))
        have Hjl := hide hjl
        clear hL hg' hr' hv' hx hM hg2' hr2' hv2' hy hjl hj
        go_upto_region 11 with fail
        clear a4' b4'
        refine wp_region_tree (fun W => Below wr.heap.size wr W) 11 (.read 0 (.read 1 (.read 2 (.read 3 (.read 4 (.read 5 (.read 6 (.read 7 (.read 8 (.read 9 (.eff 10 .nil))))))))))) (by kernel_rfl) (by kernel_rfl) (fun _ _ d _ _ h => by cases d <;> exact h) (Below.refl _ _).drew ?_
        simp only [Plan.ops, List.getElem?_toArray, List.getElem?_cons_zero, List.getElem?_cons_succ, Option.elim, List.drop_succ_cons, List.drop_zero]
        refine wpTree_read rfl (fun W hW => (by clear hW; go_simp; try with_reducible rfl)) ?_
        refine wpTree_read (v := .slice (some ⟨e1, o1, none⟩) m1 lc) rfl (fun W hW => (by have a4 := (H1.out.below (Hb.out.trans (hW.mono Hb.out.size)) Hl1.out).c4; rw [Hm1.out] at a4; clear hW; go_simp; try with_reducible rfl)) ?_
        refine wpTree_read rfl (fun W hW => (by clear hW; go_simp; try with_reducible rfl)) ?_
        simp only [Act.put, List.setIfInBounds_toArray, List.set_cons_zero, List.set_cons_succ]
        refine wpTree_read (v := .pointer (some ⟨e1, o1 + j * 5, none⟩)) rfl (fun W hW => (by skip; clear hW; go_simp; try with_reducible rfl)) ?_
        simp only [Act.put, List.setIfInBounds_toArray, List.set_cons_zero, List.set_cons_succ]
        refine wpTree_read (v := .agg #[u0, u1, u2, u3, u4]) rfl (fun W hW => (by obtain ⟨p0, p1, p2, p3, p4⟩ := HU.out W hW; clear hW; go_simp; try with_reducible rfl)) ?_
        refine wpTree_read rfl (fun W hW => (by clear hW; go_simp; try with_reducible rfl)) ?_
        refine wpTree_read (v := .slice (some ⟨e2, o2, none⟩) m1 ld) rfl (fun W hW => (by have b4 := (H2.out.below (Hb.out.trans (hW.mono Hb.out.size)) Hl2.out).c4; rw [Hm2.out] at b4; clear hW; go_simp; try with_reducible rfl)) ?_
        refine wpTree_read rfl (fun W hW => (by clear hW; go_simp; try with_reducible rfl)) ?_
        simp only [Act.put, List.setIfInBounds_toArray, List.set_cons_zero, List.set_cons_succ]
        refine wpTree_read (v := .pointer (some ⟨e2, o2 + j * 5, none⟩)) rfl (fun W hW => (by skip; clear hW; go_simp; try with_reducible rfl)) ?_
        simp only [Act.put, List.setIfInBounds_toArray, List.set_cons_zero, List.set_cons_succ]
        refine wpTree_read (v := .agg #[t0, t1, t2, t3, t4]) rfl (fun W hW => (by obtain ⟨p0, p1, p2, p3, p4⟩ := HT.out W hW; clear hW; go_simp; try with_reducible rfl)) ?_
        simp only [Act.put, List.setIfInBounds_toArray, List.set_cons_zero, List.set_cons_succ]
        refine wpTree_eff (wpEff_does rfl (fun K hK => ?_))
        refine wp_call_by 17 #[.agg #[u0, u1, u2, u3, u4], .agg #[t0, t1, t2, t3, t4]] (by kernel_rfl) Hih.out ?_
        rintro e w2 ⟨b2, rfl, hb2, hbel2⟩
        have hbw : Below wr.heap.size wr w2 := (Below.refl _ _).drew.trans (hbel2.mono (Nat.le_refl _))
        refine ⟨_, rfl, hK _ _ hbw ?_⟩
        clear hK
        simp only [Act.put, List.setIfInBounds_toArray, List.set_cons_zero, List.set_cons_succ]
        refine wpTree_nil ?_
        have HB2 := hide (Hb.out.trans (hbw.mono Hb.out.size))
        have HE2 := hide hb2
        clear hbel2 hbw hb2 HU HT Hih
        cases b2 with
        | true =>
          go_wp2
          go_roundw
          case rel =>
            refine ⟨j + 1, by have := Hjl.out; omega, by go_num, ?_, HB2.out⟩
            rw [List.take_add_one, List.take_add_one, Hx.out, Hy.out, Htk.out, HE2.out.1 rfl]
          case measure => have := Hjl.out; simp [intOf]; omega
        | false =>
          go_wp2
          go_ret
          refine ⟨false, rfl, ⟨fun h => by simp at h, fun h => ?_⟩, Hb0.out.trans (HB2.out.mono Hw0.out)⟩
          have hls := (Hp.out.1 h).2
          have := Hx.out
          rw [hls, Hy.out] at this
          injection this with this
          have := HE2.out.2 this.symm
          simp at this
      case neg =>
        obtain rfl : j = m1 := by omega
        go_wp2
        go_ret
        refine ⟨true, rfl, ⟨fun _ => Hp.out.2 ⟨⟨by first | rfl | trivial, by first | rfl | trivial, by first | rfl | trivial, Hks.out, by first | rfl | trivial⟩, ?_⟩, fun _ => rfl⟩, Hb0.out.trans (Hb.out.mono Hw0.out)⟩
        have := Htk.out
        rwa [show X.ls.take j = X.ls by rw [← Hm1.out, List.take_length], show Y.ls.take j = Y.ls by rw [← Hm2.out, List.take_length]] at this
end Go.Proofs.Ytdkmccilnmdhmaa
