/-
  A record whose write is torn is there whole, or not at all: LedgerTorn answers true for any two records and numbers; no condition.
-/
import Derived.Test.YtehddmaapfofnaaLwB
import Derived.Test.YtehddmaapfofnaaLaw
namespace Go.Proofs.Ytehddmaapfofnaa
open Go.RowKit Go.ChangeShapes Go.WideShapes Go.ChangeAt

set_option maxHeartbeats 1000000 in
theorem torn_short (A B : Option Addr) (l c m d : Nat) (v2 v3 : Value) (w : World) (h : 300 < l ∨ 300 < m) :
    Calls Try.prog 11 #[.slice A l c, .slice B m d, v2, v3] w fun e w' => e = .returned (.bool true) ∧ Below w.heap.size w w' := by
  have hlm : 300 < l ∨ (l ≤ 300 ∧ 300 < m) := by omega
  rcases hlm with hl | ⟨hl, hm⟩
  all_goals
    go_enter Try.func11, Try.ntmps11
    go_wp2_with fail
    refine (awake_any w).mono ?_
    rintro e w1 ⟨rfl, hb1⟩
    have Hb1 := hide hb1
    clear hb1
    go_wp2_with fail
    refine (awake_any w1).mono ?_
    rintro e w2 ⟨rfl, hb2⟩
    have Hb2 := hide (Hb1.out.trans (hb2.mono Hb1.out.size))
    clear hb2
    go_wp2
    go_ret
    exact ⟨rfl, Hb2.out⟩

set_option maxHeartbeats 8000000 in
theorem torn_any (A B : Option Addr) (l c m d x y : Nat) (p q : List UInt8) (w : World) (hp : p.length = l) (hq : q.length = m) (h1 : l ≤ 300) (h2 : m ≤ 300) (hx : x ≤ 255) (hy : y ≤ 255) (hb : Bytes w A p) (hb' : Bytes w B q) :
    Calls Try.prog 11 #[.slice A l c, .slice B m d, .int .u8 (x : Int), .int .u8 (y : Int)] w fun e w' => e = .returned (.bool true) ∧ Below w.heap.size w w' := by
  have Hp := hide hp
  have Hq := hide hq
  have Hb := hide hb
  have Hb' := hide hb'
  clear hp hq hb hb'
  go_enter Try.func11, Try.ntmps11
  go_wp2_with fail
  refine (awake_any w).mono ?_
  rintro e w1 ⟨rfl, hb1⟩
  have Hb1 := hide hb1
  clear hb1
  go_wp2_with fail
  refine (lopen_any 20 w w1 Hb1.out (by omega) (by omega)).mono ?_
  rintro e w2 ⟨lb, b, F0, rfl, h0, hb2, _⟩
  have s0 := (lies_new 41 1 20 (by omega) (by omega) (by omega)).opened
  obtain ⟨L0, hL0⟩ : ∃ L, L = Lg.opened 1 20 0 ⟨[], []⟩ := ⟨_, rfl⟩
  obtain ⟨D0, hD0⟩ : ∃ D, D = Dk.new 41 := ⟨_, rfl⟩
  rw [show 2 * 20 + 1 = 41 from rfl, ← hL0, ← hD0] at h0
  rw [← hL0, ← hD0] at s0
  have r0 : L0.room = 1216 := by rw [hL0]; rfl
  have f0 : D0.fuse = 0 := by rw [hD0]; rfl
  have o0 : D0.ops = 0 := by rw [hD0]; rfl
  have a0 : L0.at_ = 1 := by rw [hL0]; rfl
  have l0 : L0.bl = 20 := by rw [hL0]; rfl
  have H0 := hide h0
  have S0 := hide s0
  clear h0 s0 hb2 hL0 hD0 Hb1
  go_wp2_with fail
  refine (H0.out.append_ok S0.out (by omega) f0 A l c p Hp.out (H0.out.bytes Hb.out) (by omega) (by
    rw [r0, Kp.need_with, Hp.out]; show 0 + 8 + 0 + 8 + l ≤ 1216; omega)).mono ?_
  rintro e w3 ⟨L1, D1, hd1, F1, rfl, h3, _, _⟩
  have r1 := hd1.room_eq
  have f1 := hd1.fuse0 f0
  have p1 := hd1.ops
  have a1 := hd1.at_
  have l1 := hd1.bl
  have H3 := hide h3
  have K3 := hide hd1.st
  clear h3 hd1 S0 H0
  go_wp2_with fail
  obtain ⟨M, hM⟩ : ∃ M : Int, M = ((m : Int) + 8) / 64 + 2 - (x : Int) % 2 := ⟨_, rfl⟩
  rw [← hM]
  have hM2 : M ≤ 9223372036854775807 := by omega
  refine (H3.out.arm M).mono ?_
  rintro e w4 ⟨F4, rfl, h4, _, _⟩
  have s4 := K3.out.armed M
  have p4 := armed_ops D1 M
  have f4 := armed_fuse D1 M hM2 (by omega)
  have H4 := hide h4
  have K4 := hide s4
  clear h4 s4 H3 K3 hM
  go_wp2_with fail
  have hfit : ((Kp.with_ ⟨[], []⟩ p).with_ q).need ≤ L1.room := by
    rw [r1, r0, Kp.need_with, Kp.need_with, Hp.out, Hq.out]; show 0 + 8 + 0 + 8 + l + 8 + m ≤ 1216; omega
  have hap := K4.out.appended q (by rw [Hq.out]; omega) hfit
  refine (H4.out.append K4.out (by omega) f4 B m d q Hq.out (H4.out.bytes Hb'.out) (by omega)).mono ?_
  rintro e w5 ⟨F5, rfl, h5, _, _⟩
  obtain ⟨E, hE⟩ : ∃ E, E = L1.appE (D1.armD M) q := ⟨_, rfl⟩
  obtain ⟨D5, hD5⟩ : ∃ D5, D5 = L1.appD (D1.armD M) q := ⟨_, rfl⟩
  rw [← hE, ← hD5] at hap
  rw [← hD5] at h5
  rw [← hE]
  rw [a1, a0, l1, l0] at hap
  have H5 := hide h5
  have Hap := hide hap
  clear h5 hap hE hD5 H4 K4 hfit
  go_wp2_with fail
  refine (H5.out.restart (by have := Hap.out.1; omega) _ _).mono ?_
  rintro e w6 ⟨F6, rfl, h6, _, _⟩
  have key : ∃ half k', Lies (D5.restarted ((x : Int) % 8) ((y : Int) % 65)) 1 20 half k' ∧ (k' = ⟨[], [p]⟩ ∧ E = 12 ∨ k' = ⟨[], [p, q]⟩) := by
    obtain ⟨_, ⟨h1, h2⟩ | ⟨h1, h2⟩⟩ := Hap.out
    · obtain ⟨half, h⟩ := h2 ((x : Int) % 8) ((y : Int) % 65)
      exact ⟨half, _, h, .inr rfl⟩
    · rcases h2 ((x : Int) % 8) ((y : Int) % 65) with ⟨half, h⟩ | ⟨half, h⟩
      · exact ⟨half, _, h, .inl ⟨rfl, h1⟩⟩
      · exact ⟨half, _, h, .inr rfl⟩
  obtain ⟨half, k', hl6, hk'⟩ := key
  have H6 := hide h6
  have K6 := hide hl6
  clear h6 hl6 H5 Hap
  go_wp2_with fail
  refine (open_lies (w0 := w) K6.out H6.out.disk H6.out.below H6.out.own).mono ?_
  rintro e w7 ⟨lb2, A7, c7, R7, d7, rfl, hA7, hR7, h7, _, hb7, _⟩
  have hrl : k'.recs.length ≤ 1000000000 := by rcases hk' with ⟨rfl, _⟩ | rfl <;> simp
  have HA7 := hide hA7
  have HR7 := hide hR7
  have H7 := hide h7
  clear h7 hA7 hR7 hb7 H6 K6
  go_wp2_with fail
  refine (kof_any A7 _ c7 k'.snap w6.heap.size R7 k'.recs.length d7 k'.recs w7 rfl HA7.out HR7.out hrl).mono ?_
  rintro e w8 ⟨R8, c8, rfl, hk8, _, hb8⟩
  have H8 := hide (H7.out.below.trans (hb8.mono H7.out.below.size))
  have K8 := hide hk8
  have Hbw := hide (Hb.out.below H8.out (Nat.le_refl _))
  have Hbw' := hide (Hb'.out.below H8.out (Nat.le_refl _))
  clear hk8 hb8 H7 HA7 HR7
  have hst : (convert 22 9 (.slice A l c)).run Try.prog (w8.alloc (.cells #[.string ⟨k'.snap.toArray⟩, .slice R8 k'.recs.length c8] 34)) = .ok (.string ⟨p.toArray⟩) (w8.alloc (.cells #[.string ⟨k'.snap.toArray⟩, .slice R8 k'.recs.length c8] 34)) := str_run Hp.out (Hbw.out.fr (F := fun _ => False) ((Fr.refl _ _).alloc _) (fun _ _ h => h))
  have hbk := buildK (ByteArray.mk #[])
  go_upto_region 12 with (refine wpList_plain rfl (fun K hK => ?_); refine wp_buildSlice_cell 32 (.tmp 76) rfl (.string ⟨p.toArray⟩) rfl rfl 9 16 (.string ⟨#[]⟩) Try.underlying32 infoStr ?_; refine hK _ _ ?_)
  obtain ⟨wr, hwr⟩ : ∃ wr, wr = ((w8.alloc (.cells #[.string ⟨k'.snap.toArray⟩, .slice R8 k'.recs.length c8] 34)).alloc (.cells #[.string ⟨p.toArray⟩] 9)).alloc (.cells #[.string ⟨#[]⟩, .slice (some ⟨w8.heap.size + 1, 0, none⟩) 1 1] 34) := ⟨_, rfl⟩
  rw [← hwr]
  have hb0 : Blk wr w8.heap.size 34 #[.string ⟨k'.snap.toArray⟩, .slice R8 k'.recs.length c8] := by rw [hwr]; exact ((Blk.new _ _ _).alloc _).alloc _
  have hb2 : Blk wr (w8.heap.size + 1 + 1) 34 #[.string ⟨#[]⟩, .slice (some ⟨w8.heap.size + 1, 0, none⟩) 1 1] := by
    rw [hwr]
    have h := Blk.new ((w8.alloc (.cells #[.string ⟨k'.snap.toArray⟩, .slice R8 k'.recs.length c8] 34)).alloc (.cells #[.string ⟨p.toArray⟩] 9)) 34 #[.string ⟨#[]⟩, .slice (some ⟨w8.heap.size + 1, 0, none⟩) 1 1]
    simpa using h
  have hfr : Fr (fun _ => False) w8 wr := by rw [hwr]; exact (((Fr.refl _ _).alloc _).alloc _).alloc _
  have k8 : KRow wr R8 k'.recs.length c8 k'.recs := K8.out.fr hfr (fun _ _ h => h)
  have kp : KRow wr (some ⟨w8.heap.size + 1, 0, none⟩) 1 1 [p] := by
    rw [hwr]
    have h := krow_lit (w8.alloc (.cells #[.string ⟨k'.snap.toArray⟩, .slice R8 k'.recs.length c8] 34)) p
    simp only [World.size_alloc] at h
    exact h.fr (F := fun _ => False) ((Fr.refl _ _).alloc _) (fun _ _ h => h)
  have hbel : Below w.heap.size w wr := H8.out.trans (hfr.below (Nat.le_of_lt_succ (Nat.lt_succ_of_le H8.out.size)) (fun _ h => False.elim h))
  have hbq : Bytes wr B q := Hbw'.out.fr hfr (fun _ _ h => h)
  have B0 := hide hb0
  have B2 := hide hb2
  have KK := hide k8
  have KP := hide kp
  have HB := hide hbel
  have HQ := hide hbq
  clear hwr hb0 hb2 hfr k8 kp hbel hbq hst hbk K8 Hbw Hbw' H8 Hb Hb'
  rcases hk' with ⟨rfl, rfl⟩ | rfl
  · refine wp_region_planned (fun W => Below wr.heap.size wr W) 18 [(false, 0), (false, 1), (false, 2), (false, 3), (false, 4), (true, 5), (false, 6), (false, 7), (false, 8), (false, 9), (false, 10), (false, 11), (false, 12), (false, 13), (true, 14), (true, 15), (false, 16), (false, 17)] (by kernel_rfl) (by kernel_rfl) (fun _ _ d _ _ h => by cases d <;> exact h) (Below.refl _ _).drew ?_
    simp only [steps, List.getElem?_toArray, List.filterMap_cons, List.filterMap_nil, Option.map_some, List.getElem?_cons_zero, List.getElem?_cons_succ, List.drop_succ_cons, List.drop_zero]
    refine wpPlan_read rfl (fun W hW => (by go_simp; try with_reducible rfl)) ?_
    refine wpPlan_read rfl (fun W hW => (by go_simp; try with_reducible rfl)) ?_
    refine wpPlan_read rfl (fun W hW => (by go_simp; try with_reducible rfl)) ?_
    simp only [Act.put, List.setIfInBounds_toArray, List.set_cons_zero, List.set_cons_succ]
    refine wpPlan_read (v := .agg #[.string ⟨#[]⟩, .slice R8 1 c8]) rfl (fun W hW => (by
      have q0 := (B0.out.below hW (B0.out.lt)).cell 0
      have q1 := (B0.out.below hW (B0.out.lt)).cell 1
      go_simp)) ?_
    refine wpPlan_read (v := .agg #[.string ⟨#[]⟩, .slice (some ⟨w8.heap.size + 1, 0, none⟩) 1 1]) rfl (fun W hW => (by
      have q0 := (B2.out.below hW (B2.out.lt)).cell 0
      have q1 := (B2.out.below hW (B2.out.lt)).cell 1
      go_simp)) ?_
    simp only [Act.put, List.setIfInBounds_toArray, List.set_cons_zero, List.set_cons_succ]
    refine wpPlan_doesG rfl (fun K hK => ?_)
    refine wp_call_by 22 #[.agg #[.string ⟨#[]⟩, .slice R8 1 c8], .agg #[.string ⟨#[]⟩, .slice (some ⟨w8.heap.size + 1, 0, none⟩) 1 1]] (by kernel_rfl) (ksame_any [] [] R8 (some ⟨w8.heap.size + 1, 0, none⟩) 1 1 c8 1 [p] [p] wr.drew (KK.out.fr (F := fun _ => False) (Fr.refl _ _).drew (fun _ _ h => h)) (KP.out.fr (F := fun _ => False) (Fr.refl _ _).drew (fun _ _ h => h)) (by omega) (by omega)) ?_
    rintro e w9 ⟨rfl, hb9⟩
    have hs9 : Below wr.heap.size wr w9 := (Below.refl _ _).drew.trans hb9
    refine ⟨_, rfl, hK _ _ hs9 ?_⟩
    clear hK hb9
    rw [show sameB [] [] [p] [p] = true from decide_eq_true ⟨rfl, rfl⟩]
    simp only [Act.put, List.setIfInBounds_toArray, List.set_cons_zero, List.set_cons_succ]
    iterate 5 (refine wpPlan_read rfl (fun W hW => (by go_simp; try with_reducible rfl)) ?_)
    simp only [Act.put, List.setIfInBounds_toArray, List.set_cons_zero, List.set_cons_succ]
    iterate 3 (refine wpPlan_skip rfl ?_)
    iterate 2 (refine wpPlan_skipG rfl hs9 ?_)
    simp only [Act.put, List.setIfInBounds_toArray, List.set_cons_zero, List.set_cons_succ]
    iterate 2 (refine wpPlan_read rfl (fun W hW => (by go_simp; try with_reducible rfl)) ?_)
    refine wpPlan_nil ?_
    simp only [Act.put, List.setIfInBounds_toArray, List.set_cons_zero, List.set_cons_succ]
    have Hfin := hide (HB.out.trans (hs9.mono HB.out.size))
    clear hs9
    go_wp2
    go_ret
    exact ⟨rfl, Hfin.out⟩
  · refine wp_region_planned (fun W => Below wr.heap.size wr W) 18 [(false, 0), (false, 1), (false, 2), (false, 3), (false, 4), (true, 5), (false, 6), (false, 7), (false, 8), (false, 9), (false, 10), (false, 11), (false, 12), (false, 13), (true, 14), (true, 15), (false, 16), (false, 17)] (by kernel_rfl) (by kernel_rfl) (fun _ _ d _ _ h => by cases d <;> exact h) (Below.refl _ _).drew ?_
    simp only [steps, List.getElem?_toArray, List.filterMap_cons, List.filterMap_nil, Option.map_some, List.getElem?_cons_zero, List.getElem?_cons_succ, List.drop_succ_cons, List.drop_zero]
    refine wpPlan_read rfl (fun W hW => (by go_simp; try with_reducible rfl)) ?_
    refine wpPlan_read rfl (fun W hW => (by go_simp; try with_reducible rfl)) ?_
    refine wpPlan_read rfl (fun W hW => (by go_simp; try with_reducible rfl)) ?_
    simp only [Act.put, List.setIfInBounds_toArray, List.set_cons_zero, List.set_cons_succ]
    refine wpPlan_read (v := .agg #[.string ⟨#[]⟩, .slice R8 2 c8]) rfl (fun W hW => (by
      have q0 := (B0.out.below hW (B0.out.lt)).cell 0
      have q1 := (B0.out.below hW (B0.out.lt)).cell 1
      go_simp)) ?_
    refine wpPlan_read (v := .agg #[.string ⟨#[]⟩, .slice (some ⟨w8.heap.size + 1, 0, none⟩) 1 1]) rfl (fun W hW => (by
      have q0 := (B2.out.below hW (B2.out.lt)).cell 0
      have q1 := (B2.out.below hW (B2.out.lt)).cell 1
      go_simp)) ?_
    simp only [Act.put, List.setIfInBounds_toArray, List.set_cons_zero, List.set_cons_succ]
    refine wpPlan_doesG rfl (fun K hK => ?_)
    refine wp_call_by 22 #[.agg #[.string ⟨#[]⟩, .slice R8 2 c8], .agg #[.string ⟨#[]⟩, .slice (some ⟨w8.heap.size + 1, 0, none⟩) 1 1]] (by kernel_rfl) (ksame_any [] [] R8 (some ⟨w8.heap.size + 1, 0, none⟩) 2 1 c8 1 [p, q] [p] wr.drew (KK.out.fr (F := fun _ => False) (Fr.refl _ _).drew (fun _ _ h => h)) (KP.out.fr (F := fun _ => False) (Fr.refl _ _).drew (fun _ _ h => h)) (by omega) (by omega)) ?_
    rintro e w9 ⟨rfl, hb9⟩
    have hs9 : Below wr.heap.size wr w9 := (Below.refl _ _).drew.trans hb9
    refine ⟨_, rfl, hK _ _ hs9 ?_⟩
    clear hK hb9
    rw [show sameB [] [] [p, q] [p] = false from decide_eq_false (fun h => by have := congrArg List.length h.2; simp at this)]
    simp only [Act.put, List.setIfInBounds_toArray, List.set_cons_zero, List.set_cons_succ]
    refine wpPlan_read rfl (fun W hW => (by go_simp; try with_reducible rfl)) ?_
    iterate 2 (refine wpPlan_skip rfl ?_)
    iterate 2 (refine wpPlan_read rfl (fun W hW => (by go_simp; try with_reducible rfl)) ?_)
    simp only [Act.put, List.setIfInBounds_toArray, List.set_cons_zero, List.set_cons_succ]
    refine wpPlan_read (v := .agg #[.string ⟨#[]⟩, .slice R8 2 c8]) rfl (fun W hW => (by
      have q0 := (B0.out.below hW (B0.out.lt)).cell 0
      have q1 := (B0.out.below hW (B0.out.lt)).cell 1
      go_simp)) ?_
    refine wpPlan_read (v := .agg #[.string ⟨#[]⟩, .slice (some ⟨w8.heap.size + 1, 0, none⟩) 1 1]) rfl (fun W hW => (by
      have q0 := (B2.out.below hW (B2.out.lt)).cell 0
      have q1 := (B2.out.below hW (B2.out.lt)).cell 1
      go_simp)) ?_
    refine wpPlan_read rfl (fun W hW => (by go_simp; try with_reducible rfl)) ?_
    simp only [Act.put, List.setIfInBounds_toArray, List.set_cons_zero, List.set_cons_succ]
    refine wpPlan_doesG rfl (fun K hK => ?_)
    refine wp_call_by 17 #[.agg #[.string ⟨#[]⟩, .slice (some ⟨w8.heap.size + 1, 0, none⟩) 1 1], .slice B m d] (by kernel_rfl) (kwith_any [] (some ⟨w8.heap.size + 1, 0, none⟩) 1 1 [p] B m d q w9 (KP.out.fr (Fr.of_below hs9) (fun _ _ h => h)) (by omega) Hq.out (HQ.out.fr (F := fun _ => False) (Fr.of_below hs9) (fun _ _ h => h))) ?_
    rintro e w10 ⟨R10, c10, rfl, hk10, _, hb10⟩
    have hs10 : Below wr.heap.size wr w10 := hs9.trans (hb10.mono hs9.size)
    refine ⟨_, rfl, hK _ _ hs10 ?_⟩
    clear hK hb10
    simp only [Act.put, List.setIfInBounds_toArray, List.set_cons_zero, List.set_cons_succ]
    refine wpPlan_doesG rfl (fun K hK => ?_)
    refine wp_call_by 22 #[.agg #[.string ⟨#[]⟩, .slice R8 2 c8], .agg #[.string ⟨#[]⟩, .slice R10 2 c10]] (by kernel_rfl) (ksame_any [] [] R8 R10 2 2 c8 c10 [p, q] [p, q] w10 (KK.out.fr (Fr.of_below hs10) (fun _ _ h => h)) hk10 (by omega) (by omega)) ?_
    rintro e w11 ⟨rfl, hb11⟩
    have hs11 : Below wr.heap.size wr w11 := hs10.trans (hb11.mono hs10.size)
    refine ⟨_, rfl, hK _ _ hs11 ?_⟩
    clear hK hb11 hk10
    rw [show sameB [] [] [p, q] [p, q] = true from decide_eq_true ⟨rfl, rfl⟩]
    simp only [Act.put, List.setIfInBounds_toArray, List.set_cons_zero, List.set_cons_succ]
    iterate 2 (refine wpPlan_read rfl (fun W hW => (by go_simp; try with_reducible rfl)) ?_)
    refine wpPlan_nil ?_
    simp only [Act.put, List.setIfInBounds_toArray, List.set_cons_zero, List.set_cons_succ]
    have Hfin := hide (HB.out.trans (hs11.mono HB.out.size))
    clear hs9 hs10 hs11
    go_wp2
    go_ret
    exact ⟨rfl, Hfin.out⟩

theorem u8_nat {x : Int} (h : (Lit.int IntKind.u8 x).wf = true) : ∃ n : Nat, x = n ∧ n ≤ 255 := by
  simp [Lit.wf, IntKind.min, IntKind.max, IntKind.signed, IntKind.bits] at h
  exact ⟨x.toNat, by omega, by omega⟩
theorem torn_walk (A B : Option Addr) (c d : Nat) (p q : List UInt8) (x y : Int) (w : World) (hb : Bytes w A p) (hb' : Bytes w B q) (hx : (Lit.int IntKind.u8 x).wf = true) (hy : (Lit.int IntKind.u8 y).wf = true) :
    Calls Try.prog 11 #[.slice A p.length c, .slice B q.length d, .int .u8 x, .int .u8 y] w fun e w' => e = .returned (.bool true) ∧ Below w.heap.size w w' := by
  by_cases h : 300 < p.length ∨ 300 < q.length
  · exact torn_short A B _ c _ d _ _ w h
  · obtain ⟨n, rfl, hn⟩ := u8_nat hx
    obtain ⟨k, rfl, hk⟩ := u8_nat hy
    exact torn_any A B _ c _ d n k p q w rfl rfl (by omega) (by omega) hn hk hb hb'

set_option maxRecDepth 100000 in
theorem ledgerTorn_lifted (os : Os) (started : os.Started) (H : Type) (enc : TypeId × Value → H) :
    ReturnsInHanded {} Try.checked os 11 .any (Rows.ledgerTornSpec.pre6 enc Try.prog Try.f11 Rows.ledgerTornRow.domain false) (Rows.ledgerTornSpec.post enc Try.prog Try.f11 false true false false) := by
  refine returnsInHanded_of_change (C := Try.checked) own0 started (by kernel_rfl) Try.func11
    (ChangeSpec.witness6 (enc := enc) (C := Try.checked) false ⟨#[], #[.slice none 0 0, .slice none 0 0, .int .u8 0, .int .u8 0], []⟩ 8 (by kernel_rfl) (by kernel_rfl) (by kernel_rfl) (by kernel_rfl)) ?_
  intro W base args ds gs before hval0 hW _ _
  have hval : ∀ (j : Nat) t v, Try.f11.params[j]? = some t → args[j]? = some v → Value.okWide Try.prog W .any base t v := hval0
  have hW' := hW
  obtain ⟨p, q, hA0, hV, rfl, hfz, hnd⟩ := hW
  have hA : DataW.TrodAll enc Try.prog W 0 (fun _ => true) true Try.f11.params.toList args.toList ds p := hA0
  rw [Try.params11] at hA hval
  obtain ⟨v0, v1, v2, v3, d0, d1, d2, d3, p0, p1, p2, p3, rfl, rfl, rfl, h0, h1, h2, h3⟩ := trodAll_four hA
  obtain ⟨rfl, rfl⟩ := trodVars_none hV
  obtain ⟨A0, c0, l0, rfl, b0, m0⟩ := open_bytes Try.underlying22 Try.underlying5 (by kernel_rfl) (hval 0 22 v0 rfl rfl) h0
  obtain ⟨A1, c1, l1, rfl, b1, m1⟩ := open_bytes Try.underlying22 Try.underlying5 (by kernel_rfl) (hval 1 22 v1 rfl rfl) h1
  obtain ⟨x2, rfl, rfl, rfl, w2⟩ := open_int Try.underlying5 (hval 2 5 v2 rfl rfl) h2
  obtain ⟨x3, rfl, rfl, rfl, w3⟩ := open_int Try.underlying5 (hval 3 5 v3 rfl rfl) h3
  clear hA0 hval0
  refine (torn_walk A0 A1 c0 c1 l0 l1 x2 x3 W b0 b1 w2 w3).mono fun e W' ⟨he, hb⟩ => ?_
  subst he
  exact ⟨_, rfl, law_close laid0 Try.underlying4 rfl rfl (by rw [Try.params11]; decide +kernel) hW' (fun gs hg => by subst hg; rfl) hb⟩

theorem ledgerTorn_holds : Rows.LedgerTornSaid :=
  OpenClaim.holds_of_wide 11 Try.f11 rfl rfl rfl rfl rfl rfl rfl ⟨rfl, rfl, rfl, rfl, rfl⟩ rfl rfl rfl rfl rfl (by kernel_rfl) Try.func11 (by kernel_rfl)
    (of_decide_eq_true (by kernel_rfl)) (by unfold Func.isWrapper; first | (rw [if_pos (by decide +kernel)]; kernel_rfl) | (rw [if_neg (by decide +kernel)]; exact ⟨rfl, rfl⟩))
    (fun os started H enc _ => ledgerTorn_lifted os started H enc)

end Go.Proofs.Ytehddmaapfofnaa
