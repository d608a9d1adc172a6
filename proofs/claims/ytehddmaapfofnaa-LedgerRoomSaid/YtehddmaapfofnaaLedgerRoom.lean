/-
  Records take the room that is said, up to the last byte: LedgerRoom answers true for any count and sizes; no condition.
-/
import Derived.Test.YtehddmaapfofnaaLwC
import Derived.Test.YtehddmaapfofnaaLaw
import Derived.Deep.CutRange
import Derived.Deep.CutBlock
namespace Go.Proofs.Ytehddmaapfofnaa
open Go.RowKit Go.ChangeShapes Go.WideShapes Go.ChangeAt

def RmSt (w0 : World) (lb b kb bl : Nat) (left : Value) (j : Nat) (wr : World) : Prop :=
  ∃ F L D k, LOn w0 wr lb b F L D ∧ St D L k ∧ L.at_ = 1 ∧ L.bl = bl ∧ D.n = 2 * bl + 1 ∧ D.fuse = 0 ∧ D.ops ≤ 6000 * j ∧ left = .int .i64 ((L.room : Int) - (k.need : Int)) ∧ KVar w0 wr kb k
def RmRel (w0 : World) (lb b kb bl : Nat) (left i : Value) (wr : World) : Prop := ∃ j : Nat, j ≤ 40 ∧ i = .int .i64 j ∧ RmSt w0 lb b kb bl left j wr
def RmDone (w0 : World) (lb b kb bl : Nat) (left : Value) (wr : World) : Prop := RmSt w0 lb b kb bl left 40 wr
theorem RmSt.done {w0 : World} {lb b kb bl : Nat} {left : Value} {j : Nat} {wr : World} (h : RmSt w0 lb b kb bl left j wr) (hj : j ≤ 40) : RmDone w0 lb b kb bl left wr := by
  obtain ⟨F, L, D, k, h1, h2, h3, h4, h5, h6, h7, h8, h9⟩ := h
  exact ⟨F, L, D, k, h1, h2, h3, h4, h5, h6, by omega, h8, h9⟩

set_option maxHeartbeats 8000000 in
theorem lroom_any (cnt : Nat) (A : Option Addr) (c : Nat) (sz : List UInt8) (w : World) (hc : cnt ≤ 255) (hb : Bytes w A sz) :
    Calls Try.prog 9 #[.int .u8 (cnt : Int), .slice A sz.length c] w fun e w' => e = .returned (.bool true) ∧ Below w.heap.size w w' := by
  have Hb := hide hb
  clear hb
  obtain ⟨len, hlen⟩ : ∃ n, n = sz.length := ⟨_, rfl⟩
  rw [← hlen]
  have Hlen := hide hlen
  clear hlen
  go_enter Try.func9, Try.ntmps9
  go_wp2_with fail
  refine (awake_any w).mono ?_
  rintro e w1 ⟨rfl, hb1⟩
  have Hb1 := hide hb1
  clear hb1
  go_wp2_with fail
  obtain ⟨bl, hbl, hbl2, hbl3⟩ : ∃ bl : Nat, 4 + 2 * ((cnt : Int) % 10) = ((2 * bl : Nat) : Int) ∧ 2 ≤ bl ∧ bl ≤ 11 := ⟨2 + cnt % 10, by omega, by omega, by omega⟩
  rw [hbl]
  clear hbl
  refine (lopen_any bl w w1 Hb1.out hbl2 (by omega)).mono ?_
  rintro e w2 ⟨lb, b, F0, rfl, h0, hb2, _⟩
  have s0 := (lies_new (2 * bl + 1) 1 bl hbl2 (by omega) (by omega)).opened
  have hlf := h0.left s0
  have Hlf := hide hlf
  have H0 := hide h0
  have S0 := hide s0
  clear h0 s0 hb2 Hb1 hlf
  go_wp2_with fail
  refine Hlf.out.mono ?_
  rintro e w3 ⟨rfl, n3, rfl⟩
  clear Hlf
  obtain ⟨lv, hlv⟩ : ∃ lv : Int, lv = ((Lg.opened 1 bl 0 ⟨[], []⟩).room : Int) - ((⟨[], []⟩ : Kp).need : Int) := ⟨_, rfl⟩
  rw [← hlv]
  have Hlv := hide hlv
  clear hlv
  go_upto_block 0 with fail
  obtain ⟨kb, hkb⟩ : ∃ kb, kb = w2.heap.size := ⟨_, rfl⟩
  obtain ⟨wk, hwk⟩ : ∃ wk, wk = (w2.drewN n3).alloc (.cells #[.string ⟨#[]⟩, .slice none 0 0] 34) := ⟨_, rfl⟩
  have hkv : KVar w wk kb ⟨[], []⟩ := by
    rw [hwk, hkb]
    exact ⟨⟨none, 0, Blk.new (w2.drewN n3) _ _, KRow.nil _, fun j h => absurd h At.none_not⟩, H0.out.below.size⟩
  have hst : RmSt w lb b kb bl (.int .i64 lv) 0 wk := by
    refine ⟨F0, _, _, _, ?_, S0.out, rfl, rfl, rfl, rfl, Nat.le_refl _, by rw [Hlv.out], hkv⟩
    rw [hwk]
    exact (H0.out.drewN n3).alloc _
  have Hst := hide hst
  rw [← hkb, ← hwk]
  clear hst hkv hwk hkb H0 S0 Hlv
  go_cut [8, 10, 11, 12] from 34 to 73 (fun left _ _ _ w' => RmDone w lb b kb bl left w')
  case first =>
    go_wp2_with fail
    go_loopw [8, 10, 11, 12] (fun left i _ _ wr => RmRel w lb b kb bl left i wr) (fun _ i _ _ _ => 40 - (intOf i).toNat)
    case atStart => exact ⟨0, by omega, rfl, Hst.out⟩
    case round =>
      obtain ⟨j, hj, rfl, hst⟩ := hrel
      by_cases hl : j < len
      · by_cases h40 : j < 40
        · obtain ⟨g, o, rfl, hrg⟩ : ∃ g o, A = some ⟨g, o, none⟩ ∧ w.rangeAt g o (B8s sz) := by
            rcases Hb.out with h | h
            · have := Hlen.out; rw [h] at this; simp at this; omega
            · exact h
          obtain ⟨x, hx⟩ : ∃ x, sz[j]? = some x := ⟨_, List.getElem?_eq_getElem (by rw [← Hlen.out]; exact hl)⟩
          obtain ⟨F, L, D, k, h1, h2, h3, h4, h5, h6, h7, rfl, h9⟩ := hst
          obtain ⟨n, hn⟩ : ∃ n, n = x.toNat := ⟨_, rfl⟩
          have hcx : wr.cell? ⟨g, o + j, none⟩ = some (.int .u8 (n : Int)) := by
            have hc0 := hrg j (B8 x) (by rw [B8s, List.getElem?_map, hx]; rfl)
            rw [h1.below.cell (p := ⟨g, o + j, none⟩) (World.block_lt_of_cell? w (a := ⟨g, o + j, none⟩) hc0), hc0, hn]
            rfl
          have hn255 : n ≤ 255 := by have := x.toNat_lt; omega
          have hmk := mk_run .u8 .u8 n (by omega)
          have H1 := hide h1
          have H2 := hide h2
          have H9 := hide h9
          clear hrg h1 h2 h9 hx hn
          have Ha := hide (H1.out.alloc (.cells (B8s (List.replicate n 0)).toArray 5))
          have hrl : (List.replicate n (0 : UInt8)).length = n := List.length_replicate
          have Hrl := hide hrl
          have Ho := hide (own_new wr (List.replicate n 0) n hrl (by omega))
          have Hk := hide (H9.out.same ((Fr.refl _ _).alloc (.cells (B8s (List.replicate n 0)).toArray 5)))
          clear hrl H1 H9
          go_wp2_with fail
          have hrm := lg_room_le H2.out
          have hnd := H2.out.need_le
          have hcl := k.cnt_le
          by_cases hfit : (n : Int) + 8 ≤ (L.room : Int) - (k.need : Int)
          · refine (Ha.out.append_ok H2.out (by omega) h6 _ n n _ Hrl.out Ho.out.bytes (by omega) (by rw [Kp.need_with, Hrl.out]; omega)).mono ?_
            rintro e w4 ⟨L1, D1, hd1, F1, rfl, h14, hf4, _⟩
            have Ho4 := hide (Ha.out.ownb hf4 Ho.out)
            have hk4 := Hk.out.call Ha.out hf4
            obtain ⟨A4, c4, hb4, hr4, hA4⟩ := hk4.ex
            have q0 := hb4.cell 0
            have q1 := hb4.cell 1
            have z0 := hb4.frozen 0
            have z1 := hb4.frozen 1
            have H4 := hide h14
            have K4 := hide hd1
            have Hb4 := hide hb4
            have Hr4 := hide hr4
            have Hkb := hide hk4.kb
            clear h14 hd1 hf4 hk4 hb4 hr4 hA4 hmk hcx Ha Ho Hk
            go_wp2_with (go_at_call 30; refine (need_any _ _ (by omega) (by omega)).mono ?_; rintro e w5 ⟨rfl, rfl⟩)
            refine (kwith_any k.snap A4 k.recs.length c4 k.recs (some ⟨wr.heap.size, 0, none⟩) n n (List.replicate n 0) w4 Hr4.out (by omega) Hrl.out Ho4.out.bytes).mono ?_
            rintro e w5 ⟨A5, c5, rfl, hk5, hA5, hb5⟩
            have hf5 : Fr (fun _ => False) w4 w5 := Fr.of_below hb5
            have q0 := (Hb4.out.fr hf5 (fun h => h)).cell 0
            have q1 := (Hb4.out.fr hf5 (fun h => h)).cell 1
            have z0 := (Hb4.out.fr hf5 (fun h => h)).frozen 0
            have z1 := (Hb4.out.fr hf5 (fun h => h)).frozen 1
            rw [show (k.recs ++ [List.replicate n (0 : UInt8)]).length = k.recs.length + 1 by simp] at hk5
            have hbk5 := Hb4.out.fr hf5 (fun h => h)
            have hl6 := (H4.out.below_ hb5).putK hbk5 Hkb.out (.string ⟨k.snap.toArray⟩) (.slice A5 (k.recs.length + 1) c5)
            have hk6 := KVar.put (k' := k.with_ (List.replicate n 0)) hbk5 Hkb.out A5 (k.recs.length + 1) c5 (by simp [Kp.with_]) hk5 (fun i hi => by have := hA5 i hi; have := H4.out.below.size; omega)
            have hlf := hl6.left K4.out.st
            rw [show ((L1.room : Int) - ((k.with_ (List.replicate n 0)).need : Int)) = (L.room : Int) - (k.need : Int) - ((n : Int) + 8) by rw [K4.out.room_eq, Kp.need_with, Hrl.out]; omega] at hlf
            have H6 := hide hl6
            have K6 := hide hk6
            have Hlf := hide hlf
            clear hk5 hA5 hb5 hf5 hbk5 hl6 hk6 hlf H4 Hb4 Hr4 Ho4 Hkb
            go_wp2_with fail
            refine Hlf.out.mono ?_
            rintro e w7 ⟨rfl, n7, rfl⟩
            clear Hlf q0 q1 z0 z1
            have hst : RmSt w lb b kb bl (.int .i64 ((L.room : Int) - (k.need : Int) - ((n : Int) + 8))) (j + 1) ((((w5.setCell ⟨kb, 0, none⟩ (.string ⟨k.snap.toArray⟩)).setCell ⟨kb, 1, none⟩ (.slice A5 (k.recs.length + 1) c5))).drewN n7) := by
              refine ⟨F1, L1, D1, _, H6.out.drewN n7, K4.out.st, by rw [K4.out.at_, h3], by rw [K4.out.bl, h4], by rw [K4.out.n, h5], K4.out.fuse0 h6, by have := K4.out.ops; omega, ?_, K6.out.same ((Fr.refl _ _).drewN n7)⟩
              congr 1
              rw [K4.out.room_eq, Kp.need_with, Hrl.out]
              omega
            have Hst7 := hide hst
            clear hst
            go_wp2
            go_roundw
            case rel => exact ⟨j + 1, by omega, by go_num, Hst7.out⟩
            case measure => simp [intOf]; omega
          · have hfull : L.room < (k.with_ (List.replicate n 0)).need := by rw [Kp.need_with, Hrl.out]; omega
            refine (Ha.out.append_full H2.out (by omega) h6 _ n n _ Hrl.out Ho.out.bytes (by omega) hfull).mono ?_
            rintro e w4 ⟨F1, rfl, h14, hf4, _⟩
            have hk4 := Hk.out.call Ha.out hf4
            have hlf := h14.left H2.out
            have H4 := hide h14
            have K4 := hide hk4
            have Hlf := hide hlf
            have hfit' : (L.room : Int) - (k.need : Int) < (n : Int) + 8 := by omega
            clear h14 hf4 hk4 hlf hmk hcx Ha Ho Hk hfull
            go_wp2_with (first
              | (go_at_call 30; refine (need_any _ _ (by omega) (by omega)).mono ?_; rintro e w5 ⟨rfl, rfl⟩)
              | (go_at_call 25; refine Hlf.out.mono ?_; rintro e w5 ⟨rfl, n7, rfl⟩))
            go_roundw
            case rel => exact ⟨j + 1, by omega, by go_num, F1, L, D, k, H4.out.drewN _, H2.out, h3, h4, h5, h6, by omega, rfl, K4.out.same ((Fr.refl _ _).drewN _)⟩
            case measure => simp [intOf]; omega
        · obtain rfl : j = 40 := by omega
          have Hd := hide (hst.done (by omega))
          clear hst
          go_wp2
          go_meet
          case rel => exact Hd.out
      · have Hd := hide (hst.done hj)
        clear hst
        go_wp2
        go_meet
        case rel => exact Hd.out
  case rest =>
    obtain ⟨F, L, D, k, h1, h2, h3, h4, h5, h6, h7, hleft, h9⟩ := hcut
    have hrm := lg_room_le h2
    have hnd := h2.need_le
    have hrb : L.room ≤ 640 := by unfold Lg.room; rw [h4]; omega
    obtain ⟨lf, hlf⟩ : ∃ lf : Nat, (lf : Int) = (L.room : Int) - (k.need : Int) := ⟨L.room - k.need, by omega⟩
    rw [← hlf] at hleft
    subst hleft
    have Hlf := hide hlf
    have hlf640 : lf ≤ 640 := by omega
    clear hlf
    have H1 := hide h1
    have H2 := hide h2
    have H9 := hide h9
    clear h1 h2 h9
    by_cases h8 : 8 ≤ lf
    · obtain ⟨m, rfl⟩ : ∃ m, lf = m + 8 := ⟨lf - 8, by omega⟩
      have hm : (m : Int) + 8 - 8 = (m : Int) := by omega
      have hmk := mk_run .i64 .i64 m (by omega)
      have Ha := hide (H1.out.alloc (.cells (B8s (List.replicate m 0)).toArray 5))
      have hrl : (List.replicate m (0 : UInt8)).length = m := List.length_replicate
      have Hrl := hide hrl
      have Ho := hide (own_new wc (List.replicate m 0) m hrl (by omega))
      have Hk := hide (H9.out.same ((Fr.refl _ _).alloc (.cells (B8s (List.replicate m 0)).toArray 5)))
      have hneed : (k.with_ (List.replicate m 0)).need = L.room := by have := Hlf.out; rw [Kp.need_with, hrl]; omega
      have Hneed := hide hneed
      have hcl := k.cnt_le
      clear hrl H1 H9 hneed
      go_wp2_with fail
      refine (Ha.out.append_ok H2.out (by omega) h6 _ m m _ Hrl.out Ho.out.bytes (by omega) (by rw [Hneed.out]; exact Nat.le_refl _)).mono ?_
      rintro e w4 ⟨L1, D1, hd1, F1, rfl, h14, hf4, _⟩
      have Ho4 := hide (Ha.out.ownb hf4 Ho.out)
      have hk4 := Hk.out.call Ha.out hf4
      have hlf4 := h14.left hd1.st
      rw [show ((L1.room : Int) - ((k.with_ (List.replicate m 0)).need : Int)) = 0 by rw [hd1.room_eq, Hneed.out]; omega] at hlf4
      have H4 := hide h14
      have K4 := hide hd1
      have V4 := hide hk4
      have Hlf4 := hide hlf4
      clear h14 hd1 hf4 hk4 hlf4 hmk Ha Ho Hk
      go_wp2_with fail
      refine Hlf4.out.mono ?_
      rintro e w5 ⟨rfl, n5, rfl⟩
      go_wp2_with fail
      have hf5 : Fr (fun _ => False) w4 (w4.drewN n5) := (Fr.refl _ _).drewN n5
      refine ((H4.out.drewN n5).append_full K4.out.st (by have := K4.out.ops; omega) (K4.out.fuse0 h6) none 0 0 [] rfl (.inl rfl) (by omega) (by rw [Kp.need_with, Hneed.out, K4.out.room_eq]; omega)).mono ?_
      rintro e w6 ⟨F6, rfl, h16, hf6, _⟩
      have hk6 := (V4.out.same hf5).call (H4.out.drewN n5) hf6
      have Ho6 := hide ((H4.out.drewN n5).ownb hf6 (Ho4.out.drewN n5))
      obtain ⟨A6, c6, hb6, hr6, _⟩ := hk6.ex
      have q0 := hb6.cell 0
      have q1 := hb6.cell 1
      have Hkb := hide hk6.kb
      have Hb6 := hide hb6
      have Hr6 := hide hr6
      have H6 := hide h16
      clear hf5 hf6 hk6 hb6 hr6 h16 H4 V4 Hlf4 Ho4
      go_wp2_with fail
      refine (kwith_any k.snap A6 k.recs.length c6 k.recs (some ⟨wc.heap.size, 0, none⟩) m m (List.replicate m 0) w6 Hr6.out (by omega) Hrl.out Ho6.out.bytes).mono ?_
      rintro e w7 ⟨A7, c7, rfl, hk7, hA7, hb7⟩
      have hf7 : Fr (fun _ => False) w6 w7 := Fr.of_below hb7
      have q0 := (Hb6.out.fr hf7 (fun h => h)).cell 0
      have q1 := (Hb6.out.fr hf7 (fun h => h)).cell 1
      have z0 := (Hb6.out.fr hf7 (fun h => h)).frozen 0
      have z1 := (Hb6.out.fr hf7 (fun h => h)).frozen 1
      rw [show (k.recs ++ [List.replicate m (0 : UInt8)]).length = k.recs.length + 1 by simp] at hk7
      have hbk7 := Hb6.out.fr hf7 (fun h => h)
      obtain ⟨w8, hw8⟩ : ∃ w8, w8 = (w7.setCell ⟨kb, 0, none⟩ (.string ⟨k.snap.toArray⟩)).setCell ⟨kb, 1, none⟩ (.slice A7 (k.recs.length + 1) c7) := ⟨_, rfl⟩
      obtain ⟨k8, hk8⟩ : ∃ k8, k8 = k.with_ (List.replicate m 0) := ⟨_, rfl⟩
      have H8 := hide (show LOn w w8 lb b F6 L1 D1 by rw [hw8]; exact (H6.out.below_ hb7).putK hbk7 Hkb.out _ _)
      have K8 := hide (show St D1 L1 k8 by rw [hk8]; exact K4.out.st)
      have V8 := hide (show KVar w w8 kb k8 by
        rw [hw8, hk8]
        exact KVar.put (k' := k.with_ (List.replicate m 0)) hbk7 Hkb.out A7 (k.recs.length + 1) c7 (by simp [Kp.with_]) hk7 (fun i hi => by have := hA7 i hi; have := H6.out.below.size; omega))
      have A8 := hide (show L1.at_ = 1 by rw [K4.out.at_, h3])
      have B8_ := hide (show L1.bl = bl by rw [K4.out.bl, h4])
      have Hw8 := hide hw8
      clear hk7 hA7 hb7 hf7 hbk7 H2 h3 h4 h5 h6 h7 hw8 hk8 H6 K4 Hb6 Hr6 Ho6 Hkb Hneed Hlf hm
      have hl8 := (K8.out).lies
      rw [A8.out, B8_.out] at hl8
      have hop := open_lies (w0 := w) hl8 H8.out.disk H8.out.below H8.out.own
      rw [show ((2 * bl : Nat) : Int) = 2 * (bl : Int) by omega] at hop
      have Hop := hide hop
      clear hl8 hop
      go_wp2_with fail
      rw [← Hw8.out]
      refine Hop.out.mono ?_
      rintro e w9 ⟨lb2, A9, c9, R9, d9, rfl, hA9, hR9, h9, _, hb9, _⟩
      have hf9 : Fr (fun _ => False) w8 w9 := Fr.of_below hb9
      have hk9 := V8.out.same hf9
      obtain ⟨AK, cK, hbK, hrK, _⟩ := hk9.ex
      have hc9 : 8 * k8.recs.length ≤ k8.need := k8.cnt_le
      have hn9 := K8.out.need_le
      have hrm9 := lg_room_le K8.out
      have hrl9 : k8.recs.length ≤ 1000000000 := by omega
      have Hrl9 := hide hrl9
      have HA9 := hide hA9
      have HR9 := hide hR9
      have HbK := hide hbK
      have HrK := hide hrK
      have HB9 := hide h9.below
      clear hf9 hk9 hbK hrK hA9 hR9 h9 hb9 hc9 hn9 hrm9 hrl9 Hop H8 K8 V8 A8 B8_
      go_upto_region 27 with fail
      refine wp_region_planned (fun W => Below w9.heap.size w9 W) 9 [(false, 0), (false, 1), (false, 2), (false, 3), (false, 4), (false, 6), (true, 5), (true, 7), (false, 8)] (by kernel_rfl) (by kernel_rfl) (fun _ _ d _ _ h => by cases d <;> exact h) (Below.refl _ _).drew ?_
      simp only [steps, List.getElem?_toArray, List.filterMap_cons, List.filterMap_nil, Option.map_some, List.getElem?_cons_zero, List.getElem?_cons_succ, List.drop_succ_cons, List.drop_zero]
      iterate 5 (refine wpPlan_read rfl (fun W hW => (by go_simp; try with_reducible rfl)) ?_)
      refine wpPlan_read (v := .agg #[.string ⟨k8.snap.toArray⟩, .slice AK k8.recs.length cK]) rfl (fun W hW => (by
        have q0 := (HbK.out.below hW (HbK.out.lt)).cell 0
        have q1 := (HbK.out.below hW (HbK.out.lt)).cell 1
        go_simp)) ?_
      simp only [Act.put, List.setIfInBounds_toArray, List.set_cons_zero, List.set_cons_succ]
      refine wpPlan_doesG rfl (fun K hK => ?_)
      refine wp_call_by 23 #[.slice A9 k8.snap.length c9, .slice R9 k8.recs.length d9] (by kernel_rfl) (kof_any A9 _ c9 k8.snap w8.heap.size R9 k8.recs.length d9 k8.recs w9.drew rfl (HA9.out.fr (F := fun _ => False) (Fr.refl _ _).drew (fun _ _ h => h)) (HR9.out.fr (F := fun _ => False) (Fr.refl _ _).drew (fun _ h => False.elim h)) Hrl9.out) ?_
      rintro e w10 ⟨R10, c10, rfl, hk10, _, hb10⟩
      have hs10 : Below w9.heap.size w9 w10 := (Below.refl _ _).drew.trans hb10
      refine ⟨_, rfl, hK _ _ hs10 ?_⟩
      clear hK hb10
      simp only [Act.put, List.setIfInBounds_toArray, List.set_cons_zero, List.set_cons_succ]
      refine wpPlan_doesG rfl (fun K hK => ?_)
      refine wp_call_by 22 #[.agg #[.string ⟨k8.snap.toArray⟩, .slice R10 k8.recs.length c10], .agg #[.string ⟨k8.snap.toArray⟩, .slice AK k8.recs.length cK]] (by kernel_rfl) (ksame_any k8.snap k8.snap R10 AK _ _ c10 cK k8.recs k8.recs w10 hk10 (HrK.out.fr (Fr.of_below hs10) (fun _ _ h => h)) Hrl9.out Hrl9.out) ?_
      rintro e w11 ⟨rfl, hb11⟩
      have hs11 : Below w9.heap.size w9 w11 := hs10.trans (hb11.mono hs10.size)
      refine ⟨_, rfl, hK _ _ hs11 ?_⟩
      clear hK hb11 hk10
      rw [show sameB k8.snap k8.snap k8.recs k8.recs = true from decide_eq_true ⟨rfl, rfl⟩]
      simp only [Act.put, List.setIfInBounds_toArray, List.set_cons_zero, List.set_cons_succ]
      refine wpPlan_read rfl (fun W hW => (by go_simp; try with_reducible rfl)) ?_
      refine wpPlan_nil ?_
      simp only [Act.put, List.setIfInBounds_toArray, List.set_cons_zero, List.set_cons_succ]
      have Hfin := hide (HB9.out.trans (hs11.mono HB9.out.size))
      clear hs10 hs11
      go_wp2
      go_ret
      exact ⟨rfl, Hfin.out⟩
    · obtain ⟨w8, hw8⟩ : ∃ w8, w8 = wc := ⟨_, rfl⟩
      obtain ⟨k8, hk8⟩ : ∃ k8, k8 = k := ⟨_, rfl⟩
      have H8 := hide (show LOn w w8 lb b F L D by rw [hw8]; exact H1.out)
      have K8 := hide (show St D L k8 by rw [hk8]; exact H2.out)
      have V8 := hide (show KVar w w8 kb k8 by rw [hw8, hk8]; exact H9.out)
      have A8 := hide h3
      have B8_ := hide h4
      rw [← hw8]
      clear H1 H2 H9 h3 h4 h5 h6 h7 hw8 hk8
      have hl8 := (K8.out).lies
      rw [A8.out, B8_.out] at hl8
      have hop := open_lies (w0 := w) hl8 H8.out.disk H8.out.below H8.out.own
      rw [show ((2 * bl : Nat) : Int) = 2 * (bl : Int) by omega] at hop
      have Hop := hide hop
      clear hl8 hop
      go_wp2_with fail
      refine Hop.out.mono ?_
      rintro e w9 ⟨lb2, A9, c9, R9, d9, rfl, hA9, hR9, h9, _, hb9, _⟩
      have hf9 : Fr (fun _ => False) w8 w9 := Fr.of_below hb9
      have hk9 := V8.out.same hf9
      obtain ⟨AK, cK, hbK, hrK, _⟩ := hk9.ex
      have hc9 : 8 * k8.recs.length ≤ k8.need := k8.cnt_le
      have hn9 := K8.out.need_le
      have hrm9 := lg_room_le K8.out
      have hrl9 : k8.recs.length ≤ 1000000000 := by omega
      have Hrl9 := hide hrl9
      have HA9 := hide hA9
      have HR9 := hide hR9
      have HbK := hide hbK
      have HrK := hide hrK
      have HB9 := hide h9.below
      clear hf9 hk9 hbK hrK hA9 hR9 h9 hb9 hc9 hn9 hrm9 hrl9 Hop H8 K8 V8 A8 B8_
      go_upto_region 27 with fail
      refine wp_region_planned (fun W => Below w9.heap.size w9 W) 9 [(false, 0), (false, 1), (false, 2), (false, 3), (false, 4), (false, 6), (true, 5), (true, 7), (false, 8)] (by kernel_rfl) (by kernel_rfl) (fun _ _ d _ _ h => by cases d <;> exact h) (Below.refl _ _).drew ?_
      simp only [steps, List.getElem?_toArray, List.filterMap_cons, List.filterMap_nil, Option.map_some, List.getElem?_cons_zero, List.getElem?_cons_succ, List.drop_succ_cons, List.drop_zero]
      iterate 5 (refine wpPlan_read rfl (fun W hW => (by go_simp; try with_reducible rfl)) ?_)
      refine wpPlan_read (v := .agg #[.string ⟨k8.snap.toArray⟩, .slice AK k8.recs.length cK]) rfl (fun W hW => (by
        have q0 := (HbK.out.below hW (HbK.out.lt)).cell 0
        have q1 := (HbK.out.below hW (HbK.out.lt)).cell 1
        go_simp)) ?_
      simp only [Act.put, List.setIfInBounds_toArray, List.set_cons_zero, List.set_cons_succ]
      refine wpPlan_doesG rfl (fun K hK => ?_)
      refine wp_call_by 23 #[.slice A9 k8.snap.length c9, .slice R9 k8.recs.length d9] (by kernel_rfl) (kof_any A9 _ c9 k8.snap w8.heap.size R9 k8.recs.length d9 k8.recs w9.drew rfl (HA9.out.fr (F := fun _ => False) (Fr.refl _ _).drew (fun _ _ h => h)) (HR9.out.fr (F := fun _ => False) (Fr.refl _ _).drew (fun _ h => False.elim h)) Hrl9.out) ?_
      rintro e w10 ⟨R10, c10, rfl, hk10, _, hb10⟩
      have hs10 : Below w9.heap.size w9 w10 := (Below.refl _ _).drew.trans hb10
      refine ⟨_, rfl, hK _ _ hs10 ?_⟩
      clear hK hb10
      simp only [Act.put, List.setIfInBounds_toArray, List.set_cons_zero, List.set_cons_succ]
      refine wpPlan_doesG rfl (fun K hK => ?_)
      refine wp_call_by 22 #[.agg #[.string ⟨k8.snap.toArray⟩, .slice R10 k8.recs.length c10], .agg #[.string ⟨k8.snap.toArray⟩, .slice AK k8.recs.length cK]] (by kernel_rfl) (ksame_any k8.snap k8.snap R10 AK _ _ c10 cK k8.recs k8.recs w10 hk10 (HrK.out.fr (Fr.of_below hs10) (fun _ _ h => h)) Hrl9.out Hrl9.out) ?_
      rintro e w11 ⟨rfl, hb11⟩
      have hs11 : Below w9.heap.size w9 w11 := hs10.trans (hb11.mono hs10.size)
      refine ⟨_, rfl, hK _ _ hs11 ?_⟩
      clear hK hb11 hk10
      rw [show sameB k8.snap k8.snap k8.recs k8.recs = true from decide_eq_true ⟨rfl, rfl⟩]
      simp only [Act.put, List.setIfInBounds_toArray, List.set_cons_zero, List.set_cons_succ]
      refine wpPlan_read rfl (fun W hW => (by go_simp; try with_reducible rfl)) ?_
      refine wpPlan_nil ?_
      simp only [Act.put, List.setIfInBounds_toArray, List.set_cons_zero, List.set_cons_succ]
      have Hfin := hide (HB9.out.trans (hs11.mono HB9.out.size))
      clear hs10 hs11
      go_wp2
      go_ret
      exact ⟨rfl, Hfin.out⟩

theorem u8_nat {x : Int} (h : (Lit.int IntKind.u8 x).wf = true) : ∃ n : Nat, x = n ∧ n ≤ 255 := by
  simp [Lit.wf, IntKind.min, IntKind.max, IntKind.signed, IntKind.bits] at h
  exact ⟨x.toNat, by omega, by omega⟩
theorem room_walk (x : Int) (A : Option Addr) (c : Nat) (l : List UInt8) (w : World) (hx : (Lit.int IntKind.u8 x).wf = true) (hb : Bytes w A l) :
    Calls Try.prog 9 #[.int .u8 x, .slice A l.length c] w fun e w' => e = .returned (.bool true) ∧ Below w.heap.size w w' := by
  obtain ⟨n, rfl, hn⟩ := u8_nat hx
  exact lroom_any n A c l w hn hb

set_option maxRecDepth 100000 in
theorem ledgerRoom_lifted (os : Os) (started : os.Started) (H : Type) (enc : TypeId × Value → H) :
    ReturnsInHanded {} Try.checked os 9 .any (Rows.ledgerRoomSpec.pre6 enc Try.prog Try.f9 Rows.ledgerRoomRow.domain false) (Rows.ledgerRoomSpec.post enc Try.prog Try.f9 false true false false) := by
  refine returnsInHanded_of_change (C := Try.checked) own0 started (by kernel_rfl) Try.func9
    (ChangeSpec.witness6 (enc := enc) (C := Try.checked) false ⟨#[], #[.int .u8 0, .slice none 0 0], []⟩ 8 (by kernel_rfl) (by kernel_rfl) (by kernel_rfl) (by kernel_rfl)) ?_
  intro W base args ds gs before hval0 hW _ _
  have hval : ∀ (j : Nat) t v, Try.f9.params[j]? = some t → args[j]? = some v → Value.okWide Try.prog W .any base t v := hval0
  have hW' := hW
  obtain ⟨p, q, hA0, hV, rfl, hfz, hnd⟩ := hW
  have hA : DataW.TrodAll enc Try.prog W 0 (fun _ => true) true Try.f9.params.toList args.toList ds p := hA0
  rw [Try.params9] at hA hval
  obtain ⟨v0, v1, d0, d1, p0, p1, rfl, rfl, rfl, h0, h1⟩ := trodAll_two hA
  obtain ⟨rfl, rfl⟩ := trodVars_none hV
  obtain ⟨x0, rfl, rfl, rfl, w0⟩ := open_int Try.underlying5 (hval 0 5 v0 rfl rfl) h0
  obtain ⟨A1, c1, l1, rfl, b1, m1⟩ := open_bytes Try.underlying22 Try.underlying5 (by kernel_rfl) (hval 1 22 v1 rfl rfl) h1
  clear hA0 hval0
  refine (room_walk x0 A1 c1 l1 W w0 b1).mono fun e W' ⟨he, hb⟩ => ?_
  subst he
  exact ⟨_, rfl, law_close laid0 Try.underlying4 rfl rfl (by rw [Try.params9]; decide +kernel) hW' (fun gs hg => by subst hg; rfl) hb⟩

theorem ledgerRoom_holds : Rows.LedgerRoomSaid :=
  OpenClaim.holds_of_wide 9 Try.f9 rfl rfl rfl rfl rfl rfl rfl ⟨rfl, rfl, rfl, rfl, rfl⟩ rfl rfl rfl rfl rfl (by kernel_rfl) Try.func9 (by kernel_rfl)
    (of_decide_eq_true (by kernel_rfl)) (by unfold Func.isWrapper; first | (rw [if_pos (by decide +kernel)]; kernel_rfl) | (rw [if_neg (by decide +kernel)]; exact ⟨rfl, rfl⟩))
    (fun os started H enc _ => ledgerRoom_lifted os started H enc)

end Go.Proofs.Ytehddmaapfofnaa
