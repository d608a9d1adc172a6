/-
  Whole or not at all: the power goes off in any operation of any call, with any writes kept, and one torn, and what is kept is what was, or what the call that was cut would have kept: LedgerCrashes answers true for any count and script; no condition.
-/
import Derived.Test.YtbcpplndmndkiaaActsD
import Derived.Test.YtbcpplndmndkiaaLaw
import Derived.Deep.CutRange
import Derived.Deep.CutBlock
namespace Go.Proofs.Ytbcpplndmndkiaa
open Go.RowKit Go.ChangeShapes Go.WideShapes Go.ChangeAt

set_option maxRecDepth 100000 in
set_option maxHeartbeats 8000000 in
theorem lcrashes_any (cnt : Nat) (S : Option Addr) (c : Nat) (xs : List ActD) (w : World) (hc : cnt ≤ 255) (hx : Acts w S xs) (_hxl : xs.length ≤ 9223372036854775807) :
    Calls Try.prog 5 #[.int .u8 (cnt : Int), .slice S xs.length c] w fun e w' => e = .returned (.bool true) ∧ Below w.heap.size w w' := by
  have Hx := hide hx
  clear hx
  go_enter Try.func5, Try.ntmps5
  go_wp2_with fail
  refine (awake_any w).mono ?_
  rintro e w1 ⟨rfl, hb1⟩
  have Hb1 := hide hb1
  clear hb1
  go_wp2_with fail
  obtain ⟨bl, hbl, hbl2, hbl3⟩ : ∃ bl : Nat, 4 + 2 * ((cnt : Int) % 30) = ((2 * bl : Nat) : Int) ∧ 2 ≤ bl ∧ bl ≤ 31 := ⟨2 + cnt % 30, by omega, by omega, by omega⟩
  rw [hbl]
  clear hbl
  refine (lopen_any bl w w1 Hb1.out hbl2 (by omega)).mono ?_
  rintro e w2 ⟨lb, b, F0, rfl, h0, hb2, _⟩
  have s0 := (lies_new (2 * bl + 1) 1 bl hbl2 (by omega) (by omega)).opened
  have H0 := hide h0
  have S0 := hide s0
  clear h0 s0 hb2 Hb1
  go_upto_block 0 with fail
  obtain ⟨kb, hkb⟩ : ∃ kb, kb = w2.heap.size := ⟨_, rfl⟩
  obtain ⟨wk, hwk⟩ : ∃ wk, wk = w2.alloc (.cells #[.string ⟨#[]⟩, .slice none 0 0] 34) := ⟨_, rfl⟩
  have hst : CrSt w b kb bl (.pointer (some ⟨lb, 0, none⟩)) 0 wk := by
    refine ⟨lb, F0, _, _, _, rfl, ?_, S0.out, rfl, rfl, Nat.zero_le _, Nat.le_refl _, ?_⟩
    · rw [hwk]
      exact H0.out.alloc _
    · rw [hwk, hkb]
      exact ⟨⟨none, 0, Blk.new w2 _ _, KRow.nil _, fun j h => absurd h At.none_not⟩, H0.out.below.size⟩
  have Hst := hide hst
  rw [← hkb, ← hwk]
  clear hst hwk hkb H0 S0
  go_cut [7] from 33 to 174 (fun _ w' => Below w.heap.size w w')
  case rest =>
    have Hb := hide hcut
    clear hcut Hst
    go_wp2
    go_ret
    exact ⟨rfl, Hb.out⟩
  case first =>
   go_wp2_with fail
   go_loopw [7, 9] (fun lv i wr => CrRel w b kb bl lv i wr) (fun _ i _ => 50 - (intOf i).toNat)
   case atStart => exact ⟨0, by omega, rfl, Hst.out⟩
   case round =>
    obtain ⟨j, hj, rfl, hst⟩ := hrel
    clear Hst
    by_cases hl : j < xs.length
    case neg =>
      have Hd := hide hst.below
      clear hst
      go_wp2
      go_meet
      case rel => exact Hd.out
    by_cases h50 : j < 50
    case neg =>
      have Hd := hide hst.below
      clear hst
      go_wp2
      go_meet
      case rel => exact Hd.out
    obtain ⟨lb1, F1, L1, D1, k1, rfl, h1, s1, ha1, hb1, hf1, ho1, hk1⟩ := hst
    obtain ⟨a, ha⟩ : ∃ a, xs[j]? = some a := ⟨_, List.getElem?_eq_getElem hl⟩
    obtain ⟨g, o, rfl, hat⟩ : ∃ g o, S = some ⟨g, o, none⟩ ∧ ActAt w g (o + j * 5) a := by
      rcases Hx.out with h | ⟨g, o, h1, h2⟩
      · rw [h] at hl; simp at hl
      · exact ⟨g, o, h1, h2 j a ha⟩
    have hat2 := hat.below h1.below
    have Hr := hide hat2.range
    have Hat := hide hat
    have za := zeroA
    have hp0 : Pl w (wr.alloc (.cells (actCells a).toArray 36)) lb1 b kb wr.heap.size (actCells a).toArray F1 L1 D1 k1 := ⟨h1.alloc _, hk1.same ((Fr.refl _ _).alloc _), Blk.new _ _ _, h1.below.size⟩
    have Hp0 := hide hp0
    have S1 := hide s1
    have A1 := hide ha1
    have B1 := hide hb1
    clear hat hat2 ha h1 s1 hk1 hp0 ha1 hb1
    go_upto_region 12 with (first
      | (refine wpList_load_mid rfl 36 (.tmp 45) rfl g (o + j * 5) rfl _ _ Hr.out Try.underlying36 rfl infoAct ?_)
      | (refine wpList_store_mid rfl 36 (.tmp 10) (.tmp 46) rfl wr.heap.size 0 _ rfl rfl (there_new _ _ _ _ (by show 5 ≤ 5; omega)) (show _ = some (actCells a).toArray.size from infoAct) (all_oneCell_toArray (actCells_one a)) ?_
         rw [List.toList_toArray, setCells_new _ _ _ _ (by rfl)]))
    obtain ⟨wa, hwa⟩ : ∃ wa, wa = wr.alloc (.cells (actCells a).toArray 36) := ⟨_, rfl⟩
    rw [← hwa] at Hp0 ⊢
    generalize wr.heap.size = ga at Hp0 ⊢
    clear hwa za Hr
    have q1 : wa.cell? ⟨ga, 1, none⟩ = some (.slice a.A a.p.length a.c) := Hp0.out.blk.cell 1
    by_cases h5 : 2000 < a.p.length
    case pos =>
      have Hb := hide Hp0.out.on.below
      have hpl := Hat.out.plen
      clear Hat
      go_wp2
      go_ret
      exact ⟨rfl, Hb.out⟩
    have h5' : a.p.length ≤ 2000 := by omega
    obtain ⟨Ak, ck, hbk, hrk, hAk⟩ := Hp0.out.kv.ex
    have q2 := hbk.cell 0
    have q3 := hbk.cell 1
    have Hbk := hide hbk
    have Hrk := hide hrk
    have HAk := hide hAk
    clear hbk hrk hAk
    go_upto_block 2 with fail
    obtain ⟨mb, hmb⟩ : ∃ mb, mb = wa.heap.size := ⟨_, rfl⟩
    obtain ⟨wm, hwm⟩ : ∃ wm, wm = wa.alloc (.cells #[.string ⟨k1.snap.toArray⟩, .slice Ak k1.recs.length ck] 34) := ⟨_, rfl⟩
    have hc1 : Cr2 w wm lb1 b kb mb ga (actCells a).toArray F1 L1 D1 k1 k1 := by
      refine ⟨by rw [hwm]; exact Hp0.out.same ((Fr.refl _ _).alloc _), ⟨⟨Ak, ck, ?_, ?_, HAk.out⟩, ?_⟩, ?_⟩
      · rw [hwm, hmb]; exact Blk.new _ _ _
      · rw [hwm]; exact Hrk.out.fr (F := fun _ => False) ((Fr.refl _ _).alloc _) (fun _ _ h => h)
      · rw [hmb]; exact Hp0.out.on.below.size
      · have := Hbk.out.lt; omega
    have Hc1 := hide hc1
    rw [← hmb, ← hwm]
    clear hmb hwm hc1 q1 q2 q3 Hp0 Hbk Hrk HAk
    have hk0 := Hat.out.kwf.1
    have hk1 := Hat.out.kwf.2
    have q0 : wm.cell? ⟨ga, 0, none⟩ = some (.int .u8 a.kind) := Hc1.out.pl.blk.cell 0
    by_cases h8 : a.kind % 9 = 8
    case pos =>
      have q2 : wm.cell? ⟨ga, 2, none⟩ = some (.int .u8 a.n) := Hc1.out.pl.blk.cell 2
      have hn0 := Hat.out.nwf.1
      have hn1 := Hat.out.nwf.2
      have hca := Hc1.out.pl.on.arm a.n
      have Hca := hide hca
      clear hca Hat
      go_wp2_with fail
      refine Hca.out.mono ?_
      rintro e w4 ⟨F4, rfl, h4, hf4, _⟩
      have hc4 := Hc1.out.call h4 hf4
      have Hfin := hide (show CrSt w b kb bl (.pointer (some ⟨lb1, 0, none⟩)) (j + 1) w4 from ⟨lb1, F4, _, _, k1, rfl, hc4.pl.on, S1.out.armed _, A1.out, B1.out, armed_small _ _ hn0 hn1, by rw [armed_ops]; omega, hc4.pl.kv⟩)
      clear h4 hf4 hc4 Hca
      go_wp2
      go_roundw
      case rel => exact ⟨j + 1, by omega, by go_num, Hfin.out⟩
      case measure => simp [intOf]; omega
    have hcl := k1.cnt_le
    have hnl := S1.out.need_le
    have hrl := lg_room_le S1.out
    have hw := k1.need_with a.p
    go_cut [12] from 52 to 95 (fun ev w' => CrTurn w lb1 b kb mb ga bl (actCells a).toArray k1 j (a.kind % 9 < 6) ev w')
    case first =>
      by_cases hq : a.kind % 9 < 5
      · obtain ⟨A4, c4, hb4, hr4, _⟩ := Hc1.out.pl.kv.ex
        have q2 := hb4.cell 0
        have q3 := hb4.cell 1
        have q1 : wm.cell? ⟨ga, 1, none⟩ = some (.slice a.A a.p.length a.c) := Hc1.out.pl.blk.cell 1
        have Hr4 := hide hr4
        clear hb4 hr4
        go_wp2_with fail
        refine (kwith_any k1.snap A4 k1.recs.length c4 k1.recs a.A a.p.length a.c a.p wm Hr4.out (by omega) rfl (Hc1.out.pl.on.bytes Hat.out.bytes)).mono ?_
        rintro e w5 ⟨A5, c5, rfl, hk5, hA5, hb5⟩
        have hf5 : Fr (fun _ => False) wm w5 := Fr.of_below hb5
        have hc5 := Hc1.out.same hf5
        obtain ⟨A6, c6, hb6, _, _⟩ := hc5.mv.ex
        have z0 := hb6.frozen 0
        have z1 := hb6.frozen 1
        have r0 := hb6.cell 0
        have r1 := hb6.cell 1
        obtain ⟨rl, hrl5⟩ : ∃ rl, rl = (k1.recs ++ [a.p]).length := ⟨_, rfl⟩
        rw [← hrl5] at hk5 ⊢
        have hc7 : Cr2 w ((w5.setCell ⟨mb, 0, none⟩ (.string ⟨k1.snap.toArray⟩)).setCell ⟨mb, 1, none⟩ (.slice A5 rl c5)) lb1 b kb mb ga (actCells a).toArray F1 L1 D1 k1 (k1.with_ a.p) := Cr2.putM (k' := k1.with_ a.p) hc5 hb6 A5 rl c5 (by rw [hrl5]; rfl) hk5 (fun i hi => by have := hA5 i hi; have := Hc1.out.pl.on.below.size; omega)
        have q1 : ((w5.setCell ⟨mb, 0, none⟩ (.string ⟨k1.snap.toArray⟩)).setCell ⟨mb, 1, none⟩ (.slice A5 rl c5)).cell? ⟨ga, 1, none⟩ = some (.slice a.A a.p.length a.c) := hc7.pl.blk.cell 1
        have hca := hc7.pl.on.append S1.out (by omega) (by omega) a.A a.p.length a.c a.p rfl (hc7.pl.on.bytes Hat.out.bytes) (by omega)
        have hcs := S1.out.append a.p
        obtain ⟨e0, he0⟩ : ∃ e0, e0 = L1.appE D1 a.p := ⟨_, rfl⟩
        obtain ⟨L2, hL2⟩ : ∃ L2, L2 = L1.appL D1 a.p := ⟨_, rfl⟩
        obtain ⟨D2, hD2⟩ : ∃ D2, D2 = L1.appD D1 a.p := ⟨_, rfl⟩
        rw [← he0, ← hL2, ← hD2] at hcs hca
        have Hcs := hide hcs
        have Hca := hide hca
        have Hc7 := hide hc7
        clear hk5 hA5 hb5 hf5 hc5 hb6 hc7 hca hcs he0 hL2 hD2 hrl5 Hc1 Hr4 q2 q3
        go_upto_region 19 with fail
        obtain ⟨wn, hwn⟩ : ∃ wn, wn = (w5.setCell ⟨mb, 0, none⟩ (.string ⟨k1.snap.toArray⟩)).setCell ⟨mb, 1, none⟩ (.slice A5 rl c5) := ⟨_, rfl⟩
        rw [← hwn] at q1 Hca Hc7 ⊢
        clear hwn z0 z1 r0 r1
        go_wp2_with fail
        refine Hca.out.mono ?_
        rintro e w4 ⟨F4, rfl, h4, hf4, _⟩
        have hc8 := Hc7.out.call h4 hf4
        have hfin : CrTurn w lb1 b kb mb ga bl (actCells a).toArray k1 j (a.kind % 9 < 6) (.int .i64 e0) w4 := by
          rcases Hcs.out with ⟨h1, _⟩ | ⟨h1, h2, h3, h4, h6⟩ | ⟨h1, h2, h3, h4⟩ | ⟨h1, h2, h3, h4, h6⟩
          · omega
          · subst h3 h4 h6
            exact ⟨F4, _, _, _, hc8, .inr (.inl ⟨rfl, by omega, S1.out, A1.out, B1.out, hf1, by omega⟩)⟩
          · subst h3
            exact ⟨F4, _, _, _, hc8, .inl ⟨rfl, h4.st, by rw [h4.at_, A1.out], by rw [h4.bl, B1.out], by have := h4.fuse; omega, by have := h4.ops; omega⟩⟩
          · subst h3
            exact ⟨F4, _, _, _, hc8, .inr (.inr ⟨rfl, h4.crFell S1.out A1.out B1.out ho1⟩)⟩
        have Hfin := hide hfin
        clear h4 hf4 hc8 hfin Hca Hcs Hc7 Hat
        go_wp2
        go_meet
        case rel => exact Hfin.out
      by_cases hq5 : a.kind % 9 = 5
      · obtain ⟨A6, c6, hb6, _, _⟩ := Hc1.out.mv.ex
        have z0 := hb6.frozen 0
        have z1 := hb6.frozen 1
        have r0 := hb6.cell 0
        have r1 := hb6.cell 1
        have q1 : wm.cell? ⟨ga, 1, none⟩ = some (.slice a.A a.p.length a.c) := Hc1.out.pl.blk.cell 1
        have hst := str_run rfl (Hc1.out.pl.on.bytes Hat.out.bytes) (c := a.c)
        have hbk := buildK1 ⟨a.p.toArray⟩ wm
        have hc7 := Cr2.putM (k' := ⟨a.p, []⟩) Hc1.out hb6 none 0 0 rfl (KRow.nil _) (fun i hi => absurd hi At.none_not)
        have q1' : ((wm.setCell ⟨mb, 0, none⟩ (.string ⟨a.p.toArray⟩)).setCell ⟨mb, 1, none⟩ (.slice none 0 0)).cell? ⟨ga, 1, none⟩ = some (.slice a.A a.p.length a.c) := hc7.pl.blk.cell 1
        have hca := hc7.pl.on.snapshot S1.out (by omega) (by omega) a.A a.p.length a.c a.p rfl (hc7.pl.on.bytes Hat.out.bytes) (by omega)
        have hcs := S1.out.snapshot a.p
        obtain ⟨e0, he0⟩ : ∃ e0, e0 = L1.snE D1 a.p := ⟨_, rfl⟩
        obtain ⟨L2, hL2⟩ : ∃ L2, L2 = L1.snL D1 a.p := ⟨_, rfl⟩
        obtain ⟨D2, hD2⟩ : ∃ D2, D2 = L1.snD D1 a.p := ⟨_, rfl⟩
        rw [← he0, ← hL2, ← hD2] at hcs hca
        have Hcs := hide hcs
        have Hca := hide hca
        have Hc7 := hide hc7
        have Hbk := hide hbk
        have Q1 := hide q1'
        clear hb6 hc7 hca hcs he0 hL2 hD2 Hc1 hbk q1'
        go_upto_region 22 with (refine wpList_build_run rfl 34 #[(0, .tmp 80)] rfl #[(0, .string ⟨a.p.toArray⟩)] rfl #[.string ⟨a.p.toArray⟩, .slice none 0 0] Hbk.out ?_)
        clear q1
        have q1 := Q1.out
        obtain ⟨wn, hwn⟩ : ∃ wn, wn = (wm.setCell ⟨mb, 0, none⟩ (.string ⟨a.p.toArray⟩)).setCell ⟨mb, 1, none⟩ (.slice none 0 0) := ⟨_, rfl⟩
        rw [← hwn] at q1 Hca Hc7 ⊢
        clear hwn z0 z1 r0 r1 Q1 hst Hbk q0
        go_wp2_with fail
        refine Hca.out.mono ?_
        rintro e w4 ⟨F4, rfl, h4, hf4, _⟩
        have hc8 := Hc7.out.call h4 hf4
        have hfin : CrTurn w lb1 b kb mb ga bl (actCells a).toArray k1 j (a.kind % 9 < 6) (.int .i64 e0) w4 := by
          rcases Hcs.out with ⟨h1, h2, h3, h4⟩ | ⟨h1, h2, h3⟩ | ⟨h1, h2, h3, h4⟩
          · subst h2 h3 h4
            exact ⟨F4, _, _, _, hc8, .inr (.inl ⟨rfl, by omega, S1.out, A1.out, B1.out, hf1, by omega⟩)⟩
          · subst h2
            exact ⟨F4, _, _, _, hc8, .inl ⟨rfl, h3.st, by rw [h3.at_, A1.out], by rw [h3.bl, B1.out], by have := h3.fuse; omega, by have := h3.ops; omega⟩⟩
          · subst h2
            exact ⟨F4, _, _, _, hc8, .inr (.inr ⟨rfl, h3.crFell S1.out A1.out B1.out ho1⟩)⟩
        have Hfin := hide hfin
        clear h4 hf4 hc8 hfin Hca Hcs Hc7 Hat
        go_wp2
        go_meet
        case rel => exact Hfin.out
      · have hl := S1.out.lies
        rw [A1.out, B1.out] at hl
        have hop := open_lies (w0 := w) hl Hc1.out.pl.on.disk Hc1.out.pl.on.below Hc1.out.pl.on.own
        rw [show ((2 * bl : Nat) : Int) = 2 * (bl : Int) by omega] at hop
        have Hop := hide hop
        clear hl hop Hat
        go_wp2_with fail
        refine Hop.out.mono ?_
        rintro e w9 ⟨lb2, A9, c9, R9, d9, rfl, _, _, _, _, hb9, _⟩
        have Hfin := hide (show CrTurn w lb1 b kb mb ga bl (actCells a).toArray k1 j (a.kind % 9 < 6) (.int .i64 0) w9 from ⟨F1, _, _, _, Hc1.out.same (Fr.of_below hb9), .inl ⟨rfl, S1.out, A1.out, B1.out, hf1, by omega⟩⟩)
        clear hb9 Hop Hc1
        go_wp2
        go_meet
        case rel => exact Hfin.out
    case rest =>
      clear Hc1 q0
      have k0' := hk0
      obtain ⟨F2, L2, D2, km, hc2, hcs⟩ := hcut
      have Hc2 := hide hc2
      clear hc2
      rcases hcs with ⟨rfl, s2, ha2, hb2, hf2, ho2⟩ | ⟨rfl, hlow, s2, ha2, hb2, hf2, ho2⟩ | ⟨rfl, hfell⟩
      · have hc3 := Hc2.out
        obtain ⟨AM, cM, hbM, hrM, hAM⟩ := hc3.mv.ex
        obtain ⟨AK, cK, hbK, _, _⟩ := hc3.pl.kv.ex
        have g0 := hbM.cell 0
        have g1 := hbM.cell 1
        have y0 := hbK.cell 0
        have y1 := hbK.cell 1
        have z0 := hbK.frozen 0
        have z1 := hbK.frozen 1
        have hc4 := Cr2.putK (k' := km) hc3 hbK AM km.recs.length cM rfl hrM hAM
        have S2 := hide s2
        have Hc4 := hide hc4
        clear hc3 hbM hrM hAM hbK hc4 s2 Hc2
        go_upto_region 27 with fail
        obtain ⟨wn, hwn⟩ : ∃ wn, wn = (wc.setCell ⟨kb, 0, none⟩ (.string ⟨km.snap.toArray⟩)).setCell ⟨kb, 1, none⟩ (.slice AM km.recs.length cM) := ⟨_, rfl⟩
        rw [← hwn] at Hc4 ⊢
        clear hwn g0 g1 y0 y1 z0 z1
        have q0 : wn.cell? ⟨ga, 0, none⟩ = some (.int .u8 a.kind) := Hc4.out.pl.blk.cell 0
        by_cases hlow : a.kind % 9 < 6
        · have Hfin := hide (show CrSt w b kb bl (.pointer (some ⟨lb1, 0, none⟩)) (j + 1) wn from ⟨lb1, F2, _, _, km, rfl, Hc4.out.pl.on, S2.out, ha2, hb2, hf2, by omega, Hc4.out.pl.kv⟩)
          clear Hc4 Hat
          go_wp2
          go_roundw
          case rel => exact ⟨j + 1, by omega, by go_num, Hfin.out⟩
          case measure => simp [intOf]; omega
        · obtain ⟨AM, cM, hbM, _, _⟩ := Hc4.out.mv.ex
          obtain ⟨AK, cK, hbK, hrK, hAK⟩ := Hc4.out.pl.kv.ex
          have g0 := hbM.cell 0
          have g1 := hbM.cell 1
          have y0 := hbK.cell 0
          have y1 := hbK.cell 1
          have z0 := hbM.frozen 0
          have z1 := hbM.frozen 1
          have hc5 := Cr2.putM (k' := km) Hc4.out hbM AK km.recs.length cK rfl hrK hAK
          have Hc := hide hc5
          clear hbM hbK hrK hAK hc5 Hc4
          go_upto_block 3 with fail
          obtain ⟨wo, hwo⟩ : ∃ wo, wo = (wn.setCell ⟨mb, 0, none⟩ (.string ⟨km.snap.toArray⟩)).setCell ⟨mb, 1, none⟩ (.slice AK km.recs.length cK) := ⟨_, rfl⟩
          rw [← hwo] at Hc ⊢
          have Hf := hide (S2.out.crFell ha2 hb2 ho2 km)
          have hcl2 := km.cnt_le
          have hnl2 := S2.out.need_le
          have hrl2 := lg_room_le S2.out
          clear hwo g0 g1 y0 y1 z0 z1 q0
          go_cut [7] from 120 to 172 (fun lv w' => CrL w b kb bl lv j w')
          case first =>
            go_wp2_with fail
            go_loopw [13] (fun cv wr => cv = .int .i64 0 ∧ wr = wo) (fun _ _ => 0)
            case atStart => exact ⟨rfl, rfl⟩
            case round =>
              obtain ⟨rfl, rfl⟩ := hrel
              have k3 : wr.cell? ⟨ga, 3, none⟩ = some (.int .i64 a.keep) := Hc.out.pl.blk.cell 3
              have k4 : wr.cell? ⟨ga, 4, none⟩ = some (.int .i64 a.torn) := Hc.out.pl.blk.cell 4
              go_wp2_with fail
              refine (Hc.out.restart Hf.out _ _).mono ?_
              rintro e w4 ⟨F4, D4, v4, rfl, hc4, ht4, ho4⟩
              have k2 : w4.cell? ⟨ga, 2, none⟩ = some (.int .u8 a.n) := hc4.pl.blk.cell 2
              have Hc4 := hide hc4
              have Ht4 := hide ht4
              clear hc4 ht4 Hc Hf k3 k4
              go_wp2_with fail
              refine (Hc4.out.arm Ht4.out ho4 _).mono ?_
              rintro e w5 ⟨F5, D5, v5, rfl, hc5, ht5, ho5⟩
              have Hc5 := hide hc5
              have ht5' : ∃ kz half, Lies D5 1 bl half kz ∧ (kz = km ∨ kz = km) := by
                rcases ht5 with ⟨half, hl⟩ | ⟨half, hl⟩
                · exact ⟨_, half, hl, .inl rfl⟩
                · exact ⟨_, half, hl, .inr rfl⟩
              clear hc5 ht5 Hc4 Ht4 k2
              obtain ⟨kz, half, hl5, hz5⟩ := ht5'
              have hop := open_lies (w0 := w) hl5 Hc5.out.pl.on.disk Hc5.out.pl.on.below Hc5.out.pl.on.own
              rw [show ((2 * bl : Nat) : Int) = 2 * (bl : Int) by omega] at hop
              have Hop := hide hop
              have Hl5 := hide hl5
              have Hz5 := hide hz5
              clear hop hl5 hz5
              go_wp2_with fail
              refine Hop.out.mono ?_
              rintro e w6 ⟨lb2, A9, c9, R9, d9, rfl, hA9, hR9, h9, _, hb9, _⟩
              have hc6 := Hc5.out.same (Fr.of_below hb9)
              have hzl : kz.recs.length ≤ 1000000000 := by
                have h1 := kz.cnt_le
                have h2 := Hl5.out.opened.need_le
                have h3 := lg_room_le Hl5.out.opened
                omega
              have hko := kof_any A9 _ c9 kz.snap _ R9 kz.recs.length d9 kz.recs w6 rfl hA9 hR9 hzl
              have H9 := hide h9
              have Hc6 := hide hc6
              have Hko := hide hko
              have Hzl := hide hzl
              clear hA9 hR9 h9 hb9 hc6 hko hzl Hop Hc5
              go_wp2_with fail
              refine Hko.out.mono ?_
              rintro e w7 ⟨R7, c7, rfl, hk7, hR7, hb7⟩
              have hw7 : w.heap.size ≤ w7.heap.size := Nat.le_trans H9.out.below.size hb7.size
              obtain ⟨rz, hrz⟩ : ∃ rz, rz = kz.recs.length := ⟨_, rfl⟩
              rw [← hrz] at hk7 ⊢
              have Hk7 := hide hk7
              have HR7 := hide hR7
              have Hb7 := hide hb7
              have Hrz := hide hrz
              clear hk7 hR7 hb7 hrz Hko
              go_upto_region 41 with fail
              obtain ⟨gb, hgb⟩ : ∃ gb, gb = w7.heap.size := ⟨_, rfl⟩
              obtain ⟨w8, hw8⟩ : ∃ w8, w8 = w7.alloc (.cells #[.string ⟨kz.snap.toArray⟩, .slice R7 rz c7] 34) := ⟨_, rfl⟩
              rw [← hgb, ← hw8]
              have hf8 : Fr (fun _ => False) w6 w8 := by rw [hw8]; exact (Fr.of_below Hb7.out).alloc _
              have hbg : Blk w8 gb 34 #[.string ⟨kz.snap.toArray⟩, .slice R7 rz c7] := by rw [hw8, hgb]; exact Blk.new _ _ _
              have hkg : KRow w8 R7 rz c7 kz.recs := by rw [hw8]; exact Hk7.out.fr (F := fun _ => False) ((Fr.refl _ _).alloc _) (fun _ _ h => h)
              have hc8 := Hc6.out.same hf8
              have h98 : LOn w w8 lb2 b F5 _ D5 := H9.out.fr (G := fun _ => False) hf8 (fun _ _ (hg : False) => False.elim hg)
              have hR8 : ∀ i, At R7 i → w.heap.size ≤ i := fun i hi => Nat.le_trans H9.out.below.size (HR7.out i hi)
              obtain ⟨AK, cK, hbK, hrK, _⟩ := hc8.pl.kv.ex
              have g0 := hbg.cell 0
              have g1 := hbg.cell 1
              have y0 := hbK.cell 0
              have y1 := hbK.cell 1
              have Hc8 := hide hc8
              have H98 := hide h98
              have HR8 := hide hR8
              have Hbg := hide hbg
              have Hkg := hide hkg
              have HbK := hide hbK
              have HrK := hide hrK
              clear hw8 hgb hf8 hbg hkg hc8 h98 hR8 hbK hrK Hk7 HR7 Hb7 Hc6 H9 hw7
              have hfinal : ∀ wz, Fr (fun _ => False) w8 wz → CrL w b kb bl (.pointer (some ⟨lb2, 0, none⟩)) j ((wz.setCell ⟨kb, 0, none⟩ (.string ⟨kz.snap.toArray⟩)).setCell ⟨kb, 1, none⟩ (.slice R7 rz c7)) := by
                intro wz hfz
                have hbz := Blk.fr HbK.out hfz (fun h => h)
                have hlz : LOn w wz lb2 b F5 _ D5 := H98.out.fr (G := fun _ => False) hfz (fun _ _ (hg : False) => False.elim hg)
                exact ⟨lb2, F5, _, D5, kz, rfl, hlz.putK hbz Hc8.out.pl.kv.kb _ _, Hl5.out.opened, rfl, rfl, ho5, KVar.put hbz Hc8.out.pl.kv.kb R7 rz c7 Hrz.out.symm (Hkg.out.fr hfz (fun _ _ h => h)) HR8.out⟩
              have Hfinal := hide hfinal
              clear hfinal
              have hsm : Calls Try.prog 22 #[.agg #[.string ⟨kz.snap.toArray⟩, .slice R7 rz c7], .agg #[.string ⟨km.snap.toArray⟩, .slice AK km.recs.length cK]] w8 (SamePost (sameB kz.snap km.snap kz.recs km.recs) w8) :=
                ksame_any kz.snap km.snap R7 AK rz km.recs.length c7 cK kz.recs km.recs w8 Hkg.out HrK.out (by rw [Hrz.out]; exact Hzl.out) (by omega)
              obtain ⟨sb, hsbe⟩ : ∃ sb, sb = sameB kz.snap km.snap kz.recs km.recs := ⟨_, rfl⟩
              rw [← hsbe] at hsm
              have Hsm := hide hsm
              clear hsm
              rcases sb with _ | _
              · have hzm : kz = km := by
                  rcases Hz5.out with e | e
                  · rw [e] at hsbe
                    rw [show sameB km.snap km.snap km.recs km.recs = true from decide_eq_true ⟨rfl, rfl⟩] at hsbe
                    cases hsbe
                  · exact e
                have Hzm := hide hzm
                clear hsbe hzm
                go_wp2_with fail
                refine Hsm.out.mono ?_
                rintro e wz ⟨rfl, hbz⟩
                have hfz : Fr (fun _ => False) w8 wz := Fr.of_below hbz
                have hcz := Hc8.out.same hfz
                obtain ⟨AM, cM, hbM, hrM, _⟩ := hcz.mv.ex
                have g0 := (Blk.fr Hbg.out hfz (fun h => h)).cell 0
                have g1 := (Blk.fr Hbg.out hfz (fun h => h)).cell 1
                have y0 := hbM.cell 0
                have y1 := hbM.cell 1
                have hsm2 : Calls Try.prog 22 #[.agg #[.string ⟨kz.snap.toArray⟩, .slice R7 rz c7], .agg #[.string ⟨km.snap.toArray⟩, .slice AM km.recs.length cM]] wz (SamePost (sameB kz.snap km.snap kz.recs km.recs) wz) :=
                  ksame_any kz.snap km.snap R7 AM rz km.recs.length c7 cM kz.recs km.recs wz (Hkg.out.fr hfz (fun _ _ h => h)) hrM (by rw [Hrz.out]; exact Hzl.out) (by rw [← Hzm.out]; exact Hzl.out)
                have hsame : sameB kz.snap km.snap kz.recs km.recs = true := by rw [Hzm.out]; exact decide_eq_true ⟨rfl, rfl⟩
                rw [hsame] at hsm2
                have Hsm2 := hide hsm2
                have Hfz := hide hfz
                clear Hzm hbz hfz hcz hbM hrM hsm2 hsame Hsm
                go_wp2_with fail
                refine Hsm2.out.mono ?_
                rintro e wy ⟨rfl, hby⟩
                have hfy : Fr (fun _ => False) w8 wy := Hfz.out.trans' (Fr.of_below (F := fun _ => False) hby) (fun _ _ h => h)
                have hbgy := Blk.fr Hbg.out hfy (fun h => h)
                have hbKy := Blk.fr HbK.out hfy (fun h => h)
                have g0 := hbgy.cell 0
                have g1 := hbgy.cell 1
                have y0 := hbKy.cell 0
                have y1 := hbKy.cell 1
                have z0 := hbKy.frozen 0
                have z1 := hbKy.frozen 1
                have Hfin := hide (Hfinal.out wy hfy)
                clear hby hfy hbgy hbKy Hsm2 Hfinal Hfz
                go_wp2
                go_meet
                case rel => exact Hfin.out
              · clear hsbe
                go_wp2_with fail
                refine Hsm.out.mono ?_
                rintro e wy ⟨rfl, hby⟩
                have hfy : Fr (fun _ => False) w8 wy := Fr.of_below hby
                have hbgy := Blk.fr Hbg.out hfy (fun h => h)
                have hbKy := Blk.fr HbK.out hfy (fun h => h)
                have g0 := hbgy.cell 0
                have g1 := hbgy.cell 1
                have y0 := hbKy.cell 0
                have y1 := hbKy.cell 1
                have z0 := hbKy.frozen 0
                have z1 := hbKy.frozen 1
                have Hfin := hide (Hfinal.out wy hfy)
                clear hby hfy hbgy hbKy Hsm Hfinal
                go_wp2
                go_meet
                case rel => exact Hfin.out
          case rest =>
            obtain ⟨lb3, F3, L3, D3, k3, rfl, h3, s3, ha3, hb3, ho3, hk3⟩ := hcut
            have hca := h3.arm 0
            have Hca := hide hca
            have H3 := hide h3
            have S3 := hide s3
            have K3 := hide hk3
            clear hca h3 s3 hk3 Hc Hf
            go_wp2_with fail
            refine Hca.out.mono ?_
            rintro e w4 ⟨F4, rfl, h4, hf4, _⟩
            have Hfin := hide (show CrSt w b kb bl (.pointer (some ⟨lb3, 0, none⟩)) (j + 1) w4 from ⟨lb3, F4, _, _, k3, rfl, h4, S3.out.armed _, ha3, hb3, armed_small _ _ (by omega) (by omega), by rw [armed_ops]; omega, K3.out.call H3.out hf4⟩)
            clear h4 hf4 Hca
            go_wp2
            go_roundw
            case rel => exact ⟨j + 1, by omega, by go_num, Hfin.out⟩
            case measure => simp [intOf]; omega
      · have q0 : wc.cell? ⟨ga, 0, none⟩ = some (.int .u8 a.kind) := Hc2.out.pl.blk.cell 0
        have Hfin := hide (show CrSt w b kb bl (.pointer (some ⟨lb1, 0, none⟩)) (j + 1) wc from ⟨lb1, F2, _, _, k1, rfl, Hc2.out.pl.on, s2, ha2, hb2, hf2, by omega, Hc2.out.pl.kv⟩)
        clear Hc2 s2 Hat
        go_wp2
        go_roundw
        case rel => exact ⟨j + 1, by omega, by go_num, Hfin.out⟩
        case measure => simp [intOf]; omega
      · have Hc := Hc2
        have Hf := hide hfell
        clear hfell Hc2
        go_upto_block 3 with fail
        go_cut [7] from 120 to 172 (fun lv w' => CrL w b kb bl lv j w')
        case first =>
          go_wp2_with fail
          go_loopw [13] (fun cv wr => cv = .int .i64 0 ∧ wr = wc) (fun _ _ => 0)
          case atStart => exact ⟨rfl, rfl⟩
          case round =>
            obtain ⟨rfl, rfl⟩ := hrel
            have k3 : wr.cell? ⟨ga, 3, none⟩ = some (.int .i64 a.keep) := Hc.out.pl.blk.cell 3
            have k4 : wr.cell? ⟨ga, 4, none⟩ = some (.int .i64 a.torn) := Hc.out.pl.blk.cell 4
            go_wp2_with fail
            refine (Hc.out.restart Hf.out _ _).mono ?_
            rintro e w4 ⟨F4, D4, v4, rfl, hc4, ht4, ho4⟩
            have k2 : w4.cell? ⟨ga, 2, none⟩ = some (.int .u8 a.n) := hc4.pl.blk.cell 2
            have Hc4 := hide hc4
            have Ht4 := hide ht4
            clear hc4 ht4 Hc Hf k3 k4
            go_wp2_with fail
            refine (Hc4.out.arm Ht4.out ho4 _).mono ?_
            rintro e w5 ⟨F5, D5, v5, rfl, hc5, ht5, ho5⟩
            have Hc5 := hide hc5
            have ht5' : ∃ kz half, Lies D5 1 bl half kz ∧ (kz = k1 ∨ kz = km) := by
              rcases ht5 with ⟨half, hl⟩ | ⟨half, hl⟩
              · exact ⟨_, half, hl, .inl rfl⟩
              · exact ⟨_, half, hl, .inr rfl⟩
            clear hc5 ht5 Hc4 Ht4 k2
            obtain ⟨kz, half, hl5, hz5⟩ := ht5'
            have hop := open_lies (w0 := w) hl5 Hc5.out.pl.on.disk Hc5.out.pl.on.below Hc5.out.pl.on.own
            rw [show ((2 * bl : Nat) : Int) = 2 * (bl : Int) by omega] at hop
            have Hop := hide hop
            have Hl5 := hide hl5
            have Hz5 := hide hz5
            clear hop hl5 hz5
            go_wp2_with fail
            refine Hop.out.mono ?_
            rintro e w6 ⟨lb2, A9, c9, R9, d9, rfl, hA9, hR9, h9, _, hb9, _⟩
            have hc6 := Hc5.out.same (Fr.of_below hb9)
            have hzl : kz.recs.length ≤ 1000000000 := by
              have h1 := kz.cnt_le
              have h2 := Hl5.out.opened.need_le
              have h3 := lg_room_le Hl5.out.opened
              omega
            have hko := kof_any A9 _ c9 kz.snap _ R9 kz.recs.length d9 kz.recs w6 rfl hA9 hR9 hzl
            have H9 := hide h9
            have Hc6 := hide hc6
            have Hko := hide hko
            have Hzl := hide hzl
            clear hA9 hR9 h9 hb9 hc6 hko hzl Hop Hc5
            go_wp2_with fail
            refine Hko.out.mono ?_
            rintro e w7 ⟨R7, c7, rfl, hk7, hR7, hb7⟩
            have hw7 : w.heap.size ≤ w7.heap.size := Nat.le_trans H9.out.below.size hb7.size
            obtain ⟨rz, hrz⟩ : ∃ rz, rz = kz.recs.length := ⟨_, rfl⟩
            rw [← hrz] at hk7 ⊢
            have Hk7 := hide hk7
            have HR7 := hide hR7
            have Hb7 := hide hb7
            have Hrz := hide hrz
            clear hk7 hR7 hb7 hrz Hko
            go_upto_region 41 with fail
            obtain ⟨gb, hgb⟩ : ∃ gb, gb = w7.heap.size := ⟨_, rfl⟩
            obtain ⟨w8, hw8⟩ : ∃ w8, w8 = w7.alloc (.cells #[.string ⟨kz.snap.toArray⟩, .slice R7 rz c7] 34) := ⟨_, rfl⟩
            rw [← hgb, ← hw8]
            have hf8 : Fr (fun _ => False) w6 w8 := by rw [hw8]; exact (Fr.of_below Hb7.out).alloc _
            have hbg : Blk w8 gb 34 #[.string ⟨kz.snap.toArray⟩, .slice R7 rz c7] := by rw [hw8, hgb]; exact Blk.new _ _ _
            have hkg : KRow w8 R7 rz c7 kz.recs := by rw [hw8]; exact Hk7.out.fr (F := fun _ => False) ((Fr.refl _ _).alloc _) (fun _ _ h => h)
            have hc8 := Hc6.out.same hf8
            have h98 : LOn w w8 lb2 b F5 _ D5 := H9.out.fr (G := fun _ => False) hf8 (fun _ _ (hg : False) => False.elim hg)
            have hR8 : ∀ i, At R7 i → w.heap.size ≤ i := fun i hi => Nat.le_trans H9.out.below.size (HR7.out i hi)
            obtain ⟨AK, cK, hbK, hrK, _⟩ := hc8.pl.kv.ex
            have g0 := hbg.cell 0
            have g1 := hbg.cell 1
            have y0 := hbK.cell 0
            have y1 := hbK.cell 1
            have Hc8 := hide hc8
            have H98 := hide h98
            have HR8 := hide hR8
            have Hbg := hide hbg
            have Hkg := hide hkg
            have HbK := hide hbK
            have HrK := hide hrK
            clear hw8 hgb hf8 hbg hkg hc8 h98 hR8 hbK hrK Hk7 HR7 Hb7 Hc6 H9 hw7
            have hfinal : ∀ wz, Fr (fun _ => False) w8 wz → CrL w b kb bl (.pointer (some ⟨lb2, 0, none⟩)) j ((wz.setCell ⟨kb, 0, none⟩ (.string ⟨kz.snap.toArray⟩)).setCell ⟨kb, 1, none⟩ (.slice R7 rz c7)) := by
              intro wz hfz
              have hbz := Blk.fr HbK.out hfz (fun h => h)
              have hlz : LOn w wz lb2 b F5 _ D5 := H98.out.fr (G := fun _ => False) hfz (fun _ _ (hg : False) => False.elim hg)
              exact ⟨lb2, F5, _, D5, kz, rfl, hlz.putK hbz Hc8.out.pl.kv.kb _ _, Hl5.out.opened, rfl, rfl, ho5, KVar.put hbz Hc8.out.pl.kv.kb R7 rz c7 Hrz.out.symm (Hkg.out.fr hfz (fun _ _ h => h)) HR8.out⟩
            have Hfinal := hide hfinal
            clear hfinal
            have hsm : Calls Try.prog 22 #[.agg #[.string ⟨kz.snap.toArray⟩, .slice R7 rz c7], .agg #[.string ⟨k1.snap.toArray⟩, .slice AK k1.recs.length cK]] w8 (SamePost (sameB kz.snap k1.snap kz.recs k1.recs) w8) :=
              ksame_any kz.snap k1.snap R7 AK rz k1.recs.length c7 cK kz.recs k1.recs w8 Hkg.out HrK.out (by rw [Hrz.out]; exact Hzl.out) (by omega)
            obtain ⟨sb, hsbe⟩ : ∃ sb, sb = sameB kz.snap k1.snap kz.recs k1.recs := ⟨_, rfl⟩
            rw [← hsbe] at hsm
            have Hsm := hide hsm
            clear hsm
            rcases sb with _ | _
            · have hzm : kz = km := by
                rcases Hz5.out with e | e
                · rw [e] at hsbe
                  rw [show sameB k1.snap k1.snap k1.recs k1.recs = true from decide_eq_true ⟨rfl, rfl⟩] at hsbe
                  cases hsbe
                · exact e
              have Hzm := hide hzm
              clear hsbe hzm
              go_wp2_with fail
              refine Hsm.out.mono ?_
              rintro e wz ⟨rfl, hbz⟩
              have hfz : Fr (fun _ => False) w8 wz := Fr.of_below hbz
              have hcz := Hc8.out.same hfz
              obtain ⟨AM, cM, hbM, hrM, _⟩ := hcz.mv.ex
              have g0 := (Blk.fr Hbg.out hfz (fun h => h)).cell 0
              have g1 := (Blk.fr Hbg.out hfz (fun h => h)).cell 1
              have y0 := hbM.cell 0
              have y1 := hbM.cell 1
              have hsm2 : Calls Try.prog 22 #[.agg #[.string ⟨kz.snap.toArray⟩, .slice R7 rz c7], .agg #[.string ⟨km.snap.toArray⟩, .slice AM km.recs.length cM]] wz (SamePost (sameB kz.snap km.snap kz.recs km.recs) wz) :=
                ksame_any kz.snap km.snap R7 AM rz km.recs.length c7 cM kz.recs km.recs wz (Hkg.out.fr hfz (fun _ _ h => h)) hrM (by rw [Hrz.out]; exact Hzl.out) (by rw [← Hzm.out]; exact Hzl.out)
              have hsame : sameB kz.snap km.snap kz.recs km.recs = true := by rw [Hzm.out]; exact decide_eq_true ⟨rfl, rfl⟩
              rw [hsame] at hsm2
              have Hsm2 := hide hsm2
              have Hfz := hide hfz
              clear Hzm hbz hfz hcz hbM hrM hsm2 hsame Hsm
              go_wp2_with fail
              refine Hsm2.out.mono ?_
              rintro e wy ⟨rfl, hby⟩
              have hfy : Fr (fun _ => False) w8 wy := Hfz.out.trans' (Fr.of_below (F := fun _ => False) hby) (fun _ _ h => h)
              have hbgy := Blk.fr Hbg.out hfy (fun h => h)
              have hbKy := Blk.fr HbK.out hfy (fun h => h)
              have g0 := hbgy.cell 0
              have g1 := hbgy.cell 1
              have y0 := hbKy.cell 0
              have y1 := hbKy.cell 1
              have z0 := hbKy.frozen 0
              have z1 := hbKy.frozen 1
              have Hfin := hide (Hfinal.out wy hfy)
              clear hby hfy hbgy hbKy Hsm2 Hfinal Hfz
              go_wp2
              go_meet
              case rel => exact Hfin.out
            · clear hsbe
              go_wp2_with fail
              refine Hsm.out.mono ?_
              rintro e wy ⟨rfl, hby⟩
              have hfy : Fr (fun _ => False) w8 wy := Fr.of_below hby
              have hbgy := Blk.fr Hbg.out hfy (fun h => h)
              have hbKy := Blk.fr HbK.out hfy (fun h => h)
              have g0 := hbgy.cell 0
              have g1 := hbgy.cell 1
              have y0 := hbKy.cell 0
              have y1 := hbKy.cell 1
              have z0 := hbKy.frozen 0
              have z1 := hbKy.frozen 1
              have Hfin := hide (Hfinal.out wy hfy)
              clear hby hfy hbgy hbKy Hsm Hfinal
              go_wp2
              go_meet
              case rel => exact Hfin.out
        case rest =>
          obtain ⟨lb3, F3, L3, D3, k3, rfl, h3, s3, ha3, hb3, ho3, hk3⟩ := hcut
          have hca := h3.arm 0
          have Hca := hide hca
          have H3 := hide h3
          have S3 := hide s3
          have K3 := hide hk3
          clear hca h3 s3 hk3 Hc Hf
          go_wp2_with fail
          refine Hca.out.mono ?_
          rintro e w4 ⟨F4, rfl, h4, hf4, _⟩
          have Hfin := hide (show CrSt w b kb bl (.pointer (some ⟨lb3, 0, none⟩)) (j + 1) w4 from ⟨lb3, F4, _, _, k3, rfl, h4, S3.out.armed _, ha3, hb3, armed_small _ _ (by omega) (by omega), by rw [armed_ops]; omega, K3.out.call H3.out hf4⟩)
          clear h4 hf4 Hca
          go_wp2
          go_roundw
          case rel => exact ⟨j + 1, by omega, by go_num, Hfin.out⟩
          case measure => simp [intOf]; omega

theorem u8_natC {x : Int} (h : (Lit.int IntKind.u8 x).wf = true) : ∃ n : Nat, x = n ∧ n ≤ 255 := by
  simp [Lit.wf, IntKind.min, IntKind.max, IntKind.signed, IntKind.bits] at h
  exact ⟨x.toNat, by omega, by omega⟩
theorem crashes_walk (x : Int) (S : Option Addr) (c : Nat) (xs : List ActD) (w : World) (hx : (Lit.int IntKind.u8 x).wf = true) (hb : Acts w S xs) (hl : xs.length ≤ 9223372036854775807) :
    Calls Try.prog 5 #[.int .u8 x, .slice S xs.length c] w fun e w' => e = .returned (.bool true) ∧ Below w.heap.size w w' := by
  obtain ⟨n, rfl, hn⟩ := u8_natC hx
  exact lcrashes_any n S c xs w hn hb hl

set_option maxRecDepth 100000 in
theorem ledgerCrashes_lifted (os : Os) (started : os.Started) (H : Type) (enc : TypeId × Value → H) :
    ReturnsInHanded {} Try.checked os 5 .any (Rows.ledgerCrashesSpec.pre6 enc Try.prog Try.f5 Rows.ledgerCrashesRow.domain false) (Rows.ledgerCrashesSpec.post enc Try.prog Try.f5 false true false false) := by
  refine returnsInHanded_of_change (C := Try.checked) own0 started (by kernel_rfl) Try.func5
    (ChangeSpec.witness6 (enc := enc) (C := Try.checked) false ⟨#[], #[.int .u8 0, .slice none 0 0], []⟩ 8 (by kernel_rfl) (by kernel_rfl) (by kernel_rfl) (by kernel_rfl)) ?_
  intro W base args ds gs before hval0 hW _ _
  have hval : ∀ (j : Nat) t v, Try.f5.params[j]? = some t → args[j]? = some v → Value.okWide Try.prog W .any base t v := hval0
  have hW' := hW
  obtain ⟨p, q, hA0, hV, rfl, hfz, hnd⟩ := hW
  have hA : DataW.TrodAll enc Try.prog W 0 (fun _ => true) true Try.f5.params.toList args.toList ds p := hA0
  rw [Try.params5] at hA hval
  obtain ⟨v0, v1, d0, d1, p0, p1, rfl, rfl, rfl, h0, h1⟩ := trodAll_two hA
  obtain ⟨rfl, rfl⟩ := trodVars_none hV
  obtain ⟨x0, rfl, rfl, rfl, w0⟩ := open_int Try.underlying5 (hval 0 5 v0 rfl rfl) h0
  obtain ⟨A1, c1, l1, rfl, b1, m1⟩ := open_acts (hval 1 27 v1 rfl rfl) h1
  clear hA0 hval0
  refine (crashes_walk x0 A1 c1 l1 W w0 b1 m1).mono fun e W' ⟨he, hb⟩ => ?_
  subst he
  exact ⟨_, rfl, law_close laid0 Try.underlying4 rfl rfl (by rw [Try.params5]; decide +kernel) hW' (fun gs hg => by subst hg; rfl) hb⟩

theorem ledgerCrashes_holds : Rows.LedgerCrashesSaid :=
  OpenClaim.holds_of_wide 5 Try.f5 rfl rfl rfl rfl rfl rfl rfl ⟨rfl, rfl, rfl, rfl, rfl⟩ rfl rfl rfl rfl rfl (by kernel_rfl) Try.func5 (by kernel_rfl)
    (of_decide_eq_true (by kernel_rfl)) (by unfold Func.isWrapper; first | (rw [if_pos (by decide +kernel)]; kernel_rfl) | (rw [if_neg (by decide +kernel)]; exact ⟨rfl, rfl⟩))
    (fun os started H enc _ => ledgerCrashes_lifted os started H enc)
end Go.Proofs.Ytbcpplndmndkiaa
