/-
  Any records and snapshots, without falls: each answer, what is kept, also opened anew, and how much room is left: LedgerPlays answers true for any count and script; no condition.
-/
import Derived.Test.YtbcpplndmndkiaaActsC
import Derived.Test.YtbcpplndmndkiaaLaw
import Derived.Deep.CutRange
import Derived.Deep.CutBlock
namespace Go.Proofs.Ytbcpplndmndkiaa
open Go.RowKit Go.ChangeShapes Go.WideShapes Go.ChangeAt

def PlSt (w0 : World) (b kb bl : Nat) (lv : Value) (j : Nat) (wr : World) : Prop :=
  ∃ lb F L D k, lv = .pointer (some ⟨lb, 0, none⟩) ∧ LOn w0 wr lb b F L D ∧ St D L k ∧ L.at_ = 1 ∧ L.bl = bl ∧ D.fuse = 0 ∧ D.ops ≤ 6000 * j ∧ KVar w0 wr kb k
def PlRel (w0 : World) (b kb bl : Nat) (lv i : Value) (wr : World) : Prop := ∃ j : Nat, j ≤ 50 ∧ i = .int .i64 j ∧ PlSt w0 b kb bl lv j wr
def PlDone (w0 : World) (lv : Value) (wr : World) : Prop := Below w0.heap.size w0 wr ∧ ∃ lb : Nat, lv = .pointer (some ⟨lb, 0, none⟩)
theorem PlSt.done {w0 : World} {b kb bl : Nat} {lv : Value} {j : Nat} {wr : World} (h : PlSt w0 b kb bl lv j wr) : PlDone w0 lv wr := by
  obtain ⟨lb, F, L, D, k, h1, h2, _⟩ := h
  exact ⟨h2.below, lb, h1⟩

set_option maxRecDepth 100000 in
set_option maxHeartbeats 8000000 in
theorem lplays_any (cnt : Nat) (S : Option Addr) (c : Nat) (xs : List ActD) (w : World) (hc : cnt ≤ 255) (hx : Acts w S xs) (_hxl : xs.length ≤ 9223372036854775807) :
    Calls Try.prog 4 #[.int .u8 (cnt : Int), .slice S xs.length c] w fun e w' => e = .returned (.bool true) ∧ Below w.heap.size w w' := by
  have Hx := hide hx
  clear hx
  go_enter Try.func4, Try.ntmps4
  go_wp2_with fail
  refine (awake_any w).mono ?_
  rintro e w1 ⟨rfl, hb1⟩
  have Hb1 := hide hb1
  clear hb1
  go_wp2_with fail
  obtain ⟨bl, hbl, hbl2, hbl3⟩ : ∃ bl : Nat, 4 + 2 * ((cnt : Int) % 30) = ((2 * bl : Nat) : Int) ∧ 2 ≤ bl ∧ bl ≤ 31 := ⟨2 + cnt % 30, by omega, by omega, by omega⟩
  rw [hbl]
  clear hbl
  refine (lopen_any bl w w1 Hb1.out hbl2 (by omega)).mono ?_
  rintro e w2 ⟨lb, b, F0, rfl, h0, hb2, _⟩
  have s0 := (lies_new (2 * bl + 1) 1 bl hbl2 (by omega) (by omega)).opened
  have H0 := hide h0
  have S0 := hide s0
  clear h0 s0 hb2 Hb1
  go_upto_block 0 with fail
  obtain ⟨rm, hrm⟩ : ∃ rm : Nat, rm = 64 * (bl - 1) := ⟨_, rfl⟩
  rw [show (64 : Int) * ((bl : Int) - 1) = (rm : Int) by omega]
  obtain ⟨kb, hkb⟩ : ∃ kb, kb = w2.heap.size := ⟨_, rfl⟩
  obtain ⟨wk, hwk⟩ : ∃ wk, wk = w2.alloc (.cells #[.string ⟨#[]⟩, .slice none 0 0] 34) := ⟨_, rfl⟩
  have hst : PlSt w b kb bl (.pointer (some ⟨lb, 0, none⟩)) 0 wk := by
    refine ⟨lb, F0, _, _, _, rfl, ?_, S0.out, rfl, rfl, rfl, Nat.le_refl _, ?_⟩
    · rw [hwk]
      exact H0.out.alloc _
    · rw [hwk, hkb]
      exact ⟨⟨none, 0, Blk.new w2 _ _, KRow.nil _, fun j h => absurd h At.none_not⟩, H0.out.below.size⟩
  have Hst := hide hst
  rw [← hkb, ← hwk]
  have Hrm := hide hrm
  have hrm3 : rm ≤ 1920 := by omega
  clear hst hwk hkb H0 S0 hrm
  go_cut [7] from 38 to 160 (fun lv w' => PlDone w lv w')
  case rest =>
    obtain ⟨hb, lbx, rfl⟩ := hcut
    have Hb := hide hb
    clear hb Hst
    go_wp2
    go_ret
    exact ⟨rfl, Hb.out⟩
  case first =>
   go_wp2_with fail
   go_loopw [7, 10] (fun lv i wr => PlRel w b kb bl lv i wr) (fun _ i _ => 50 - (intOf i).toNat)
   case atStart => exact ⟨0, by omega, rfl, Hst.out⟩
   case round =>
    obtain ⟨j, hj, rfl, hst⟩ := hrel
    clear Hst
    by_cases hl : j < xs.length
    case neg =>
      have Hd := hide hst.done
      clear hst
      go_wp2
      go_meet
      case rel => exact Hd.out
    by_cases h50 : j < 50
    case neg =>
      have Hd := hide hst.done
      clear hst
      go_wp2
      go_meet
      case rel => exact Hd.out
    obtain ⟨lb1, F1, L1, D1, k1, rfl, h1, s1, ha1, hb1, hf1, ho1, hk1⟩ := hst
    obtain ⟨a, ha⟩ : ∃ a, xs[j]? = some a := ⟨_, List.getElem?_eq_getElem hl⟩
    obtain ⟨g, o, rfl, hat⟩ : ∃ g o, S = some ⟨g, o, none⟩ ∧ ActAt w g (o + j * 5) a := by
      rcases Hx.out with h | ⟨g, o, h1, h2⟩
      · rw [h] at hl; simp at hl
      · exact ⟨g, o, h1, h2 j a ha⟩
    have hat2 := hat.below h1.below
    have Hr := hide hat2.range
    have Hat := hide hat
    have za := zeroA
    have hp0 : Pl w (wr.alloc (.cells (actCells a).toArray 36)) lb1 b kb wr.heap.size (actCells a).toArray F1 L1 D1 k1 := ⟨h1.alloc _, hk1.same ((Fr.refl _ _).alloc _), Blk.new _ _ _, h1.below.size⟩
    have Hp0 := hide hp0
    have S1 := hide s1
    have A1 := hide ha1
    have B1 := hide hb1
    clear hat hat2 ha h1 s1 hk1 hp0 ha1 hb1
    go_upto_region 11 with (first
      | (refine wpList_load_mid rfl 36 (.tmp 50) rfl g (o + j * 5) rfl _ _ Hr.out Try.underlying36 rfl infoAct ?_)
      | (refine wpList_store_mid rfl 36 (.tmp 11) (.tmp 51) rfl wr.heap.size 0 _ rfl rfl (there_new _ _ _ _ (by show 5 ≤ 5; omega)) (show _ = some (actCells a).toArray.size from infoAct) (all_oneCell_toArray (actCells_one a)) ?_
         rw [List.toList_toArray, setCells_new _ _ _ _ (by rfl)]))
    obtain ⟨wa, hwa⟩ : ∃ wa, wa = wr.alloc (.cells (actCells a).toArray 36) := ⟨_, rfl⟩
    rw [← hwa] at Hp0 ⊢
    generalize wr.heap.size = ga at Hp0 ⊢
    clear hwa za Hr
    have q1 : wa.cell? ⟨ga, 1, none⟩ = some (.slice a.A a.p.length a.c) := Hp0.out.blk.cell 1
    by_cases h5 : 5000 < a.p.length
    case pos =>
      have Hb := hide Hp0.out.on.below
      clear Hat
      go_wp2
      go_ret
      exact ⟨rfl, Hb.out⟩
    have h5' : a.p.length ≤ 5000 := by omega
    go_upto_block 2 with fail
    have hk0 := Hat.out.kwf.1
    have hk1 := Hat.out.kwf.2
    have k0 : wa.cell? ⟨ga, 0, none⟩ = some (.int .u8 a.kind) := Hp0.out.blk.cell 0
    have hcl := k1.cnt_le
    have hnl := S1.out.need_le
    have hrl := lg_room_le S1.out
    have hw := k1.need_with a.p
    have hroom : L1.room = rm := by have := Hrm.out; have := B1.out; unfold Lg.room; omega
    go_cut [7] from 56 to 145 (fun lv w' => PlSt w b kb bl lv (j + 1) w')
    case first =>
      by_cases hq : a.kind % 8 < 5
      · have hcs := S1.out.append a.p
        obtain ⟨e0, he0⟩ : ∃ e0, e0 = L1.appE D1 a.p := ⟨_, rfl⟩
        obtain ⟨L2, hL2⟩ : ∃ L2, L2 = L1.appL D1 a.p := ⟨_, rfl⟩
        obtain ⟨D2, hD2⟩ : ∃ D2, D2 = L1.appD D1 a.p := ⟨_, rfl⟩
        have hca := Hp0.out.on.append S1.out (by omega) (by omega) a.A a.p.length a.c a.p rfl (Hp0.out.on.bytes Hat.out.bytes) (by omega)
        rw [← he0, ← hL2, ← hD2] at hcs hca
        have Hcs := hide hcs
        have Hca := hide hca
        clear hcs hca he0 hL2 hD2
        go_wp2_with fail
        refine Hca.out.mono ?_
        rintro e w4 ⟨F4, rfl, h4, hf4, _⟩
        have hp4 := Hp0.out.call h4 hf4
        have hby := h4.bytes Hat.out.bytes
        have q1 : w4.cell? ⟨ga, 1, none⟩ = some (.slice a.A a.p.length a.c) := hp4.blk.cell 1
        obtain ⟨A4, c4, hb4, hr4, _⟩ := hp4.kv.ex
        have q2 := hb4.cell 0
        have q3 := hb4.cell 1
        have Hp4 := hide hp4
        have Hby := hide hby
        have Hr4 := hide hr4
        clear h4 hf4 hp4 hb4 hr4 hby Hca Hp0 k0
        go_wp2_with fail
        refine (kwith_any k1.snap A4 k1.recs.length c4 k1.recs a.A a.p.length a.c a.p w4 Hr4.out (by omega) rfl Hby.out).mono ?_
        rintro e w5 ⟨A5, c5, rfl, hk5, hA5, hb5⟩
        obtain ⟨rl, hrl5⟩ : ∃ rl, rl = (k1.recs ++ [a.p]).length := ⟨_, rfl⟩
        rw [← hrl5] at hk5 ⊢
        have Hrl5 := hide hrl5
        clear hrl5
        have HA5 := hide hA5
        have Hk5 := hide hk5
        have Hb5 := hide hb5
        clear hA5 hk5 hb5
        go_upto_block 3 with fail
        have hA5 := HA5.out
        have hk5 := Hk5.out
        have hf5 : Fr (fun _ => False) w4 w5 := Fr.of_below Hb5.out
        have hp5 := Hp4.out.same hf5
        obtain ⟨wm, hwm⟩ : ∃ wm, wm = w5.alloc (.cells #[.string ⟨k1.snap.toArray⟩, .slice A5 rl c5] 34) := ⟨_, rfl⟩
        rw [← hwm]
        have hp6 : Pl w wm lb1 b kb ga (actCells a).toArray F4 L2 D2 k1 := by rw [hwm]; exact hp5.same ((Fr.refl _ _).alloc _)
        have hbm : Blk wm w5.heap.size 34 #[.string ⟨k1.snap.toArray⟩, .slice A5 rl c5] := by rw [hwm]; exact Blk.new _ _ _
        have hk6 : KRow wm A5 rl c5 (k1.recs ++ [a.p]) := by rw [hwm]; exact hk5.fr (F := fun _ => False) ((Fr.refl _ _).alloc _) (fun _ _ h => h)
        have hA6 : ∀ i, At A5 i → w.heap.size ≤ i := fun i hi => by have := hA5 i hi; have := Hp4.out.on.below.size; omega
        have q1 : wm.cell? ⟨ga, 1, none⟩ = some (.slice a.A a.p.length a.c) := hp6.blk.cell 1
        have m0 := hbm.cell 0
        have m1 := hbm.cell 1
        obtain ⟨nd, hnd⟩ : ∃ nd, nd = needOf k1.snap (k1.recs ++ [a.p]) := ⟨_, rfl⟩
        have hndw : nd = (k1.with_ a.p).need := hnd
        have hkn := kneed_any k1.snap A5 rl c5 (k1.recs ++ [a.p]) wm hk6 (by rw [← hnd]; omega)
        rw [← hnd] at hkn
        generalize w5.heap.size = mb at hbm m0 m1 ⊢
        have Hp6 := hide hp6
        have Hbm := hide hbm
        have Hk6 := hide hk6
        have HA6 := hide hA6
        have Hkn := hide hkn
        clear hk5 hA5 HA5 Hk5 Hb5 hf5 hp5 hwm hp6 hbm hk6 hA6 hnd hkn Hp4 Hby Hr4 q2 q3
        rcases Hcs.out with ⟨h1, h2, h3, h4⟩ | ⟨h1, h2, h3, h4, h6⟩ | ⟨h1, h2, h3, h4⟩ | ⟨_, _, _, _, h4⟩
        case inr.inr.inr => exact absurd hf1 h4
        · subst h2 h3 h4
          have Hfin := hide (show PlSt w b kb bl (.pointer (some ⟨lb1, 0, none⟩)) (j + 1) wm from ⟨lb1, F4, _, _, k1, rfl, Hp6.out.on, S1.out, A1.out, B1.out, hf1, by omega, Hp6.out.kv⟩)
          clear Hcs Hkn
          go_wp2
          go_meet
          case rel => exact Hfin.out
        · subst h3 h4 h6
          clear Hcs
          have hgt : rm < nd := by omega
          go_wp2_with fail
          refine Hkn.out.mono ?_
          rintro e w7 ⟨rfl, hb7⟩
          have hp7 := Hp6.out.same (Fr.of_below hb7)
          have Hfin := hide (show PlSt w b kb bl (.pointer (some ⟨lb1, 0, none⟩)) (j + 1) w7 from ⟨lb1, F4, _, _, k1, rfl, hp7.on, S1.out, A1.out, B1.out, hf1, by omega, hp7.kv⟩)
          clear hb7 hp7 Hkn
          go_wp2
          go_meet
          case rel => exact Hfin.out
        · subst h3
          clear Hcs
          have hgt : nd ≤ rm := by omega
          have hn4 : a.p.length ≤ 4000 := h1
          have K4 := hide h4
          clear h4
          go_wp2_with fail
          refine Hkn.out.mono ?_
          rintro e w7 ⟨rfl, hb7⟩
          have hf7 : Fr (fun _ => False) wm w7 := Fr.of_below hb7
          have hp7 := Hp6.out.same hf7
          have hbm7 := Hbm.out.fr hf7 (fun h => h)
          have hk7 := Hk6.out.fr hf7 (fun _ _ h => h)
          obtain ⟨A7, c7, hb7', _, _⟩ := hp7.kv.ex
          have m0 := hbm7.cell 0
          have m1 := hbm7.cell 1
          have z0 := hb7'.frozen 0
          have z1 := hb7'.frozen 1
          have q2 := hb7'.cell 0
          have q3 := hb7'.cell 1
          have hp8 := Pl.putK (k' := k1.with_ a.p) hp7 hb7' A5 rl c5 (by rw [Hrl5.out]; rfl) hk7 HA6.out
          have Hfin := hide (show PlSt w b kb bl (.pointer (some ⟨lb1, 0, none⟩)) (j + 1) ((w7.setCell ⟨kb, 0, none⟩ (.string ⟨k1.snap.toArray⟩)).setCell ⟨kb, 1, none⟩ (.slice A5 rl c5)) from ⟨lb1, F4, _, _, _, rfl, hp8.on, K4.out.st, by rw [K4.out.at_, A1.out], by rw [K4.out.bl, B1.out], K4.out.fuse0 hf1, by have := K4.out.ops; omega, hp8.kv⟩)
          clear hb7 hf7 hp7 hbm7 hk7 hb7' hp8 Hkn Hk6 HA6 K4
          go_wp2
          go_meet
          case rel => exact Hfin.out
      by_cases hq5 : a.kind % 8 = 5
      · have hcs := S1.out.snapshot a.p
        obtain ⟨e0, he0⟩ : ∃ e0, e0 = L1.snE D1 a.p := ⟨_, rfl⟩
        obtain ⟨L2, hL2⟩ : ∃ L2, L2 = L1.snL D1 a.p := ⟨_, rfl⟩
        obtain ⟨D2, hD2⟩ : ∃ D2, D2 = L1.snD D1 a.p := ⟨_, rfl⟩
        have hca := Hp0.out.on.snapshot S1.out (by omega) (by omega) a.A a.p.length a.c a.p rfl (Hp0.out.on.bytes Hat.out.bytes) (by omega)
        rw [← he0, ← hL2, ← hD2] at hcs hca
        have hnp : (⟨a.p, []⟩ : Kp).need = a.p.length + 8 := rfl
        rw [hnp] at hcs
        have Hcs := hide hcs
        have Hca := hide hca
        clear hcs hca he0 hL2 hD2 hnp
        go_wp2_with fail
        refine Hca.out.mono ?_
        rintro e w4 ⟨F4, rfl, h4, hf4, _⟩
        have hp4 := Hp0.out.call h4 hf4
        have hby := h4.bytes Hat.out.bytes
        have hst := str_run rfl hby (c := a.c)
        have hbk := buildK1 ⟨a.p.toArray⟩ w4
        have q1 : w4.cell? ⟨ga, 1, none⟩ = some (.slice a.A a.p.length a.c) := hp4.blk.cell 1
        have Hp4 := hide hp4
        have Hbk := hide hbk
        clear h4 hf4 hp4 hby Hca Hp0 k0 hbk
        go_upto_region 34 with (refine wpList_build_run rfl 34 #[(0, .tmp 126)] rfl #[(0, .string ⟨a.p.toArray⟩)] rfl #[.string ⟨a.p.toArray⟩, .slice none 0 0] Hbk.out ?_)
        obtain ⟨wm, hwm⟩ : ∃ wm, wm = w4.alloc (.cells #[.string ⟨a.p.toArray⟩, .slice none 0 0] 34) := ⟨_, rfl⟩
        rw [← hwm]
        have hp6 : Pl w wm lb1 b kb ga (actCells a).toArray F4 L2 D2 k1 := by rw [hwm]; exact Hp4.out.same ((Fr.refl _ _).alloc _)
        have hbm : Blk wm w4.heap.size 34 #[.string ⟨a.p.toArray⟩, .slice none 0 0] := by rw [hwm]; exact Blk.new _ _ _
        have m0 := hbm.cell 0
        have m1 := hbm.cell 1
        have hkn := kneed_any a.p none 0 0 [] wm (KRow.nil _) (by show a.p.length + 8 + 0 ≤ _; omega)
        rw [show ((needOf a.p [] : Nat) : Int) = (a.p.length : Int) + 8 by show ((a.p.length + 8 + 0 : Nat) : Int) = _; omega] at hkn
        generalize w4.heap.size = mb at hbm m0 m1 ⊢
        have Hp6 := hide hp6
        have Hbm := hide hbm
        have Hkn := hide hkn
        clear hwm hp6 hbm hkn Hp4 hst Hbk
        rcases Hcs.out with ⟨h1, h2, h3, h4⟩ | ⟨h1, h2, h3⟩ | ⟨_, _, _, h4⟩
        case inr.inr => exact absurd hf1 h4
        · subst h2 h3 h4
          have hgt : rm < a.p.length + 8 := by omega
          clear Hcs
          go_wp2_with fail
          refine Hkn.out.mono ?_
          rintro e w7 ⟨rfl, hb7⟩
          have hp7 := Hp6.out.same (Fr.of_below hb7)
          have Hfin := hide (show PlSt w b kb bl (.pointer (some ⟨lb1, 0, none⟩)) (j + 1) w7 from ⟨lb1, F4, _, _, k1, rfl, hp7.on, S1.out, A1.out, B1.out, hf1, by omega, hp7.kv⟩)
          clear hb7 hp7 Hkn
          go_wp2
          go_meet
          case rel => exact Hfin.out
        · subst h2
          clear Hcs
          have hgt : a.p.length + 8 ≤ rm := by omega
          have K4 := hide h3
          clear h3
          go_wp2_with fail
          refine Hkn.out.mono ?_
          rintro e w7 ⟨rfl, hb7⟩
          have hf7 : Fr (fun _ => False) wm w7 := Fr.of_below hb7
          have hp7 := Hp6.out.same hf7
          have hbm7 := Hbm.out.fr hf7 (fun h => h)
          obtain ⟨A7, c7, hb7', _, _⟩ := hp7.kv.ex
          have m0 := hbm7.cell 0
          have m1 := hbm7.cell 1
          have z0 := hb7'.frozen 0
          have z1 := hb7'.frozen 1
          have q2 := hb7'.cell 0
          have q3 := hb7'.cell 1
          have hp8 := Pl.putK (k' := ⟨a.p, []⟩) hp7 hb7' none 0 0 rfl (KRow.nil _) (fun i hi => absurd hi At.none_not)
          have Hfin := hide (show PlSt w b kb bl (.pointer (some ⟨lb1, 0, none⟩)) (j + 1) ((w7.setCell ⟨kb, 0, none⟩ (.string ⟨a.p.toArray⟩)).setCell ⟨kb, 1, none⟩ (.slice none 0 0)) from ⟨lb1, F4, _, _, _, rfl, hp8.on, K4.out.st, by rw [K4.out.at_, A1.out], by rw [K4.out.bl, B1.out], K4.out.fuse0 hf1, by have := K4.out.ops; omega, hp8.kv⟩)
          clear hb7 hf7 hp7 hbm7 hb7' hp8 Hkn K4
          go_wp2
          go_meet
          case rel => exact Hfin.out
      · have hq7 : a.kind % 8 = 6 ∨ a.kind % 8 = 7 := by omega
        have hst : ∃ F D half, Pl w wa lb1 b kb ga (actCells a).toArray F L1 D k1 ∧ Lies D 1 bl half k1 ∧ D.fuse = 0 ∧ D.ops ≤ D1.ops := by
          have hl := S1.out.lies
          rw [A1.out, B1.out] at hl
          exact ⟨F1, D1, _, Hp0.out, hl, hf1, Nat.le_refl _⟩
        have Hst := hide hst
        clear hst
        go_upto_if 59 with fail
        go_cut [] from 56 to 145 (fun w' => ∃ F D half, Pl w w' lb1 b kb ga (actCells a).toArray F L1 D k1 ∧ Lies D 1 bl half k1 ∧ D.fuse = 0 ∧ D.ops ≤ D1.ops)
        case first =>
          rcases hq7 with hq7 | hq7
          · go_wp2_with fail
            go_meet
            case rel => exact Hst.out
          · have q3 : wa.cell? ⟨ga, 3, none⟩ = some (.int .i64 a.keep) := Hp0.out.blk.cell 3
            have q4 : wa.cell? ⟨ga, 4, none⟩ = some (.int .i64 a.torn) := Hp0.out.blk.cell 4
            have hca := Hp0.out.on.restart (by rw [S1.out.pend]; simp) a.keep a.torn
            have Hca := hide hca
            clear hca
            go_wp2_with fail
            refine Hca.out.mono ?_
            rintro e w4 ⟨F4, rfl, h4, hf4, _⟩
            have hp4 := Hp0.out.call h4 hf4
            have hl := S1.out.lies.restarted a.keep a.torn
            rw [A1.out, B1.out] at hl
            have Hfin := hide (show ∃ F D half, Pl w w4 lb1 b kb ga (actCells a).toArray F L1 D k1 ∧ Lies D 1 bl half k1 ∧ D.fuse = 0 ∧ D.ops ≤ D1.ops from ⟨F4, _, _, hp4, hl, rfl, Nat.le_refl _⟩)
            clear h4 hf4 hp4 hl Hst Hca
            go_wp2
            go_meet
            case rel => exact Hfin.out
        case rest =>
          obtain ⟨F2, D2, half, hp2, hl2, hf2, ho2⟩ := hcut
          have hop := open_lies (w0 := w) hl2 hp2.on.disk hp2.on.below hp2.on.own
          rw [show ((2 * bl : Nat) : Int) = 2 * (bl : Int) by omega] at hop
          have Hop := hide hop
          have Hp2 := hide hp2
          have Hl2 := hide hl2
          clear hop hp2 hl2 Hst Hp0 k0
          go_wp2_with fail
          refine Hop.out.mono ?_
          rintro e w9 ⟨lb2, A9, c9, R9, d9, rfl, hA9, hR9, h9, _, hb9, _⟩
          have hf9 : Fr (fun _ => False) wc w9 := Fr.of_below hb9
          have hk9 := Hp2.out.kv.same hf9
          obtain ⟨AK, cK, hbK, hrK, _⟩ := hk9.ex
          have hrl9 : k1.recs.length ≤ 1000000000 := by omega
          have Hrl9 := hide hrl9
          have HA9 := hide hA9
          have HR9 := hide hR9
          have HbK := hide hbK
          have HrK := hide hrK
          have H9 := hide h9
          have Hk9 := hide hk9
          clear hf9 hk9 hbK hrK hA9 hR9 h9 hb9 hrl9 Hop
          go_upto_region 16 with fail
          refine wp_region_planned (fun W => Below w9.heap.size w9 W) 9 [(false, 0), (false, 1), (false, 2), (false, 3), (false, 4), (false, 6), (true, 5), (true, 7), (false, 8)] (by kernel_rfl) (by kernel_rfl) (fun _ _ d _ _ h => by cases d <;> exact h) (Below.refl _ _).drew ?_
          simp only [steps, List.getElem?_toArray, List.filterMap_cons, List.filterMap_nil, Option.map_some, List.getElem?_cons_zero, List.getElem?_cons_succ, List.drop_succ_cons, List.drop_zero]
          iterate 5 (refine wpPlan_read rfl (fun W hW => (by go_simp; try with_reducible rfl)) ?_)
          refine wpPlan_read (v := .agg #[.string ⟨k1.snap.toArray⟩, .slice AK k1.recs.length cK]) rfl (fun W hW => (by
            have q0 := (HbK.out.below hW (HbK.out.lt)).cell 0
            have q1 := (HbK.out.below hW (HbK.out.lt)).cell 1
            go_simp)) ?_
          simp only [Act.put, List.setIfInBounds_toArray, List.set_cons_zero, List.set_cons_succ]
          refine wpPlan_doesG rfl (fun K hK => ?_)
          refine wp_call_by 23 #[.slice A9 k1.snap.length c9, .slice R9 k1.recs.length d9] (by kernel_rfl) (kof_any A9 _ c9 k1.snap _ R9 k1.recs.length d9 k1.recs w9.drew rfl (HA9.out.fr (F := fun _ => False) (Fr.refl _ _).drew (fun _ _ h => h)) (HR9.out.fr (F := fun _ => False) (Fr.refl _ _).drew (fun _ h => False.elim h)) Hrl9.out) ?_
          rintro e w10 ⟨R10, c10, rfl, hk10, _, hb10⟩
          have hs10 : Below w9.heap.size w9 w10 := (Below.refl _ _).drew.trans hb10
          refine ⟨_, rfl, hK _ _ hs10 ?_⟩
          clear hK hb10
          simp only [Act.put, List.setIfInBounds_toArray, List.set_cons_zero, List.set_cons_succ]
          refine wpPlan_doesG rfl (fun K hK => ?_)
          refine wp_call_by 22 #[.agg #[.string ⟨k1.snap.toArray⟩, .slice R10 k1.recs.length c10], .agg #[.string ⟨k1.snap.toArray⟩, .slice AK k1.recs.length cK]] (by kernel_rfl) (ksame_any k1.snap k1.snap R10 AK _ _ c10 cK k1.recs k1.recs w10 hk10 (HrK.out.fr (Fr.of_below hs10) (fun _ _ h => h)) Hrl9.out Hrl9.out) ?_
          rintro e w11 ⟨rfl, hb11⟩
          have hs11 : Below w9.heap.size w9 w11 := hs10.trans (hb11.mono hs10.size)
          refine ⟨_, rfl, hK _ _ hs11 ?_⟩
          clear hK hb11 hk10
          rw [show sameB k1.snap k1.snap k1.recs k1.recs = true from decide_eq_true ⟨rfl, rfl⟩]
          simp only [Act.put, List.setIfInBounds_toArray, List.set_cons_zero, List.set_cons_succ]
          refine wpPlan_read rfl (fun W hW => (by go_simp; try with_reducible rfl)) ?_
          refine wpPlan_nil ?_
          simp only [Act.put, List.setIfInBounds_toArray, List.set_cons_zero, List.set_cons_succ]
          have Hfin := hide (show PlSt w b kb bl (.pointer (some ⟨lb2, 0, none⟩)) (j + 1) w11 from ⟨lb2, F2, _, _, k1, rfl, H9.out.below_ hs11, Hl2.out.opened, rfl, rfl, hf2, by omega, Hk9.out.same (Fr.of_below hs11)⟩)
          clear hs10 hs11
          go_wp2
          go_meet
          case rel => exact Hfin.out
    case rest =>
      clear Hp0
      obtain ⟨lb2, F2, L2, D2, k2, rfl, h2, s2, ha2, hb2, hf2, ho2, hk2⟩ := hcut
      have hcl := k2.cnt_le
      have hnl := s2.need_le
      have hrl := lg_room_le s2
      have hroom : L2.room = rm := by have := Hrm.out; unfold Lg.room; omega
      obtain ⟨A2, c2, hbK, hrK, _⟩ := hk2.ex
      obtain ⟨nd, hnd⟩ : ∃ nd, nd = k2.need := ⟨_, rfl⟩
      have hlen := h2.drew.len s2
      have hlf := fun n => (h2.drewN n).left s2
      have Hnd := hide hnd
      have Hlen := hide hlen
      have H2 := hide h2
      have S2 := hide s2
      have Hk2 := hide hk2
      have HbK := hide hbK
      have HrK := hide hrK
      have hndr : nd ≤ rm := by omega
      have hs1 : IntKind.i64.wrap ((rm : Int) - (nd : Int)) = (rm : Int) - (nd : Int) := IntWalk.i64_in _ (by omega)
      clear hcl hnl hrl hnd hlen h2 s2 hk2 hbK hrK
      go_upto_region 38 with fail
      refine wp_region_planned (fun W => Below wc.heap.size wc W) 14 [(false, 0), (false, 2), (false, 3), (false, 4), (true, 1), (false, 5), (false, 6), (false, 7), (false, 9), (false, 10), (true, 8), (true, 11), (false, 12), (false, 13)] (by kernel_rfl) (by kernel_rfl) (fun _ _ d _ _ h => by cases d <;> exact h) (Below.refl _ _).drew ?_
      simp only [steps, List.getElem?_toArray, List.filterMap_cons, List.filterMap_nil, Option.map_some, List.getElem?_cons_zero, List.getElem?_cons_succ, List.drop_succ_cons, List.drop_zero]
      iterate 2 (refine wpPlan_read rfl (fun W hW => (by go_simp; try with_reducible rfl)) ?_)
      refine wpPlan_read (v := .slice A2 k2.recs.length c2) rfl (fun W hW => (by
        have q1 := (HbK.out.below hW (HbK.out.lt)).cell 1
        go_simp)) ?_
      refine wpPlan_read rfl (fun W hW => (by go_simp; try with_reducible rfl)) ?_
      simp only [Act.put, List.setIfInBounds_toArray, List.set_cons_zero, List.set_cons_succ]
      refine wpPlan_doesG rfl (fun K hK => ?_)
      refine wp_call_by 24 #[.pointer (some ⟨lb2, 0, none⟩)] (by kernel_rfl) Hlen.out ?_
      rintro e w3 ⟨rfl, rfl⟩
      have hs3 : Below wc.heap.size wc wc.drew := (Below.refl _ _).drew
      refine ⟨_, rfl, hK _ _ hs3 ?_⟩
      clear hK
      simp only [Act.put, List.setIfInBounds_toArray, List.set_cons_zero, List.set_cons_succ]
      iterate 4 (refine wpPlan_read rfl (fun W hW => (by go_simp; try with_reducible rfl)) ?_)
      refine wpPlan_read (v := .agg #[.string ⟨k2.snap.toArray⟩, .slice A2 k2.recs.length c2]) rfl (fun W hW => (by
        have q0 := (HbK.out.below hW (HbK.out.lt)).cell 0
        have q1 := (HbK.out.below hW (HbK.out.lt)).cell 1
        go_simp)) ?_
      simp only [Act.put, List.setIfInBounds_toArray, List.set_cons_zero, List.set_cons_succ]
      refine wpPlan_doesG rfl (fun K hK => ?_)
      refine wp_call_by 25 #[.pointer (some ⟨lb2, 0, none⟩)] (by kernel_rfl) (H2.out.drew.left S2.out) ?_
      rintro e w4 ⟨rfl, n4, rfl⟩
      have hs4 : Below wc.heap.size wc (wc.drew.drewN n4) := below_drewN hs3 n4
      refine ⟨_, rfl, hK _ _ hs4 ?_⟩
      clear hK
      rw [hroom, ← Hnd.out]
      simp only [Act.put, List.setIfInBounds_toArray, List.set_cons_zero, List.set_cons_succ]
      refine wpPlan_doesG rfl (fun K hK => ?_)
      refine wp_call_by 18 #[.agg #[.string ⟨k2.snap.toArray⟩, .slice A2 k2.recs.length c2]] (by kernel_rfl) (kneed_any k2.snap A2 k2.recs.length c2 k2.recs _ (HrK.out.fr (Fr.of_below hs4) (fun _ _ h => h)) (by have := Hnd.out; show k2.need ≤ _; omega)) ?_
      rintro e w5 ⟨rfl, hb5⟩
      have hs5 : Below wc.heap.size wc w5 := hs4.trans (hb5.mono hs4.size)
      refine ⟨_, rfl, hK _ _ hs5 ?_⟩
      clear hK hb5
      rw [show needOf k2.snap k2.recs = nd from Hnd.out.symm]
      simp only [Act.put, List.setIfInBounds_toArray, List.set_cons_zero, List.set_cons_succ]
      iterate 2 (refine wpPlan_read rfl (fun W hW => (by go_simp; try with_reducible rfl)) ?_)
      refine wpPlan_nil ?_
      simp only [Act.put, List.setIfInBounds_toArray, List.set_cons_zero, List.set_cons_succ]
      have Hfin := hide (show PlSt w b kb bl (.pointer (some ⟨lb2, 0, none⟩)) (j + 1) w5 from ⟨lb2, F2, _, _, k2, rfl, H2.out.below_ hs5, S2.out, ha2, hb2, hf2, ho2, Hk2.out.same (Fr.of_below hs5)⟩)
      clear hs3 hs4 hs5 hs1
      go_wp2
      go_roundw
      case rel => exact ⟨j + 1, by omega, by go_num, Hfin.out⟩
      case measure => simp [intOf]; omega

theorem u8_natP {x : Int} (h : (Lit.int IntKind.u8 x).wf = true) : ∃ n : Nat, x = n ∧ n ≤ 255 := by
  simp [Lit.wf, IntKind.min, IntKind.max, IntKind.signed, IntKind.bits] at h
  exact ⟨x.toNat, by omega, by omega⟩
theorem plays_walk (x : Int) (S : Option Addr) (c : Nat) (xs : List ActD) (w : World) (hx : (Lit.int IntKind.u8 x).wf = true) (hb : Acts w S xs) (hl : xs.length ≤ 9223372036854775807) :
    Calls Try.prog 4 #[.int .u8 x, .slice S xs.length c] w fun e w' => e = .returned (.bool true) ∧ Below w.heap.size w w' := by
  obtain ⟨n, rfl, hn⟩ := u8_natP hx
  exact lplays_any n S c xs w hn hb hl

set_option maxRecDepth 100000 in
theorem ledgerPlays_lifted (os : Os) (started : os.Started) (H : Type) (enc : TypeId × Value → H) :
    ReturnsInHanded {} Try.checked os 4 .any (Rows.ledgerPlaysSpec.pre6 enc Try.prog Try.f4 Rows.ledgerPlaysRow.domain false) (Rows.ledgerPlaysSpec.post enc Try.prog Try.f4 false true false false) := by
  refine returnsInHanded_of_change (C := Try.checked) own0 started (by kernel_rfl) Try.func4
    (ChangeSpec.witness6 (enc := enc) (C := Try.checked) false ⟨#[], #[.int .u8 0, .slice none 0 0], []⟩ 8 (by kernel_rfl) (by kernel_rfl) (by kernel_rfl) (by kernel_rfl)) ?_
  intro W base args ds gs before hval0 hW _ _
  have hval : ∀ (j : Nat) t v, Try.f4.params[j]? = some t → args[j]? = some v → Value.okWide Try.prog W .any base t v := hval0
  have hW' := hW
  obtain ⟨p, q, hA0, hV, rfl, hfz, hnd⟩ := hW
  have hA : DataW.TrodAll enc Try.prog W 0 (fun _ => true) true Try.f4.params.toList args.toList ds p := hA0
  rw [Try.params4] at hA hval
  obtain ⟨v0, v1, d0, d1, p0, p1, rfl, rfl, rfl, h0, h1⟩ := trodAll_two hA
  obtain ⟨rfl, rfl⟩ := trodVars_none hV
  obtain ⟨x0, rfl, rfl, rfl, w0⟩ := open_int Try.underlying5 (hval 0 5 v0 rfl rfl) h0
  obtain ⟨A1, c1, l1, rfl, b1, m1⟩ := open_acts (hval 1 27 v1 rfl rfl) h1
  clear hA0 hval0
  refine (plays_walk x0 A1 c1 l1 W w0 b1 m1).mono fun e W' ⟨he, hb⟩ => ?_
  subst he
  exact ⟨_, rfl, law_close laid0 Try.underlying4 rfl rfl (by rw [Try.params4]; decide +kernel) hW' (fun gs hg => by subst hg; rfl) hb⟩

theorem ledgerPlays_holds : Rows.LedgerPlaysSaid :=
  OpenClaim.holds_of_wide 4 Try.f4 rfl rfl rfl rfl rfl rfl rfl ⟨rfl, rfl, rfl, rfl, rfl⟩ rfl rfl rfl rfl rfl (by kernel_rfl) Try.func4 (by kernel_rfl)
    (of_decide_eq_true (by kernel_rfl)) (by unfold Func.isWrapper; first | (rw [if_pos (by decide +kernel)]; kernel_rfl) | (rw [if_neg (by decide +kernel)]; exact ⟨rfl, rfl⟩))
    (fun os started H enc _ => ledgerPlays_lifted os started H enc)
end Go.Proofs.Ytbcpplndmndkiaa
