/- The law of sealed bytes. -/
import Derived.Test.YtonlpgjcmodpnaaSf
namespace Go.Proofs.Ytonlpgjcmodpnaa
open Go.RowKit

theorem own_set {w : World} {g n c : Nat} {l : List UInt8} (h : OwnB w (some ⟨g, 0, none⟩) n c l) (j : Nat) (y : UInt8) : OwnB (w.setCell ⟨g, j, none⟩ (B8 y)) (some ⟨g, 0, none⟩) n c (l.set j y) := by
  rcases h.form with ⟨h0, _⟩ | ⟨g', cur, he, hb, hnc, hcm, hcs, ht⟩
  · cases h0
  · cases he
    refine ⟨by rw [List.length_set]; exact h.1, by rw [B8s_length, List.length_set, h.1, Nat.mul_one], .inr ⟨g, c, _, rfl, Nat.zero_le _, hb.set_ j _, hnc, hcm, by simp; exact hcs, ?_⟩⟩
    rw [Nat.mul_one, Array.toList_setIfInBounds, List.take_set, ht, B8s, B8s, List.map_set]
theorem flip_val (x : UInt8) (b : Nat) (hb : b < 8) : (.int .u8 (bits .xor .u8 (x.toNat : Int) ((2 : Int) ^ b % 256)) : Value) = B8 (UInt8.ofNat (x.toNat ^^^ 2 ^ b)) := by
  have h2 : 2 ^ b < 256 := Nat.lt_of_le_of_lt (Nat.pow_le_pow_right (by omega) (by omega : b ≤ 7)) (by decide)
  have h1 : (2 : Int) ^ b % 256 = ((2 ^ b : Nat) : Int) := by
    rw [show (2 : Int) ^ b = ((2 ^ b : Nat) : Int) by rw [Int.natCast_pow]; rfl]
    exact Int.emod_eq_of_lt (Int.natCast_nonneg _) (by omega)
  have h4 : (UInt8.ofNat (x.toNat ^^^ 2 ^ b)).toNat = x.toNat ^^^ 2 ^ b := by simp; rw [Nat.mod_eq_of_lt h2]
  rw [h1, u8_xor_nat _ _ x.toNat_lt h2, B8, h4]
def SDone (w1 : World) (g n cp : Nat) (L : List UInt8) (k P : Nat) (tv : Value) (wr : World) : Prop :=
  ∃ (L' : List UInt8) (tb : Bool), tv = .bool tb ∧ (tb = true ↔ P ≠ 0) ∧ OwnB wr (some ⟨g, 0, none⟩) n cp L' ∧ leN L' = leN L ^^^ 2 ^ k * P ∧ Below w1.heap.size w1 wr
def STurn (w1 : World) (g n cp : Nat) (L : List UInt8) (k pt i : Nat) (tv : Value) (wr : World) : Prop := SDone w1 g n cp L k (pt % 2 ^ i) tv wr
set_option maxRecDepth 100000 in
set_option maxHeartbeats 8000000 in
theorem wseals_any (s : List UInt8) (at_ : Nat) (pt : Nat) (Aq : Option Addr) (cq : Nat) (q : List UInt8) (w : World) (hs : s.length ≤ 9223372036854775807) (hat : at_ < 65536) (hpt : pt < 4294967296) (hq : Bytes w Aq q) (hqc : q.length ≤ cq) (hql : q.length ≤ 9223372036854775807) :
    Calls Try.prog 5 #[sv s, .int .u16 (at_ : Int), .int .u32 (pt : Int), .slice Aq q.length cq] w fun e w' => e = .returned (.bool true) ∧ Below w.heap.size w w' := by
  have Hq := hide hq
  clear hq
  obtain ⟨nq, hnq⟩ : ∃ nq, nq = q.length := ⟨_, rfl⟩
  rw [← hnq] at hqc hql ⊢
  have Hnq := hide hnq
  clear hnq
  go_enter Try.func5, Try.ntmps5
  go_wp2_with fail
  refine (awake_any _).mono ?_
  rintro e w1 ⟨rfl, hb1⟩
  have Hb1 := hide hb1
  clear hb1
  by_cases hlong : 3000 < s.length
  · go_wp2_with fail
    refine (awake_any _).mono ?_
    rintro e w2 ⟨rfl, hb2⟩
    have Hb2 := hide (Hb1.out.trans (hb2.mono Hb1.out.size))
    clear hb2
    go_wp2
    go_ret
    exact ⟨rfl, Hb2.out⟩
  by_cases hlong2 : 3000 < nq
  · go_wp2_with fail
    refine (awake_any _).mono ?_
    rintro e w2 ⟨rfl, hb2⟩
    have Hb2 := hide (Hb1.out.trans (hb2.mono Hb1.out.size))
    clear hb2
    go_wp2
    go_ret
    exact ⟨rfl, Hb2.out⟩
  have hs3 : s.length ≤ 3000 := by omega
  have hq3 : nq ≤ 3000 := by omega
  clear hlong hlong2 hs hql
  have hta : (textB s).length ≤ 3010 ∧ 1 ≤ (textB s).length := by
    have := Lib.uvarint_length64 (x := s.length) (by omega)
    have := Lib.uvarint_pos s.length
    rw [textB, List.length_append]
    omega
  go_wp2_with fail
  refine (wtext_any w1.heap.size _ [] s _ (wt_new w1) (by simp; omega)).mono ?_
  rintro e w2 ⟨F2, rfl, h2, f2, n2⟩
  rw [List.nil_append] at h2
  have b2 : Below w1.heap.size w1 w2 := ((Below.refl _ _).alloc (Nat.le_refl _) _).trans (f2.below (by simp) (fun k hk => hk.elim (fun e => by omega) (fun h => absurd h At.none_not)))
  have B2 := hide b2
  have hsd := sealed_any w1.heap.size F2 (textB s) w2 h2 (by omega)
  obtain ⟨L, hL⟩ : ∃ L, L = sealB (textB s) := ⟨_, rfl⟩
  have hLl : L.length = (textB s).length + 4 := by rw [hL, sealB, List.length_append]; rfl
  rw [← hL] at hsd
  obtain ⟨n, hn⟩ : ∃ n, n = L.length := ⟨_, rfl⟩
  have hnb : 5 ≤ n ∧ n ≤ 3014 := by omega
  rw [← hn] at hsd
  have Hsd := hide hsd
  have HL := hide hL
  have HLl := hide hLl
  have Hn := hide hn
  have Hta := hide hta
  clear h2 f2 n2 b2 hsd hL hLl hn hta
  go_wp2_with fail
  refine Hsd.out.mono ?_
  rintro e w3 ⟨Ap, cp, rfl, hop, hAp, hb3⟩
  have hop1 := hop.1
  obtain ⟨g, rfl⟩ := hop.addr (by omega)
  have hgge : w1.heap.size ≤ g := Nat.le_trans B2.out.size (hAp g (At.some_iff.2 rfl))
  have hncp : n ≤ cp := by
    rcases hop.form with ⟨h, _⟩ | ⟨_, _, _, _, h, _⟩
    · cases h
    · exact h
  have H3 := hide (show _ ∧ _ from ⟨hop, B2.out.trans (hb3.mono B2.out.size)⟩)
  have Hgge := hide hgge
  have hstL : str_run (w := w3) (c := cp) rfl hop.bytes = str_run (w := w3) (c := cp) rfl hop.bytes := rfl
  clear hop hAp hb3 hop1 hgge Hsd B2 hstL
  go_upto_region 5 with fail
  refine wp_region_planned (fun W => Below w3.heap.size w3 W) 6 [(false, 0), (false, 1), (false, 2), (true, 3), (true, 4), (true, 5)] (by kernel_rfl) (by kernel_rfl) (fun _ _ d _ _ h => by cases d <;> exact h) (Below.refl _ _).drew ?_
  simp only [steps, List.getElem?_toArray, List.filterMap_cons, List.filterMap_nil, Option.map_some, List.getElem?_cons_zero, List.getElem?_cons_succ, List.drop_succ_cons, List.drop_zero]
  refine wpPlan_read rfl (fun W hW => (by go_simp; try with_reducible rfl)) ?_
  refine wpPlan_read (v := .string ⟨L.toArray⟩) rfl (fun W hW => (by
    have hc := str_run (n := n) (c := cp) (l := L) Hn.out.symm (H3.out.1.bytes.below hW (Nat.le_refl _))
    clear hW
    go_simp)) ?_
  refine wpPlan_read rfl (fun W hW => (by go_simp; try with_reducible rfl)) ?_
  simp only [Act.put, List.setIfInBounds_toArray, List.set_cons_zero, List.set_cons_succ]
  refine wpPlan_does rfl (fun K hK => ?_)
  refine wp_call_by 19 #[sv s] (by kernel_rfl) (rtext_any s w3.drew (by omega)) ?_
  rintro e w4 ⟨A4, c4, rfl, ho4, hA4, hb4⟩
  have hs4 : Below w3.heap.size w3 w4 := (Below.refl _ _).drew.trans hb4
  refine ⟨_, rfl, hK _ _ hs4 ?_⟩
  clear hK hb4
  simp only [Act.put, List.setIfInBounds_toArray, List.set_cons_zero, List.set_cons_succ]
  refine wpPlan_does rfl (fun K hK => ?_)
  refine wp_call_by 35 #[.slice A4 (textB s).length c4] (by kernel_rfl) (rseal_any A4 c4 (textB s) w4 ho4.bytes (by have := Hta.out; omega)) ?_
  rintro e w5 ⟨A5, c5, rfl, ho5, hA5, hb5⟩
  have hs5 : Below w3.heap.size w3 w5 := hs4.trans (hb5.mono hs4.size)
  refine ⟨_, rfl, hK _ _ hs5 ?_⟩
  clear hK hb5
  simp only [Act.put, List.setIfInBounds_toArray, List.set_cons_zero, List.set_cons_succ]
  have hst5 := str_run (c := c5) rfl ho5.bytes
  refine wpPlan_does rfl (fun K hK => ?_)
  refine wp_run_val (v := .string ⟨(sealB (textB s)).toArray⟩) (by go_simp) ?_
  refine hK _ _ hs5 ?_
  clear hK hst5 ho4 ho5 hA4 hA5
  rw [← HL.out]
  refine wpPlan_nil ?_
  have H5 := hide (show _ ∧ _ from ⟨H3.out.1.below hs5, H3.out.2.trans (hs5.mono H3.out.2.size)⟩)
  have Hs5 := hide hs5.size
  clear hs4 hs5
  have hop2 := open_long (some ⟨g, 0, none⟩) cp L w5 H5.out.1.bytes (by have := Hn.out; omega) (by have := Hn.out; omega) (by have := Hn.out; omega)
  rw [← Hn.out] at hop2
  have Hop2 := hide hop2
  clear hop2 H3
  go_wp2_with fail
  refine Hop2.out.mono ?_
  rintro e w6 ⟨h6, hb6⟩
  rcases h6 with ⟨hno, _⟩ | ⟨_, rb, rfl, hr6, hrb6⟩
  · exact absurd (by rw [HL.out]; exact okSeal_seal _) hno
  have htl : L.take (L.length - 4) = textB s := by
    rw [HL.out, sealB, List.length_append, show (le4 (crc (textB s))).length = 4 from rfl, show (textB s).length + 4 - 4 = (textB s).length by omega, List.take_left]
  rw [htl] at hr6
  have ht := rtext_all rb _ false 3000 w6 hr6 (by omega)
  have hte := rdText_enc s 3000 [] (by omega)
  rw [List.append_nil, if_pos hs3] at hte
  rw [show (3000 : Int).toNat = 3000 from rfl, hte] at ht
  have Ht := hide (show Calls Try.prog 23 #[.pointer (some ⟨rb, 0, none⟩), .int .i64 3000] w6 (RPost rb (sv s) [] false w6) from ht)
  have H6 := hide (show _ ∧ _ ∧ _ from ⟨H5.out.1.below hb6, H5.out.2.trans (hb6.mono H5.out.2.size), Nat.le_trans H5.out.2.size hrb6⟩)
  have Hgrb := hide (show g ≠ rb from fun e => by have := H5.out.1.lt g (At.some_iff.2 rfl); omega)
  clear hb6 hr6 hrb6 htl ht hte Hop2 H5 Hs5
  go_wp2_with fail
  refine Ht.out.mono ?_
  rintro e w7 ⟨rfl, h7, f7⟩
  have hen : Calls Try.prog 24 #[.pointer (some ⟨rb, 0, none⟩)] w7 fun e w' => e = .returned (.bool true) ∧ w7 = w' := rend_any rb [] false w7 h7
  have Hen := hide hen
  have H7 := hide (show _ ∧ _ from ⟨H6.out.1.fr f7 (fun k hk e => by rw [At.some_iff] at hk; simp only at hk; exact Hgrb.out (hk.trans e)), H6.out.2.1.trans (f7.below H6.out.2.1.size (fun k hk => by rw [hk]; exact H6.out.2.2))⟩)
  clear h7 f7 hen Ht H6 Hgrb
  go_upto_region 11 with (go_at_call 24; refine Hen.out.mono ?_; rintro e w' ⟨rfl, rfl⟩)
  go_upto_block 0 with fail
  obtain ⟨k, hk, hkn⟩ : ∃ k : Nat, (at_ : Int) % (8 * (n : Int)) = (k : Int) ∧ k < 8 * n := ⟨at_ % (8 * n), by rw [Int.natCast_emod]; simp, Nat.mod_lt _ (by omega)⟩
  rw [hk]
  clear hk
  have Hst0 := hide (show STurn w1 g n cp L k pt 0 (.bool false) w7 from ⟨L, false, rfl, by simp [Nat.mod_one], H7.out.1, by simp [Nat.mod_one], H7.out.2⟩)
  go_cut [13] from 72 to 108 (fun tv w' => ∃ P, P < 4294967296 ∧ SDone w1 g n cp L k P tv w')
  case first =>
    go_wp2_with fail
    go_loopw [13, 15] (fun tv iv wr => ∃ i : Nat, i ≤ 32 ∧ k + i ≤ 8 * n ∧ iv = .int .i64 (i : Int) ∧ STurn w1 g n cp L k pt i tv wr) (fun _ iv _ => 32 - (intOf iv).toNat)
    case atStart => exact ⟨0, by omega, by omega, rfl, Hst0.out⟩
    case round =>
      obtain ⟨i, hi, hki, rfl, hst⟩ := hrel
      clear Hst0
      by_cases h32 : i < 32
      · by_cases hend : k + i < 8 * n
        · obtain ⟨L', tb, rfl, htb, ho, hx, hbl⟩ := hst
          have hbv : bits .and .u32 ((pt : Int) / 2 ^ i) 1 = ((pt / 2 ^ i % 2 : Nat) : Int) := by
            have h1 : (pt : Int) / 2 ^ i = ((pt / 2 ^ i : Nat) : Int) := by rw [Int.natCast_ediv, Int.natCast_pow]; rfl
            have h2 : bits .and .u32 ((pt / 2 ^ i : Nat) : Int) ((1 : Nat) : Int) = (((pt / 2 ^ i) &&& 1 : Nat) : Int) := u32_and_nat _ _ (Nat.lt_of_le_of_lt (Nat.div_le_self _ _) hpt) (by omega)
            rw [h1]
            rw [nat_mask1] at h2
            exact h2
          have hpn := pat_next pt i
          have Ho := hide ho
          have Hx := hide hx
          have Hbl := hide hbl
          have Htb := hide htb
          by_cases hbit : pt / 2 ^ i % 2 = 1
          · have hbb : (bits .and .u32 ((pt : Int) / 2 ^ i) 1 == 1) = true := by rw [hbv, hbit]; rfl
            rw [if_pos hbit] at hpn
            obtain ⟨x, hxj⟩ : ∃ x, L'[(k + i) / 8]? = some x := ⟨_, List.getElem?_eq_getElem (by rw [ho.1]; omega)⟩
            have d0 : wr.cell? ⟨g, (k + i) / 8, none⟩ = some (.int .u8 (x.toNat : Int)) := by
              rcases ho.bytes with h | ⟨g', o', he, hr⟩
              · rw [h] at hxj; simp at hxj
              · cases he
                have := hr ((k + i) / 8) (B8 x) (by rw [B8s_get, hxj]; rfl)
                rwa [Nat.zero_add] at this
            have hxb := x.toNat_lt
            have Hbit := hide hbit
            have hjn : (k + i) / 8 < n := by omega
            obtain ⟨j, hj⟩ : ∃ j, j = (k + i) / 8 := ⟨_, rfl⟩
            obtain ⟨b, hb⟩ : ∃ b, b = (k + i) % 8 := ⟨_, rfl⟩
            rw [← hj] at hxj d0 hjn
            have hb8 : b < 8 := by omega
            have hkij : k + i = 8 * j + b := by omega
            have hs2 : IntKind.i64.wrap (((k : Int) + (i : Int)).tdiv 8) = (j : Int) := by
              rw [Int.tdiv_eq_ediv_of_nonneg (by omega), IntWalk.i64_in _ (by omega)]
              omega
            have hs3' : ((k : Int) + (i : Int)).tmod 8 = (b : Int) := by
              rw [Int.tmod_eq_emod_of_nonneg (by omega)]
              omega
            have Hpn := hide hpn
            have Hxj := hide hxj
            have Hkij := hide hkij
            have Hs2 := hide hs2
            have Hs3 := hide hs3'
            clear ho hx hbl htb hbv hpn hxj hbit hj hb hkij hs2 hs3'
            go_upto_region 16 with fail
            obtain ⟨w8, hw8⟩ : ∃ w8, w8 = wr.drew := ⟨_, rfl⟩
            have d0 : w8.cell? ⟨g, j, none⟩ = some (.int .u8 (x.toNat : Int)) := by rw [hw8]; exact d0
            have hs1 : IntKind.i64.wrap ((k : Int) + (i : Int)) = (k : Int) + (i : Int) := IntWalk.i64_in _ (by omega)
            have hs2 := Hs2.out
            have hs3' := Hs3.out
            refine wp_region_tail 19 (by kernel_rfl) (by kernel_rfl) ?_
            rw [← hw8]
            simp only [List.take_succ_cons, List.take_zero, List.drop_succ_cons, List.drop_zero]
            iterate 19 still_step
            refine wpStill_nil ?_
            have z0 : w8.frozen? ⟨g, j, none⟩ = false := by
              rw [hw8]
              rcases Ho.out.form with ⟨h, _⟩ | ⟨g', cur, h, hbk, _⟩
              · cases h
              · cases h; exact hbk.frozen j
            have Hw8 := hide hw8
            clear hs1 hs2 hs3' hw8
            go_wp2_with fail
            have hw8w : wr.drew = w8 := Hw8.out.symm
            have hnew : STurn w1 g n cp L k pt (i + 1) (.bool true) (w8.setCell ⟨g, j, none⟩ (.int .u8 (bits .xor .u8 (x.toNat : Int) ((2 : Int) ^ b % 256)))) := by
              rw [flip_val x b hb8]
              refine ⟨L'.set j (UInt8.ofNat (x.toNat ^^^ 2 ^ b)), true, rfl, ⟨fun _ => ?_, fun _ => rfl⟩, own_set (by rw [← hw8w]; exact Ho.out.drew) j _, ?_, ?_⟩
              · rw [Nat.mod_pow_succ, Hbit.out, Nat.mul_one]
                have := Nat.two_pow_pos i
                omega
              · rw [leN_flip b hb8 L' j x Hxj.out, Hx.out, Hpn.out, two_pow_mul_xor, ← Nat.pow_add, Hkij.out, Nat.xor_assoc]
              · rw [← hw8w]
                exact (Hbl.out.drew).setCell Hgge.out _
            have Hnew := hide hnew
            clear hnew hw8w
            go_roundw
            case rel => exact ⟨i + 1, by omega, by omega, by go_num, Hnew.out⟩
            case measure => simp [intOf]; omega
          · have hbb : (bits .and .u32 ((pt : Int) / 2 ^ i) 1 == 1) = false := by rw [hbv, beq_eq_false_iff_ne]; omega
            rw [if_neg hbit, Nat.xor_zero] at hpn
            have Hnew := hide (show STurn w1 g n cp L k pt (i + 1) (.bool tb) wr from ⟨L', tb, rfl, by rw [hpn]; exact htb, ho, by rw [hpn]; exact hx, hbl⟩)
            clear ho hx hbl htb hbv hpn hbit
            go_wp2_with fail
            go_roundw
            case rel => exact ⟨i + 1, by omega, by omega, by go_num, Hnew.out⟩
            case measure => simp [intOf]; omega
        · have Hd := hide (show ∃ P, P < 4294967296 ∧ SDone w1 g n cp L k P u13 wr from ⟨pt % 2 ^ i, Nat.lt_of_le_of_lt (Nat.mod_le _ _) hpt, hst⟩)
          clear hst
          go_wp2_with fail
          go_meet
          case rel => exact Hd.out
      · have Hd := hide (show ∃ P, P < 4294967296 ∧ SDone w1 g n cp L k P u13 wr from ⟨pt % 2 ^ i, Nat.lt_of_le_of_lt (Nat.mod_le _ _) hpt, hst⟩)
        clear hst
        go_wp2_with fail
        go_meet
        case rel => exact Hd.out
  case rest =>
    obtain ⟨P, hP, L', tb, rfl, htb, ho, hx, hbl⟩ := hcut
    clear Hst0 H7
    have hl' : L'.length = L.length := by rw [ho.1]; exact Hn.out
    have hok : okSeal L' ↔ P = 0 := by
      rw [okSeal_iff L' (by have := Hn.out; omega), ← turned_sum L L' k P hl' (by have := Hn.out; omega) hP hx 4294967295]
      have h := (okSeal_iff L (by have := Hn.out; omega)).1 (by rw [HL.out]; exact okSeal_seal _)
      rw [h]
    have hop2 := open_long (some ⟨g, 0, none⟩) cp L' wc ho.bytes (by have := Hn.out; omega) (by have := Hn.out; omega) (by have := Hn.out; omega)
    rw [hl', ← Hn.out] at hop2
    have Hop2 := hide hop2
    have Htb := hide htb
    have Hok := hide hok
    have Hbl := hide hbl
    have hPb : P < 4294967296 := hP
    clear hop2 htb hok ho hx hbl hl' hP
    go_wp2_with fail
    refine Hop2.out.mono ?_
    rintro e w9 ⟨h9, hb9⟩
    obtain ⟨fp, fe, rfl, hfe⟩ : ∃ fp fe, e = .returned (.tuple #[.pointer fp, .int .i64 fe]) ∧ ((tb = true ∧ fe = 14) ∨ (tb = false ∧ fe = 0)) := by
      rcases h9 with ⟨hno, rfl⟩ | ⟨hy, rb', rfl, _⟩
      · refine ⟨none, 14, rfl, .inl ⟨Htb.out.2 (fun h => hno (Hok.out.2 h)), rfl⟩⟩
      · refine ⟨_, 0, rfl, .inr ⟨?_, rfl⟩⟩
        cases htb' : tb
        · rfl
        · exact absurd (Hok.out.1 hy) (Htb.out.1 htb')
    have H9 := hide (Hb1.out.trans ((Hbl.out.trans (hb9.mono Hbl.out.size)).mono Hb1.out.size))
    clear h9 hb9 Hop2 Hok Htb Hbl
    have hqb : Bytes w9 Aq q := Hq.out.below H9.out (Nat.le_refl _)
    have hpair : ∃ v : Int, (Calls Try.prog 36 #[.slice Aq nq cq] w9 fun e w' => ∃ gp, e = .returned (.tuple #[.pointer gp, .int .i64 v]) ∧ Below w9.heap.size w9 w') ∧ (∀ w' : World, Below w9.heap.size w9 w' → Calls Try.prog 37 #[.slice Aq nq cq] w' (ROpenPost v w')) := by
      rw [Hnq.out]
      by_cases h4 : q.length < 4
      · exact ⟨3, (open_short Aq cq q w9 h4).mono fun e w' ⟨he, hw⟩ => ⟨none, he, by rw [← hw]; exact Below.refl _ _⟩, fun w' _ => ropen_short Aq cq q w' h4⟩
      · have hl3 : q.length ≤ 1000000000 := by have := Hnq.out; omega
        have hlc : q.length ≤ cq := by have := Hnq.out; omega
        by_cases hk : okSeal q
        · refine ⟨0, (open_long Aq cq q w9 hqb (by omega) hl3 hlc).mono ?_, fun w' hw => ropen_long Aq cq q w' (hqb.below hw (Nat.le_refl _)) (by omega) hl3 hlc true ⟨fun _ => hk, fun _ => rfl⟩⟩
          rintro e w' ⟨h, hbw⟩
          rcases h with ⟨hno, _⟩ | ⟨_, rb2, rfl, _⟩
          · exact absurd hk hno
          · exact ⟨_, rfl, hbw⟩
        · refine ⟨14, (open_long Aq cq q w9 hqb (by omega) hl3 hlc).mono ?_, fun w' hw => ropen_long Aq cq q w' (hqb.below hw (Nat.le_refl _)) (by omega) hl3 hlc false ⟨(fun h => by cases h), fun h => absurd h hk⟩⟩
          rintro e w' ⟨h, hbw⟩
          rcases h with ⟨_, rfl⟩ | ⟨hy, _⟩
          · exact ⟨_, rfl, hbw⟩
          · exact absurd hy hk
    obtain ⟨v, hop3, hro⟩ := hpair
    have Hop3 := hide hop3
    have Hro := hide hro
    have Hfe := hide hfe
    clear hop3 hro hqb hfe
    go_wp2_with fail
    refine Hop3.out.mono ?_
    rintro e w10 ⟨gp, rfl, hb10⟩
    have Hro2 := hide (Hro.out w10 hb10)
    have H10 := hide (H9.out.trans (hb10.mono H9.out.size))
    clear hb10 Hop3 Hro
    go_wp2_with fail
    refine Hro2.out.mono ?_
    rintro e w11 ⟨A11, n11, c11, rfl, hb11⟩
    have H11 := hide (H10.out.trans (hb11.mono H10.out.size))
    clear hb11 Hro2
    rcases Hfe.out with ⟨rfl, rfl⟩ | ⟨rfl, rfl⟩
    · go_wp2
      go_ret
      exact ⟨rfl, H11.out⟩
    · go_wp2
      go_ret
      exact ⟨rfl, H11.out⟩
end Go.Proofs.Ytonlpgjcmodpnaa
