/-
  What records say is told as it was: LedgerRecords answers true for any bytes and number; no condition.
-/
import Derived.Test.YtehddmaapfofnaaLwC
import Derived.Test.YtehddmaapfofnaaLaw
import Derived.Deep.CutRange
import Derived.Deep.CutBlock
namespace Go.Proofs.Ytehddmaapfofnaa
open Go.RowKit Go.ChangeShapes Go.WideShapes Go.ChangeAt

set_option maxHeartbeats 1000000 in
theorem records_long (A : Option Addr) (l c : Nat) (v1 : Value) (w : World) (h : 300 < l) :
    Calls Try.prog 7 #[.slice A l c, v1] w fun e w' => e = .returned (.bool true) ∧ Below w.heap.size w w' := by
  go_enter Try.func7, Try.ntmps7
  go_wp2_with fail
  refine (awake_any w).mono ?_
  rintro e w1 ⟨rfl, hb1⟩
  have Hb1 := hide hb1
  clear hb1
  go_wp2_with fail
  refine (awake_any w1).mono ?_
  rintro e w2 ⟨rfl, hb2⟩
  have Hb2 := hide (Hb1.out.trans (hb2.mono Hb1.out.size))
  clear hb2
  go_wp2
  go_ret
  exact ⟨rfl, Hb2.out⟩

theorem LOn.read {w0 w : World} {lb b : Nat} {F : Nat → Prop} {L : Lg} {D : Dk} (h : LOn w0 w lb b F L D) (i : Nat) (hi : i < D.n) (ho : D.off = false) :
    Calls Try.prog 28 #[.pointer (some ⟨b, 0, none⟩), .int .i64 (i : Int)] w fun e w' => ∃ v : List UInt8, v.length = 64 ∧ e = .returned (.tuple #[.slice (some ⟨w.heap.size, 0, none⟩) 64 64, .int .i64 0]) ∧ w' = w.alloc (.cells (B8s v).toArray 5) := by
  refine (read_all b F D i w h.disk).mono ?_
  rintro e w' (⟨hn, _⟩ | ⟨_, rfl, rfl⟩)
  · refine absurd ?_ hn
    unfold refuse
    rw [if_neg (by omega), ho]
    rfl
  · exact ⟨_, h.disk.wf.vlen _, rfl, rfl⟩

theorem own_type {w : World} {A : Option Addr} {n c : Nat} {l : List UInt8} (h : OwnB w A n c l) {k : Nat} (hk : At A k) : ∃ cs, Blk w k 5 cs := by
  rcases h.form with ⟨rfl, _⟩ | ⟨g, cur, rfl, hb, _⟩
  · exact absurd hk At.none_not
  · rw [At.some_iff] at hk
    simp only at hk
    subst hk
    exact ⟨_, hb⟩
theorem KVar.bytes {w0 w w' : World} {kb : Nat} {k : Kp} (h : KVar w0 w kb k) {A : Option Addr} {n c : Nat} {l : List UInt8} (ho : OwnB w A n c l) (hf : Fr (At A) w w') : KVar w0 w' kb k :=
  h.fr hf (fun j _ hj t cs hb => by
    obtain ⟨cs', hb'⟩ := own_type ho hj
    exact ⟨fun e => by subst e; exact Blk.ne_ hb hb' (by decide) rfl, fun e => by subst e; exact Blk.ne_ hb hb' (by decide) rfl⟩)
theorem OwnB.putK {w : World} {kb : Nat} {cs : Array Value} {A : Option Addr} {n c : Nat} {l : List UInt8} (ho : OwnB w A n c l) (hb : Blk w kb 34 cs) (u v : Value) : OwnB ((w.setCell ⟨kb, 0, none⟩ u).setCell ⟨kb, 1, none⟩ v) A n c l :=
  ho.fr (F := fun k => k = kb) (((Fr.refl _ _).put1 0 u).put1 1 v) (fun k hk e => by
    subst e
    obtain ⟨cs', hb'⟩ := own_type ho hk
    exact Blk.ne_ hb hb' (by decide) rfl)
theorem OwnB.same {w w' : World} {A : Option Addr} {n c : Nat} {l : List UInt8} (ho : OwnB w A n c l) (hf : Fr (fun _ => False) w w') : OwnB w' A n c l := ho.fr hf (fun _ _ h => h)

def RcSt (w0 : World) (lb b kb : Nat) (j : Nat) (wr : World) : Prop :=
  ∃ F L D k, LOn w0 wr lb b F L D ∧ St D L k ∧ L.at_ = 1 ∧ L.bl = 30 ∧ D.fuse = 0 ∧ D.ops ≤ 6000 * j ∧ k.need ≤ 8 + 308 * j ∧ KVar w0 wr kb k
def RcQ (w0 : World) (lb b kb : Nat) (F : Nat → Prop) (L : Lg) (D : Dk) (k : Kp) (q i : Value) (wr : World) : Prop :=
  ∃ (t m : Nat) (lq : List UInt8) (Aq : Option Addr) (cq : Nat), 1 ≤ t ∧ t ≤ 4 ∧ i = .int .i64 (t : Int) ∧ m + 64 = 64 * t ∧ q = .slice Aq m cq ∧ OwnB wr Aq m cq lq ∧ (∀ j, At Aq j → w0.heap.size ≤ j) ∧ LOn w0 wr lb b F L D ∧ KVar w0 wr kb k

set_option maxHeartbeats 16000000 in
theorem records_any (x : Nat) (A : Option Addr) (l c : Nat) (p : List UInt8) (w : World) (hx : x ≤ 255) (hp : p.length = l) (h300 : l ≤ 300) (hb : Bytes w A p) :
    Calls Try.prog 7 #[.slice A l c, .int .u8 (x : Int)] w fun e w' => e = .returned (.bool true) ∧ Below w.heap.size w w' := by
  have Hb := hide hb
  have Hp := hide hp
  clear hb hp
  go_enter Try.func7, Try.ntmps7
  go_wp2_with fail
  refine (awake_any w).mono ?_
  rintro e w1 ⟨rfl, hb1⟩
  have Hb1 := hide hb1
  clear hb1
  go_wp2_with fail
  refine (lopen_any 30 w w1 Hb1.out (by omega) (by omega)).mono ?_
  rintro e w2 ⟨lb, b, F0, rfl, h0, hb2, _⟩
  have s0 := (lies_new 61 1 30 (by omega) (by omega) (by omega)).opened
  have H0 := hide h0
  have S0 := hide s0
  clear h0 s0 hb2 Hb1
  obtain ⟨kb, hkb⟩ : ∃ kb, kb = w2.heap.size := ⟨_, rfl⟩
  obtain ⟨wk, hwk⟩ : ∃ wk, wk = w2.alloc (.cells #[.string ⟨#[]⟩, .slice none 0 0] 34) := ⟨_, rfl⟩
  have hst : RcSt w lb b kb 0 wk := by
    refine ⟨F0, _, _, _, ?_, S0.out, rfl, rfl, rfl, Nat.le_refl _, by show 0 + 8 + 0 ≤ 8 + 308 * 0; omega, ?_⟩
    · rw [hwk]; exact H0.out.alloc _
    · rw [hwk, hkb]
      exact ⟨⟨none, 0, Blk.new w2 _ _, KRow.nil _, fun j h => absurd h At.none_not⟩, H0.out.below.size⟩
  have Hst := hide hst
  have Hkw := hide hkb
  have Hwk := hide hwk
  clear hst hkb hwk H0 S0
  go_wp2_with fail
  rw [← Hkw.out, ← Hwk.out]
  clear Hkw Hwk
  go_loopw [8] (fun i wr => ∃ j : Nat, j ≤ 4 ∧ i = .int .i64 (j : Int) ∧ RcSt w lb b kb j wr) (fun i _ => 4 - (intOf i).toNat)
  case atStart => exact ⟨0, by omega, rfl, Hst.out⟩
  case round =>
    obtain ⟨j, hj, rfl, F, L, D, k, h1, h2, h3, h4, h5, h6, h7, h8⟩ := hrel
    clear Hst
    have hr : L.room = 1856 := by unfold Lg.room; rw [h4]
    have Hr := hide hr
    have hcl := k.cnt_le
    have H1 := hide h1
    have H2 := hide h2
    have H8 := hide h8
    clear h1 h2 h8 hr
    by_cases hl : (j : Int) < 1 + (x : Int) % 4
    · go_wp2_with fail
      refine (H1.out.append_ok H2.out (by omega) h5 A l c p Hp.out (H1.out.bytes Hb.out) (by omega) (by rw [Kp.need_with, Hp.out, Hr.out]; omega)).mono ?_
      rintro e w4 ⟨L1, D1, hd1, F1, rfl, h14, hf4, _⟩
      have hk4 := H8.out.call H1.out hf4
      obtain ⟨A4, c4, hb4, hr4, _⟩ := hk4.ex
      have q0 := hb4.cell 0
      have q1 := hb4.cell 1
      have Hkb := hide hk4.kb
      have Hb4 := hide hb4
      have Hr4 := hide hr4
      have H4 := hide h14
      have K4 := hide hd1
      clear hf4 hk4 hb4 hr4 h14 hd1 H1 H8
      go_wp2_with fail
      refine (kwith_any k.snap A4 k.recs.length c4 k.recs A l c p w4 Hr4.out (by omega) Hp.out (H4.out.bytes Hb.out)).mono ?_
      rintro e w5 ⟨A5, c5, rfl, hk5, hA5, hb5⟩
      have hf5 : Fr (fun _ => False) w4 w5 := Fr.of_below hb5
      have q0 := (Hb4.out.fr hf5 (fun h => h)).cell 0
      have q1 := (Hb4.out.fr hf5 (fun h => h)).cell 1
      have z0 := (Hb4.out.fr hf5 (fun h => h)).frozen 0
      have z1 := (Hb4.out.fr hf5 (fun h => h)).frozen 1
      rw [show (k.recs ++ [p]).length = k.recs.length + 1 by simp] at hk5
      have hbk5 := Hb4.out.fr hf5 (fun h => h)
      have hst : RcSt w lb b kb (j + 1) ((w5.setCell ⟨kb, 0, none⟩ (.string ⟨k.snap.toArray⟩)).setCell ⟨kb, 1, none⟩ (.slice A5 (k.recs.length + 1) c5)) :=
        ⟨F1, L1, D1, k.with_ p, (H4.out.below_ hb5).putK hbk5 Hkb.out _ _, K4.out.st, by rw [K4.out.at_, h3], by rw [K4.out.bl, h4], K4.out.fuse0 h5, by have := K4.out.ops; omega, by rw [Kp.need_with, Hp.out]; omega,
          KVar.put (k' := k.with_ p) hbk5 Hkb.out A5 (k.recs.length + 1) c5 (by simp [Kp.with_]) hk5 (fun i hi => by have := hA5 i hi; have := H4.out.below.size; omega)⟩
      have Hst5 := hide hst
      clear hst hk5 hA5 hb5 hf5 hbk5 H4 K4 Hb4 Hr4 Hkb
      go_wp2
      go_roundw
      case rel => exact ⟨j + 1, by omega, by go_num, Hst5.out⟩
      case measure => simp [intOf]; omega
    have hj4 : j ≤ 4 := hj
    go_wp2_with fail
    go_loopw [9, 10, 11, 12] (fun q i _ _ wr => RcQ w lb b kb F L D k q i wr) (fun _ i _ _ _ => 4 - (intOf i).toNat)
    case atStart => exact ⟨1, 0, [], none, 0, by omega, by omega, rfl, by omega, rfl, OwnB.nil _, fun j h => absurd h At.none_not, H1.out, H8.out⟩
    case round =>
      obtain ⟨t, m, lq, Aq, cq, ht1, ht4, rfl, hm, rfl, hq, hAq, h1, h8⟩ := hrel
      clear H1 H8
      have Hq := hide hq
      have HAq := hide hAq
      have H1 := hide h1
      have H8 := hide h8
      clear hq hAq h1 h8
      by_cases h3' : (t : Int) < 4
      · go_wp2_with fail
        refine (H1.out.read t (by have := H2.out.room; omega) H2.out.off).mono ?_
        rintro e w5 ⟨v, hv, rfl, rfl⟩
        have Hv := hide hv
        have H5 := hide (H1.out.alloc (.cells (B8s v).toArray 5))
        have K5 := hide (H8.out.same ((Fr.refl _ _).alloc (.cells (B8s v).toArray 5)))
        have Q5 := hide (Hq.out.alloc (.cells (B8s v).toArray 5))
        have B5 := hide (bytes_new wr 5 v (0, 0))
        clear hv H1 H8 Hq
        go_upto_region 16 with (refine wpList_append_bytes rfl (.tmp 59) (.tmp 60) 22 rfl Try.underlying22 infoU8 Aq m cq lq rfl Q5.out (some ⟨_, 0, none⟩) 64 64 v rfl Hv.out B5.out (by omega) ?_; intro A6 c6 w6 ho6 hf6 hn6 _)
        have h6 := H5.out.fr hf6 (fun k _ hAk => ⟨HAq.out k hAk, H5.out.own_ne Q5.out k hAk⟩)
        have k6 := K5.out.bytes Q5.out hf6
        have hA6 : ∀ k, At A6 k → w.heap.size ≤ k := fun k hk => (hn6 k hk).elim (HAq.out k) (fun h => Nat.le_trans H5.out.below.size h)
        have H6 := hide h6
        have K6 := hide k6
        have O6 := hide ho6
        have HA6 := hide hA6
        clear h6 k6 ho6 hf6 hn6 hA6 H5 K5 Q5 B5
        go_wp2
        go_roundw
        case rel => exact ⟨t + 1, 64 * t, lq ++ v, A6, c6, by omega, by omega, by go_num, by omega, rfl, by rw [← hm]; exact O6.out, HA6.out, H6.out, K6.out⟩
        case measure => simp [intOf]; omega
      obtain rfl : t = 4 := by omega
      obtain rfl : m = 192 := by omega
      have hlq : lq.length = 192 := Hq.out.1
      have Hlq := hide hlq
      clear hlq
      go_wp2_with fail
      refine (H1.out.append_ok H2.out (by omega) h5 Aq 192 cq lq Hlq.out Hq.out.bytes (by omega) (by rw [Kp.need_with, Hlq.out, Hr.out]; omega)).mono ?_
      rintro e w4 ⟨L1, D1, hd1, F1, rfl, h14, hf4, _⟩
      have hk4 := H8.out.call H1.out hf4
      have Q4 := hide (H1.out.ownb hf4 Hq.out)
      obtain ⟨A4, c4, hb4, hr4, _⟩ := hk4.ex
      have q0 := hb4.cell 0
      have q1 := hb4.cell 1
      have Hkb := hide hk4.kb
      have Hb4 := hide hb4
      have Hr4 := hide hr4
      have H4 := hide h14
      have K4 := hide hd1
      clear hf4 hk4 hb4 hr4 h14 hd1 H1 H8 Hq
      go_wp2_with fail
      refine (kwith_any k.snap A4 k.recs.length c4 k.recs Aq 192 cq lq w4 Hr4.out (by omega) Hlq.out Q4.out.bytes).mono ?_
      rintro e w5 ⟨A5, c5, rfl, hk5, hA5, hb5⟩
      have hf5 : Fr (fun _ => False) w4 w5 := Fr.of_below hb5
      have q0 := (Hb4.out.fr hf5 (fun h => h)).cell 0
      have q1 := (Hb4.out.fr hf5 (fun h => h)).cell 1
      have z0 := (Hb4.out.fr hf5 (fun h => h)).frozen 0
      have z1 := (Hb4.out.fr hf5 (fun h => h)).frozen 1
      rw [show (k.recs ++ [lq]).length = k.recs.length + 1 by simp] at hk5
      have hbk5 := Hb4.out.fr hf5 (fun h => h)
      obtain ⟨w6, hw6⟩ : ∃ w6, w6 = (w5.setCell ⟨kb, 0, none⟩ (.string ⟨k.snap.toArray⟩)).setCell ⟨kb, 1, none⟩ (.slice A5 (k.recs.length + 1) c5) := ⟨_, rfl⟩
      obtain ⟨k1, hk1⟩ : ∃ k1, k1 = k.with_ lq := ⟨_, rfl⟩
      have hkn : k1.need ≤ 1440 := by rw [hk1, Kp.need_with, Hlq.out]; omega
      have H6 := hide (show LOn w w6 lb b F1 L1 D1 by rw [hw6]; exact (H4.out.below_ hb5).putK hbk5 Hkb.out _ _)
      have S6 := hide (show St D1 L1 k1 by rw [hk1]; exact K4.out.st)
      have V6 := hide (show KVar w w6 kb k1 by
        rw [hw6, hk1]
        exact KVar.put (k' := k.with_ lq) hbk5 Hkb.out A5 (k.recs.length + 1) c5 (by simp [Kp.with_]) hk5 (fun i hi => by have := hA5 i hi; have := H4.out.below.size; omega))
      have Q6 := hide (show OwnB w6 Aq 192 cq lq by rw [hw6]; exact (Q4.out.same hf5).putK hbk5 _ _)
      have a1 : L1.at_ = 1 := by rw [K4.out.at_, h3]
      have l1 : L1.bl = 30 := by rw [K4.out.bl, h4]
      have f1 := K4.out.fuse0 h5
      have p1 := K4.out.ops
      have Hw6 := hide hw6
      clear hk5 hA5 hb5 hf5 hbk5 H4 K4 Hb4 Hr4 Hkb hw6 hk1 Q4
      go_wp2_with fail
      rw [← Hw6.out]
      clear Hw6 q0 q1 z0 z1
      refine (H6.out.arm 2).mono ?_
      rintro e w7 ⟨F7, rfl, h17, hf7, _⟩
      have s7 := S6.out.armed 2
      have p7 := armed_ops D1 2
      have f7 := armed_fuse D1 2 (by omega) (by omega)
      have V7 := hide (V6.out.call H6.out hf7)
      have Q7 := hide (H6.out.ownb hf7 Q6.out)
      have H7 := hide h17
      have S7 := hide s7
      clear h17 s7 hf7 H6 S6 V6 Q6
      go_wp2_with fail
      have hr1 : L1.room = 1856 := by unfold Lg.room; rw [l1]
      have hap := S7.out.appended lq (by rw [Hlq.out]; omega) (by rw [Kp.need_with, Hlq.out, hr1]; omega)
      refine (H7.out.append S7.out (by omega) f7 Aq 192 cq lq Hlq.out Q7.out.bytes (by omega)).mono ?_
      rintro e w8 ⟨F8, rfl, h18, hf8, _⟩
      obtain ⟨D8, hD8⟩ : ∃ D8, D8 = L1.appD (D1.armD 2) lq := ⟨_, rfl⟩
      rw [← hD8] at h18 hap
      rw [a1, l1] at hap
      have V8 := hide (V7.out.call H7.out hf8)
      have Q8 := hide (H7.out.ownb hf8 Q7.out)
      have H8 := hide h18
      have Hap := hide hap
      clear h18 hf8 hap hD8 H7 S7 V7 Q7 hr1
      go_wp2_with fail
      refine (H8.out.restart (by have := Hap.out.1; omega) _ _).mono ?_
      rintro e w9 ⟨F9, rfl, h19, hf9, _⟩
      have key : ∃ half k', Lies (D8.restarted ((x : Int) % 4) ((x : Int) % 64)) 1 30 half k' ∧ (k' = k1 ∨ k' = k1.with_ lq) := by
        obtain ⟨_, ⟨_, h2⟩ | ⟨_, h2⟩⟩ := Hap.out
        · obtain ⟨half, h⟩ := h2 ((x : Int) % 4) ((x : Int) % 64)
          exact ⟨half, _, h, .inr rfl⟩
        · rcases h2 ((x : Int) % 4) ((x : Int) % 64) with ⟨half, h⟩ | ⟨half, h⟩
          · exact ⟨half, _, h, .inl rfl⟩
          · exact ⟨half, _, h, .inr rfl⟩
      obtain ⟨half, k', hl9, hk'⟩ := key
      have V9 := hide (V8.out.call H8.out hf9)
      have Q9 := hide (H8.out.ownb hf9 Q8.out)
      have H9 := hide h19
      have K9 := hide hl9
      clear h19 hf9 hl9 H8 V8 Q8 Hap
      go_wp2_with fail
      refine (open_lies (w0 := w) K9.out H9.out.disk H9.out.below H9.out.own).mono ?_
      rintro e w10 ⟨lb2, A10, c10, R10, d10, rfl, hA10, hR10, h10, _, hb10, _⟩
      have hcl1 := k1.cnt_le
      have hrl : k'.recs.length ≤ 1000000000 := by
        rcases hk' with rfl | rfl
        · omega
        · show (k1.recs ++ [lq]).length ≤ _
          rw [List.length_append]; simp; omega
      have Hrl := hide hrl
      have HA10 := hide hA10
      have HR10 := hide hR10
      have H10 := hide h10.below
      have V10 := hide (V9.out.same (Fr.of_below hb10))
      have Q10 := hide (Q9.out.same (Fr.of_below hb10))
      clear hrl hA10 hR10 h10 hb10 H9 K9 V9 Q9
      go_wp2_with fail
      refine (kof_any A10 _ c10 k'.snap w9.heap.size R10 k'.recs.length d10 k'.recs w10 rfl HA10.out HR10.out Hrl.out).mono ?_
      rintro e w11 ⟨R11, c11, rfl, hk11, _, hb11⟩
      have H11 := hide (H10.out.trans (hb11.mono H10.out.size))
      have K11 := hide hk11
      have V11 := hide (V10.out.same (Fr.of_below hb11))
      have Q11 := hide (Q10.out.same (Fr.of_below hb11))
      clear hk11 hb11 H10 HA10 HR10 V10 Q10
      go_upto_region 29 with fail
      obtain ⟨wr1, hwr⟩ : ∃ wr1, wr1 = w11.alloc (.cells #[.string ⟨k'.snap.toArray⟩, .slice R11 k'.recs.length c11] 34) := ⟨_, rfl⟩
      rw [← hwr]
      have hfr : Fr (fun _ => False) w11 wr1 := by rw [hwr]; exact (Fr.refl _ _).alloc _
      have B0 := hide (show Blk wr1 w11.heap.size 34 #[.string ⟨k'.snap.toArray⟩, .slice R11 k'.recs.length c11] by rw [hwr]; exact Blk.new _ _ _)
      have KK := hide (K11.out.fr hfr (fun _ _ h => h))
      obtain ⟨AK, cK, hbK, hrK, _⟩ := (V11.out.same hfr).ex
      have BK := hide hbK
      have KR := hide hrK
      have Q12 := hide (Q11.out.same hfr)
      have HB := hide (H11.out.trans (hfr.below H11.out.size (fun _ h => False.elim h)))
      have Hrl1 := hide (show k1.recs.length ≤ 1000000000 by omega)
      clear hwr hfr hbK hrK K11 V11 Q11 H11 hcl1 hkn
      rcases hk' with rfl | rfl
      · refine wp_region_planned (fun W => Below wr1.heap.size wr1 W) 14 [(false, 0), (false, 1), (false, 2), (false, 3), (false, 4), (true, 5), (false, 6), (false, 7), (false, 8), (false, 9), (true, 10), (true, 11), (false, 12), (false, 13)] (by kernel_rfl) (by kernel_rfl) (fun _ _ d _ _ h => by cases d <;> exact h) (Below.refl _ _).drew ?_
        simp only [steps, List.getElem?_toArray, List.filterMap_cons, List.filterMap_nil, Option.map_some, List.getElem?_cons_zero, List.getElem?_cons_succ, List.drop_succ_cons, List.drop_zero]
        iterate 3 (refine wpPlan_read rfl (fun W hW => (by go_simp; try with_reducible rfl)) ?_)
        simp only [Act.put, List.setIfInBounds_toArray, List.set_cons_zero, List.set_cons_succ]
        refine wpPlan_read (v := .agg #[.string ⟨k'.snap.toArray⟩, .slice R11 k'.recs.length c11]) rfl (fun W hW => (by
          have q0 := (B0.out.below hW (B0.out.lt)).cell 0
          have q1 := (B0.out.below hW (B0.out.lt)).cell 1
          go_simp)) ?_
        refine wpPlan_read (v := .agg #[.string ⟨k'.snap.toArray⟩, .slice AK k'.recs.length cK]) rfl (fun W hW => (by
          have q0 := (BK.out.below hW (BK.out.lt)).cell 0
          have q1 := (BK.out.below hW (BK.out.lt)).cell 1
          go_simp)) ?_
        simp only [Act.put, List.setIfInBounds_toArray, List.set_cons_zero, List.set_cons_succ]
        refine wpPlan_doesG rfl (fun K hK => ?_)
        refine wp_call_by 22 #[.agg #[.string ⟨k'.snap.toArray⟩, .slice R11 k'.recs.length c11], .agg #[.string ⟨k'.snap.toArray⟩, .slice AK k'.recs.length cK]] (by kernel_rfl) (ksame_any k'.snap k'.snap R11 AK _ _ c11 cK k'.recs k'.recs wr1.drew (KK.out.fr (F := fun _ => False) (Fr.refl _ _).drew (fun _ _ h => h)) (KR.out.fr (F := fun _ => False) (Fr.refl _ _).drew (fun _ _ h => h)) Hrl.out Hrl1.out) ?_
        rintro e w12 ⟨rfl, hb12⟩
        have hs12 : Below wr1.heap.size wr1 w12 := (Below.refl _ _).drew.trans hb12
        refine ⟨_, rfl, hK _ _ hs12 ?_⟩
        clear hK hb12
        rw [show sameB k'.snap k'.snap k'.recs k'.recs = true from decide_eq_true ⟨rfl, rfl⟩]
        simp only [Act.put, List.setIfInBounds_toArray, List.set_cons_zero, List.set_cons_succ]
        refine wpPlan_read rfl (fun W hW => (by go_simp; try with_reducible rfl)) ?_
        iterate 3 (refine wpPlan_skip rfl ?_)
        iterate 2 (refine wpPlan_skipG rfl hs12 ?_)
        simp only [Act.put, List.setIfInBounds_toArray, List.set_cons_zero, List.set_cons_succ]
        iterate 2 (refine wpPlan_read rfl (fun W hW => (by go_simp; try with_reducible rfl)) ?_)
        refine wpPlan_nil ?_
        simp only [Act.put, List.setIfInBounds_toArray, List.set_cons_zero, List.set_cons_succ]
        have Hfin := hide (HB.out.trans (hs12.mono HB.out.size))
        clear hs12
        go_wp2
        go_ret
        exact ⟨rfl, Hfin.out⟩
      · refine wp_region_planned (fun W => Below wr1.heap.size wr1 W) 14 [(false, 0), (false, 1), (false, 2), (false, 3), (false, 4), (true, 5), (false, 6), (false, 7), (false, 8), (false, 9), (true, 10), (true, 11), (false, 12), (false, 13)] (by kernel_rfl) (by kernel_rfl) (fun _ _ d _ _ h => by cases d <;> exact h) (Below.refl _ _).drew ?_
        simp only [steps, List.getElem?_toArray, List.filterMap_cons, List.filterMap_nil, Option.map_some, List.getElem?_cons_zero, List.getElem?_cons_succ, List.drop_succ_cons, List.drop_zero]
        iterate 3 (refine wpPlan_read rfl (fun W hW => (by go_simp; try with_reducible rfl)) ?_)
        simp only [Act.put, List.setIfInBounds_toArray, List.set_cons_zero, List.set_cons_succ]
        refine wpPlan_read (v := .agg #[.string ⟨(k1.with_ lq).snap.toArray⟩, .slice R11 (k1.with_ lq).recs.length c11]) rfl (fun W hW => (by
          have q0 := (B0.out.below hW (B0.out.lt)).cell 0
          have q1 := (B0.out.below hW (B0.out.lt)).cell 1
          go_simp)) ?_
        refine wpPlan_read (v := .agg #[.string ⟨k1.snap.toArray⟩, .slice AK k1.recs.length cK]) rfl (fun W hW => (by
          have q0 := (BK.out.below hW (BK.out.lt)).cell 0
          have q1 := (BK.out.below hW (BK.out.lt)).cell 1
          go_simp)) ?_
        simp only [Act.put, List.setIfInBounds_toArray, List.set_cons_zero, List.set_cons_succ]
        refine wpPlan_doesG rfl (fun K hK => ?_)
        refine wp_call_by 22 #[.agg #[.string ⟨(k1.with_ lq).snap.toArray⟩, .slice R11 (k1.with_ lq).recs.length c11], .agg #[.string ⟨k1.snap.toArray⟩, .slice AK k1.recs.length cK]] (by kernel_rfl) (ksame_any (k1.with_ lq).snap k1.snap R11 AK _ _ c11 cK (k1.with_ lq).recs k1.recs wr1.drew (KK.out.fr (F := fun _ => False) (Fr.refl _ _).drew (fun _ _ h => h)) (KR.out.fr (F := fun _ => False) (Fr.refl _ _).drew (fun _ _ h => h)) Hrl.out Hrl1.out) ?_
        rintro e w12 ⟨rfl, hb12⟩
        have hs12 : Below wr1.heap.size wr1 w12 := (Below.refl _ _).drew.trans hb12
        refine ⟨_, rfl, hK _ _ hs12 ?_⟩
        clear hK hb12
        rw [show sameB (k1.with_ lq).snap k1.snap (k1.with_ lq).recs k1.recs = false from decide_eq_false (fun h => by have := congrArg List.length h.2; simp [Kp.with_] at this)]
        simp only [Act.put, List.setIfInBounds_toArray, List.set_cons_zero, List.set_cons_succ]
        refine wpPlan_read rfl (fun W hW => (by go_simp; try with_reducible rfl)) ?_
        simp only [Act.put, List.setIfInBounds_toArray, List.set_cons_zero, List.set_cons_succ]
        refine wpPlan_read (v := .agg #[.string ⟨(k1.with_ lq).snap.toArray⟩, .slice R11 (k1.with_ lq).recs.length c11]) rfl (fun W hW => (by
          have q0 := (B0.out.below hW (B0.out.lt)).cell 0
          have q1 := (B0.out.below hW (B0.out.lt)).cell 1
          go_simp)) ?_
        refine wpPlan_read (v := .agg #[.string ⟨k1.snap.toArray⟩, .slice AK k1.recs.length cK]) rfl (fun W hW => (by
          have q0 := (BK.out.below hW (BK.out.lt)).cell 0
          have q1 := (BK.out.below hW (BK.out.lt)).cell 1
          go_simp)) ?_
        refine wpPlan_read rfl (fun W hW => (by go_simp; try with_reducible rfl)) ?_
        simp only [Act.put, List.setIfInBounds_toArray, List.set_cons_zero, List.set_cons_succ]
        refine wpPlan_doesG rfl (fun K hK => ?_)
        refine wp_call_by 17 #[.agg #[.string ⟨k1.snap.toArray⟩, .slice AK k1.recs.length cK], .slice Aq 192 cq] (by kernel_rfl) (kwith_any k1.snap AK k1.recs.length cK k1.recs Aq 192 cq lq w12 (KR.out.fr (Fr.of_below hs12) (fun _ _ h => h)) Hrl1.out Hlq.out (Q12.out.same (Fr.of_below hs12)).bytes) ?_
        rintro e w13 ⟨R13, c13, rfl, hk13, _, hb13⟩
        have hs13 : Below wr1.heap.size wr1 w13 := hs12.trans (hb13.mono hs12.size)
        refine ⟨_, rfl, hK _ _ hs13 ?_⟩
        clear hK hb13
        simp only [Act.put, List.setIfInBounds_toArray, List.set_cons_zero, List.set_cons_succ]
        refine wpPlan_doesG rfl (fun K hK => ?_)
        refine wp_call_by 22 #[.agg #[.string ⟨(k1.with_ lq).snap.toArray⟩, .slice R11 (k1.with_ lq).recs.length c11], .agg #[.string ⟨k1.snap.toArray⟩, .slice R13 (k1.recs ++ [lq]).length c13]] (by kernel_rfl) (ksame_any (k1.with_ lq).snap k1.snap R11 R13 _ _ c11 c13 (k1.with_ lq).recs (k1.recs ++ [lq]) w13 (KK.out.fr (Fr.of_below hs13) (fun _ _ h => h)) hk13 Hrl.out Hrl.out) ?_
        rintro e w14 ⟨rfl, hb14⟩
        have hs14 : Below wr1.heap.size wr1 w14 := hs13.trans (hb14.mono hs13.size)
        refine ⟨_, rfl, hK _ _ hs14 ?_⟩
        clear hK hb14 hk13
        rw [show sameB (k1.with_ lq).snap k1.snap (k1.with_ lq).recs (k1.recs ++ [lq]) = true from decide_eq_true ⟨rfl, rfl⟩]
        simp only [Act.put, List.setIfInBounds_toArray, List.set_cons_zero, List.set_cons_succ]
        iterate 2 (refine wpPlan_read rfl (fun W hW => (by go_simp; try with_reducible rfl)) ?_)
        refine wpPlan_nil ?_
        simp only [Act.put, List.setIfInBounds_toArray, List.set_cons_zero, List.set_cons_succ]
        have Hfin := hide (HB.out.trans (hs14.mono HB.out.size))
        clear hs12 hs13 hs14
        go_wp2
        go_ret
        exact ⟨rfl, Hfin.out⟩




theorem u8_nat {x : Int} (h : (Lit.int IntKind.u8 x).wf = true) : ∃ n : Nat, x = n ∧ n ≤ 255 := by
  simp [Lit.wf, IntKind.min, IntKind.max, IntKind.signed, IntKind.bits] at h
  exact ⟨x.toNat, by omega, by omega⟩
theorem records_walk (x : Int) (A : Option Addr) (c : Nat) (l : List UInt8) (w : World) (hx : (Lit.int IntKind.u8 x).wf = true) (hb : Bytes w A l) :
    Calls Try.prog 7 #[.slice A l.length c, .int .u8 x] w fun e w' => e = .returned (.bool true) ∧ Below w.heap.size w w' := by
  by_cases h : 300 < l.length
  · exact records_long A _ c _ w h
  · obtain ⟨n, rfl, hn⟩ := u8_nat hx
    exact records_any n A _ c l w hn rfl (by omega) hb

set_option maxRecDepth 100000 in
theorem ledgerRecords_lifted (os : Os) (started : os.Started) (H : Type) (enc : TypeId × Value → H) :
    ReturnsInHanded {} Try.checked os 7 .any (Rows.ledgerRecordsSpec.pre6 enc Try.prog Try.f7 Rows.ledgerRecordsRow.domain false) (Rows.ledgerRecordsSpec.post enc Try.prog Try.f7 false true false false) := by
  refine returnsInHanded_of_change (C := Try.checked) own0 started (by kernel_rfl) Try.func7
    (ChangeSpec.witness6 (enc := enc) (C := Try.checked) false ⟨#[], #[.slice none 0 0, .int .u8 0], []⟩ 8 (by kernel_rfl) (by kernel_rfl) (by kernel_rfl) (by kernel_rfl)) ?_
  intro W base args ds gs before hval0 hW _ _
  have hval : ∀ (j : Nat) t v, Try.f7.params[j]? = some t → args[j]? = some v → Value.okWide Try.prog W .any base t v := hval0
  have hW' := hW
  obtain ⟨p, q, hA0, hV, rfl, hfz, hnd⟩ := hW
  have hA : DataW.TrodAll enc Try.prog W 0 (fun _ => true) true Try.f7.params.toList args.toList ds p := hA0
  rw [Try.params7] at hA hval
  obtain ⟨v0, v1, d0, d1, p0, p1, rfl, rfl, rfl, h0, h1⟩ := trodAll_two hA
  obtain ⟨rfl, rfl⟩ := trodVars_none hV
  obtain ⟨A0, c0, l0, rfl, b0, m0⟩ := open_bytes Try.underlying22 Try.underlying5 (by kernel_rfl) (hval 0 22 v0 rfl rfl) h0
  obtain ⟨x1, rfl, rfl, rfl, w1⟩ := open_int Try.underlying5 (hval 1 5 v1 rfl rfl) h1
  clear hA0 hval0
  refine (records_walk x1 A0 c0 l0 W w1 b0).mono fun e W' ⟨he, hb⟩ => ?_
  subst he
  exact ⟨_, rfl, law_close laid0 Try.underlying4 rfl rfl (by rw [Try.params7]; decide +kernel) hW' (fun gs hg => by subst hg; rfl) hb⟩

theorem ledgerRecords_holds : Rows.LedgerRecordsSaid :=
  OpenClaim.holds_of_wide 7 Try.f7 rfl rfl rfl rfl rfl rfl rfl ⟨rfl, rfl, rfl, rfl, rfl⟩ rfl rfl rfl rfl rfl (by kernel_rfl) Try.func7 (by kernel_rfl)
    (of_decide_eq_true (by kernel_rfl)) (by unfold Func.isWrapper; first | (rw [if_pos (by decide +kernel)]; kernel_rfl) | (rw [if_neg (by decide +kernel)]; exact ⟨rfl, rfl⟩))
    (fun os started H enc _ => ledgerRecords_lifted os started H enc)

end Go.Proofs.Ytehddmaapfofnaa
