/- Package wire: the reader of numbers, of any bytes. -/
import Derived.Test.YtdkmccilnmdhmaaRc
namespace Go.Proofs.Ytdkmccilnmdhmaa
open Go.RowKit

def URel (rb : Nat) (l : List UInt8) (w : World) (n s : Value) (wr : World) : Prop :=
  ∃ (i acc : Nat) (l' : List UInt8) (bad' : Bool), i ≤ 9 ∧ n = .int .u64 (acc : Nat) ∧ s = .int .i64 (7 * (i : Int)) ∧ acc < 128 ^ i ∧ Rd wr rb l' bad' ∧ Fr (fun k => k = rb) w wr ∧ rdU 0 0 l = rdU i acc l'
theorem or_step (i acc bn : Nat) (hi : i ≤ 9) (hacc : acc < 128 ^ i) (hbn : bn < 256) (h9 : 9 ≤ i → bn ≤ 1) :
    bits .or .u64 (acc : Int) (IntKind.u64.wrap (IntKind.u64.wrap (bits .andNot .u8 (bn : Int) 128) * 2 ^ (7 * i))) = ((acc + bn % 128 * 128 ^ i : Nat) : Int) := by
  have h1 : bits .andNot .u8 (bn : Int) ((128 : Nat) : Int) = ((bn &&& (255 - 128) : Nat) : Int) := u8_andNot_nat bn 128 hbn (by omega)
  rw [show ((128 : Nat) : Int) = 128 from rfl, show 255 - 128 = 127 from rfl, nat_mask7] at h1
  rw [h1]
  have hp : (2 : Int) ^ (7 * i) = ((128 ^ i : Nat) : Int) := by
    rw [Int.pow_mul, Int.natCast_pow]
    rfl
  have hpb : bn % 128 * 128 ^ i < 18446744073709551616 := by
    rcases Nat.lt_or_ge i 9 with h | h
    · have h2 : 128 ^ i ≤ 128 ^ 8 := Nat.pow_le_pow_right (by omega) (by omega)
      have h3 : (128 : Nat) ^ 8 = 72057594037927936 := by decide
      have h4 : bn % 128 * 128 ^ i ≤ 127 * 128 ^ 8 := Nat.mul_le_mul (by omega) h2
      omega
    · obtain rfl : i = 9 := by omega
      have h2 := h9 h
      have h3 : (128 : Nat) ^ 9 = 9223372036854775808 := by decide
      have h4 : bn % 128 * 128 ^ 9 ≤ 1 * 128 ^ 9 := Nat.mul_le_mul_right _ (by omega)
      omega
  have hab : acc < 18446744073709551616 := by
    have h2 : 128 ^ i ≤ 128 ^ 9 := Nat.pow_le_pow_right (by omega) hi
    have h3 : (128 : Nat) ^ 9 = 9223372036854775808 := by decide
    omega
  have hw : IntKind.u64.wrap ((bn % 128 : Nat) : Int) = ((bn % 128 : Nat) : Int) := by rw [IntKind.wrap_u64]; omega
  have hw2 : IntKind.u64.wrap ((bn % 128 * 128 ^ i : Nat) : Int) = ((bn % 128 * 128 ^ i : Nat) : Int) := by
    rw [IntKind.wrap_u64]
    generalize bn % 128 * 128 ^ i = q at hpb ⊢
    omega
  rw [hw, hp, ← Int.natCast_mul, hw2, u64_or_nat acc _ hab hpb, Nat.or_comm]
  rw [nat_join (7 * i) _ acc (by rw [show (2 : Nat) ^ (7 * i) = 128 ^ i by rw [Nat.pow_mul]]; exact Nat.mul_mod_left _ _) (by rw [show (2 : Nat) ^ (7 * i) = 128 ^ i by rw [Nat.pow_mul]]; exact hacc), Nat.add_comm]

set_option maxRecDepth 100000 in
set_option maxHeartbeats 8000000 in
theorem ruint_all (rb : Nat) (l : List UInt8) (bad : Bool) (most : Nat) (w : World) (h : Rd w rb l bad) (hm : most < 18446744073709551616) :
    Calls Try.prog 41 #[.pointer (some ⟨rb, 0, none⟩), .int .u64 (most : Int)] w (UPost rb .u64 ((rdUint most l).map fun x => ((x.1 : Int), x.2)) w) := by
  have H := hide h
  have Hm := hide hm
  clear h hm
  go_enter Try.func41, Try.ntmps41
  go_upto_block 0 with fail
  go_cut [5] from 8 to 39 (fun n w' => ∃ acc l', n = .int .u64 (acc : Nat) ∧ rdU 0 0 l = some (acc, l') ∧ acc < 18446744073709551616 ∧ Rd w' rb l' false ∧ Fr (fun k => k = rb) w w')
  case rest =>
    obtain ⟨acc, l', rfl, hu, ha, hr, hf⟩ := hcut
    have hfa := rfail_any rb l' false wc hr
    have Hu := hide hu
    have Hfa := hide hfa
    have Hr := hide hr
    have Hf := hide hf
    clear hu hfa hr hf ha H
    by_cases hle : acc ≤ most
    · go_wp2_with fail
      go_ret
      have he : rdUint most l = some (acc, l') := by rw [rdUint, Hu.out]; simp only; rw [if_pos hle]
      rw [he]
      exact ⟨rfl, Hr.out, Hf.out⟩
    · have he : rdUint most l = none := by rw [rdUint, Hu.out]; simp only; rw [if_neg hle]
      have He := hide he
      clear he
      go_wp2_with fail
      refine Hfa.out.mono ?_
      rintro e w2 ⟨rfl, h2, f2⟩
      have Hp := hide (show _ ∧ _ from ⟨h2, Hf.out.trans' f2 (fun _ _ h => h)⟩)
      clear h2 f2
      go_wp2
      go_ret
      rw [He.out]
      exact ⟨rfl, Hp.out.1, Hp.out.2⟩
  case first =>
    go_wp2_with fail
    go_loopw [5, 6] (fun n s wr => URel rb l w n s wr) (fun _ s _ => 100 - (intOf s).toNat)
    case atStart => exact ⟨0, 0, l, bad, by omega, rfl, rfl, by simp, H.out, Fr.refl _ _, rfl⟩
    case round =>
      obtain ⟨i, acc, l', bad', hi, rfl, rfl, hacc, hr, hf, hu⟩ := hrel
      clear H
      rcases l' with _ | ⟨b, l'⟩
      · have hnx := rnext_none rb bad' wr hr
        have he : rdUint most l = none := by rw [rdUint, hu, rdU]
        have Hnx := hide hnx
        have He := hide he
        have Hf := hide hf
        clear hnx he hf hu hr hacc
        by_cases hi0 : i = 0
        · subst hi0
          go_wp2_with fail
          refine Hnx.out.mono ?_
          rintro e w1 ⟨rfl, h1, f1⟩
          have Hp := hide (show _ ∧ _ from ⟨h1, Hf.out.trans' f1 (fun _ _ h => h)⟩)
          have Hbd := hide (rbad_any rb [] true w1 h1)
          clear h1 f1 Hnx
          go_wp2_with (go_at_call 23; refine Hbd.out.mono ?_; rintro e w' ⟨rfl, rfl⟩)
          go_ret
          rw [He.out]
          exact ⟨rfl, Hp.out.1, Hp.out.2⟩
        · have hi1 : 1 ≤ i := by omega
          clear hi0
          go_wp2_with fail
          refine Hnx.out.mono ?_
          rintro e w1 ⟨rfl, h1, f1⟩
          have hfa := rfail_any rb [] true w1 h1
          have Hf1 := hide (Hf.out.trans' f1 (fun _ _ h => h))
          have Hfa := hide hfa
          clear h1 f1 Hnx hfa Hf
          go_wp2_with fail
          refine Hfa.out.mono ?_
          rintro e w2 ⟨rfl, h2, f2⟩
          have Hp := hide (show _ ∧ _ from ⟨h2, Hf1.out.trans' f2 (fun _ _ h => h)⟩)
          have Hbd := hide (rbad_any rb [] true w2 h2)
          clear h2 f2 Hfa
          go_wp2_with (go_at_call 23; refine Hbd.out.mono ?_; rintro e w' ⟨rfl, rfl⟩)
          go_ret
          rw [He.out]
          exact ⟨rfl, Hp.out.1, Hp.out.2⟩
      · obtain rfl : bad' = false := by
          cases bad'
          · rfl
          · obtain ⟨_, _, _, _, _, h, _⟩ := hr; cases h rfl
        have hnx := rnext_some rb b l' wr hr
        have hb255 := b.toNat_lt
        rw [rdU] at hu
        obtain ⟨bn, hbn⟩ : ∃ bn, bn = b.toNat := ⟨_, rfl⟩
        rw [← hbn] at hnx hu hb255
        have Hnx := hide hnx
        have Hf := hide hf
        clear hnx hf hr hbn
        by_cases hC : (0 < i ∧ bn = 0) ∨ (9 ≤ i ∧ 1 < bn)
        · rw [if_pos hC] at hu
          have he : rdUint most l = none := by rw [rdUint, hu]
          have He := hide he
          clear he hu hacc
          rcases hC with ⟨hC1, rfl⟩ | ⟨hC1, hC2⟩
          · go_wp2_with fail
            refine Hnx.out.mono ?_
            rintro e w1 ⟨rfl, h1, f1⟩
            have hfa := rfail_any rb l' false w1 h1
            have Hf1 := hide (Hf.out.trans' f1 (fun _ _ h => h))
            have Hfa := hide hfa
            clear h1 f1 Hnx hfa Hf
            go_wp2_with fail
            refine Hfa.out.mono ?_
            rintro e w2 ⟨rfl, h2, f2⟩
            have Hp := hide (show _ ∧ _ from ⟨h2, Hf1.out.trans' f2 (fun _ _ h => h)⟩)
            have Hbd := hide (rbad_any rb [] true w2 h2)
            clear h2 f2 Hfa
            go_wp2_with (go_at_call 23; refine Hbd.out.mono ?_; rintro e w' ⟨rfl, rfl⟩)
            go_ret
            rw [He.out]
            exact ⟨rfl, Hp.out.1, Hp.out.2⟩
          · have hb0 : ((bn : Int) == 0) = false := by rw [beq_eq_false_iff_ne]; omega
            go_wp2_with fail
            refine Hnx.out.mono ?_
            rintro e w1 ⟨rfl, h1, f1⟩
            have hfa := rfail_any rb l' false w1 h1
            have Hf1 := hide (Hf.out.trans' f1 (fun _ _ h => h))
            have Hfa := hide hfa
            clear h1 f1 Hnx hfa Hf
            go_wp2_with fail
            refine Hfa.out.mono ?_
            rintro e w2 ⟨rfl, h2, f2⟩
            have Hp := hide (show _ ∧ _ from ⟨h2, Hf1.out.trans' f2 (fun _ _ h => h)⟩)
            have Hbd := hide (rbad_any rb [] true w2 h2)
            clear h2 f2 Hfa
            go_wp2_with (go_at_call 23; refine Hbd.out.mono ?_; rintro e w' ⟨rfl, rfl⟩)
            go_ret
            rw [He.out]
            exact ⟨rfl, Hp.out.1, Hp.out.2⟩
        · rw [if_neg hC] at hu
          have hC1 : 0 < i → 0 < bn := fun h => by omega
          have hC2 : 9 ≤ i → bn ≤ 1 := fun h => by omega
          have hst := or_step i acc bn hi hacc hb255 hC2
          have hpw : 128 ^ i ≤ 9223372036854775808 := by
            have h2 : 128 ^ i ≤ 128 ^ 9 := Nat.pow_le_pow_right (by omega) hi
            have h3 : (128 : Nat) ^ 9 = 9223372036854775808 := by decide
            omega
          have hnew : acc + bn % 128 * 128 ^ i < 128 ^ (i + 1) := by
            rw [Nat.pow_succ]
            have : bn % 128 * 128 ^ i ≤ 127 * 128 ^ i := Nat.mul_le_mul_right _ (by omega)
            omega
          have hn64 : acc + bn % 128 * 128 ^ i < 18446744073709551616 := by
            rcases Nat.lt_or_ge i 9 with h | h
            · have h2 : 128 ^ (i + 1) ≤ 128 ^ 9 := Nat.pow_le_pow_right (by omega) (by omega)
              have h3 : (128 : Nat) ^ 9 = 9223372036854775808 := by decide
              omega
            · have h2 := hC2 h
              have h4 : bn % 128 * 128 ^ i ≤ 1 * 128 ^ i := Nat.mul_le_mul_right _ (by omega)
              omega
          have hu2 : bn < 128 → rdU 0 0 l = some (acc + bn % 128 * 128 ^ i, l') := fun h => by rw [hu, if_pos h, Nat.mod_eq_of_lt h]
          have hu3 : ¬ bn < 128 → rdU 0 0 l = rdU (i + 1) (acc + bn % 128 * 128 ^ i) l' := fun h => by rw [hu, if_neg h, show bn - 128 = bn % 128 by omega]
          have hi8 : ¬ bn < 128 → i ≤ 8 := fun h => by
            rcases Nat.lt_or_ge i 9 with h9 | h9
            · omega
            · have := hC2 h9; omega
          have Hst := hide hst
          have Hnew := hide hnew
          have Hn64 := hide hn64
          have Hu2 := hide hu2
          have Hu3 := hide hu3
          have Hi8 := hide hi8
          clear hu hacc hC hst hpw hnew hn64 hu2 hu3 hi8
          by_cases hi0 : i = 0
          · have hile : i ≤ 0 := by omega
            clear hi0 hC1 hC2 hi
            by_cases hb : bn < 128
            · go_wp2_with fail
              refine Hnx.out.mono ?_
              rintro e w1 ⟨rfl, h1, f1⟩
              have Hbd := hide (rbad_any rb l' false w1 h1)
              have H1 := hide h1
              have Hf1 := hide (Hf.out.trans' f1 (fun _ _ h => h))
              clear h1 f1 Hnx Hf
              go_wp2_with (go_at_call 23; refine Hbd.out.mono ?_; rintro e w' ⟨rfl, rfl⟩)
              rw [Hst.out]
              go_meet
              case rel => exact ⟨_, l', rfl, Hu2.out hb, Hn64.out, H1.out, Hf1.out⟩
            · have hi8 := Hi8.out hb
              go_wp2_with fail
              refine Hnx.out.mono ?_
              rintro e w1 ⟨rfl, h1, f1⟩
              have Hbd := hide (rbad_any rb l' false w1 h1)
              have H1 := hide h1
              have Hf1 := hide (Hf.out.trans' f1 (fun _ _ h => h))
              clear h1 f1 Hnx Hf
              go_wp2_with (go_at_call 23; refine Hbd.out.mono ?_; rintro e w' ⟨rfl, rfl⟩)
              rw [Hst.out]
              go_roundw
              case rel => exact ⟨i + 1, _, l', false, by have := Hi8.out hb; omega, rfl, by go_num, Hnew.out, H1.out, Hf1.out, Hu3.out hb⟩
              case measure => simp [intOf]; omega
          · have hi1 : 1 ≤ i := by omega
            have hb1 : 0 < bn := hC1 hi1
            have hb0 : ((bn : Int) == 0) = false := by rw [beq_eq_false_iff_ne]; omega
            clear hC1 hi0
            by_cases hi9 : i = 9
            · have hge : 9 ≤ i := by omega
              have hble : bn ≤ 1 := hC2 hge
              have hb : bn < 128 := by omega
              clear hi9 hC2
              go_wp2_with fail
              refine Hnx.out.mono ?_
              rintro e w1 ⟨rfl, h1, f1⟩
              have Hbd := hide (rbad_any rb l' false w1 h1)
              have H1 := hide h1
              have Hf1 := hide (Hf.out.trans' f1 (fun _ _ h => h))
              clear h1 f1 Hnx Hf
              go_wp2_with (go_at_call 23; refine Hbd.out.mono ?_; rintro e w' ⟨rfl, rfl⟩)
              rw [Hst.out]
              go_meet
              case rel => exact ⟨_, l', rfl, Hu2.out hb, Hn64.out, H1.out, Hf1.out⟩
            · have hi8 : i ≤ 8 := by omega
              clear hi9 hi hC2
              by_cases hb : bn < 128
              · go_wp2_with fail
                refine Hnx.out.mono ?_
                rintro e w1 ⟨rfl, h1, f1⟩
                have Hbd := hide (rbad_any rb l' false w1 h1)
                have H1 := hide h1
                have Hf1 := hide (Hf.out.trans' f1 (fun _ _ h => h))
                clear h1 f1 Hnx Hf
                go_wp2_with (go_at_call 23; refine Hbd.out.mono ?_; rintro e w' ⟨rfl, rfl⟩)
                rw [Hst.out]
                go_meet
                case rel => exact ⟨_, l', rfl, Hu2.out hb, Hn64.out, H1.out, Hf1.out⟩
              · have hi8 := Hi8.out hb
                go_wp2_with fail
                refine Hnx.out.mono ?_
                rintro e w1 ⟨rfl, h1, f1⟩
                have Hbd := hide (rbad_any rb l' false w1 h1)
                have H1 := hide h1
                have Hf1 := hide (Hf.out.trans' f1 (fun _ _ h => h))
                clear h1 f1 Hnx Hf
                go_wp2_with (go_at_call 23; refine Hbd.out.mono ?_; rintro e w' ⟨rfl, rfl⟩)
                rw [Hst.out]
                go_roundw
                case rel => exact ⟨i + 1, _, l', false, by have := Hi8.out hb; omega, rfl, by go_num, Hnew.out, H1.out, Hf1.out, Hu3.out hb⟩
                case measure => simp [intOf]; omega
end Go.Proofs.Ytdkmccilnmdhmaa
