/- CRC-32, as plain numbers; the program's sum, and the document's. -/
import Derived.Test.YtonlpgjcmodpnaaFrame
import Derived.Laws.BitsAllLaws
namespace Go.Proofs.Ytonlpgjcmodpnaa
open Go.RowKit

def crcStep (s : Nat) : Nat := if s % 2 = 1 then s / 2 ^^^ 3988292384 else s / 2
def crcN : Nat → Nat → Nat
  | 0, s => s
  | k + 1, s => crcStep (crcN k s)
def crcByte (s : Nat) (b : UInt8) : Nat := crcN 8 (s ^^^ b.toNat)
def crcFold (l : List UInt8) (s : Nat) : Nat := l.foldl crcByte s
def crc (l : List UInt8) : Nat := crcFold l 4294967295 ^^^ 4294967295

theorem xor32 {a b : Nat} (ha : a < 4294967296) (hb : b < 4294967296) : a ^^^ b < 4294967296 := Nat.xor_lt_two_pow (n := 32) ha hb
theorem crcStep_lt {s : Nat} (h : s < 4294967296) : crcStep s < 4294967296 := by
  unfold crcStep
  split
  · exact xor32 (by omega) (by omega)
  · omega
theorem crcN_lt {s : Nat} (h : s < 4294967296) : ∀ k, crcN k s < 4294967296
  | 0 => h
  | k + 1 => crcStep_lt (crcN_lt h k)
theorem crcByte_lt {s : Nat} (h : s < 4294967296) (b : UInt8) : crcByte s b < 4294967296 := crcN_lt (xor32 h (by have := b.toNat_lt; omega)) 8
theorem crcFold_lt (l : List UInt8) : ∀ {s : Nat}, s < 4294967296 → crcFold l s < 4294967296 := by
  induction l with
  | nil => exact fun h => h
  | cons b r ih => exact fun h => ih (crcByte_lt h b)
theorem crcFold_snoc (l : List UInt8) (b : UInt8) (s : Nat) : crcFold (l ++ [b]) s = crcByte (crcFold l s) b := by simp [crcFold]
theorem take_snoc {α : Type} (l : List α) (k : Nat) (h : k < l.length) : l.take (k + 1) = l.take k ++ [l[k]] := by
  rw [List.take_succ_eq_append_getElem h]

theorem xor_even_mod (x z : Nat) : (x ^^^ 2 * z) % 2 = x % 2 := by
  have h := Nat.xor_mod_two_pow (a := x) (b := 2 * z) (n := 1)
  simp only [Nat.pow_one] at h
  rw [h, Nat.mul_mod_right, Nat.xor_zero]
theorem xor_even_div (x z : Nat) : (x ^^^ 2 * z) / 2 = x / 2 ^^^ z := by
  have h := Nat.xor_div_two_pow (a := x) (b := 2 * z) (n := 1)
  simp only [Nat.pow_one] at h
  rw [h, Nat.mul_div_cancel_left _ (by omega)]
theorem crcStep_xor (x z : Nat) : crcStep (x ^^^ 2 * z) = crcStep x ^^^ z := by
  unfold crcStep
  rw [xor_even_mod, xor_even_div]
  split
  · rw [Nat.xor_assoc, Nat.xor_assoc, Nat.xor_comm z]
  · rfl
theorem crcN_xor (x z : Nat) : ∀ k j, crcN k (x ^^^ 2 ^ (k + j) * z) = crcN k x ^^^ 2 ^ j * z
  | 0, j => by rw [Nat.zero_add]; rfl
  | k + 1, j => by
    have h := crcN_xor x z k (j + 1)
    rw [show k + (j + 1) = k + 1 + j from by omega] at h
    show crcStep (crcN k _) = crcStep (crcN k x) ^^^ _
    rw [h, Nat.pow_succ, Nat.mul_comm (2 ^ j) 2, Nat.mul_assoc, crcStep_xor]
/-- The table's way. -/
theorem crcByte_table (s : Nat) (b : UInt8) : s / 256 ^^^ crcN 8 ((s ^^^ b.toNat) % 256) = crcByte s b := by
  have h1 : s ^^^ b.toNat = (s ^^^ b.toNat) % 256 ^^^ 2 ^ (8 + 0) * (s / 256) := by
    have e1 := Nat.xor_mod_two_pow (a := s) (b := b.toNat) (n := 8)
    have e2 := Nat.xor_div_two_pow (a := s) (b := b.toNat) (n := 8)
    have hb := b.toNat_lt
    have hb0 : b.toNat / 2 ^ 8 = 0 := Nat.div_eq_of_lt hb
    rw [hb0, Nat.xor_zero] at e2
    have hx : (s ^^^ b.toNat) % 256 < 2 ^ 8 := Nat.mod_lt _ (by omega)
    have h0 := Nat.div_add_mod (s ^^^ b.toNat) 256
    have h2 := Nat.two_pow_add_eq_or_of_lt hx (s / 256)
    rw [show 8 + 0 = 8 from rfl]
    have h3 : 2 ^ 8 * (s / 256) + (s ^^^ b.toNat) % 256 = (s ^^^ b.toNat) % 256 ^^^ 2 ^ 8 * (s / 256) := by
      rw [h2]
      apply Nat.eq_of_testBit_eq
      intro i
      rw [Nat.testBit_or, Nat.testBit_xor, Nat.testBit_two_pow_mul]
      by_cases hi : 8 ≤ i
      · have : Nat.testBit ((s ^^^ b.toNat) % 256) i = false := Nat.testBit_lt_two_pow (Nat.lt_of_lt_of_le hx (Nat.pow_le_pow_right (by omega) hi))
        rw [this]; simp
      · simp [show ¬ (i ≥ 8) from hi]
    rw [← h3]
    have e2' : (s ^^^ b.toNat) / 256 = s / 256 := e2
    rw [show (2 : Nat) ^ 8 = 256 from rfl]
    rw [e2'] at h0
    omega
  unfold crcByte
  rw [show crcN 8 (s ^^^ b.toNat) = crcN 8 ((s ^^^ b.toNat) % 256 ^^^ 2 ^ (8 + 0) * (s / 256)) from by rw [← h1], crcN_xor, Nat.pow_zero, Nat.one_mul, Nat.xor_comm]

/-- the polynomial, or nothing. -/
theorem poly_and (s : Nat) : (if s % 2 = 1 then s / 2 ^^^ 3988292384 else s / 2) = s / 2 ^^^ (if s % 2 = 1 then 3988292384 else 0) := by
  split <;> simp

theorem Bytes.cell {w : World} {A : Option Addr} {l : List UInt8} (h : Bytes w A l) (k : Nat) (hk : k < l.length) : ∃ g o, A = some ⟨g, o, none⟩ ∧ w.cell? ⟨g, o + k, none⟩ = some (.int .u8 (l[k].toNat : Int)) := by
  rcases h with rfl | ⟨g, o, rfl, h⟩
  · simp at hk
  · exact ⟨g, o, rfl, h k _ (by rw [B8s_get, List.getElem?_eq_getElem hk]; rfl)⟩

theorem prog_step (s : Nat) (h : s < 4294967296) : bits .xor .u32 ((s : Int) / 2) (bits .and .u32 3988292384 (-bits .and .u32 (s : Int) 1 % 4294967296)) = (crcStep s : Int) := by
  have h1 : bits .and .u32 (s : Int) 1 = ((s % 2 : Nat) : Int) := by
    rw [u32_and (s : Int) 1 (by omega) (by omega) (by omega) (by omega)]
    simp [Nat.and_one_is_mod]
  rw [h1]
  unfold crcStep
  rcases Nat.mod_two_eq_zero_or_one s with h0 | h0
  · rw [h0, if_neg (by omega), show (-((0 : Nat) : Int) % 4294967296) = 0 from rfl, show bits .and .u32 3988292384 0 = 0 from by decide, u32_xor _ 0 (by omega) (by omega) (by omega) (by omega)]
    simp
    omega
  · rw [h0, if_pos rfl, show (-((1 : Nat) : Int) % 4294967296) = 4294967295 from rfl, show bits .and .u32 3988292384 4294967295 = 3988292384 from by decide, u32_xor _ 3988292384 (by omega) (by omega) (by omega) (by omega)]
    congr 1

set_option maxHeartbeats 1000000 in
theorem sum_any (A : Option Addr) (c : Nat) (l : List UInt8) (w : World) (hb : Bytes w A l) (hl : l.length ≤ maxLen) :
    Calls Try.prog 58 #[.slice A l.length c] w fun e w' => e = .returned (.int .u32 (crc l : Int)) ∧ w = w' := by
  have hl' : l.length ≤ 9223372036854775807 := hl
  clear hl
  have Hb := hide hb
  clear hb
  go_enter Try.func58, Try.ntmps58
  go_wp2
  go_loop [3, 8] (fun s i => ∃ k : Nat, k ≤ l.length ∧ i = .int .i64 k ∧ s = .int .u32 (crcFold (l.take k) 4294967295 : Nat)) (fun _ i => l.length - (intOf i).toNat)
  case atStart => exact ⟨0, Nat.zero_le _, rfl, rfl⟩
  case round =>
    obtain ⟨k, hk, rfl, rfl⟩ := hrel
    have hs := crcFold_lt (l.take k) (s := 4294967295) (by omega)
    by_cases hlt : k < l.length
    · obtain ⟨g, o, rfl, hc⟩ := Hb.out.cell k hlt
      have hx : bits .xor .u32 ((crcFold (l.take k) 4294967295 : Nat) : Int) ((l[k].toNat : Int) % 4294967296) = ((crcFold (l.take k) 4294967295 ^^^ l[k].toNat : Nat) : Int) := by
        have hb8 := l[k].toNat_lt
        rw [Int.emod_eq_of_lt (by omega) (by omega)]
        exact u32_xor_nat _ _ hs (by omega)
      go_wp2
      clear hx
      go_loop [3, 16] (fun s i => ∃ j : Nat, j ≤ 8 ∧ i = .int .i64 j ∧ s = .int .u32 (crcN j (crcFold (l.take k) 4294967295 ^^^ l[k].toNat) : Nat)) (fun _ i => 8 - (intOf i).toNat)
      case atStart => exact ⟨0, by omega, rfl, rfl⟩
      case round =>
        obtain ⟨j, hj, rfl, rfl⟩ := hrel
        by_cases hlt2 : j < 8
        · go_wp2
          go_round
          case rel => exact ⟨j + 1, by omega, by go_num, by rw [prog_step _ (crcN_lt (xor32 hs (by have := l[k].toNat_lt; omega)) j)]; rfl⟩
          case measure => simp [intOf]; omega
        · obtain rfl : j = 8 := by omega
          go_wp2
          go_round
          case rel => exact ⟨k + 1, by omega, by go_num, by rw [take_snoc l k hlt, crcFold_snoc]; rfl⟩
          case measure => simp [intOf]; omega
    · obtain rfl : k = l.length := by omega
      go_wp2
      all_goals first
        | (exfalso; rename_i h; exact absurd h (by decide))
        | (go_ret
           refine ⟨?_, rfl⟩
           rw [List.take_length] at hs
           show Ending.returned (.int .u32 (bits BinOp.xor IntKind.u32 4294967295 (crcFold l 4294967295 : Nat))) = _
           rw [u32_xor 4294967295 _ (by omega) (by omega) (by omega) (by omega), crc, Nat.xor_comm]
           rfl)

set_option maxHeartbeats 1000000 in
theorem refsum_any (A : Option Addr) (c : Nat) (l : List UInt8) (w : World) (hb : Bytes w A l) (hl : l.length ≤ maxLen) :
    Calls Try.prog 52 #[.slice A l.length c] w fun e w' => e = .returned (.int .u32 (crc l : Int)) ∧ w = w' := by
  have hl' : l.length ≤ 9223372036854775807 := hl
  clear hl
  have Hb := hide hb
  clear hb
  go_enter Try.func52, Try.ntmps52
  go_wp2
  go_loop [3, 4, 5, 6] (fun s i _ _ => ∃ k : Nat, k ≤ l.length ∧ i = .int .i64 k ∧ s = .int .u32 (crcFold (l.take k) 4294967295 : Nat)) (fun _ i _ _ => l.length - (intOf i).toNat)
  case atStart => exact ⟨0, Nat.zero_le _, rfl, rfl⟩
  case round =>
    obtain ⟨k, hk, rfl, rfl⟩ := hrel
    have hs := crcFold_lt (l.take k) (s := 4294967295) (by omega)
    by_cases hlt : k < l.length
    · obtain ⟨g, o, rfl, hc⟩ := Hb.out.cell k hlt
      have hb8 := l[k].toNat_lt
      have hx : bits .and .u32 (bits .xor .u32 ((crcFold (l.take k) 4294967295 : Nat) : Int) (l[k].toNat : Int)) 255 = (((crcFold (l.take k) 4294967295 ^^^ l[k].toNat) % 256 : Nat) : Int) := by
        rw [u32_xor_nat _ _ hs (by omega), u32_and _ 255 (by omega) (by have := xor32 hs (show l[k].toNat < 4294967296 by omega); omega) (by omega) (by omega)]
        congr 1
        exact Nat.and_two_pow_sub_one_eq_mod _ 8
      go_wp2
      clear hx
      go_loop [5, 6] (fun s i => ∃ j : Nat, j ≤ 8 ∧ i = .int .i64 j ∧ s = .int .u32 (crcN j ((crcFold (l.take k) 4294967295 ^^^ l[k].toNat) % 256) : Nat)) (fun _ i => 8 - (intOf i).toNat)
      case atStart => exact ⟨0, by omega, rfl, rfl⟩
      case round =>
        obtain ⟨j, hj, rfl, rfl⟩ := hrel
        have ht := crcN_lt (s := (crcFold (l.take k) 4294967295 ^^^ l[k].toNat) % 256) (by omega) j
        by_cases hlt2 : j < 8
        · by_cases hm : crcN j ((crcFold (l.take k) 4294967295 ^^^ l[k].toNat) % 256) % 2 = 1
          · have hm' : (((crcN j ((crcFold (l.take k) 4294967295 ^^^ l[k].toNat) % 256) : Nat) : Int) % 2 == 1) = true := by rw [beq_iff_eq]; omega
            go_wp2
            go_round
            case rel => exact ⟨j + 1, by omega, by go_num, by rw [show (((crcN j ((crcFold (l.take k) 4294967295 ^^^ l[k].toNat) % 256) : Nat) : Int) / 2) = ((crcN j ((crcFold (l.take k) 4294967295 ^^^ l[k].toNat) % 256) / 2 : Nat) : Int) from by omega, u32_xor _ 3988292384 (by omega) (by omega) (by omega) (by omega)]; show _ = Value.int .u32 ((crcStep _ : Nat) : Int); rw [crcStep, if_pos hm]; rfl⟩
            case measure => simp [intOf]; omega
          · have hm' : (((crcN j ((crcFold (l.take k) 4294967295 ^^^ l[k].toNat) % 256) : Nat) : Int) % 2 == 1) = false := by rw [beq_eq_false_iff_ne]; omega
            go_wp2
            go_round
            case rel => exact ⟨j + 1, by omega, by go_num, by show _ = Value.int .u32 ((crcStep _ : Nat) : Int); rw [crcStep, if_neg hm]; rfl⟩
            case measure => simp [intOf]; omega
        · obtain rfl : j = 8 := by omega
          go_wp2
          go_round
          case rel => exact ⟨k + 1, by omega, by go_num, by
            rw [take_snoc l k hlt, crcFold_snoc, ← crcByte_table, show (((crcFold (l.take k) 4294967295 : Nat) : Int) / 256) = ((crcFold (l.take k) 4294967295 / 256 : Nat) : Int) from by omega, u32_xor_nat _ _ (by omega) (by omega)]⟩
          case measure => simp [intOf]; omega
    · obtain rfl : k = l.length := by omega
      go_wp2
      go_ret
      refine ⟨?_, rfl⟩
      rw [List.take_length] at hs
      show Ending.returned (.int .u32 (bits BinOp.xor IntKind.u32 (crcFold l 4294967295 : Nat) 4294967295)) = _
      rw [u32_xor _ 4294967295 (by omega) (by omega) (by omega) (by omega), crc]
      rfl

end Go.Proofs.Ytonlpgjcmodpnaa
