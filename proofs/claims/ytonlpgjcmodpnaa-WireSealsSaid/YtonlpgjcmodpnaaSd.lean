/- Sealed bytes, as plain data: when they are accepted, and what a turned bit makes. -/
import Derived.Test.YtonlpgjcmodpnaaSb
import Derived.Test.YtonlpgjcmodpnaaCrcB
namespace Go.Proofs.Ytonlpgjcmodpnaa
open Go.RowKit

def okSeal (q : List UInt8) : Prop := 4 ≤ q.length ∧ q.drop (q.length - 4) = le4 (crc (q.take (q.length - 4)))
theorem okSeal_seal (l : List UInt8) : okSeal (sealB l) := by
  have hl : (sealB l).length = l.length + 4 := by rw [sealB, List.length_append]; rfl
  refine ⟨by omega, ?_⟩
  rw [hl, show l.length + 4 - 4 = l.length by omega, sealB, List.drop_left, List.take_left]
theorem leN_le4 (s : Nat) (hs : s < 4294967296) : leN (le4 s) = s := by
  have h : ∀ m, (UInt8.ofNat (m % 256)).toNat = m % 256 := fun m => by simp
  simp only [le4, leN, h]
  exact le4_num s hs
theorem le4_leN (t : List UInt8) (ht : t.length = 4) : le4 (leN t) = t := by
  match t, ht with
  | [a, b, c, d], _ =>
    have ha := a.toNat_lt
    have hb := b.toNat_lt
    have hc := c.toNat_lt
    have hd := d.toNat_lt
    simp only [le4, leN]
    have e : ∀ (x : UInt8) (m : Nat), m = x.toNat → UInt8.ofNat m = x := fun x m h => by rw [h]; simp
    rw [e a _ (by omega), e b _ (by omega), e c _ (by omega), e d _ (by omega)]
theorem crcN_inj {a b : Nat} (ha : a < 4294967296) (hb : b < 4294967296) (k : Nat) (h : crcN k a = crcN k b) : a = b := by
  have h1 : crcN k (a ^^^ b) = 0 := by rw [crcN_lin, h, Nat.xor_self]
  have h2 := crcN_zero (xor32 ha hb) k h1
  have h3 : a ^^^ b ^^^ b = 0 ^^^ b := by rw [h2]
  rwa [Nat.xor_assoc, Nat.xor_self, Nat.xor_zero, Nat.zero_xor] at h3
theorem okSeal_iff (q : List UInt8) (hq : 4 ≤ q.length) : okSeal q ↔ crcFold q 4294967295 = crcR := by
  obtain ⟨l, t, rfl, ht⟩ : ∃ l t, q = l ++ t ∧ t.length = 4 := ⟨q.take (q.length - 4), q.drop (q.length - 4), (List.take_append_drop _ _).symm, by rw [List.length_drop]; omega⟩
  have hn : (l ++ t).length - 4 = l.length := by rw [List.length_append]; omega
  have hS := crcFold_lt l (s := 4294967295) (by omega)
  have ht32 : leN t < 4294967296 := by have := leN_lt t; rw [ht] at this; exact this
  have hf : crcFold (l ++ t) 4294967295 = crcN 32 (crcFold l 4294967295 ^^^ leN t) := by
    rw [show crcFold (l ++ t) 4294967295 = crcFold t (crcFold l 4294967295) by simp [crcFold], crcFold_leN t, ht]
  unfold okSeal
  rw [hn, List.drop_left, List.take_left, hf]
  unfold crcR
  constructor
  · rintro ⟨_, h⟩
    rw [h, leN_le4 _ (crc_lt l)]
    congr 1
    unfold crc
    rw [← Nat.xor_assoc, Nat.xor_self, Nat.zero_xor]
  · intro h
    have h2 := crcN_inj (xor32 hS ht32) (by omega) 32 h
    refine ⟨hq, ?_⟩
    have h3 : leN t = crc l := by
      have h4 : crcFold l 4294967295 ^^^ (crcFold l 4294967295 ^^^ leN t) = crcFold l 4294967295 ^^^ 4294967295 := by rw [h2]
      rw [← Nat.xor_assoc, Nat.xor_self, Nat.zero_xor] at h4
      exact h4
    rw [← h3, le4_leN t ht]
theorem two_pow_mul_xor (n a b : Nat) : 2 ^ n * (a ^^^ b) = 2 ^ n * a ^^^ 2 ^ n * b := by
  apply Nat.eq_of_testBit_eq
  intro i
  rw [Nat.testBit_xor, Nat.testBit_two_pow_mul, Nat.testBit_two_pow_mul, Nat.testBit_two_pow_mul, Nat.testBit_xor]
  by_cases h : n ≤ i
  · simp [h]
  · simp [h]
/-- A bit of a byte is turned. -/
theorem leN_flip (b : Nat) (hb : b < 8) : ∀ (q : List UInt8) (j : Nat) (x : UInt8), q[j]? = some x → leN (q.set j (UInt8.ofNat (x.toNat ^^^ 2 ^ b))) = leN q ^^^ 2 ^ (8 * j + b)
  | [], j, x, h => by simp at h
  | y :: r, 0, x, h => by
    simp only [List.getElem?_cons_zero, Option.some.injEq] at h
    subst h
    have hx := y.toNat_lt
    have h2 : 2 ^ b < 256 := Nat.lt_of_le_of_lt (Nat.pow_le_pow_right (by omega) (by omega : b ≤ 7)) (by decide)
    have h3 : y.toNat ^^^ 2 ^ b < 256 := Nat.xor_lt_two_pow (n := 8) hx h2
    have h4 : (UInt8.ofNat (y.toNat ^^^ 2 ^ b)).toNat = y.toNat ^^^ 2 ^ b := by simp; rw [Nat.mod_eq_of_lt h2]
    rw [List.set_cons_zero, leN, leN, h4, add_xor _ _ h3, add_xor _ _ hx, Nat.mul_zero, Nat.zero_add, Nat.xor_assoc, Nat.xor_assoc, Nat.xor_comm (2 ^ b)]
  | y :: r, j + 1, x, h => by
    rw [List.getElem?_cons_succ] at h
    have ih := leN_flip b hb r j x h
    rw [List.set_cons_succ, leN, leN, ih, add_xor _ _ y.toNat_lt, add_xor _ _ y.toNat_lt, two_pow_mul_xor, ← Nat.xor_assoc, ← Nat.pow_add, show 8 + (8 * j + b) = 8 * (j + 1) + b by omega]
/-- The loop's next bit. -/
theorem pat_next (pt i : Nat) : pt % 2 ^ (i + 1) = pt % 2 ^ i ^^^ (if pt / 2 ^ i % 2 = 1 then 2 ^ i else 0) := by
  apply Nat.eq_of_testBit_eq
  intro j
  rw [Nat.testBit_mod_two_pow, Nat.testBit_xor, Nat.testBit_mod_two_pow]
  have hbit : pt.testBit i = decide (pt / 2 ^ i % 2 = 1) := by
    rw [Nat.testBit_eq_decide_div_mod_eq]
  by_cases hj : j = i
  · subst hj
    by_cases h1 : pt / 2 ^ j % 2 = 1
    · rw [if_pos h1]
      simp [hbit, h1]
    · rw [if_neg h1]
      simp [hbit, h1]
  · by_cases h1 : pt / 2 ^ i % 2 = 1
    · rw [if_pos h1, Nat.testBit_two_pow_of_ne (fun e => hj e.symm)]
      by_cases h2 : j < i
      · simp [h2, show j < i + 1 by omega]
      · simp [h2, show ¬ j < i + 1 by omega]
    · rw [if_neg h1]
      by_cases h2 : j < i
      · simp [h2, show j < i + 1 by omega]
      · simp [h2, show ¬ j < i + 1 by omega]
end Go.Proofs.Ytonlpgjcmodpnaa
