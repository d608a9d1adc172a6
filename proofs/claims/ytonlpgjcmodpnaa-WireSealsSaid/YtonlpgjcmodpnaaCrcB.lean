/- CRC-32: bits that are turned within 32 are found. Plain numbers. -/
import Derived.Test.YtonlpgjcmodpnaaCrc
namespace Go.Proofs.Ytonlpgjcmodpnaa

/-- Bytes as one number, the first one the least. -/
def leN : List UInt8 → Nat
  | [] => 0
  | b :: r => b.toNat + 256 * leN r
theorem leN_lt (l : List UInt8) : leN l < 2 ^ (8 * l.length) := by
  induction l with
  | nil => simp [leN]
  | cons b r ih =>
    rw [leN, List.length_cons, show 8 * (r.length + 1) = 8 * r.length + 8 by omega, Nat.pow_add]
    have := b.toNat_lt
    omega
theorem add_xor (b x : Nat) (hb : b < 256) : b + 256 * x = b ^^^ 2 ^ 8 * x := by
  have h := Nat.two_pow_add_eq_or_of_lt (i := 8) (b := b) (by simpa using hb) x
  rw [show b + 256 * x = 2 ^ 8 * x + b by omega, h]
  apply Nat.eq_of_testBit_eq
  intro i
  rw [Nat.testBit_or, Nat.testBit_xor, Nat.testBit_two_pow_mul]
  by_cases hi : 8 ≤ i
  · have : b.testBit i = false := Nat.testBit_lt_two_pow (Nat.lt_of_lt_of_le hb (Nat.pow_le_pow_right (by omega) hi : 2 ^ 8 ≤ 2 ^ i))
    simp [this]
  · simp [hi]
theorem crcN_add (a b s : Nat) : crcN (a + b) s = crcN b (crcN a s) := by
  induction b with
  | zero => rfl
  | succ b ih => rw [show a + (b + 1) = (a + b) + 1 from rfl, crcN, ih, crcN]
theorem crcFold_leN (l : List UInt8) : ∀ s, crcFold l s = crcN (8 * l.length) (s ^^^ leN l) := by
  induction l with
  | nil => intro s; simp [crcFold, leN, crcN]
  | cons b r ih =>
    intro s
    have h1 : crcFold (b :: r) s = crcFold r (crcByte s b) := rfl
    rw [h1, ih, leN, add_xor _ _ b.toNat_lt, ← Nat.xor_assoc, List.length_cons, show 8 * (r.length + 1) = 8 + 8 * r.length by omega, crcN_add]
    have h2 := crcN_xor (s ^^^ b.toNat) (leN r) 8 0
    rw [Nat.add_zero, Nat.pow_zero, Nat.one_mul] at h2
    rw [h2]
    rfl
theorem crcStep_lin (x y : Nat) : crcStep (x ^^^ y) = crcStep x ^^^ crcStep y := by
  have hm := Nat.xor_mod_two_pow (a := x) (b := y) (n := 1)
  have hd := Nat.xor_div_two_pow (a := x) (b := y) (n := 1)
  simp only [Nat.pow_one] at hm hd
  unfold crcStep
  rw [hm, hd]
  rcases Nat.mod_two_eq_zero_or_one x with hx | hx <;> rcases Nat.mod_two_eq_zero_or_one y with hy | hy <;> rw [hx, hy]
  · rfl
  · simp only [Nat.zero_xor, if_pos]
    rw [if_neg (by omega), Nat.xor_assoc]
  · simp only [Nat.xor_zero, if_pos]
    rw [if_neg (by omega), Nat.xor_assoc, Nat.xor_assoc, Nat.xor_comm 3988292384]
  · simp only [Nat.xor_self, if_pos]
    rw [if_neg (by omega), Nat.xor_assoc, Nat.xor_comm (y / 2), ← Nat.xor_assoc 3988292384, Nat.xor_self, Nat.zero_xor]
theorem crcN_lin (x y : Nat) : ∀ k, crcN k (x ^^^ y) = crcN k x ^^^ crcN k y
  | 0 => rfl
  | k + 1 => by
    show crcStep (crcN k (x ^^^ y)) = crcStep (crcN k x) ^^^ crcStep (crcN k y)
    rw [crcN_lin x y k, crcStep_lin]
theorem crcStep_zero {s : Nat} (hs : s < 4294967296) (h : crcStep s = 0) : s = 0 := by
  unfold crcStep at h
  split at h
  · have h2 : s / 2 ^^^ 3988292384 ^^^ 3988292384 = 0 ^^^ 3988292384 := by rw [h]
    rw [Nat.xor_assoc, Nat.xor_self, Nat.xor_zero, Nat.zero_xor] at h2
    omega
  · omega
theorem crcN_zero {s : Nat} (hs : s < 4294967296) : ∀ k, crcN k s = 0 → s = 0
  | 0, h => h
  | k + 1, h => crcN_zero hs k (crcStep_zero (crcN_lt hs k) h)
theorem crcN_of_zero : ∀ k, crcN k 0 = 0
  | 0 => rfl
  | k + 1 => by
    show crcStep (crcN k 0) = 0
    rw [crcN_of_zero k]
    rfl
theorem crcN_shift (k n P : Nat) (hk : k ≤ n) : crcN n (2 ^ k * P) = crcN (n - k) P := by
  have h2 := crcN_xor 0 P k 0
  rw [Nat.add_zero, Nat.pow_zero, Nat.one_mul, Nat.zero_xor, crcN_of_zero, Nat.zero_xor] at h2
  rw [show n = k + (n - k) by omega, crcN_add, h2, show k + (n - k) - k = n - k by omega]
/-- What stands behind bytes and their sum. -/
def crcR : Nat := crcN 32 4294967295
theorem le4_num (s : Nat) (hs : s < 4294967296) : s % 256 + 256 * (s / 256 % 256 + 256 * (s / 65536 % 256 + 256 * (s / 16777216 % 256 + 256 * 0))) = s := by omega
theorem turned_sum (p p' : List UInt8) (k P : Nat) (hl : p'.length = p.length) (hk : k ≤ 8 * p.length) (hP : P < 4294967296) (hx : leN p' = leN p ^^^ 2 ^ k * P) (s : Nat) :
    crcFold p' s = crcFold p s ↔ P = 0 := by
  rw [crcFold_leN, crcFold_leN, hl, hx, ← Nat.xor_assoc, crcN_lin, crcN_shift _ _ _ hk]
  constructor
  · intro h
    have h2 : crcN (8 * p.length - k) P = 0 := by
      have h3 := congrArg (fun z => crcN (8 * p.length) (s ^^^ leN p) ^^^ z) h
      simp only [← Nat.xor_assoc, Nat.xor_self, Nat.zero_xor] at h3
      exact h3
    exact crcN_zero hP _ h2
  · intro h
    rw [h, crcN_of_zero, Nat.xor_zero]
end Go.Proofs.Ytonlpgjcmodpnaa
