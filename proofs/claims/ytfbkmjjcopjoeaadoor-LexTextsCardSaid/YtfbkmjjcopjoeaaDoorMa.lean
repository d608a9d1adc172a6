/- columbaryref05: Letter, digit. -/
import Derived.Test.YtfbkmjjcopjoeaaDoorOwnC
import Derived.Test.YtfbkmjjcopjoeaaDoorLp
import Derived.Deep.CutRange
import Derived.Deep.CutBlock
namespace Go.Proofs.YtfbkmjjcopjoeaaDoor
open Go.RowKit

theorem letter_nat (c : UInt8) : Lx.isLetter c = decide (97 ≤ c.toNat ∧ c.toNat ≤ 122 ∨ 65 ≤ c.toNat ∧ c.toNat ≤ 90 ∨ c.toNat = 95) := by
  have : ∀ n : Fin 256, Lx.isLetter (UInt8.ofNat n.val) = decide (97 ≤ n.val ∧ n.val ≤ 122 ∨ 65 ≤ n.val ∧ n.val ≤ 90 ∨ n.val = 95) := by decide +kernel
  have h2 := this ⟨c.toNat, c.toNat_lt⟩
  simp only [UInt8.ofNat_toNat] at h2
  exact h2
theorem digit_nat (c : UInt8) : Lx.isDigit c = decide (48 ≤ c.toNat ∧ c.toNat ≤ 57) := by
  have : ∀ n : Fin 256, Lx.isDigit (UInt8.ofNat n.val) = decide (48 ≤ n.val ∧ n.val ≤ 57) := by decide +kernel
  have h2 := this ⟨c.toNat, c.toNat_lt⟩
  simp only [UInt8.ofNat_toNat] at h2
  exact h2
set_option maxHeartbeats 1000000 in
theorem letter_any (c : UInt8) (w : World) : Calls Tryd.prog 14 #[.int .u8 (c.toNat : Int)] w fun e w' => e = .returned (.bool (Lx.isLetter c)) ∧ w = w' := by
  rw [letter_nat]
  obtain ⟨k, hk⟩ : ∃ k, c.toNat = k := ⟨_, rfl⟩
  rw [hk]
  clear hk
  rcases (show (97 ≤ k ∧ k ≤ 122) ∨ (65 ≤ k ∧ k ≤ 90) ∨ k = 95 ∨ k < 65 ∨ (90 < k ∧ k < 95) ∨ k = 96 ∨ 122 < k by omega) with ⟨h1, h2⟩ | ⟨h1, h2⟩ | rfl | h1 | ⟨h1, h2⟩ | rfl | h1
  all_goals
    try have h3 : ¬ k = 95 := by omega
    go_enter Tryd.func14, Tryd.ntmps14
    go_wp2
    go_ret
    refine ⟨congrArg Ending.returned (congrArg Value.bool (?_ : _ = _)), rfl⟩
    first
      | rfl
      | (rw [Bool.eq_iff_iff]; simp; done)
      | (rw [Bool.eq_iff_iff]; simp; omega)
set_option maxHeartbeats 1000000 in
theorem digit_any (c : UInt8) (w : World) : Calls Tryd.prog 28 #[.int .u8 (c.toNat : Int)] w fun e w' => e = .returned (.bool (Lx.isDigit c)) ∧ w = w' := by
  rw [digit_nat]
  obtain ⟨k, hk⟩ : ∃ k, c.toNat = k := ⟨_, rfl⟩
  rw [hk]
  clear hk
  rcases (show (48 ≤ k ∧ k ≤ 57) ∨ k < 48 ∨ 57 < k by omega) with ⟨h1, h2⟩ | h1 | h1
  all_goals
    go_enter Tryd.func28, Tryd.ntmps28
    go_wp2
    go_ret
    refine ⟨congrArg Ending.returned (congrArg Value.bool (?_ : _ = _)), rfl⟩
    first
      | rfl
      | (rw [Bool.eq_iff_iff]; simp; done)
      | (rw [Bool.eq_iff_iff]; simp; omega)
/-- The byte at a place of a string. -/
theorem ba_get {s : List UInt8} {k : Nat} {c : UInt8} (h : s[k]? = some c) (hk : k < (⟨s.toArray⟩ : ByteArray).size) : (⟨s.toArray⟩ : ByteArray)[k]'hk = c := by
  obtain ⟨h1, h2⟩ := List.getElem?_eq_some_iff.1 h
  rw [← h2]
  rfl
theorem ba_extract (s : List UInt8) (i k : Nat) : (⟨s.toArray⟩ : ByteArray).extract i k = ⟨((s.take k).drop i).toArray⟩ := by
  apply ByteArray.ext
  rw [ByteArray.data_extract]
  simp [List.drop_take]
theorem tw_iff (p : UInt8 → Bool) : ∀ (D : List UInt8) (j : Nat), j ≤ (D.takeWhile p).length → (j < (D.takeWhile p).length ↔ ∃ c, D[j]? = some c ∧ p c = true)
  | [], j, h => by simp
  | d :: D, j, h => by
    rw [List.takeWhile_cons] at h ⊢
    cases hp : p d with
    | false =>
      rw [hp] at h
      simp at h
      subst h
      simp [hp]
    | true =>
      rw [hp] at h
      simp only [if_true, List.length_cons] at h ⊢
      cases j with
      | zero => simp [hp]
      | succ j =>
        have := tw_iff p D j (by omega)
        rw [List.getElem?_cons_succ, ← this]
        omega
theorem val_lt (l : List UInt8) (h : ∀ c ∈ l, Lx.isDigit c = true) : Lx.val l 0 < 10 ^ l.length := by
  have key : ∀ (l : List UInt8) (a : Nat), (∀ c ∈ l, Lx.isDigit c = true) → Lx.val l a < (a + 1) * 10 ^ l.length := by
    intro l
    induction l with
    | nil => intro a _; simp [Lx.val]
    | cons c r ih =>
      intro a h
      have hc := h c List.mem_cons_self
      rw [digit_nat] at hc
      simp at hc
      have := ih (a * 10 + (c.toNat - 48)) (fun d hd => h d (List.mem_cons_of_mem _ hd))
      rw [Lx.val, List.length_cons, Nat.pow_succ]
      refine Nat.lt_of_lt_of_le this ?_
      have h1 : a * 10 + (c.toNat - 48) + 1 ≤ (a + 1) * 10 := by omega
      calc (a * 10 + (c.toNat - 48) + 1) * 10 ^ r.length ≤ ((a + 1) * 10) * 10 ^ r.length := Nat.mul_le_mul_right _ h1
        _ = (a + 1) * (10 ^ r.length * 10) := by rw [Nat.mul_assoc, Nat.mul_comm 10]
  have := key l 0 h
  simpa using this
end Go.Proofs.YtfbkmjjcopjoeaaDoor
