/- The plain lexer: texts in quotes, whole numbers, tokens written again. Pure. -/
import Derived.Test.YtfbkmjjcopjoeaaDoorLr
namespace Go.Proofs.YtfbkmjjcopjoeaaDoor
namespace Lx

/-! ### Texts in quotes -/
def q1 (c : UInt8) : List UInt8 := if c = 10 then [92, 110] else if c = 34 ∨ c = 92 then [92, c] else [c]
def quoteB (p : List UInt8) : List UInt8 := p.flatMap q1
theorem quoteB_cons (c : UInt8) (p : List UInt8) : quoteB (c :: p) = q1 c ++ quoteB p := by simp [quoteB]
theorem quoteB_len (p : List UInt8) : (quoteB p).length ≤ 2 * p.length := by
  induction p with
  | nil => simp [quoteB]
  | cons c r ih =>
    rw [quoteB_cons, List.length_append, List.length_cons]
    have : (q1 c).length ≤ 2 := by unfold q1; split <;> (try split) <;> simp
    omega
theorem textT_q1 (c : UInt8) (y acc : List UInt8) (k : Nat) : textT (q1 c ++ y) acc k = textT y (acc ++ [c]) (k + (q1 c).length) := by
  unfold q1
  split
  · rename_i h
    subst h
    rw [show ([92, 110] : List UInt8) ++ y = 92 :: 110 :: y from rfl, textT.eq_def]
    rfl
  · split
    · rename_i h
      rw [show ([92, c] : List UInt8) ++ y = 92 :: c :: y from rfl, textT.eq_def]
      have he : esc c = some c := by rcases h with h | h <;> subst h <;> rfl
      simp only [he]
      rfl
    · rename_i h1 h2
      rw [show ([c] : List UInt8) ++ y = c :: y from rfl, textT.eq_def]
      simp only
      rw [if_neg (fun h => h2 (.inl h)), if_neg h1, if_neg (fun h => h2 (.inr h))]
      rfl
theorem textT_quote : ∀ (p y acc : List UInt8) (k : Nat), textT (quoteB p ++ y) acc k = textT y (acc ++ p) (k + (quoteB p).length)
  | [], y, acc, k => by simp [quoteB]
  | c :: r, y, acc, k => by
    rw [quoteB_cons, List.append_assoc, textT_q1, textT_quote r, List.length_append, List.append_assoc, Nat.add_assoc]
    rfl
theorem oneT_34 (y : List UInt8) : oneT (34 :: y) = textT y [] 1 := by
  rw [oneT, if_neg (by decide), if_neg (by decide), if_neg (by decide), if_pos rfl]
theorem skip_34 (y : List UInt8) : skipL false (34 :: y) = 34 :: y := by
  rw [skipL, if_neg (by decide), if_neg (by decide)]
theorem allL_nil (i : Nat) : allL [] i = .inl [⟨0, [], 0, i⟩] := by rw [allL_eq]; rfl
theorem texts_ok (p : List UInt8) (h : p.length ≤ 200) : lexL (34 :: (quoteB p ++ [34])) = .inl [⟨3, p, 0, 0⟩, ⟨0, [], 0, (quoteB p).length + 2⟩] := by
  have hl := quoteB_len p
  rw [lexL_eq, if_neg (by simp; omega), allL_eq, skip_34]
  simp only
  rw [oneT_34, textT_quote, textT.eq_def]
  simp only [List.nil_append, if_true]
  rw [if_neg (by omega)]
  simp only
  rw [show List.drop (1 + (quoteB p).length + 1) (34 :: (quoteB p ++ [34])) = [] by rw [List.drop_eq_nil_iff]; simp; omega, allL_nil]
  simp
  omega
theorem texts_long (p : List UInt8) (h : p.length ≤ 600) (h2 : 200 < p.length) : lexL (34 :: (quoteB p ++ [34])) = .inr (0, 2) := by
  have hl := quoteB_len p
  rw [lexL_eq, if_neg (by simp; omega), allL_eq, skip_34]
  simp only
  rw [oneT_34, textT_quote, textT.eq_def]
  simp only [List.nil_append, if_true]
  rw [if_pos h2]
  simp
theorem texts_open (p : List UInt8) (h : p.length ≤ 200) : lexL (34 :: quoteB p) = .inr ((quoteB p).length + 1, 4) := by
  have hl := quoteB_len p
  have h1 := textT_quote p [] [] 1
  rw [List.append_nil] at h1
  rw [lexL_eq, if_neg (by simp; omega), allL_eq, skip_34]
  simp only
  rw [oneT_34, h1, textT.eq_def]
  simp
  omega

/-! ### Whole numbers -/
def digitsB (k : Nat) : List UInt8 := if k < 10 then [UInt8.ofNat (48 + k)] else digitsB (k / 10) ++ [UInt8.ofNat (48 + k % 10)]
decreasing_by omega
theorem dig_byte (k : Nat) (h : k < 10) : isDigit (UInt8.ofNat (48 + k)) = true ∧ (UInt8.ofNat (48 + k)).toNat - 48 = k := by
  have : ∀ j : Fin 10, isDigit (UInt8.ofNat (48 + j.val)) = true ∧ (UInt8.ofNat (48 + j.val)).toNat - 48 = j.val := by decide
  exact this ⟨k, h⟩
theorem val_append (a b : List UInt8) (x : Nat) : val (a ++ b) x = val b (val a x) := by
  induction a generalizing x with
  | nil => rfl
  | cons c r ih => simp only [List.cons_append, val, ih]
theorem digitsB_val (k : Nat) : val (digitsB k) 0 = k := by
  induction k using Nat.strongRecOn with
  | ind k ih =>
    rw [digitsB]
    split
    · rename_i h
      simp only [val, (dig_byte k h).2]
      omega
    · rename_i h
      rw [val_append, ih (k / 10) (by omega)]
      simp only [val, (dig_byte (k % 10) (by omega)).2]
      omega
theorem digitsB_all (k : Nat) : ∀ c ∈ digitsB k, isDigit c = true := by
  induction k using Nat.strongRecOn with
  | ind k ih =>
    intro c hc
    rw [digitsB] at hc
    split at hc
    · rename_i h
      simp only [List.mem_singleton] at hc
      rw [hc]
      exact (dig_byte k h).1
    · rename_i h
      rcases List.mem_append.1 hc with hc | hc
      · exact ih (k / 10) (by omega) c hc
      · simp only [List.mem_singleton] at hc
        rw [hc]
        exact (dig_byte (k % 10) (by omega)).1
theorem digitsB_pos (k : Nat) : 1 ≤ (digitsB k).length := by
  rw [digitsB]
  split <;> simp
theorem digitsB_len (k m : Nat) (h : k < 10 ^ m) (hm : 1 ≤ m) : (digitsB k).length ≤ m := by
  induction m generalizing k with
  | zero => omega
  | succ m ih =>
    rw [digitsB]
    split
    · simp
    · rename_i h10
      have h1 : k / 10 < 10 ^ m := by rw [Nat.pow_succ] at h; omega
      have h2 : 1 ≤ m := by
        rcases m with _ | m
        · simp at h; omega
        · omega
      have := ih (k / 10) h1 h2
      simp
      omega
theorem digitsB_head (k : Nat) : (digitsB k).head? = some 48 → (digitsB k).length = 1 := by
  induction k using Nat.strongRecOn with
  | ind k ih =>
    intro h
    rw [digitsB] at h ⊢
    split
    · rfl
    · rename_i h10
      rw [if_neg h10, List.head?_append] at h
      have hp := digitsB_pos (k / 10)
      have h1 : (digitsB (k / 10)).head? = some 48 := by
        cases hd : (digitsB (k / 10)).head? with
        | none => rw [List.head?_eq_none_iff] at hd; rw [hd] at hp; simp at hp
        | some a => rw [hd] at h; exact h
      have h2 := ih (k / 10) (by omega) h1
      exfalso
      have hv := digitsB_val (k / 10)
      obtain ⟨a, ha⟩ := List.length_eq_one_iff.1 h2
      rw [ha] at h1 hv
      simp only [List.head?_cons, Option.some.injEq] at h1
      subst h1
      simp only [val] at hv
      have : (48 : UInt8).toNat - 48 = 0 := by decide
      omega
theorem takeWhile_all (p : UInt8 → Bool) (a y : List UInt8) (h : ∀ c ∈ a, p c = true) (hy : (y.head?.any p) = false) : (a ++ y).takeWhile p = a := by
  induction a with
  | nil =>
    cases y with
    | nil => rfl
    | cons c r =>
      simp only [List.head?_cons, Option.any_some] at hy
      rw [List.nil_append, List.takeWhile_cons, if_neg (by rw [hy]; simp)]
  | cons c r ih =>
    rw [List.cons_append, List.takeWhile_cons, if_pos (h c List.mem_cons_self), ih (fun d hd => h d (List.mem_cons_of_mem _ hd))]
/-- A number, and what stands behind it. -/
theorem numT_digits (sg : List UInt8) (k : Nat) (y : List UInt8) (hk : k < 10 ^ 18) (hy : (y.head?.any isDigit) = false) : numT (sg ++ (digitsB k ++ y)) sg.length =
    if (y.head?.any fun c => isLetter c || c == 46) = true then .bad (sg.length + (digitsB k).length) 4
    else .ok 2 (sg ++ digitsB k) (if sg.length = 1 then -(k : Int) else (k : Int)) (sg.length + (digitsB k).length) := by
  have hl := digitsB_len k 18 hk (by decide)
  have hp := digitsB_pos k
  unfold numT
  rw [List.drop_left, takeWhile_all isDigit (digitsB k) y (digitsB_all k) hy]
  simp only
  rw [if_neg (fun h => by rw [h] at hp; simp at hp), if_neg (fun h => by have := digitsB_head k h.1; omega)]
  rw [show List.drop (sg.length + (digitsB k).length) (sg ++ (digitsB k ++ y)) = y by rw [← List.append_assoc, ← List.length_append, List.drop_left]]
  split
  · rfl
  · rw [if_neg (by omega), digitsB_val]
    congr 1
    rw [← List.append_assoc, ← List.length_append, List.take_left]
end Lx
end Go.Proofs.YtfbkmjjcopjoeaaDoor
