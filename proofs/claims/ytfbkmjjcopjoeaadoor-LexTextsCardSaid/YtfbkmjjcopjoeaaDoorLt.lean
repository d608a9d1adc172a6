/- The plain lexer: numbers alone; tokens written again. Pure. -/
import Derived.Test.YtfbkmjjcopjoeaaDoorLs
namespace Go.Proofs.YtfbkmjjcopjoeaaDoor
namespace Lx

theorem digit_not (c : UInt8) (h : isDigit c = true) : isLetter c = false ∧ c ≠ 45 ∧ isBlank c = false ∧ c ≠ 35 := by
  have : ∀ n : Fin 256, isDigit (UInt8.ofNat n.val) = true → isLetter (UInt8.ofNat n.val) = false ∧ UInt8.ofNat n.val ≠ 45 ∧ isBlank (UInt8.ofNat n.val) = false ∧ UInt8.ofNat n.val ≠ 35 := by decide +kernel
  have h2 := this ⟨c.toNat, c.toNat_lt⟩
  simp only [UInt8.ofNat_toNat] at h2
  exact h2 h
theorem skip_stop (c : UInt8) (x : List UInt8) (h1 : isBlank c = false) (h2 : c ≠ 35) : skipL false (c :: x) = c :: x := by
  rw [skipL, if_neg (by rw [h1]; simp), if_neg h2]
/-- The bytes of a number with its sign. -/
def numB (n : Int) : List UInt8 := (if n < 0 then [45] else []) ++ digitsB n.natAbs
theorem num_one (n : Int) (y : List UInt8) (hn : n.natAbs < 10 ^ 18) (hy : (y.head?.any isDigit) = false) : oneT (numB n ++ y) =
    (if (y.head?.any fun c => isLetter c || c == 46) = true then .bad (numB n).length 4 else .ok 2 (numB n) n (numB n).length) ∧ skipL false (numB n ++ y) = numB n ++ y := by
  have hp := digitsB_pos n.natAbs
  unfold numB
  by_cases h : n < 0
  · rw [if_pos h]
    have h1 := numT_digits [45] n.natAbs y hn hy
    simp only [List.length_singleton, List.singleton_append, if_true] at h1
    simp only [List.nil_append, List.cons_append, List.length_cons]
    rw [oneT, if_neg (by decide), if_pos rfl, h1, skip_stop 45 _ (by decide) (by decide)]
    rw [show -((n.natAbs : Nat) : Int) = n by omega, Nat.add_comm]
    exact ⟨rfl, rfl⟩
  · rw [if_neg h]
    have h1 := numT_digits [] n.natAbs y hn hy
    simp only [List.length_nil, List.nil_append, Nat.zero_add] at h1
    simp only [List.nil_append]
    rw [if_neg (show ¬ (0 : Nat) = 1 by decide), show ((n.natAbs : Nat) : Int) = n by omega] at h1
    cases hd : digitsB n.natAbs with
    | nil => rw [hd] at hp; simp at hp
    | cons c r =>
      have hc := digitsB_all n.natAbs c (by rw [hd]; exact List.mem_cons_self)
      have hnot := digit_not c hc
      rw [hd] at h1
      rw [List.cons_append] at h1 ⊢
      rw [oneT, if_neg (by rw [hnot.1]; simp), if_neg hnot.2.1, if_pos hc, h1, skip_stop c _ hnot.2.2.1 hnot.2.2.2]
      exact ⟨rfl, rfl⟩
theorem numB_len (n : Int) (hn : n.natAbs < 10 ^ 18) : 1 ≤ (numB n).length ∧ (numB n).length ≤ 19 := by
  have h1 := digitsB_len n.natAbs 18 hn (by decide)
  have h2 := digitsB_pos n.natAbs
  unfold numB
  split <;> simp <;> omega
theorem numbers_ok (n : Int) (hn : n.natAbs < 10 ^ 18) : lexL (numB n) = .inl [⟨2, numB n, n, 0⟩, ⟨0, [], 0, (numB n).length⟩] := by
  obtain ⟨h1, h2⟩ := num_one n [] hn rfl
  rw [List.append_nil] at h1 h2
  have hl := numB_len n hn
  rw [lexL_eq, if_neg (by omega), allL_eq, h2]
  cases hb : numB n with
  | nil => rw [hb] at hl; simp at hl
  | cons c r =>
    rw [hb] at h1
    simp only
    rw [h1]
    simp only [List.head?_nil, Option.any_none, Bool.false_eq_true, if_false]
    rw [List.drop_length, allL_nil]
    simp
theorem numbers_bad (n : Int) (c : UInt8) (hn : n.natAbs < 10 ^ 18) (hc : (isLetter c || c == 46) = true) : lexL (numB n ++ [c]) = .inr ((numB n).length, 4) := by
  have hd : isDigit c = false := by
    cases h : isDigit c with
    | false => rfl
    | true =>
      have := digit_not c h
      rw [this.1] at hc
      simp only [Bool.false_or, beq_iff_eq] at hc
      subst hc
      exact absurd h (by decide)
  obtain ⟨h1, h2⟩ := num_one n [c] hn (by simp [hd])
  have hl := numB_len n hn
  rw [lexL_eq, if_neg (by simp; omega), allL_eq, h2]
  cases hb : numB n ++ [c] with
  | nil => simp at hb
  | cons a r =>
    rw [hb] at h1
    simp only
    rw [h1]
    simp only [List.head?_cons, Option.any_some, hc, if_true]
    simp

/-! ### Tokens written again -/
theorem letter_not (c : UInt8) (h : isLetter c = true) : isBlank c = false ∧ c ≠ 35 := by
  have : ∀ n : Fin 256, isLetter (UInt8.ofNat n.val) = true → isBlank (UInt8.ofNat n.val) = false ∧ UInt8.ofNat n.val ≠ 35 := by decide +kernel
  have h2 := this ⟨c.toNat, c.toNat_lt⟩
  simp only [UInt8.ofNat_toNat] at h2
  exact h2 h
theorem sign_not (c : UInt8) (h : isSign c = true) : isLetter c = false ∧ c ≠ 45 ∧ isDigit c = false ∧ c ≠ 34 ∧ c ≠ 46 ∧ isBlank c = false ∧ c ≠ 35 := by
  have : ∀ n : Fin 256, isSign (UInt8.ofNat n.val) = true → isLetter (UInt8.ofNat n.val) = false ∧ UInt8.ofNat n.val ≠ 45 ∧ isDigit (UInt8.ofNat n.val) = false ∧ UInt8.ofNat n.val ≠ 34 ∧ UInt8.ofNat n.val ≠ 46 ∧ isBlank (UInt8.ofNat n.val) = false ∧ UInt8.ofNat n.val ≠ 35 := by decide +kernel
  have h2 := this ⟨c.toNat, c.toNat_lt⟩
  simp only [UInt8.ofNat_toNat] at h2
  exact h2 h
theorem mem_takeWhile_p (p : UInt8 → Bool) : ∀ (l : List UInt8), ∀ c ∈ l.takeWhile p, p c = true
  | [], c, h => by simp at h
  | d :: r, c, h => by
    rw [List.takeWhile_cons] at h
    split at h
    · rename_i hd
      rcases List.mem_cons.1 h with rfl | h
      · exact hd
      · exact mem_takeWhile_p p r c h
    · simp at h
theorem numT_again {l : List UInt8} {m kd : Nat} {t : List UInt8} {n : Int} {len : Nat} (y : List UInt8) (hm : m ≤ l.length) (h : numT l m = .ok kd t n len) : numT (t ++ 32 :: y) m = .ok kd t n t.length := by
  have hl := numT_len h
  have htw := takeWhile_take isDigit (l.drop m)
  have hle : len ≤ l.length := by
    have h2 := takeWhile_le isDigit (l.drop m)
    rw [List.length_drop] at h2
    omega
  have htl : t.length = len := by rw [hl.2.2.2, List.length_take]; omega
  have ht : t = l.take m ++ (l.drop m).takeWhile isDigit := by
    rw [hl.2.2.2, hl.2.1, List.take_add, ← htw]
  unfold numT at h ⊢
  generalize hds : (l.drop m).takeWhile isDigit = ds at *
  have hall : ∀ c ∈ ds, isDigit c = true := by rw [← hds]; exact mem_takeWhile_p _ _
  have hd1 : (List.drop m (t ++ 32 :: y)).takeWhile isDigit = ds := by
    rw [ht, List.append_assoc, List.drop_append_of_le_length (by rw [List.length_take]; omega), List.drop_take_self, List.nil_append]
    exact takeWhile_all isDigit ds _ hall rfl
  rw [hd1]
  simp only
  have hd2 : List.drop (m + ds.length) (t ++ 32 :: y) = 32 :: y := by
    rw [← hl.2.1, ← htl, List.drop_left]
  rw [hd2]
  simp only at h
  split
  · rename_i h0; rw [if_pos h0] at h; cases h
  · rename_i h0
    rw [if_neg h0] at h
    split
    · rename_i h1; rw [if_pos h1] at h; cases h
    · rename_i h1
      rw [if_neg h1] at h
      rw [if_neg (by simp [isLetter])]
      split at h
      · cases h
      · split at h
        · cases h
        · rename_i h3
          rw [if_neg h3]
          injection h with e1 e2 e3 e4
          rw [← hl.2.1, ← htl, List.take_left, ← e1, ← e3]
theorem head_not {c : UInt8} {r : List UInt8} {kd : Nat} {t : List UInt8} {n : Int} {len : Nat} (h : oneT (c :: r) = .ok kd t n len) (h3 : kd ≠ 3) : isBlank c = false ∧ c ≠ 35 := by
  rw [oneT] at h
  split at h
  · rename_i hc; exact letter_not c hc
  · split at h
    · rename_i h1; subst h1; decide
    · split at h
      · rename_i h2; exact ⟨(digit_not c h2).2.2.1, (digit_not c h2).2.2.2⟩
      · split at h
        · exact absurd (textT_len _ _ _ _ _ _ _ h).2.2.1 h3
        · split at h
          · rename_i h5; subst h5; decide
          · split at h
            · rename_i h6; exact ⟨(sign_not c h6).2.2.2.2.2.1, (sign_not c h6).2.2.2.2.2.2⟩
            · cases h
theorem oneT_again {l : List UInt8} {kd : Nat} {t : List UInt8} {n : Int} {len : Nat} (y : List UInt8) (h : oneT l = .ok kd t n len) (h3 : kd ≠ 3) : oneT (t ++ 32 :: y) = .ok kd t n t.length ∧ skipL false (t ++ 32 :: y) = t ++ 32 :: y ∧ t.length = len := by
  have hlen := oneT_len h
  have htx := (oneT_text h).2.resolve_left h3
  have htl : t.length = len := by rw [htx, List.length_take]; omega
  cases l with
  | nil => simp [oneT] at h
  | cons c r =>
    have hnot := head_not h h3
    have htc : ∃ r', t = c :: r' := by
      rw [htx]
      obtain ⟨m, rfl⟩ : ∃ m, len = m + 1 := ⟨len - 1, by omega⟩
      exact ⟨r.take m, by rw [List.take_succ_cons]⟩
    obtain ⟨r', hr'⟩ := htc
    refine ⟨?_, by rw [hr', List.cons_append, skip_stop c _ hnot.1 hnot.2], htl⟩
    rw [oneT] at h
    split at h
    · rename_i hc
      simp only at h
      split at h
      · cases h
      · rename_i hw
        injection h with e1 e2 e3 e4
        have hall : ∀ d ∈ t, isWord d = true := by rw [← e2]; exact mem_takeWhile_p _ _
        have h1 := takeWhile_all isWord t (32 :: y) hall rfl
        rw [hr', List.cons_append] at h1 ⊢
        rw [oneT, if_pos hc]
        simp only
        rw [h1, if_neg (by rw [← hr', ← e2]; exact hw), ← e1, ← e3]
    · rename_i hc
      split at h
      · rename_i h1
        have := numT_again y (by simp) h
        rw [hr', List.cons_append] at this ⊢
        rw [oneT, if_neg hc, if_pos h1]
        exact this
      · rename_i h1
        split at h
        · rename_i h2
          have := numT_again y (by simp) h
          rw [hr', List.cons_append] at this ⊢
          rw [oneT, if_neg hc, if_neg h1, if_pos h2]
          exact this
        · rename_i h2
          split at h
          · exact absurd (textT_len _ _ _ _ _ _ _ h).2.2.1 h3
          · rename_i h4
            split at h
            · rename_i h5
              split at h
              · injection h with e1 e2 e3 e4
                subst h5
                rw [← e1, ← e2, ← e3, show ([46, 46, 46] : List UInt8) ++ 32 :: y = 46 :: 46 :: 46 :: 32 :: y from rfl, oneT, if_neg (by decide), if_neg (by decide), if_neg (by decide), if_neg (by decide), if_pos rfl]
                rfl
              · cases h
            · rename_i h5
              split at h
              · rename_i h6
                injection h with e1 e2 e3 e4
                rw [← e1, ← e2, ← e3, show ([c] : List UInt8) ++ 32 :: y = c :: 32 :: y from rfl, oneT, if_neg hc, if_neg h1, if_neg h2, if_neg h4, if_neg h5, if_pos h6]
                rfl
              · cases h
/-- Tokens, each with a blank behind it. -/
def flatB (ts : List Tok) : List UInt8 := ts.flatMap fun t => t.text ++ [32]
theorem flatB_cons (t : Tok) (ts : List Tok) : flatB (t :: ts) = t.text ++ 32 :: flatB ts := by simp [flatB]
theorem again : ∀ (f : Nat) (l : List UInt8) (i : Nat) (ts : List Tok), l.length < f → allL l i = .inl ts → (∀ t ∈ ts, t.kind ≠ 3) →
    (flatB ts).length ≤ 2 * l.length + 1 ∧ ∀ j, ∃ us, allL (flatB ts) j = .inl us ∧ us.map (fun t => (t.kind, t.text, t.n)) = ts.map (fun t => (t.kind, t.text, t.n))
  | 0, _, _, _, h, _, _ => by omega
  | f + 1, l, i, ts, hf, h, h3 => by
    rw [allL_eq] at h
    have hle := skipL_le l false
    cases hs : skipL false l with
    | nil =>
      rw [hs] at h
      injection h with h
      subst h
      refine ⟨by simp [flatB], fun j => ⟨[⟨0, [], 0, j + 1⟩], ?_, rfl⟩⟩
      rw [allL_eq]
      rfl
    | cons c r =>
      rw [hs] at h hle
      simp only at h
      cases h2 : oneT (c :: r) with
      | bad off e => rw [h2] at h; cases h
      | ok k t n len =>
        rw [h2] at h
        simp only at h
        have hol := oneT_len h2
        have hlt := skip_drop_lt hs hol.1
        cases h4 : allL (List.drop len (c :: r)) (i + (l.length - (c :: r).length) + len) with
        | inr p' => rw [h4] at h; cases h
        | inl us =>
          rw [h4] at h
          injection h with h
          subst h
          obtain ⟨hl, hj⟩ := again f _ _ us (by omega) h4 (fun t ht => h3 t (List.mem_cons_of_mem _ ht))
          have hk3 : k ≠ 3 := h3 _ List.mem_cons_self
          obtain ⟨ho, hsk, htl⟩ := oneT_again (flatB us) h2 hk3
          rw [flatB_cons]
          refine ⟨?_, fun j => ?_⟩
          · simp only [List.length_append, List.length_cons]
            rw [List.length_drop] at hl
            simp only [List.length_cons] at hl hle
            have := hol.2
            simp only [List.length_cons] at this
            omega
          · simp only
            rw [allL_eq, hsk]
            cases hb : t ++ 32 :: flatB us with
            | nil => simp at hb
            | cons a b =>
              rw [hb] at ho
              simp only
              rw [ho]
              simp only
              rw [← hb, List.drop_left, show (32 :: flatB us : List UInt8) = [32] ++ flatB us from rfl, allL_ahead (g := [32]) (by rfl)]
              obtain ⟨vs, hv, hm⟩ := hj (j + ((t ++ [32] ++ flatB us).length - (t ++ [32] ++ flatB us).length) + t.length)
              rw [List.append_assoc] at hv
              rw [hv]
              exact ⟨_, rfl, by simp [shiftT, Function.comp_def, hm]⟩
end Lx
end Go.Proofs.YtfbkmjjcopjoeaaDoor
