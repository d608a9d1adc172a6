/- The plain lexer: places shift; what stands ahead; two texts behind one another. Pure. -/
import Derived.Test.YtfbkmjjcopjoeaaDoorLp
namespace Go.Proofs.YtfbkmjjcopjoeaaDoor
namespace Lx

def shiftT (d : Nat) (t : Tok) : Tok := { t with at_ := t.at_ + d }
def shiftR (d : Nat) : (List Tok) ⊕ (Nat × Nat) → (List Tok) ⊕ (Nat × Nat)
  | .inl ts => .inl (ts.map (shiftT d))
  | .inr p => .inr (p.1 + d, p.2)
theorem goL_shift (d : Nat) : ∀ (f : Nat) (l : List UInt8) (i : Nat), goL f l (i + d) = shiftR d (goL f l i)
  | 0, l, i => rfl
  | f + 1, l, i => by
    rw [goL, goL]
    cases h : skipL false l with
    | nil => simp [shiftR, shiftT]; omega
    | cons c r =>
      simp only
      cases h2 : oneT (c :: r) with
      | bad off e => simp [shiftR]; omega
      | ok k t n len =>
        simp only
        rw [show i + d + (l.length - (c :: r).length) + len = (i + (l.length - (c :: r).length) + len) + d by omega, goL_shift d f]
        cases goL f (List.drop len (c :: r)) (i + (l.length - (c :: r).length) + len) with
        | inl ts => simp [shiftR, shiftT]; omega
        | inr p => simp [shiftR]
theorem skip_drop_lt {l : List UInt8} {c : UInt8} {r : List UInt8} {len : Nat} (h : skipL false l = c :: r) (h1 : 1 ≤ len) : ((c :: r).drop len).length < l.length := by
  have := skipL_le l false
  rw [h] at this
  rw [List.length_drop]
  simp at this ⊢
  omega
theorem goL_fuel : ∀ (f g : Nat) (l : List UInt8) (i : Nat), l.length < f → l.length < g → goL f l i = goL g l i
  | 0, _, l, _, h, _ => by omega
  | _, 0, l, _, _, h => by omega
  | f + 1, g + 1, l, i, hf, hg => by
    rw [goL, goL]
    cases h : skipL false l with
    | nil => rfl
    | cons c r =>
      simp only
      cases h2 : oneT (c :: r) with
      | bad off e => rfl
      | ok k t n len =>
        simp only
        have := skip_drop_lt h (oneT_len h2).1
        rw [goL_fuel f g _ _ (by omega) (by omega)]
/-- All tokens, whatever the fuel. -/
def allL (l : List UInt8) (i : Nat) : (List Tok) ⊕ (Nat × Nat) := goL (l.length + 1) l i
theorem allL_eq (l : List UInt8) (i : Nat) : allL l i = match skipL false l with
    | [] => .inl [⟨0, [], 0, i + l.length⟩]
    | c :: r =>
      match oneT (c :: r) with
      | .bad off e => .inr (i + (l.length - (c :: r).length) + off, e)
      | .ok k t n len =>
        match allL ((c :: r).drop len) (i + (l.length - (c :: r).length) + len) with
        | .inl ts => .inl (⟨k, t, n, i + (l.length - (c :: r).length)⟩ :: ts)
        | .inr p => .inr p := by
  rw [allL, goL]
  cases h : skipL false l with
  | nil => rfl
  | cons c r =>
    simp only
    cases h2 : oneT (c :: r) with
    | bad off e => rfl
    | ok k t n len =>
      simp only
      have := skip_drop_lt h (oneT_len h2).1
      rw [allL, goL_fuel l.length (((c :: r).drop len).length + 1) _ _ (by omega) (by omega)]
      cases goL ((List.drop len (c :: r)).length + 1) (List.drop len (c :: r)) (i + (l.length - (c :: r).length) + len) <;> rfl
theorem lexL_eq (s : List UInt8) : lexL s = if 2000 < s.length then .inr (0, 2) else allL s 0 := rfl
theorem allL_shift (d : Nat) (l : List UInt8) (i : Nat) : allL l (i + d) = shiftR d (allL l i) := goL_shift d _ _ _

/-! ### What stands ahead -/
theorem allL_ahead {g l : List UInt8} (h : skipL false (g ++ l) = skipL false l) (i : Nat) : allL (g ++ l) i = shiftR g.length (allL l i) := by
  rw [allL_eq, allL_eq, h]
  cases hs : skipL false l with
  | nil => simp [shiftR, shiftT]; omega
  | cons c r =>
    simp only
    have hle := skipL_le l false
    rw [hs] at hle
    cases h2 : oneT (c :: r) with
    | bad off e => simp only [shiftR, List.length_append]; congr 2; omega
    | ok k t n len =>
      simp only [List.length_append]
      rw [show i + (g.length + l.length - (c :: r).length) + len = (i + (l.length - (c :: r).length) + len) + g.length by omega, allL_shift]
      cases allL (List.drop len (c :: r)) (i + (l.length - (c :: r).length) + len) with
      | inl ts => simp only [shiftR, shiftT, List.map_cons]; congr 3; omega
      | inr p => simp [shiftR]

/-! ### Two texts behind one another -/
theorem skip_app : ∀ (a : List UInt8) (b : Bool) (y : List UInt8), skipL b (a ++ 10 :: y) = match skipL b a with
    | [] => skipL false y
    | c :: r => (c :: r) ++ 10 :: y
  | [], false, y => by
    simp only [List.nil_append, skipL]
    rw [if_pos (by decide)]
  | [], true, y => by simp [skipL]
  | c :: r, false, y => by
    rw [List.cons_append, skipL, skipL]
    split
    · exact skip_app r false y
    · split
      · exact skip_app r true y
      · rfl
  | c :: r, true, y => by
    rw [List.cons_append, skipL, skipL]
    split
    · exact skip_app r false y
    · exact skip_app r true y
theorem takeWhile_app (p : UInt8 → Bool) (hp : p 10 = false) : ∀ (a y : List UInt8), (a ++ 10 :: y).takeWhile p = a.takeWhile p
  | [], y => by simp [hp]
  | c :: r, y => by
    rw [List.cons_append, List.takeWhile_cons, List.takeWhile_cons]
    split
    · rw [takeWhile_app p hp r y]
    · rfl
theorem textT_app : ∀ (a acc : List UInt8) (k : Nat) (y : List UInt8), (∀ off e, textT a acc k ≠ .bad off e) → textT (a ++ 10 :: y) acc k = textT a acc k
  | [], acc, k, y, h => absurd rfl (h k 4)
  | c :: r, acc, k, y, h => by
    rw [textT.eq_def] at h
    rw [List.cons_append, textT.eq_def, textT.eq_def (c :: r)]
    simp only at h ⊢
    split
    · rfl
    · rename_i h1
      rw [if_neg h1] at h
      split
      · rename_i h2
        rfl
      · rename_i h2
        rw [if_neg h2] at h
        split
        · rename_i h3
          rw [if_pos h3] at h
          cases r with
          | nil => exact absurd rfl (h (k + 1) 4)
          | cons e r' =>
            simp only [List.cons_append] at h ⊢
            cases he : esc e with
            | none => rfl
            | some b =>
              rw [he] at h
              exact textT_app r' _ _ y h
        · rename_i h3
          rw [if_neg h3] at h
          exact textT_app r _ _ y h
theorem numT_app {a : List UInt8} {m : Nat} (y : List UInt8) {kd : Nat} {t : List UInt8} {n : Int} {len : Nat} (hm : m ≤ a.length) (h : numT a m = .ok kd t n len) : numT (a ++ 10 :: y) m = .ok kd t n len := by
  have hl := numT_len h
  have hle : len ≤ a.length := by
    have h2 := takeWhile_le isDigit (a.drop m)
    rw [List.length_drop] at h2
    omega
  unfold numT at h ⊢
  rw [List.drop_append_of_le_length hm, takeWhile_app isDigit (by decide)]
  simp only at h ⊢
  split
  · rename_i h0; rw [if_pos h0] at h; cases h
  · rename_i h0
    rw [if_neg h0] at h
    split
    · rename_i h1; rw [if_pos h1] at h; cases h
    · rename_i h1
      rw [if_neg h1] at h
      have hd : ((List.drop (m + ((a.drop m).takeWhile isDigit).length) (a ++ 10 :: y)).head?.any fun c => isLetter c || c == 46) = ((List.drop (m + ((a.drop m).takeWhile isDigit).length) a).head?.any fun c => isLetter c || c == 46) := by
        rw [← hl.2.1, List.drop_append_of_le_length hle]
        cases a.drop len with
        | nil => rfl
        | cons c r => rfl
      rw [hd]
      split
      · rename_i h2; rw [if_pos h2] at h; cases h
      · rename_i h2
        rw [if_neg h2] at h
        split
        · rename_i h3; rw [if_pos h3] at h; cases h
        · rename_i h3
          rw [if_neg h3] at h
          rw [← h, ← hl.2.1, List.take_append_of_le_length hle]
theorem oneT_app {a : List UInt8} (y : List UInt8) {kd : Nat} {t : List UInt8} {n : Int} {len : Nat} (h : oneT a = .ok kd t n len) : oneT (a ++ 10 :: y) = .ok kd t n len := by
  cases a with
  | nil => simp [oneT] at h
  | cons c r =>
    rw [List.cons_append, oneT]
    rw [oneT] at h
    split
    · rename_i hc
      rw [if_pos hc] at h
      have := takeWhile_app isWord (by decide) (c :: r) y
      rw [List.cons_append] at this
      rw [this]
      exact h
    · rename_i hc
      rw [if_neg hc] at h
      have hnum : ∀ m, m ≤ 1 → numT (c :: r) m = .ok kd t n len → numT (c :: (r ++ 10 :: y)) m = .ok kd t n len := fun m hm h => by
        have := numT_app y (a := c :: r) (m := m) (by simp; omega) h
        rwa [List.cons_append] at this
      split
      · rename_i h1; rw [if_pos h1] at h; exact hnum 1 (by omega) h
      · rename_i h1
        rw [if_neg h1] at h
        split
        · rename_i h2; rw [if_pos h2] at h; exact hnum 0 (by omega) h
        · rename_i h2
          rw [if_neg h2] at h
          split
          · rename_i h3
            rw [if_pos h3] at h
            rw [textT_app r [] 1 y (fun off e he => by rw [he] at h; cases h)]
            exact h
          · rename_i h3
            rw [if_neg h3] at h
            split
            · rename_i h4
              rw [if_pos h4] at h
              split at h
              · rename_i h5
                have hlen := congrArg List.length h5
                simp at hlen
                rw [List.take_append_of_le_length (by omega), if_pos h5]
                exact h
              · cases h
            · rename_i h4
              rw [if_neg h4] at h
              exact h
/-- The tokens of a, and behind them those of b. -/
theorem allL_join : ∀ (f : Nat) (a b : List UInt8) (i : Nat) (ts : List Tok), a.length < f → allL a i = .inl ts →
    ∃ ks, ts = ks ++ [⟨0, [], 0, i + a.length⟩] ∧ allL (a ++ 10 :: b) i = match allL b (i + a.length + 1) with
      | .inl us => .inl (ks ++ us)
      | .inr p => .inr p
  | 0, a, _, _, _, h, _ => by omega
  | f + 1, a, b, i, ts, hf, h => by
    rw [allL_eq] at h
    have hsk := skip_app a false b
    have hle := skipL_le a false
    cases hs : skipL false a with
    | nil =>
      rw [hs] at h hsk
      simp only at h hsk
      injection h with h
      refine ⟨[], h.symm, ?_⟩
      rw [show a ++ 10 :: b = (a ++ [10]) ++ b by simp, allL_ahead (by rw [List.append_assoc]; exact hsk), show i + a.length + 1 = i + (a ++ [10]).length by simp; omega, allL_shift]
      cases allL b i <;> simp [shiftR]
    | cons c r =>
      rw [hs] at h hsk hle
      simp only at h hsk
      cases h2 : oneT (c :: r) with
      | bad off e => rw [h2] at h; cases h
      | ok k t n len =>
        rw [h2] at h
        simp only at h
        have hlen := oneT_len h2
        have hlt := skip_drop_lt hs hlen.1
        cases h3 : allL (List.drop len (c :: r)) (i + (a.length - (c :: r).length) + len) with
        | inr p => rw [h3] at h; cases h
        | inl us =>
          rw [h3] at h
          injection h with h
          obtain ⟨ks, hk, hj⟩ := allL_join f _ b _ us (by omega) h3
          have e1 : i + (a.length - (c :: r).length) + len + (List.drop len (c :: r)).length = i + a.length := by
            rw [List.length_drop]
            have := hlen.2
            omega
          rw [e1] at hk hj
          refine ⟨⟨k, t, n, i + (a.length - (c :: r).length)⟩ :: ks, by rw [← h, hk]; rfl, ?_⟩
          rw [allL_eq, hsk]
          have h2' := oneT_app b h2
          rw [List.cons_append] at h2' ⊢
          simp only
          rw [h2']
          simp only
          rw [show (a ++ 10 :: b).length - (c :: (r ++ 10 :: b)).length = a.length - (c :: r).length by simp; omega]
          rw [show List.drop len (c :: (r ++ 10 :: b)) = List.drop len (c :: r) ++ 10 :: b by rw [← List.cons_append, List.drop_append_of_le_length hlen.2], hj]
          cases allL b (i + a.length + 1) <;> rfl
end Lx
end Go.Proofs.YtfbkmjjcopjoeaaDoor
