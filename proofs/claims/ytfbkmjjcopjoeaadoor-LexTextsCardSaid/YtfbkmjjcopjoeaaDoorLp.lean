/- A plain lexer over bytes: what the document asks of layer 5. Pure: no program in it. -/
namespace Go.Proofs.YtfbkmjjcopjoeaaDoor
namespace Lx

def isLetter (c : UInt8) : Bool := (97 ≤ c && c ≤ 122) || (65 ≤ c && c ≤ 90) || c == 95
def isDigit (c : UInt8) : Bool := 48 ≤ c && c ≤ 57
def isWord (c : UInt8) : Bool := isLetter c || isDigit c
def isBlank (c : UInt8) : Bool := c == 32 || c == 9 || c == 10 || c == 13 || c == 44
def isSign (c : UInt8) : Bool := c == 33 || c == 36 || c == 40 || c == 41 || c == 58 || c == 61 || c == 64 || c == 91 || c == 93 || c == 123 || c == 124 || c == 125 || c == 38
/-- What is left behind blanks and remarks; 'true': within a remark. -/
def skipL : Bool → List UInt8 → List UInt8
  | _, [] => []
  | false, c :: r => if isBlank c then skipL false r else if c = 35 then skipL true r else c :: r
  | true, c :: r => if c = 10 then skipL false r else skipL true r
structure Tok where
  kind : Nat
  text : List UInt8
  n : Int
  at_ : Nat
  deriving DecidableEq
/-- One token: its kind, text, number, how long it is; or at which of its bytes which error is. -/
inductive R where
  | ok (kind : Nat) (text : List UInt8) (n : Int) (len : Nat)
  | bad (off e : Nat)
def val : List UInt8 → Nat → Nat
  | [], a => a
  | c :: r, a => val r (a * 10 + (c.toNat - 48))
def esc (c : UInt8) : Option UInt8 := if c = 110 then some 10 else if c = 116 then some 9 else if c = 34 ∨ c = 47 ∨ c = 92 then some c else none
def textT : List UInt8 → List UInt8 → Nat → R
  | [], _, k => .bad k 4
  | c :: r, acc, k =>
    if c = 34 then (if 200 < acc.length then .bad 0 2 else .ok 3 acc 0 (k + 1))
    else if c = 10 then .bad k 4
    else if c = 92 then
      match r with
      | [] => .bad (k + 1) 4
      | e :: r' => match esc e with
        | some b => textT r' (acc ++ [b]) (k + 2)
        | none => .bad (k + 1) 4
    else textT r (acc ++ [c]) (k + 1)
/-- A number of which m bytes are the sign. -/
def numT (l : List UInt8) (m : Nat) : R :=
  let ds := (l.drop m).takeWhile isDigit
  if ds = [] then .bad m 4
  else if ds.head? = some 48 ∧ 1 < ds.length then .bad (m + 1) 4
  else if ((l.drop (m + ds.length)).head?.any fun c => isLetter c || c == 46) = true then .bad (m + ds.length) 4
  else if 18 < ds.length then .bad 0 1
  else .ok 2 (l.take (m + ds.length)) (if m = 1 then -(val ds 0 : Int) else (val ds 0 : Int)) (m + ds.length)
def oneT : List UInt8 → R
  | [] => .bad 0 4
  | c :: r =>
    if isLetter c then
      let w := (c :: r).takeWhile isWord
      if 32 < w.length then .bad 0 2 else .ok 1 w 0 w.length
    else if c = 45 then numT (c :: r) 1
    else if isDigit c then numT (c :: r) 0
    else if c = 34 then textT r [] 1
    else if c = 46 then (if r.take 2 = [46, 46] then .ok 4 [46, 46, 46] 0 3 else .bad 0 4)
    else if isSign c then .ok 4 [c] 0 1
    else .bad 0 4
/-- All tokens of what is left, from offset i on. -/
def goL : Nat → List UInt8 → Nat → (List Tok) ⊕ (Nat × Nat)
  | 0, _, i => .inr (i, 0)
  | f + 1, l, i =>
    match skipL false l with
    | [] => .inl [⟨0, [], 0, i + l.length⟩]
    | c :: r =>
      let j := i + (l.length - (c :: r).length)
      match oneT (c :: r) with
      | .bad off e => .inr (j + off, e)
      | .ok k t n len =>
        match goL f ((c :: r).drop len) (j + len) with
        | .inl ts => .inl (⟨k, t, n, j⟩ :: ts)
        | .inr p => .inr p
/-- The tokens of a text, or the place and the error's number. -/
def lexL (s : List UInt8) : (List Tok) ⊕ (Nat × Nat) := if 2000 < s.length then .inr (0, 2) else goL (s.length + 1) s 0

theorem skipL_le : ∀ (l : List UInt8) (b : Bool), (skipL b l).length ≤ l.length
  | [], b => by cases b <;> simp [skipL]
  | c :: r, false => by
    rw [skipL]
    split
    · have := skipL_le r false; simp; omega
    · split
      · have := skipL_le r true; simp; omega
      · exact Nat.le_refl _
  | c :: r, true => by
    rw [skipL]
    split
    · have := skipL_le r false; simp; omega
    · have := skipL_le r true; simp; omega
theorem textT_len : ∀ (l acc : List UInt8) (k kd : Nat) (t : List UInt8) (n : Int) (len : Nat), textT l acc k = .ok kd t n len → k < len ∧ len ≤ k + l.length ∧ kd = 3 ∧ n = 0 ∧ t.length ≤ 200
  | [], acc, k, kd, t, n, len, h => by simp [textT] at h
  | c :: r, acc, k, kd, t, n, len, h => by
    rw [textT.eq_def] at h
    simp only at h
    split at h
    · split at h
      · cases h
      · injection h with h1 h2 h3 h4
        subst h1 h2 h3 h4
        simp; omega
    · split at h
      · cases h
      · split at h
        · split at h
          · cases h
          · rename_i e r'
            split at h
            · have := textT_len r' _ _ _ _ _ _ h
              simp at this ⊢
              omega
            · cases h
        · have := textT_len r _ _ _ _ _ _ h
          simp at this ⊢
          omega
theorem numT_len {l : List UInt8} {m kd : Nat} {t : List UInt8} {n : Int} {len : Nat} (h : numT l m = .ok kd t n len) : m < len ∧ len = m + ((l.drop m).takeWhile isDigit).length ∧ kd = 2 ∧ t = l.take len := by
  unfold numT at h
  simp only at h
  split at h
  · cases h
  · rename_i h0
    split at h
    · cases h
    · split at h
      · cases h
      · split at h
        · cases h
        · injection h with h1 h2 h3 h4
          refine ⟨?_, h4.symm, h1.symm, by rw [← h4]; exact h2.symm⟩
          rw [← h4]
          have : 0 < ((l.drop m).takeWhile isDigit).length := List.length_pos_iff.2 h0
          omega
theorem takeWhile_le (p : UInt8 → Bool) : ∀ l : List UInt8, (l.takeWhile p).length ≤ l.length
  | [] => by simp
  | c :: r => by
    rw [List.takeWhile_cons]
    split
    · have := takeWhile_le p r; simp; omega
    · simp
theorem oneT_len {l : List UInt8} {kd : Nat} {t : List UInt8} {n : Int} {len : Nat} (h : oneT l = .ok kd t n len) : 1 ≤ len ∧ len ≤ l.length := by
  cases l with
  | nil => simp [oneT] at h
  | cons c r =>
    rw [oneT] at h
    split at h
    · rename_i hc
      simp only at h
      split at h
      · cases h
      · injection h with _ _ _ h4
        rw [← h4]
        refine ⟨?_, takeWhile_le _ _⟩
        rw [List.takeWhile_cons, if_pos (by simp [isWord, hc])]
        simp
    · have hnum : ∀ m, numT (c :: r) m = .ok kd t n len → 1 ≤ len ∧ len ≤ (c :: r).length := fun m h => by
        have h1 := numT_len h
        have h2 := takeWhile_le isDigit ((c :: r).drop m)
        rw [List.length_drop] at h2
        have h3 : 0 < ((c :: r).drop m).length := by
          have : 0 < (((c :: r).drop m).takeWhile isDigit).length := by omega
          exact Nat.lt_of_lt_of_le this (takeWhile_le _ _)
        rw [List.length_drop] at h3
        omega
      split at h
      · exact hnum 1 h
      · split at h
        · exact hnum 0 h
        · split at h
          · have := textT_len _ _ _ _ _ _ _ h
            simp
            omega
          · split at h
            · split at h
              · rename_i h46
                injection h with _ _ _ h4
                have := congrArg List.length h46
                simp at this
                simp
                omega
              · cases h
            · split at h
              · injection h with _ _ _ h4
                simp
                omega
              · cases h
end Lx
end Go.Proofs.YtfbkmjjcopjoeaaDoor
