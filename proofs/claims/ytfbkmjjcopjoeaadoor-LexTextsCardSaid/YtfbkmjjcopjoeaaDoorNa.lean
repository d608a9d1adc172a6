/- Rows of tokens, of either package; the plain lexer, read token by token. -/
import Derived.Test.YtfbkmjjcopjoeaaDoorOwnV
import Derived.Test.YtfbkmjjcopjoeaaDoorLt
namespace Go.Proofs.YtfbkmjjcopjoeaaDoor
open Go.RowKit

/-- The cells of a token. -/
def tokC (t : Lx.Tok) : List Value := [.int .u8 (t.kind : Int), .string ⟨t.text.toArray⟩, .int .i64 t.n, .int .i64 (t.at_ : Int)]
theorem tokC_len (t : Lx.Tok) : (tokC t).length = 4 := rfl
def tokF (ts : List Lx.Tok) : List Value := ts.flatMap tokC
theorem tokF_cons (t : Lx.Tok) (ts : List Lx.Tok) : tokF (t :: ts) = tokC t ++ tokF ts := rfl
theorem tokF_snoc (ts : List Lx.Tok) (t : Lx.Tok) : tokF (ts ++ [t]) = tokF ts ++ tokC t := by simp [tokF]
theorem tokF_len : ∀ ts : List Lx.Tok, (tokF ts).length = ts.length * 4
  | [] => rfl
  | t :: r => by rw [tokF_cons, List.length_append, tokC_len, tokF_len r, List.length_cons]; omega
theorem tokF_get : ∀ (ts : List Lx.Tok) (j : Nat) (t : Lx.Tok) (i : Nat), ts[j]? = some t → i < 4 → (tokF ts)[4 * j + i]? = (tokC t)[i]?
  | [], j, t, i, h, _ => by simp at h
  | c :: r, 0, t, i, h, hi => by
    simp only [List.getElem?_cons_zero, Option.some.injEq] at h
    subst h
    rw [tokF_cons, Nat.mul_zero, Nat.zero_add, List.getElem?_append_left (by rw [tokC_len]; exact hi)]
  | c :: r, j + 1, t, i, h, hi => by
    rw [List.getElem?_cons_succ] at h
    have := tokC_len c
    rw [tokF_cons, List.getElem?_append_right (by omega), this, ← tokF_get r j t i h hi]
    congr 1
    omega
/-- A row of one's own that holds these tokens. -/
def TokRow (T : TypeId) (w : World) (A : Option Addr) (c : Nat) (ts : List Lx.Tok) : Prop := w.ownsRow 0 T 4 (.slice A ts.length c) ts.length (tokF ts)
theorem TokRow.nil (T : TypeId) (w : World) : TokRow T w none 0 [] := World.ownsRow_nil _ _ _ _
section
variable {T : TypeId} {w w' : World} {A : Option Addr} {c : Nat} {ts : List Lx.Tok}
theorem TokRow.fr {F : Nat → Prop} (h : TokRow T w A c ts) (hf : Fr F w w') (ha : ∀ k, At A k → ¬ F k) : TokRow T w' A c ts := own_fr h hf (fun k hk => ha k (at_own.1 hk))
theorem TokRow.cells (h : TokRow T w A c ts) : ts = [] ∨ ∃ g, A = some ⟨g, 0, none⟩ ∧ g < w.heap.size ∧ ∀ (j : Nat) (t : Lx.Tok) (i : Nat) (v : Value), ts[j]? = some t → (tokC t)[i]? = some v → w.cell? ⟨g, j * 4 + i, none⟩ = some v := by
  rcases h.2 with ⟨_, hn⟩ | ⟨g, cap, cur, he, _, hgg, hc, hm, hs, ht⟩
  · exact .inl (List.eq_nil_of_length_eq_zero hn)
  · injection he with h1 h2 h3
    refine .inr ⟨g, h1, (Array.getElem?_eq_some_iff.1 hgg).1, fun j t i v hj hi => ?_⟩
    have hi4 : i < 4 := by have := (List.getElem?_eq_some_iff.1 hi).1; rw [tokC_len] at this; exact this
    have hjl := (List.getElem?_eq_some_iff.1 hj).1
    have hg := tokF_get ts j t i hj hi4
    rw [hi] at hg
    rw [cell_of_row _ _ _ _ _ (0, 0) hgg, ← Array.getElem?_toList]
    have := congrArg (fun l => l[4 * j + i]?) ht
    simp only [List.getElem?_take] at this
    rw [if_pos (by omega), hg] at this
    rw [show j * 4 + i = 4 * j + i by omega]
    exact this
theorem TokRow.lt (h : TokRow T w A c ts) (k : Nat) (hk : At A k) : k < w.heap.size := by
  rcases h.2 with ⟨h0, _⟩ | ⟨g, cap, cur, he, _, hgg, _⟩
  · injection h0 with h1; subst h1; exact (At.none_not hk).elim
  · injection he with h1; subst h1; rw [At.some_iff] at hk; subst hk; exact (Array.getElem?_eq_some_iff.1 hgg).1
end
section
variable {P : Program}
/-- append of one token that lies in a block. -/
theorem wpList_append_tok {ops : Array Oper} {rest : List Oper} {o : Oper} {a : Act} {w : World} {Q : Exit → Act → World → Prop} (hgd : o.guard = none) (s x : Operand) (t e : TypeId) (z : Value)
    (ho : o.op = .call { callee := .builtin .append, args := #[s, x], argTypes := #[t, t] })
    (ht : P.underlying t = some (.slice e)) (hi : (P.info? e).map (fun i => (i.zero, i.size, i.bytes)) = some (some z, 4, 40)) (hz : z.cells.size = 4)
    (A : Option Addr) (c : Nat) (ts : List Lx.Tok) (hs : a.eval s = .slice A ts.length c) (hown : TokRow e w A c ts)
    (g : Nat) (tk : Lx.Tok) (hx : a.eval x = .slice (some ⟨g, 0, none⟩) 1 1) (hb : Blk w g e (tokC tk).toArray) (hn : ts.length ≤ 100000)
    (h : ∀ A' c' w', TokRow e w' A' c' (ts ++ [tk]) → Fr (At A) w w' → (∀ k, At A' k → At A k ∨ w.heap.size ≤ k) → wpList P ops Q rest (a.put o.dst (.slice A' (ts.length + 1) c')) w') : wpList P ops Q (o :: rest) a w := by
  refine wpList_append_at w hgd s x t ho 0 e z 4 40 ht hi hz (by decide) A ts.length c _ hs hown ⟨g, 0, none⟩ 1 1 (tokC tk) hx rfl ?_ ?_ (by simp only [maxLen]; omega) (by omega) (Nat.zero_le _) ?_
  · intro j u hu
    rw [Addr.add_mid]
    exact (hb.range 0 (tokC tk) (fun k v hv => by rw [List.getElem?_toArray, Nat.zero_add]; exact hv)) j u hu
  · intro u hu
    simp only [tokC, List.mem_cons, List.not_mem_nil, or_false] at hu
    rcases hu with rfl | rfl | rfl | rfl <;> rfl
  · intro A' c' w' ho' hf hn'
    refine h A' c' w' ?_ (hf.mono (fun k _ hk => at_own.1 hk)) (fun k hk => (hn' k (at_own.2 hk)).imp at_own.1 id)
    unfold TokRow
    rw [List.length_append, List.length_singleton, tokF_snoc]
    exact ho'
theorem wpList_build_tok {ops : Array Oper} {rest : List Oper} {o : Oper} {a : Act} {w : World} {Q : Exit → Act → World → Prop} (hgd : o.guard = none) (t : TypeId) (x : Operand) (ho : o.op = .buildSlice t 1 #[(0, x)])
    (tk : Lx.Tok) (hx : a.eval x = .agg (tokC tk).toArray) (e : TypeId) (z : Value) (hu : P.underlying t = some (.slice e)) (hi : (P.info? e).map (fun i => (i.zero, i.size, i.bytes)) = some (some z, 4, 40))
    (h : wpList P ops Q rest (a.put o.dst (.slice (some ⟨w.heap.size, 0, none⟩) 1 1)) (w.alloc (.cells (tokC tk).toArray e))) : wpList P ops Q (o :: rest) a w :=
  wpList_plain hgd fun _ hK => wp_buildSlice_one t x ho (tokC tk).toArray hx e 4 40 z hu hi (by decide) (by decide) rfl (hK _ _ h)
end
/-- What a lexer hands back. -/
def TokOut (T : TypeId) (w w' : World) : (List Lx.Tok) ⊕ (Nat × Nat) → Ending → Prop
  | .inl ts, e => ∃ A c, e = .returned (.tuple #[.slice A ts.length c, .int .i64 0, .int .i64 0]) ∧ TokRow T w' A c ts ∧ ∀ k, At A k → w.heap.size ≤ k
  | .inr p, e => e = .returned (.tuple #[.slice none 0 0, .int .i64 (p.1 : Int), .int .i64 (p.2 : Int)])
namespace Lx
theorem hash_skip : ∀ (l : List UInt8), skipL true l = skipL false (l.drop (l.takeWhile (fun c => c != 10)).length)
  | [] => rfl
  | c :: r => by
    rw [skipL, List.takeWhile_cons]
    by_cases hc : c = 10
    · subst hc
      simp [skipL, isBlank]
    · have hb : (c != 10) = true := by simpa using hc
      rw [if_neg hc, if_pos hb, List.length_cons, List.drop_succ_cons]
      exact hash_skip r
theorem allL_over {g l : List UInt8} (h : skipL false (g ++ l) = skipL false l) (i : Nat) : allL (g ++ l) i = allL l (i + g.length) := by rw [allL_ahead h, allL_shift]
theorem allL_blank {c : UInt8} (h : isBlank c = true) (r : List UInt8) (i : Nat) : allL (c :: r) i = allL r (i + 1) := by
  have := allL_over (g := [c]) (l := r) (by rw [List.singleton_append, skipL, if_pos h]) i
  simpa using this
theorem isBlank_35 : isBlank 35 = false := by decide
theorem allL_hash (r : List UInt8) (i m : Nat) (hm : ((35 :: r).takeWhile (fun c => c != 10)).length = m) : allL (35 :: r) i = allL ((35 :: r).drop m) (i + m) := by
  have hlen : m ≤ (35 :: r).length := by rw [← hm]; exact takeWhile_le _ _
  have h1 : skipL false (35 :: r) = skipL false ((35 :: r).drop m) := by
    rw [skipL, if_neg (by rw [isBlank_35]; simp), if_pos rfl, hash_skip, ← hm, List.takeWhile_cons, if_pos (by decide), List.length_cons, List.drop_succ_cons]
  have := allL_over (g := (35 :: r).take m) (l := (35 :: r).drop m) (by rw [List.take_append_drop]; exact h1) i
  rw [List.take_append_drop, List.length_take, Nat.min_eq_left hlen] at this
  exact this
theorem allL_end (i : Nat) : allL [] i = .inl [⟨0, [], 0, i⟩] := by rw [allL_eq]; rfl
def preL (ts : List Tok) : (List Tok) ⊕ (Nat × Nat) → (List Tok) ⊕ (Nat × Nat)
  | .inl us => .inl (ts ++ us)
  | .inr p => .inr p
theorem preL_nil (r : (List Tok) ⊕ (Nat × Nat)) : preL [] r = r := by cases r <;> rfl
theorem allL_tok {c : UInt8} (r : List UInt8) (i : Nat) (h1 : isBlank c = false) (h2 : c ≠ 35) : allL (c :: r) i = match oneT (c :: r) with
    | .bad off e => .inr (i + off, e)
    | .ok k t n len => preL [⟨k, t, n, i⟩] (allL ((c :: r).drop len) (i + len)) := by
  rw [allL_eq, skip_stop c r h1 h2]
  simp only [Nat.sub_self, Nat.add_zero]
  cases oneT (c :: r) with
  | bad off e => rfl
  | ok k t n len =>
    simp only
    cases allL (List.drop len (c :: r)) (i + len) <;> rfl
theorem preL_preL (a b : List Tok) (r : (List Tok) ⊕ (Nat × Nat)) : preL a (preL b r) = preL (a ++ b) r := by cases r <;> simp [preL]
theorem textT_err : ∀ (l acc : List UInt8) (k off e : Nat), textT l acc k = .bad off e → 0 < e
  | [], acc, k, off, e, h => by
    rw [textT] at h
    injection h with h1 h2
    omega
  | c :: r, acc, k, off, e, h => by
    rw [textT.eq_def] at h
    simp only at h
    split at h
    · split at h
      · injection h with h1 h2; omega
      · cases h
    · split at h
      · injection h with h1 h2; omega
      · split at h
        · split at h
          · injection h with h1 h2; omega
          · rename_i e' r'
            split at h
            · exact textT_err r' _ _ _ _ h
            · injection h with h1 h2; omega
        · exact textT_err r _ _ _ _ h
theorem numT_err {l : List UInt8} {m off e : Nat} (h : numT l m = .bad off e) : 0 < e := by
  unfold numT at h
  simp only at h
  repeat' split at h
  all_goals first | (injection h with h1 h2; omega) | cases h
theorem oneT_err {l : List UInt8} {off e : Nat} (h : oneT l = .bad off e) : 0 < e := by
  cases l with
  | nil => rw [oneT] at h; injection h with h1 h2; omega
  | cons c r =>
    rw [oneT] at h
    simp only at h
    repeat' split at h
    all_goals first | exact numT_err h | exact textT_err _ _ _ _ _ h | (injection h with h1 h2; omega) | cases h
end Lx
end Go.Proofs.YtfbkmjjcopjoeaaDoor
