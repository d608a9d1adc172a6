/- What QueuePlays needs: a queue of texts, call by call; the law's own row, from which the first ones are cut off. -/
import Derived.Test.YthmaodpmbmiadaaQaw
import Derived.Test.YthmaodpmbmiadaaQop
import Derived.ArgAppend
namespace Go.Proofs.Ythmaodpmbmiadaa
open Go.RowKit

def strs (xs : List ByteArray) : List Value := xs.map fun s => .string s
theorem strs_one (xs : List ByteArray) : ∀ v ∈ strs xs, One v := by
  intro v hv
  simp only [strs, List.mem_map] at hv
  obtain ⟨i, _, rfl⟩ := hv
  exact ⟨rfl, rfl⟩
theorem strs_len (xs : List ByteArray) : (strs xs).length = xs.length := List.length_map _

/-- The queue holds these texts; so many are gone. -/
def PQ (w0 w : World) (S : QS) (g : Nat) (xs : List ByteArray) : Prop := OnQ w0 w 73 { S with gone := g, l := strs xs }
section
variable {w0 w : World} {S : QS} {g : Nat} {xs : List ByteArray}
theorem PQ.room (h : PQ w0 w S g xs) : xs.length ≤ S.cap ∧ S.cap ≤ 64 := by
  have h1 := OnQ.at_ h |>.room
  have h2 := OnQ.at_ h |>.small
  simp only [strs_len] at h1
  exact ⟨h1, h2⟩
theorem PQ.drewN (h : PQ w0 w S g xs) (n : Nat) : PQ w0 (w.drewN n) S g xs := OnQ.drewN h n
theorem PQ.put (x : ByteArray) (h : PQ w0 w S g xs) (hm : xs.length < S.cap) (hg : g ≤ 100000000000) :
    Calls Try.prog 11 #[.pointer (some ⟨S.q, 0, none⟩), .string x] w fun e w' => e = .returned (.tuple #[.int .u64 ((g + xs.length + 1 : Nat) : Int), .int .i64 0]) ∧ PQ w0 w' S g (xs ++ [x]) ∧ Fr S.F w w' := by
  refine (putStr _ (.string x) w h.at_ (by show (strs xs).length < S.cap; rw [strs_len]; exact hm) (by show g < _; omega)).mono ?_
  rintro e w' ⟨rfl, hq, hf⟩
  refine ⟨?_, ?_, hf⟩
  · have e : (({ S with gone := g, l := strs xs } : QS).last + 1) = g + xs.length + 1 := by show g + (strs xs).length + 1 = _; rw [strs_len]
    rw [e]
  · have h2 := OnQ.step h hq hf rfl rfl
    have e : strs (xs ++ [x]) = strs xs ++ [.string x] := by simp [strs]
    unfold PQ
    rw [e]
    exact h2
theorem PQ.full (x : ByteArray) (h : PQ w0 w S g xs) (hm : S.cap ≤ xs.length) :
    Calls Try.prog 11 #[.pointer (some ⟨S.q, 0, none⟩), .string x] w fun e w' => e = .returned (.tuple #[.int .u64 0, .int .i64 17]) ∧ w' = w :=
  putFullStr { S with gone := g, l := strs xs } (.string x) w h.at_ (by show S.cap ≤ (strs xs).length; rw [strs_len]; exact hm)
theorem PQ.take {x : ByteArray} (h : PQ w0 w S g (x :: xs)) (hg : g ≤ 100000000000) :
    Calls Try.prog 12 #[.pointer (some ⟨S.q, 0, none⟩)] w fun e w' => e = .returned (.tuple #[.string x, .int .i64 0]) ∧ PQ w0 w' S (g + 1) xs ∧ Fr S.F w w' := by
  refine (takeStr _ (.string x) (strs xs) w h.at_ rfl (by show g < _; omega)).mono ?_
  rintro e w' ⟨rfl, hq, hf⟩
  exact ⟨rfl, OnQ.step h hq hf rfl rfl, hf⟩
theorem PQ.takeNone (h : PQ w0 w S g []) :
    Calls Try.prog 12 #[.pointer (some ⟨S.q, 0, none⟩)] w fun e w' => e = .returned (.tuple #[.string ⟨#[]⟩, .int .i64 6]) ∧ w' = w :=
  takeNoneStr { S with gone := g, l := strs [] } w h.at_ rfl
theorem PQ.dropArg {to : Nat} (h : PQ w0 w S g xs) (hg : g ≤ 100000000000) (ht : g + xs.length < to) :
    Calls Try.prog 13 #[.pointer (some ⟨S.q, 0, none⟩), .int .u64 (to : Int)] w fun e w' => e = .returned (.tuple #[.int .i64 0, .int .i64 1]) ∧ PQ w0 w' S g xs ∧ Fr S.F w w' := by
  refine (dropArgStr _ to w h.at_ (by show g < _; omega) (by show g + (strs xs).length < to; rw [strs_len]; exact ht)).mono ?_
  rintro e w' ⟨rfl, n, rfl⟩
  exact ⟨rfl, h.drewN n, (Fr.refl _ _).drewN n⟩
theorem PQ.drop {to : Nat} (h : PQ w0 w S g xs) (hg : g ≤ 100000000000) (ht : to ≤ g + xs.length) :
    Calls Try.prog 13 #[.pointer (some ⟨S.q, 0, none⟩), .int .u64 (to : Int)] w fun e w' => e = .returned (.tuple #[.int .i64 ((to - g : Nat) : Int), .int .i64 0]) ∧ PQ w0 w' S (g + (to - g)) (xs.drop (to - g)) ∧ Fr S.F w w' := by
  refine (dropStr _ to w h.at_ (by show g < _; omega) (by show to ≤ g + (strs xs).length; rw [strs_len]; exact ht)).mono ?_
  rintro e w' ⟨rfl, hq, hf⟩
  refine ⟨rfl, ?_, hf⟩
  have h2 := OnQ.step h hq hf rfl rfl
  simp only [QS.drop] at h2
  have e : strs (xs.drop (to - g)) = (strs xs).drop (to - g) := by simp [strs, List.map_drop]
  unfold PQ
  rw [e]
  exact h2
theorem PQ.len (h : PQ w0 w S g xs) : Calls Try.prog 15 #[.pointer (some ⟨S.q, 0, none⟩)] w fun e w' => e = .returned (.int .i64 (xs.length : Int)) ∧ w' = w := by
  refine (lenStr { S with gone := g, l := strs xs } w h.at_).mono ?_
  rintro e w' ⟨rfl, rfl⟩
  exact ⟨by simp only [strs_len], rfl⟩
theorem PQ.gone (h : PQ w0 w S g xs) : Calls Try.prog 16 #[.pointer (some ⟨S.q, 0, none⟩)] w fun e w' => e = .returned (.int .u64 (g : Int)) ∧ w' = w :=
  goneStr { S with gone := g, l := strs xs } w h.at_
/-- Texts that lie there. -/
def AllS (w : World) (A : Option Addr) (xs : List ByteArray) : Prop := xs = [] ∨ ∃ b o, A = some ⟨b, o, none⟩ ∧ ∀ i (s : ByteArray), xs[i]? = some s → w.cell? ⟨b, o + i, none⟩ = some (.string s)
theorem AllS.drewN {A : Option Addr} (h : AllS w A xs) (n : Nat) : AllS (w.drewN n) A xs := h
theorem PQ.all (h : PQ w0 w S g xs) : Calls Try.prog 14 #[.pointer (some ⟨S.q, 0, none⟩)] w fun e w' =>
    ∃ A c, e = .returned (.slice A xs.length c) ∧ AllS w' A xs ∧ PQ w0 w' S g xs ∧ Fr S.F w w' := by
  refine (allStr _ w h.at_ (strs_one xs)).mono ?_
  rintro e w' ⟨A, c, rfl, hrow, hA, hq, hf⟩
  simp only [strs_len] at hrow
  refine ⟨A, c, by simp only [strs_len], ?_, OnQ.step h hq hf rfl rfl, hf⟩
  rcases hrow.2.2 with ⟨_, hn⟩ | ⟨b, cap, cur, he, _, hb, hc, hm, hs, ht⟩
  · exact .inl (List.eq_nil_of_length_eq_zero hn)
  · injection he with h1 h2 h3
    subst h1 h3
    refine .inr ⟨b, 0, rfl, fun i s hi => ?_⟩
    have hbk : Blk w' b 9 cur := hb
    have hil : i < xs.length := (List.getElem?_eq_some_iff.1 hi).1
    rw [Nat.zero_add, hbk.cell, ← Array.getElem?_toList]
    rw [Nat.mul_one] at ht
    have := congrArg (fun l => l[i]?) ht
    simp only [List.getElem?_take, if_pos hil] at this
    rw [this]
    simp [strs, hi]
end

/-- The law's own row, from which the first ones may have been cut off. -/
def TRow (w0 w : World) (S : QS) (A : Option Addr) (n c : Nat) (xs : List ByteArray) : Prop := xs.length = n ∧ ((A = none ∧ n = 0 ∧ c = 0) ∨
  ∃ b o cur, A = some ⟨b, o, none⟩ ∧ Blk w b 9 cur ∧ n ≤ c ∧ o + c ≤ cur.size ∧ b ≠ S.q ∧ b ≠ S.c ∧ w0.heap.size ≤ b ∧ ∀ j (s : ByteArray), xs[j]? = some s → cur[o + j]? = some (.string s))
section
variable {w0 w w' : World} {S : QS} {A : Option Addr} {n c : Nat} {xs : List ByteArray}
theorem TRow.fr {F : Nat → Prop} (h : TRow w0 w S A n c xs) (f : Fr F w w') (hF : ∀ k, At A k → ¬ F k) : TRow w0 w' S A n c xs := by
  obtain ⟨h1, h | ⟨b, o, cur, rfl, hb, h2⟩⟩ := h
  · exact ⟨h1, .inl h⟩
  · exact ⟨h1, .inr ⟨b, o, cur, rfl, hb.fr f (hF b (At.some_iff.2 rfl)), h2⟩⟩
theorem TRow.call (h : TRow w0 w S A n c xs) (f : Fr S.F w w') : TRow w0 w' S A n c xs := by
  refine h.fr f ?_
  obtain ⟨h1, ⟨rfl, _⟩ | ⟨b, o, cur, rfl, hb, _, _, hq, hc, _⟩⟩ := h
  · exact fun k hk => absurd hk At.none_not
  · rintro k hk (hF | hF)
    · exact hq ((At.some_iff.1 hk).trans hF)
    · exact hc ((At.some_iff.1 hk).trans hF)
theorem TRow.drewN (h : TRow w0 w S A n c xs) (k : Nat) : TRow w0 (w.drewN k) S A n c xs := h.fr (F := fun _ => False) ((Fr.refl _ _).drewN k) (fun _ _ h => h)
theorem TRow.alloc (h : TRow w0 w S A n c xs) (o : Obj) : TRow w0 (w.alloc o) S A n c xs := h.fr (F := fun _ => False) ((Fr.refl _ _).alloc o) (fun _ _ h => h)
theorem TRow.all (h : TRow w0 w S A n c xs) : AllS w A xs := by
  obtain ⟨h1, ⟨rfl, h2, _⟩ | ⟨b, o, cur, rfl, hb, _, _, _, _, _, hx⟩⟩ := h
  · exact .inl (List.eq_nil_of_length_eq_zero (h1.trans h2))
  · exact .inr ⟨b, o, rfl, fun i s hi => by rw [hb.cell]; exact hx i s hi⟩
theorem TRow.drop (h : TRow w0 w S A n c xs) (m : Nat) (hm : m ≤ n) : TRow w0 w S (if c = m then A else A.map (·.add (m * 1))) (n - m) (c - m) (xs.drop m) := by
  obtain ⟨h1, ⟨rfl, rfl, rfl⟩ | ⟨b, o, cur, rfl, hb, hnc, hoc, h2, h3, h4, hx⟩⟩ := h
  · obtain rfl : m = 0 := by omega
    exact ⟨by rw [List.length_drop, h1], .inl ⟨by simp, rfl, rfl⟩⟩
  · refine ⟨by rw [List.length_drop, h1], .inr ?_⟩
    by_cases hc : c = m
    · refine ⟨b, o, cur, by rw [if_pos hc], hb, by omega, by omega, h2, h3, h4, fun j s hj => ?_⟩
      rw [List.drop_eq_nil_of_le (by omega)] at hj
      simp at hj
    · refine ⟨b, o + m, cur, by rw [if_neg hc]; simp [Addr.add], hb, by omega, by omega, h2, h3, h4, fun j s hj => ?_⟩
      rw [List.getElem?_drop] at hj
      rw [Nat.add_assoc]
      exact hx _ _ hj
theorem TRow.own {g : Nat} {ys : List ByteArray} (hq : PQ w0 w S g ys) {A' : Option Addr} (hr : w'.ownsRow 0 9 1 (.slice A' n c) n (strs xs)) (hn : ∀ k, At A' k → w.heap.size ≤ k) : TRow w0 w' S A' n c xs := by
  have h0 : xs.length = n := by have := hr.1; rw [strs_len] at this; omega
  rcases hr.2 with ⟨he, hn0⟩ | ⟨b, cap, cur, he, _, hb, hc, hm, hs, ht⟩
  · injection he with h1 h2 h3
    exact ⟨h0, .inl ⟨h1, h2, h3⟩⟩
  · injection he with h1 h2 h3
    subst h1 h3
    have hbw := hn b (At.some_iff.2 rfl)
    have hq1 : S.q < w.heap.size := (OnQ.at_ hq).blk.lt
    have hq2 : S.c < w.heap.size := (OnQ.at_ hq).ch.lt
    have hq3 := (OnQ.below hq).size
    refine ⟨h0, .inr ⟨b, 0, cur, rfl, hb, hc, by omega, by omega, by omega, by omega, fun j s hj => ?_⟩⟩
    have hil : j < xs.length := (List.getElem?_eq_some_iff.1 hj).1
    rw [Nat.zero_add, ← Array.getElem?_toList]
    rw [Nat.mul_one] at ht
    have := congrArg (fun l => l[j]?) ht
    simp only [List.getElem?_take, if_pos (show j < n by omega)] at this
    rw [this]
    simp [strs, hj]
end

section
variable {P : Program}
/-- 'l = append(l, x)' for the law's own row. -/
theorem wpList_append_trow {g : Nat} {ys : List ByteArray} {w0 w : World} {S : QS} {A : Option Addr} {n c : Nat} {xs : List ByteArray} {ops : Array Oper} {rest : List Oper} {o : Oper} {a : Act} {Q : Exit → Act → World → Prop} (hgd : o.guard = none) (s x : Operand) (t : TypeId)
    (ho : o.op = .call { callee := .builtin .append, args := #[s, x], argTypes := #[t, t] })
    (ht : P.underlying t = some (.slice 9)) (hi : (P.info? 9).map (fun i => (i.zero, i.size, i.bytes)) = some (some (.string ⟨#[]⟩), 1, 16))
    (hq : PQ w0 w S g ys) (hr : TRow w0 w S A n c xs) (hs : a.eval s = .slice A n c) (hn : n ≤ 1000) (b : Nat) (y : ByteArray) (hx : a.eval x = .slice (some ⟨b, 0, none⟩) 1 1) (hy : w.cell? ⟨b, 0, none⟩ = some (.string y))
    (h : ∀ A' c' w', TRow w0 w' S A' (n + 1) c' (xs ++ [y]) → Fr (fun k => w0.heap.size ≤ k ∧ k ≠ S.q ∧ k ≠ S.c) w w' → wpList P ops Q rest (a.put o.dst (.slice A' (n + 1) c')) w') : wpList P ops Q (o :: rest) a w := by
  have hsrc : Src w (some ⟨b, 0, none⟩) 1 [.string y] := ⟨rfl, .inr ⟨b, 0, rfl, fun j v hv => by
    match j, hv with
    | 0, hv => simp at hv; subst hv; exact hy⟩⟩
  have h1m : ∀ v ∈ [Value.string y], v.oneCell' = true := by
    intro v hv
    obtain rfl := List.mem_singleton.1 hv
    rfl
  have es : strs (xs ++ [y]) = strs xs ++ [.string y] := by simp [strs]
  obtain ⟨h0, ⟨rfl, rfl, rfl⟩ | ⟨b', off, cur, rfl, hb, hnc, hoc, h2, h3, h4, hxs⟩⟩ := hr
  · obtain rfl : xs = [] := List.eq_nil_of_length_eq_zero h0
    refine wpList_append_cells hgd s x t 9 (.string ⟨#[]⟩) 16 ho ht hi rfl none 0 0 [] hs (World.ownsRow_nil _ _ _ _) (some ⟨b, 0, none⟩) 1 1 [.string y] hx hsrc h1m (by omega) (by omega) ?_
    intro A' c' w' ho' hf' hn'
    exact h A' c' w' (TRow.own hq (by rw [es]; exact ho') (fun k hk => (hn' k hk).elim (fun h => absurd h At.none_not) id)) (hf'.mono (fun k _ hk => absurd hk At.none_not))
  · obtain ⟨i, hi', hz, hsz, hby⟩ := info_parts hi
    refine wpList_append_arg w hgd s x t ho 9 i (.string ⟨#[]⟩) 1 16 ht hi' hz hsz hby rfl (by omega) b' off n c (strs xs) hs (by rw [strs_len, h0, Nat.mul_one]) ?_ ⟨b, 0, none⟩ 1 1 [.string y] hx rfl ?_ h1m ?_ (by simp only [maxLen]; omega) (by omega) ?_ ?_
    · intro j u hu
      rw [strs, List.getElem?_map] at hu
      cases hj : xs[j]? with
      | none => rw [hj] at hu; cases hu
      | some s' =>
        rw [hj] at hu
        simp only [Option.map_some, Option.some.injEq] at hu
        subst hu
        rw [hb.cell]
        exact hxs j s' hj
    · intro j u hu
      match j, hu with
      | 0, hu => simp at hu; subst hu; exact hy
    · intro hr j hj
      have hj0 : j = 0 := by simpa using hj
      subst hj0
      rw [hb.cell, hb.frozen]
      refine ⟨?_, rfl⟩
      rw [Array.getElem?_eq_getElem (by omega)]
      rfl
    · intro hr
      refine h (some ⟨b', off, none⟩) c _ ⟨by rw [List.length_append, h0]; rfl, .inr ⟨b', off, _, rfl, hb.sets _ _ _, hr, by rw [splice_size]; exact hoc, h2, h3, h4, ?_⟩⟩ ?_
      · intro j s' hj
        rw [splice_get _ _ _ _ (by simp; omega)]
        rw [List.getElem?_append] at hj
        split at hj
        · rename_i hlt
          rw [if_neg (by omega)]
          exact hxs j s' hj
        · rename_i hge
          have : j = n := by
            have := (List.getElem?_eq_some_iff.1 hj).1
            simp at this
            omega
          subst this
          rw [if_pos (by simp)]
          rw [show off + j - (off + j * 1) = 0 by omega]
          rw [h0, Nat.sub_self] at hj
          simp at hj
          subst hj
          rfl
      · refine (Fr.refl (fun k => k = b') w).puts1 _ _ |>.mono ?_
        rintro k _ rfl
        exact ⟨h4, h2, h3⟩
    · intro hg v' w' hv hg'
      obtain ⟨A', c', rfl⟩ : ∃ A' c'', v' = .slice A' (n + 1) c'' := by
        rcases hv.2 with ⟨_, h0⟩ | ⟨g, cap, cur, rfl, _⟩
        · omega
        · exact ⟨_, _, rfl⟩
      have hf : Fr (fun _ => False) w w' := (Fr.refl _ _).grown hg' (fun g hg => by cases hg)
      refine h A' c' w' ?_ (hf.mono (fun _ _ h => h.elim))
      refine TRow.own hq ?_ ?_ (xs := xs ++ [y])
      · rw [es]
        refine ⟨hv.1, ?_⟩
        rcases hv.2 with h | ⟨g, cap, cur, he, _, hr⟩
        · exact .inl h
        · exact .inr ⟨g, cap, cur, he, Nat.zero_le _, hr⟩
      · intro k hk
        rcases hv.2 with ⟨he, h0⟩ | ⟨g, cap, cur, he, hle, _⟩
        · omega
        · injection he with h1 h2 h3
          subst h1
          rw [← At.some_iff.1 hk]
          exact hle
/-- 'l[m:]' for the law's own row. -/
theorem wpList_slice_from {w0 w : World} {S : QS} {xs : List ByteArray} {A : Option Addr} {n c m : Nat} {ops : Array Oper} {rest : List Oper} {o : Oper} {a : Act} {Q : Exit → Act → World → Prop} (hgd : o.guard = none) (s x : Operand) (t : TypeId)
    (ho : o.op = .slice t s (some x) none none) (ht : P.underlying t = some (.slice (P.elem t))) (hi : (P.info? (P.elem t)).map (·.size) = some 1)
    (hs : a.eval s = .slice A n c) (hx : a.eval x = .int .i64 (m : Int)) (hm : m ≤ n) (htr : TRow w0 w S A n c xs)
    (h : ∀ A', TRow w0 w S A' (n - m) (c - m) (xs.drop m) → wpList P ops Q rest (a.put o.dst (.slice A' (n - m) (c - m))) w) : wpList P ops Q (o :: rest) a w := by
  obtain ⟨i, hi', hz⟩ := Option.map_eq_some_iff.1 hi
  have hr : (Instr.sliceAt t (.slice A n c) (some (.int .i64 (m : Int))) none none).run P w = .ok (.slice (if c = m then A else A.map (·.add (m * 1))) (n - m) (c - m)) w := by
    rw [run_sliceAt_slice (h := ht), run_slice_l (ht := ht) (h0 := by omega) (h1 := by omega)]
    simp [sizeOf, typeInfo, hi', hz, sliced, Result.andThen]
  refine wpList_plain hgd fun K hK => ?_
  unfold Oper.wp execOp
  simp only [ho, Option.map_some, Option.map_none, hs, hx, Sem.run_bind, Sem.run_pure, Result.andThen_ok, hr]
  exact hK _ _ (h _ (htr.drop m hm))
end
end Go.Proofs.Ythmaodpmbmiadaa
