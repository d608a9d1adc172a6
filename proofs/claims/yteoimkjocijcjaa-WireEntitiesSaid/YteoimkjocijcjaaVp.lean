/- Package wire: Reader.elements: the rows that it grows, and what lies in them. -/
import Derived.Test.YteoimkjocijcjaaVn
import Derived.Test.YteoimkjocijcjaaOwnS
namespace Go.Proofs.Yteoimkjocijcjaa
open Go.RowKit

/-- n elements, as keys and values. -/
def rdS (d k n : Nat) (l : List UInt8) : Option (List (List UInt8) × List V × List UInt8) := if k = 6 then rdO d n l else (rdL d n l).map fun y => ([], y.1, y.2)
theorem rdS_zero (d k : Nat) (l : List UInt8) : rdS d k 0 l = some ([], [], l) := by
  unfold rdS
  split
  · rw [rdO]
  · rw [rdL]; rfl
theorem rdS_five (d n : Nat) {k : Nat} (hk : k ≠ 6) (l : List UInt8) : rdS d k (n + 1) l = (rdV d l).bind fun x => (rdS d k n x.2).map fun y => (y.1, x.1 :: y.2.1, y.2.2) := by
  unfold rdS
  rw [if_neg hk, rdL]
  cases rdV d l with
  | none => rfl
  | some x =>
    simp only [Option.bind_some, if_neg hk]
    cases rdL d n x.2 <;> rfl
theorem rdS_six (d n : Nat) (l : List UInt8) : rdS d 6 (n + 1) l = (rdText 32 l).bind fun s => (rdV d s.2).bind fun x => (rdS d 6 n x.2).map fun y => (s.1 :: y.1, x.1 :: y.2.1, y.2.2) := by
  unfold rdS
  simp only [if_true]
  rw [rdO]

/-- A store of one cell, as an operation. -/
theorem wp_store_cell1 {P : Program} {op : Oper} {a : Act} {w : World} {K : Act → World → Prop} {Q : Exit → Act → World → Prop} (ty : TypeId) (x y : Operand) (ho : op.op = .store ty x y)
    (b o : Nat) (v : Value) (hx : a.eval x = .pointer (some ⟨b, o, none⟩)) (hy : a.eval y = v) (hv : v.cells = #[v]) (hc : (w.cell? ⟨b, o, none⟩).isSome = true) (hf : w.frozen? ⟨b, o, none⟩ = false)
    (hi : (P.info? ty).map (·.size) = some 1) (h1 : v.oneCell' = true) (h : K (a.put op.dst undef) (w.setCell ⟨b, o, none⟩ v)) : op.wp P a w K Q := by
  have hs := run_storeCells_cells (P := P) b o [v] 0 w (fun j hj => by simp at hj; subst hj; simpa using hc) (fun j hj => by simp at hj; subst hj; simpa using hf) (fun u hu => by simp at hu; rw [hu]; exact h1)
  have hst : (storeVar ty ⟨b, o, none⟩ v).run P w = .ok () (w.setCell ⟨b, o, none⟩ v) := by
    cases hq : P.info? ty with
    | none => simp [hq] at hi
    | some i =>
      have hsz : i.size = 1 := by simp [hq] at hi; omega
      simp only [Nat.add_zero, World.setCells] at hs
      simp [storeVar, sizeOf, typeInfo, hq, hv, hsz, hs]
  unfold Oper.wp execOp
  simp only [ho, hx, hy, Instr.storeAt, Instr.sureAddr, Sem.run_bind, Sem.run_pure, Result.andThen_ok, hst]
  exact h
structure Elr (w0 w : World) (vb k : Nat) (KA LA : Option Addr) (kn kc ln lc : Nat) (kx lx : List Value) : Prop where
  blk : Blk w vb 27 #[.int .u8 (k : Int), .int .i64 0, .string ⟨#[]⟩, .slice KA kn kc, .slice LA ln lc]
  kown : w.ownsRow 0 9 1 (.slice KA kn kc) kn kx
  lown : w.ownsRow 0 27 5 (.slice LA ln lc) ln lx
  knew : ∀ g, At KA g → w0.heap.size ≤ g
  lnew : ∀ g, At LA g → w0.heap.size ≤ g
  old : vb < w0.heap.size
  le : w0.heap.size ≤ w.heap.size
section
variable {w0 w : World} {vb k kn kc ln lc : Nat} {KA LA : Option Addr} {kx lx : List Value}
theorem own_blk {e : TypeId} {size n c : Nat} {A : Option Addr} {xs : List Value} (h : w.ownsRow 0 e size (.slice A n c) n xs) (g : Nat) (hg : At A g) : ∃ cs, Blk w g e cs := by
  rcases h.2 with ⟨h0, _⟩ | ⟨g', cap, cur, he, _, hgg, _⟩
  · injection h0 with h1; subst h1; exact (At.none_not hg).elim
  · injection he with h1; subst h1; rw [At.some_iff] at hg; subst hg; exact ⟨cur, hgg⟩
theorem Elr.apart (h : Elr w0 w vb k KA LA kn kc ln lc kx lx) (g : Nat) (hk : At KA g) (hl : At LA g) : False := by
  obtain ⟨c1, h1⟩ := own_blk h.kown g hk
  obtain ⟨c2, h2⟩ := own_blk h.lown g hl
  exact h1.ne_ h2 (by decide) rfl
theorem Elr.fr {w' : World} {F : Nat → Prop} (h : Elr w0 w vb k KA LA kn kc ln lc kx lx) (hf : Fr F w w') (hv : ¬ F vb) (hK : ∀ g, At KA g → ¬ F g) (hL : ∀ g, At LA g → ¬ F g) : Elr w0 w' vb k KA LA kn kc ln lc kx lx :=
  ⟨h.blk.fr hf hv, own_fr h.kown hf (fun g hg => hK g (at_own.1 hg)), own_fr h.lown hf (fun g hg => hL g (at_own.1 hg)), h.knew, h.lnew, h.old, Nat.le_trans h.le hf.size⟩
theorem own_lt {e : TypeId} {size n c : Nat} {A : Option Addr} {xs : List Value} (h : w.ownsRow 0 e size (.slice A n c) n xs) (g : Nat) (hg : At A g) : g < w.heap.size := by
  obtain ⟨cs, h'⟩ := own_blk h g hg
  exact h'.lt
/-- A key was appended, and the slice stored. -/
theorem Elr.key {w' : World} {KA' : Option Addr} {c' kn' : Nat} {kx' : List Value} (h : Elr w0 w vb k KA LA kn kc ln lc kx lx) (ho : w'.ownsRow 0 9 1 (.slice KA' kn' c') kn' kx') (hf : Fr (At KA) w w') (hn : ∀ g, At KA' g → At KA g ∨ w.heap.size ≤ g) :
    Elr w0 (w'.setCell ⟨vb, 3, none⟩ (.slice KA' kn' c')) vb k KA' LA kn' c' ln lc kx' lx := by
  have hnew : ∀ g, At KA' g → w0.heap.size ≤ g := fun g hg => (hn g hg).elim (h.knew g) (fun h' => Nat.le_trans h.le h')
  have ho0 := h.old
  have h1 := (h.blk.fr hf (fun h' => by have := h.knew _ h'; omega)).set_ 3 (.slice KA' kn' c')
  have hfs : Fr (fun g => g = vb) w' (w'.setCell ⟨vb, 3, none⟩ (.slice KA' kn' c')) := (Fr.refl _ _).put1 3 _
  have hl := own_fr h.lown hf (fun g hg h' => h.apart g h' (at_own.1 hg))
  refine ⟨h1, own_fr ho hfs (fun g hg h' => ?_), own_fr hl hfs (fun g hg h' => ?_), hnew, h.lnew, h.old, Nat.le_trans h.le (Nat.le_trans hf.size hfs.size)⟩
  · have := hnew g (at_own.1 hg); omega
  · have := h.lnew g (at_own.1 hg); omega
/-- The last element of a row is written over. -/
theorem own_last {e : TypeId} {g n c : Nat} {xs zs cs : List Value} (h : w.ownsRow 0 e 5 (.slice (some ⟨g, 0, none⟩) (n + 1) c) (n + 1) (xs ++ zs)) (hx : xs.length = n * 5) (hc : cs.length = 5) :
    (w.setCells g (n * 5) cs).ownsRow 0 e 5 (.slice (some ⟨g, 0, none⟩) (n + 1) c) (n + 1) (xs ++ cs) := by
  rcases h.2 with ⟨h0, _⟩ | ⟨g', cap, cur, he, hb, hgg, hcc, hm, hs, ht⟩
  · cases h0
  · injection he with h1 h2 h3
    injection h1 with h1
    injection h1 with h1
    subst h1 h3
    have hb' := Blk.sets (t := e) cs (n * 5) cur w hgg
    refine ⟨by rw [List.length_append, hx, hc]; omega, .inr ⟨g, c, _, rfl, hb, hb', hcc, hm, by rw [splice_size]; exact hs, ?_⟩⟩
    apply List.ext_getElem?
    intro i
    have hti : (cur.toList.take ((n + 1) * 5))[i]? = (xs ++ zs)[i]? := by rw [ht]
    rw [List.getElem?_take] at hti ⊢
    by_cases hi : i < (n + 1) * 5
    · rw [if_pos hi] at hti ⊢
      rw [Array.getElem?_toList] at hti ⊢
      rw [splice_get _ _ _ _ (by rw [hc, hs]; have := Nat.mul_le_mul_right 5 hcc; omega)]
      by_cases hj : n * 5 ≤ i
      · rw [if_pos ⟨hj, by omega⟩, List.getElem?_append_right (by omega), hx]
      · rw [if_neg (by omega), hti, List.getElem?_append_left (by omega), List.getElem?_append_left (by omega)]
    · rw [if_neg hi, List.getElem?_eq_none (by rw [List.length_append]; omega)]
/-- A value was appended, and the slice stored. -/
theorem Elr.val {w' : World} {LA' : Option Addr} {c' ln' : Nat} {lx' : List Value} (h : Elr w0 w vb k KA LA kn kc ln lc kx lx) (ho : w'.ownsRow 0 27 5 (.slice LA' ln' c') ln' lx') (hf : Fr (At LA) w w') (hn : ∀ g, At LA' g → At LA g ∨ w.heap.size ≤ g) :
    Elr w0 (w'.setCell ⟨vb, 4, none⟩ (.slice LA' ln' c')) vb k KA LA' kn kc ln' c' kx lx' := by
  have hnew : ∀ g, At LA' g → w0.heap.size ≤ g := fun g hg => (hn g hg).elim (h.lnew g) (fun h' => Nat.le_trans h.le h')
  have ho0 := h.old
  have h1 := (h.blk.fr hf (fun h' => by have := h.lnew _ h'; omega)).set_ 4 (.slice LA' ln' c')
  have hfs : Fr (fun g => g = vb) w' (w'.setCell ⟨vb, 4, none⟩ (.slice LA' ln' c')) := (Fr.refl _ _).put1 4 _
  have hl := own_fr h.kown hf (fun g hg h' => h.apart g (at_own.1 hg) h')
  refine ⟨h1, own_fr hl hfs (fun g hg h' => ?_), own_fr ho hfs (fun g hg h' => ?_), h.knew, hnew, h.old, Nat.le_trans h.le (Nat.le_trans hf.size hfs.size)⟩
  · have := h.knew g (at_own.1 hg); omega
  · have := hnew g (at_own.1 hg); omega
end
/-- What lies in the row of values. -/
def Vals (w : World) (G : Nat → Prop) (ls : List V) (css : List (List Value)) : Prop := css.length = ls.length ∧ ∀ (j : Nat) (x : V), ls[j]? = some x → ∃ cs, css[j]? = some cs ∧ VC w G x cs
theorem Vals.nil (w : World) (G : Nat → Prop) : Vals w G [] [] := ⟨rfl, fun j x h => by simp at h⟩
theorem Vals.fr {w w' : World} {G F : Nat → Prop} {ls : List V} {css : List (List Value)} (h : Vals w G ls css) (hf : Fr F w w') (hG : ∀ g, G g → ¬ F g) : Vals w' G ls css :=
  ⟨h.1, fun j x hx => (h.2 j x hx).imp fun _ h' => ⟨h'.1, h'.2.fr hf hG⟩⟩
theorem Vals.mono {w : World} {G G' : Nat → Prop} {ls : List V} {css : List (List Value)} (h : Vals w G ls css) (hG : ∀ g, G g → G' g) : Vals w G' ls css :=
  ⟨h.1, fun j x hx => (h.2 j x hx).imp fun _ h' => ⟨h'.1, h'.2.mono hG⟩⟩
theorem Vals.snoc {w : World} {G : Nat → Prop} {ls : List V} {css : List (List Value)} {x : V} {cs : List Value} (h : Vals w G ls css) (hv : VC w G x cs) : Vals w G (ls ++ [x]) (css ++ [cs]) := by
  refine ⟨by simp [h.1], fun j y hy => ?_⟩
  by_cases hj : j < ls.length
  · rw [List.getElem?_append_left hj] at hy
    rw [List.getElem?_append_left (by rw [h.1]; exact hj)]
    exact h.2 j y hy
  · rw [List.getElem?_append_right (by omega)] at hy
    have h0 : j - ls.length = 0 := by
      have := (List.getElem?_eq_some_iff.1 hy).1
      simp only [List.length_singleton] at this
      omega
    rw [h0] at hy
    simp only [List.getElem?_cons_zero, Option.some.injEq] at hy
    subst hy
    rw [List.getElem?_append_right (by rw [h.1]; omega), h.1, h0]
    exact ⟨cs, rfl, hv⟩
theorem Vals.five {w : World} {G : Nat → Prop} {ls : List V} {css : List (List Value)} (h : Vals w G ls css) : ∀ cs ∈ css, cs.length = 5 := by
  intro cs hcs
  obtain ⟨j, hj⟩ := List.getElem?_of_mem hcs
  have hlt := (List.getElem?_eq_some_iff.1 hj).1
  obtain ⟨cs', h1, h2⟩ := h.2 j _ (List.getElem?_eq_getElem (by rw [← h.1]; exact hlt))
  rw [hj] at h1
  injection h1 with h1
  subst h1
  exact h2.len
theorem flat_get : ∀ (css : List (List Value)), (∀ cs ∈ css, cs.length = 5) → ∀ (j : Nat) (cs : List Value) (i : Nat), css[j]? = some cs → i < 5 → css.flatten[5 * j + i]? = cs[i]?
  | [], _, j, cs, i, h, _ => by simp at h
  | c :: r, h5, 0, cs, i, h, hi => by
    simp only [List.getElem?_cons_zero, Option.some.injEq] at h
    subst h
    rw [List.flatten_cons, Nat.mul_zero, Nat.zero_add, List.getElem?_append_left (by rw [h5 _ List.mem_cons_self]; exact hi)]
  | c :: r, h5, j + 1, cs, i, h, hi => by
    rw [List.getElem?_cons_succ] at h
    have := h5 c List.mem_cons_self
    rw [List.flatten_cons, List.getElem?_append_right (by omega), this, ← flat_get r (fun cs hcs => h5 cs (List.mem_cons_of_mem _ hcs)) j cs i h hi]
    congr 1
    omega
theorem flat_len : ∀ (css : List (List Value)), (∀ cs ∈ css, cs.length = 5) → css.flatten.length = css.length * 5
  | [], _ => rfl
  | c :: r, h => by
    rw [List.flatten_cons, List.length_append, h c List.mem_cons_self, flat_len r (fun cs hcs => h cs (List.mem_cons_of_mem _ hcs)), List.length_cons]
    omega
/-- All elements are read. -/
theorem Elr.done {w0 w : World} {vb k kc lc : Nat} {KA LA : Option Addr} {ks : List (List UInt8)} {ls : List V} {css : List (List Value)} {G : Nat → Prop} (h : Elr w0 w vb k KA LA ks.length kc ls.length lc (ks.map sv) css.flatten)
    (hv : Vals w G ls css) (hG : ∀ g, G g → New w0 w g) (hk : k ≤ 255) (hks : ∀ x ∈ ks, x.length ≤ 200) (hkl : ks.length ≤ 200) (hll : ls.length ≤ 200) :
    VC w (New w0 w) (.mk k 0 [] ks ls) [.int .u8 (k : Int), .int .i64 0, sv [], .slice KA ks.length kc, .slice LA ls.length lc] := by
  have h5 := hv.five
  have hvc := hv.2
  refine .mk (cs := fun j => (css[j]?).getD []) hk (by omega) (by simp) (fun x hx => by have := hks x hx; omega) (by omega) (by omega) ?_ ?_ (fun j x hx => ?_)
  · rcases h.kown.2 with ⟨h0, hn⟩ | ⟨g, cap, cur, he, hb, hgg, hcc, hm, hs, ht⟩
    · exact .inl (List.length_eq_zero_iff.1 hn)
    · injection he with h1
      have hat : At KA g := ⟨_, h1, rfl⟩
      refine .inr ⟨g, 0, h1, ⟨h.knew g hat, own_lt h.kown g hat⟩, fun j v hj => ?_⟩
      rw [Nat.zero_add, cell_of_row _ _ _ _ _ (0, 0) hgg, ← Array.getElem?_toList]
      rw [← ht, List.getElem?_take] at hj
      split at hj
      · exact hj
      · cases hj
  · rcases h.lown.2 with ⟨h0, hn⟩ | ⟨g, cap, cur, he, hb, hgg, hcc, hm, hs, ht⟩
    · exact .inl (List.length_eq_zero_iff.1 hn)
    · injection he with h1
      have hat : At LA g := ⟨_, h1, rfl⟩
      refine .inr ⟨g, 0, h1, ⟨h.lnew g hat, own_lt h.lown g hat⟩, fun j x hx => ?_⟩
      obtain ⟨cs, hcs, hV⟩ := hvc j x hx
      intro i v hi
      simp only [hcs, Option.getD_some] at hi
      have hi5 : i < 5 := by have := (List.getElem?_eq_some_iff.1 hi).1; rw [hV.len] at this; exact this
      rw [← flat_get css h5 j cs i hcs hi5, ← ht, List.getElem?_take] at hi
      rw [Nat.zero_add, cell_of_row _ _ _ _ _ (0, 0) hgg, ← Array.getElem?_toList]
      split at hi
      · exact hi
      · cases hi
  · obtain ⟨cs, hcs, hV⟩ := hvc j x hx
    simp only [hcs, Option.getD_some]
    exact hV.mono hG
/-- One more value in the row, whichever store comes first. -/
theorem step_mem {rb vb k kn kc ln lc c' g : Nat} {w wr wd w9 w' : World} {KA LA : Option Addr} {kx lx zs cs : List Value} {r : List UInt8} {bad : Bool}
    (h : Elr w wr vb k KA LA kn kc ln lc kx lx) (hrb : rb < w.heap.size) (hvr : vb ≠ rb) (hfw : Fr (fun q => q = rb ∨ q = vb) w wr) (hfd : Fr (fun q => q = rb) wr wd) (hr : Rd wd rb r bad)
    (ho : w9.ownsRow 0 27 5 (.slice (some ⟨g, 0, none⟩) (ln + 1) c') (ln + 1) (lx ++ zs)) (hf9 : Fr (At LA) wd w9) (hn9 : ∀ q, At (some ⟨g, 0, none⟩) q → At LA q ∨ wd.heap.size ≤ q) (hc : cs.length = 5)
    (hw : w' = (w9.setCells g (ln * 5) cs).setCell ⟨vb, 4, none⟩ (.slice (some ⟨g, 0, none⟩) (ln + 1) c') ∨ w' = (w9.setCell ⟨vb, 4, none⟩ (.slice (some ⟨g, 0, none⟩) (ln + 1) c')).setCells g (ln * 5) cs) :
    Elr w w' vb k KA (some ⟨g, 0, none⟩) kn kc (ln + 1) c' kx (lx ++ cs) ∧ Fr (fun q => q = rb ∨ q = vb) w w' ∧ Rd w' rb r bad ∧ Fr (fun q => q = vb ∨ q = g ∨ At LA q) wd w' := by
  have hd : Elr w wd vb k KA LA kn kc ln lc kx lx := h.fr hfd hvr (fun q hq e => by have := h.knew q hq; omega) (fun q hq e => by have := h.lnew q hq; omega)
  have hg0 := hn9 g ⟨_, rfl, rfl⟩
  have hgn : w.heap.size ≤ g := hg0.elim (hd.lnew g) (fun h' => Nat.le_trans hd.le h')
  have ho0 := hd.old
  have hgv : g ≠ vb := by omega
  have hx := hd.lown.1
  have hb9 := hd.blk.fr hf9 (fun h' => by have := hd.lnew _ h'; omega)
  have f9 : Fr (fun q => q = vb ∨ q = g ∨ At LA q) wd w9 := hf9.mono (fun _ _ h => .inr (.inr h))
  have hF : Fr (fun q => q = vb ∨ q = g ∨ At LA q) wd w' := by
    rcases hw with rfl | rfl
    · exact (Fr.setCells (F := fun q => q = vb ∨ q = g ∨ At LA q) (.inl (.inr (.inl rfl))) cs (ln * 5) w9 f9).setCell (p := ⟨vb, 4, none⟩) (.inl (.inl rfl)) _
    · exact Fr.setCells (F := fun q => q = vb ∨ q = g ∨ At LA q) (.inl (.inr (.inl rfl))) cs (ln * 5) _ (f9.setCell (p := ⟨vb, 4, none⟩) (.inl (.inl rfl)) _)
  have hblk : Blk w' vb 27 #[.int .u8 (k : Int), .int .i64 0, .string ⟨#[]⟩, .slice KA kn kc, .slice (some ⟨g, 0, none⟩) (ln + 1) c'] := by
    rcases hw with rfl | rfl
    · exact (hb9.fars (fun e => hgv e.symm) cs (ln * 5)).set_ 4 _
    · exact (hb9.set_ 4 _).fars (fun e => hgv e.symm) cs (ln * 5)
  have hown : w'.ownsRow 0 27 5 (.slice (some ⟨g, 0, none⟩) (ln + 1) c') (ln + 1) (lx ++ cs) := by
    have hne : ∀ q, (Value.slice (some ⟨g, 0, none⟩) (ln + 1) c').ownBlock = some q → ¬ q = vb := fun q hq e => by
      have := (At.some_iff.1 (at_own.1 hq))
      simp only at this
      omega
    rcases hw with rfl | rfl
    · exact own_fr (own_last ho hx hc) ((Fr.refl (fun q => q = vb) _).put1 4 _) hne
    · exact own_last (own_fr ho ((Fr.refl (fun q => q = vb) _).put1 4 _) hne) hx hc
  have hgk : ¬ At KA g := fun hk => by
    rcases hg0 with h' | h'
    · exact hd.apart g hk h'
    · have := own_lt hd.kown g hk; omega
  refine ⟨⟨hblk, own_fr hd.kown hF (fun q hq => ?_), hown, hd.knew, (fun q hq => ?_), ho0, Nat.le_trans hd.le hF.size⟩, ?_, ?_, hF⟩
  · have hq := at_own.1 hq
    rintro (rfl | rfl | h')
    · have := hd.knew _ hq; omega
    · exact hgk hq
    · exact hd.apart _ hq h'
  · have := At.some_iff.1 hq; simp only at this; omega
  · refine (hfw.trans' hfd (fun _ _ h => .inl h)).trans' hF ?_
    rintro q hq (rfl | rfl | h')
    · exact .inr rfl
    · omega
    · have := hd.lnew _ h'; omega
  · refine hr.apart hF ?_ ?_
    · rintro (e | e | h')
      · exact hvr e.symm
      · omega
      · have := hd.lnew _ h'; omega
    · rintro q (rfl | rfl | h')
      · exact .inr ⟨27, _, by decide, hd.blk⟩
      · rcases hg0 with h' | h'
        · exact .inr ⟨27, (own_blk hd.lown _ h').choose, by decide, (own_blk hd.lown _ h').choose_spec⟩
        · exact .inl h'
      · exact .inr ⟨27, (own_blk hd.lown _ h').choose, by decide, (own_blk hd.lown _ h').choose_spec⟩
/-- The elements that were there, and the new one. -/
theorem step_vals {rb vb k kn kc ln lc g : Nat} {w wr wd w' : World} {KA LA : Option Addr} {kx lx cs : List Value} {ls : List V} {css : List (List Value)} {x : V} 
    (h : Elr w wr vb k KA LA kn kc ln lc kx lx) (hrb : rb < w.heap.size) (hfd : Fr (fun q => q = rb) wr wd) (hF : Fr (fun q => q = vb ∨ q = g ∨ At LA q) wd w') (hg : At LA g ∨ wd.heap.size ≤ g)
    (hv : Vals wr (fun q => New w wr q ∧ ¬ At KA q ∧ ¬ At LA q) ls css) (hx : VC wd (New wr wd) x cs) :
    Vals w' (fun q => New w w' q ∧ ¬ At KA q ∧ ¬ At (some ⟨g, 0, none⟩) q) (ls ++ [x]) (css ++ [cs]) := by
  have ho0 := h.old
  have hle := h.le
  refine Vals.snoc ?_ ?_
  · have h1 := (hv.fr hfd (fun q hq e => by have := hq.1.1; omega)).fr hF (by
      rintro q ⟨hq1, hq2, hq3⟩ (e | e | e)
      · have := hq1.1; omega
      · subst e
        rcases hg with h' | h'
        · exact hq3 h'
        · have := hq1.2; have := hfd.size; omega
      · exact hq3 e)
    refine h1.mono ?_
    rintro q ⟨hq1, hq2, hq3⟩
    refine ⟨⟨hq1.1, Nat.lt_of_lt_of_le hq1.2 (Nat.le_trans hfd.size hF.size)⟩, hq2, fun e => ?_⟩
    have e := At.some_iff.1 e
    simp only at e
    subst e
    rcases hg with h' | h'
    · exact hq3 h'
    · have := hq1.2; have := hfd.size; omega
  · have hnl : ∀ q, New wr wd q → ¬ At LA q := fun q hq h' => by have := own_lt h.lown q h'; have := hq.1; omega
    have hng : ∀ q, New wr wd q → q ≠ g := fun q hq e => by
      subst e
      rcases hg with h' | h'
      · exact hnl _ hq h'
      · have := hq.2; omega
    refine (hx.fr hF (fun q hq => ?_)).mono (fun q hq => ⟨⟨Nat.le_trans hle hq.1, Nat.lt_of_lt_of_le hq.2 hF.size⟩, (fun h' => by have := own_lt h.kown q h'; have := hq.1; omega), fun e => ?_⟩)
    · rintro (e | e | e)
      · have := hq.1; omega
      · exact hng q hq e
      · exact hnl q hq e
    · have e := At.some_iff.1 e
      exact hng q hq e.symm
end Go.Proofs.Yteoimkjocijcjaa
