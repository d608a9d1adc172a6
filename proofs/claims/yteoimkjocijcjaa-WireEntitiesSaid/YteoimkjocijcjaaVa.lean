/- Package wire: a value that came in, as plain data: its cells lie among what was there. -/
import Derived.Test.YteoimkjocijcjaaWb
import Derived.Test.YteoimkjocijcjaaLaw
import Derived.DataReads
import Derived.ChangeArms
namespace Go.Proofs.Yteoimkjocijcjaa
open Go.RowKit Go.ChangeShapes Go.WideShapes

/-- What was there when the law began. -/
def Old (w : World) : Nat → Prop := fun k => k < w.heap.size

section
variable {H : Type} {enc : TypeId × Value → H}
theorem sv_bytes (s : ByteArray) : Value.string s = sv s.data.toList := by
  show Value.string s = Value.string ⟨s.data.toList.toArray⟩
  congr 1
  all_goals (cases s; simp)
/-- Strings that came in, cell by cell. -/
theorem open_strs_cell {base : Nat} {spare : Nat → Bool} {held : Bool} {w : World} {fuel : Nat} {v : Value} {x : DataW H × List MemPlace} (h : DataW.trod enc Try.prog w base spare held fuel 22 [v] = some x) :
    ∃ (A : Option Addr) (c : Nat) (ks : List (List UInt8)), v = .slice A ks.length c ∧ SRow w (Old w) A ks ∧ ks.length ≤ 9223372036854775807 ∧ ∀ k ∈ ks, k.length ≤ 9223372036854775807 := by
  rcases Go.Deep.open_slice1 Try.underlying22 (by kernel_rfl) h with ⟨h1, _⟩ | ⟨a, len, cap, m, n, V, D, Pl, h1, hb, hl, hm, hmm, hx, hi⟩
  · simp at h1
    subst h1
    exact ⟨none, 0, [], rfl, .inl rfl, by simp, by simp⟩
  · simp at h1
    subst h1
    have hm' : len ≤ 9223372036854775807 := by simp only [maxLen] at hm; omega
    have hlm : len ≤ m := by rw [hmm]; split <;> omega
    have each : ∀ i, i < len → ∃ s : ByteArray, w.cell? (a.add i) = some (.string s) ∧ s.size ≤ maxLen := by
      intro i hlt
      obtain ⟨h1, h2⟩ := hi i (by omega)
      obtain ⟨s, e, _, hs⟩ := DataW.trod_string Try.underlying9 h2
      simp only [List.cons.injEq, and_true] at e
      rw [e] at h1
      exact ⟨s, h1, hs⟩
    obtain ⟨f, hf⟩ : ∃ f : Nat → ByteArray, ∀ i, i < len → w.cell? (a.add i) = some (.string (f i)) ∧ (f i).size ≤ maxLen := by
      refine ⟨fun i => if h : i < len then (each i h).choose else default, fun i h => ?_⟩
      dsimp only
      rw [dif_pos h]
      exact (each i h).choose_spec
    refine ⟨some a, cap, (List.range len).map (fun i => (f i).data.toList), by simp, ?_, by simp; omega, ?_⟩
    · rcases Nat.eq_zero_or_pos len with h0 | h0
      · subst h0; exact .inl rfl
      · obtain ⟨g, o, spot⟩ := a
        have hs : spot = none := World.cell?_spot (show w.cell? ⟨g, o, spot⟩ = _ from (hf 0 h0).1)
        subst hs
        refine .inr ⟨g, o, rfl, World.block_lt_of_cell? w _ (hf 0 h0).1, fun j u hu => ?_⟩
        rw [List.getElem?_map, List.getElem?_map] at hu
        have hj : j < len := by
          rcases Nat.lt_or_ge j len with h | h
          · exact h
          · rw [List.getElem?_eq_none (by simpa using h)] at hu; cases hu
        rw [List.getElem?_range hj] at hu
        simp only [Option.map_some, Option.some.injEq] at hu
        subst hu
        have h1 := (hf j hj).1
        rw [Addr.add_mid] at h1
        rw [h1, sv_bytes]
    · intro k hk
      simp only [List.mem_map, List.mem_range] at hk
      obtain ⟨i, hi', rfl⟩ := hk
      have := (hf i hi').2
      have e : (f i).data.toList.length = (f i).size := rfl
      rw [e]
      simp only [maxLen] at this
      omega

theorem u8_of_wf0 {x : Int} (h : (Lit.int .u8 x).wf = true) : 0 ≤ x ∧ x ≤ 255 := by
  simp [Lit.wf, IntKind.min, IntKind.max, IntKind.signed, IntKind.bits] at h
  exact ⟨by omega, by omega⟩
theorem i64_of_wf0 {x : Int} (h : (Lit.int .i64 x).wf = true) : -9223372036854775808 ≤ x ∧ x ≤ 9223372036854775807 := by
  simp [Lit.wf, IntKind.min, IntKind.max, IntKind.signed, IntKind.bits] at h
  exact ⟨by omega, by omega⟩

theorem open_val_cells {base : Nat} {spare : Nat → Bool} {held : Bool} {w : World} : ∀ (fuel0 fuel : Nat) (cs : List Value) (x : DataW H × List MemPlace), fuel ≤ fuel0 → DataW.trod enc Try.prog w base spare held fuel 27 cs = some x → ∃ v, VC w (Old w) v cs := by
  intro fuel0
  induction fuel0 with
  | zero =>
    intro fuel cs x hf h
    obtain rfl : fuel = 0 := by omega
    simp [DataW.trod] at h
  | succ fuel0 ih =>
    intro fuel cs x hf h
    obtain ⟨xs, n, rfl, _, hlen, hxl, hfs⟩ := DataW.trod_struct Try.underlying27 h
    have hc5 : Try.prog.cellsOf 27 = 5 := by kernel_rfl
    rw [hc5] at hlen
    obtain ⟨x0, x1, x2, x3, x4, rfl⟩ : ∃ x0 x1 x2 x3 x4, cs = [x0, x1, x2, x3, x4] := by
      match cs, hlen with
      | [x0, x1, x2, x3, x4], _ => exact ⟨_, _, _, _, _, rfl⟩
    have hxs : xs.length = 5 := hxl
    have g0 : DataW.trod enc Try.prog w base spare held n 5 (([x0, x1, x2, x3, x4].drop 0).take (Try.prog.cellsOf 5)) = xs[0]? := hfs 0 _ rfl
    have g1 : DataW.trod enc Try.prog w base spare held n 2 (([x0, x1, x2, x3, x4].drop 1).take (Try.prog.cellsOf 2)) = xs[1]? := hfs 1 _ rfl
    have g2 : DataW.trod enc Try.prog w base spare held n 9 (([x0, x1, x2, x3, x4].drop 2).take (Try.prog.cellsOf 9)) = xs[2]? := hfs 2 _ rfl
    have g3 : DataW.trod enc Try.prog w base spare held n 22 (([x0, x1, x2, x3, x4].drop 3).take (Try.prog.cellsOf 22)) = xs[3]? := hfs 3 _ rfl
    have g4 : DataW.trod enc Try.prog w base spare held n 23 (([x0, x1, x2, x3, x4].drop 4).take (Try.prog.cellsOf 23)) = xs[4]? := hfs 4 _ rfl
    rw [List.getElem?_eq_getElem (by omega)] at g0 g1 g2 g3 g4
    have c1 : Try.prog.cellsOf 5 = 1 := by kernel_rfl
    have c2 : Try.prog.cellsOf 2 = 1 := by kernel_rfl
    have c3 : Try.prog.cellsOf 9 = 1 := by kernel_rfl
    have c4 : Try.prog.cellsOf 22 = 1 := by kernel_rfl
    have c5 : Try.prog.cellsOf 23 = 1 := by kernel_rfl
    simp only [c1, c2, c3, c4, c5] at g0 g1 g2 g3 g4
    simp only [List.drop_zero, List.drop_succ_cons, List.take_succ_cons, List.take_zero] at g0 g1 g2 g3 g4
    obtain ⟨z0, e0, _, w0⟩ := DataW.trod_int Try.underlying5 g0
    obtain ⟨z1, e1, _, w1⟩ := DataW.trod_int Try.underlying2 g1
    obtain ⟨z2, e2, _, w2⟩ := DataW.trod_string Try.underlying9 g2
    obtain ⟨KA, kc, ks, e3, hK, hKl, hKs⟩ := open_strs_cell g3
    simp only [List.cons.injEq, and_true] at e0 e1 e2
    subst e0 e1 e2 e3
    obtain ⟨k, hk, hk'⟩ : ∃ k : Nat, z0 = (k : Int) ∧ k ≤ 255 := ⟨z0.toNat, by have := u8_of_wf0 w0; omega, by have := u8_of_wf0 w0; omega⟩
    subst hk
    have hz2 : z2.data.toList.length ≤ 9223372036854775807 := by
      have e : z2.data.toList.length = z2.size := rfl
      rw [e]
      simp only [maxLen] at w2
      omega
    rw [sv_bytes z2]
    rcases DataW.trod_slice Try.underlying23 g4 with ⟨h1, _⟩ | ⟨a, len, cap, elems, rest, n', rfl, h1, _, hb, hl, hm, hel, hi, _⟩
    · simp at h1
      subst h1
      exact ⟨.mk k z1 z2.data.toList ks [], .mk (LA := none) (lc := 0) (cs := fun _ => []) hk' (i64_of_wf0 w1) hz2 hKs hKl (by simp) hK (.inl rfl) (by simp)⟩
    · simp at h1
      subst h1
      have hm' : len ≤ 9223372036854775807 := by simp only [maxLen] at hm; omega
      have each : ∀ i, i < len → ∃ (cs' : List Value) (v : V), w.cells? base (a.add (i * 5)) 5 = some cs' ∧ VC w (Old w) v cs' := by
        intro i hlt
        have h1 := hi i hlt
        rw [hc5, List.getElem?_eq_getElem (by omega)] at h1
        obtain ⟨cs', h2, h3⟩ := Option.bind_eq_some_iff.1 h1
        obtain ⟨v, hv⟩ := ih n' cs' _ (by omega) h3
        exact ⟨cs', v, h2, hv⟩
      obtain ⟨f, fv, hf⟩ : ∃ (f : Nat → List Value) (fv : Nat → V), ∀ i, i < len → w.cells? base (a.add (i * 5)) 5 = some (f i) ∧ VC w (Old w) (fv i) (f i) := by
        refine ⟨fun i => if h : i < len then (each i h).choose else [], fun i => if h : i < len then (each i h).choose_spec.choose else .mk 0 0 [] [] [], fun i h => ?_⟩
        dsimp only
        rw [dif_pos h, dif_pos h]
        exact (each i h).choose_spec.choose_spec
      have hLl : ((List.range len).map fv).length = len := by simp
      have hLg : ∀ j y, ((List.range len).map fv)[j]? = some y → j < len ∧ y = fv j := by
        intro j y hy
        rw [List.getElem?_map] at hy
        have hj : j < len := by
          rcases Nat.lt_or_ge j len with h | h
          · exact h
          · rw [List.getElem?_eq_none (by simpa using h)] at hy; cases hy
        rw [List.getElem?_range hj] at hy
        simp only [Option.map_some, Option.some.injEq] at hy
        exact ⟨hj, hy.symm⟩
      refine ⟨.mk k z1 z2.data.toList ks ((List.range len).map fv), ?_⟩
      have hmk := VC.mk (w := w) (G := Old w) (k := k) (n := z1) (s := z2.data.toList) (ks := ks) (ls := (List.range len).map fv) (KA := KA) (LA := some a) (kc := kc) (lc := cap) (cs := f) hk' (i64_of_wf0 w1) hz2 hKs hKl (by rw [hLl]; exact hm') hK ?_ ?_
      · rw [hLl] at hmk
        exact hmk
      · rcases Nat.eq_zero_or_pos len with h0 | h0
        · subst h0; exact .inl rfl
        · obtain ⟨g, o, spot⟩ := a
          obtain ⟨_, hl0, hc0⟩ := World.cells?_some (hf 0 h0).1
          have h00 := hc0 0 (by omega)
          obtain ⟨y0, hy0⟩ : ∃ y0, (f 0)[0]? = some y0 := ⟨_, List.getElem?_eq_getElem (by omega)⟩
          rw [hy0] at h00
          have hs : spot = none := World.cell?_spot (show w.cell? ⟨g, o, spot⟩ = _ from by simpa [Addr.add] using h00)
          subst hs
          refine .inr ⟨g, o, rfl, World.block_lt_of_cell? w _ h00, fun j y hy => ?_⟩
          obtain ⟨hj, rfl⟩ := hLg j y hy
          obtain ⟨_, hlj, hcj⟩ := World.cells?_some (hf j hj).1
          intro i u hu
          have hi5 : i < 5 := by have := (List.getElem?_eq_some_iff.1 hu).1; omega
          have h1 := hcj i hi5
          rw [hu] at h1
          rw [← h1, Addr.add_mid, Addr.add_mid, show o + 5 * j + i = o + j * 5 + i from by omega]
      · intro j y hy
        obtain ⟨hj, rfl⟩ := hLg j y hy
        exact (hf j hj).2

theorem open_val {base : Nat} {spare : Nat → Bool} {held : Bool} {w : World} {v : Value} {d : DataW H} {ps : List MemPlace} {r : Reach} {b0 : Nat}
    (hv : Value.okWide Try.prog w r b0 27 v) (h : DataW.Trod enc Try.prog w base spare held 27 v d ps) :
    ∃ (x : V) (cs : List Value), v = .agg cs.toArray ∧ VC w (Old w) x cs := by
  obtain ⟨fuel, hf⟩ := h
  obtain ⟨cs, rfl, _⟩ := okWide_struct Try.underlying27 hv
  obtain ⟨x, hx⟩ := open_val_cells fuel fuel _ _ (Nat.le_refl _) hf
  exact ⟨x, cs.toList, by simp, by simpa [Value.cells] using hx⟩
end
end Go.Proofs.Yteoimkjocijcjaa
