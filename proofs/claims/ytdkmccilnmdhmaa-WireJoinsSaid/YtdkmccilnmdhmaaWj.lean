/- A list of values that came in. -/
import Derived.Test.YtdkmccilnmdhmaaVa
namespace Go.Proofs.Ytdkmccilnmdhmaa
open Go.RowKit Go.ChangeShapes Go.WideShapes Go.ChangeAt

section
variable {H : Type} {enc : TypeId × Value → H}
theorem open_vals {base : Nat} {spare : Nat → Bool} {held : Bool} {w : World} {v : Value} {d : DataW H} {ps : List MemPlace} {r : Reach} {b0 : Nat}
    (hv : Value.okWide Try.prog w r b0 23 v) (h : DataW.Trod enc Try.prog w base spare held 23 v d ps) :
    ∃ (S : Option Addr) (c : Nat) (xs : List V), v = .slice S xs.length c ∧ VC w (Old w) (.mk 5 0 [] [] xs) [.int .u8 5, .int .i64 0, sv [], .slice none 0 0, .slice S xs.length c] := by
  obtain ⟨fuel, hf⟩ := h
  obtain ⟨A, len, cap, rfl⟩ := okWide_slice Try.underlying23 hv
  rcases DataW.trod_slice Try.underlying23 hf with ⟨h1, _⟩ | ⟨a, lenx, capx, elems, rest, n', rfl, h1, _, hb, hl, hm, hel, hi, _⟩
  · simp [Value.cells] at h1
    obtain ⟨rfl, rfl, rfl⟩ := h1
    exact ⟨none, 0, [], rfl, .mk (KA := none) (kc := 0) (LA := none) (lc := 0) (cs := fun _ => []) (by omega) (by omega) (by simp) (by simp) (by simp) (by simp) (.inl rfl) (.inl rfl) (by simp)⟩
  · simp [Value.cells] at h1
    obtain ⟨rfl, rfl, rfl⟩ := h1
    have hm' : len ≤ 9223372036854775807 := by simp only [maxLen] at hm; omega
    have each : ∀ i, i < len → ∃ (cs' : List Value) (v : V), w.cells? base (a.add (i * 5)) 5 = some cs' ∧ VC w (Old w) v cs' := by
      intro i hlt
      have h1 := hi i hlt
      rw [show Try.prog.cellsOf 25 = 5 from by kernel_rfl, List.getElem?_eq_getElem (by omega)] at h1
      obtain ⟨cs', h2, h3⟩ := Option.bind_eq_some_iff.1 h1
      obtain ⟨v, hv⟩ := open_val_cells n' n' cs' _ (Nat.le_refl _) h3
      exact ⟨cs', v, h2, hv⟩
    obtain ⟨f, fv, hf⟩ : ∃ (f : Nat → List Value) (fv : Nat → V), ∀ i, i < len → w.cells? base (a.add (i * 5)) 5 = some (f i) ∧ VC w (Old w) (fv i) (f i) := by
      refine ⟨fun i => if h : i < len then (each i h).choose else [], fun i => if h : i < len then (each i h).choose_spec.choose else .mk 0 0 [] [] [], fun i h => ?_⟩
      dsimp only
      rw [dif_pos h, dif_pos h]
      exact (each i h).choose_spec.choose_spec
    have hLl : ((List.range len).map fv).length = len := by simp
    have hLg : ∀ j y, ((List.range len).map fv)[j]? = some y → j < len ∧ y = fv j := by
      intro j y hy
      rw [List.getElem?_map] at hy
      have hj : j < len := by
        rcases Nat.lt_or_ge j len with h | h
        · exact h
        · rw [List.getElem?_eq_none (by simpa using h)] at hy; cases hy
      rw [List.getElem?_range hj] at hy
      simp only [Option.map_some, Option.some.injEq] at hy
      exact ⟨hj, hy.symm⟩
    refine ⟨some a, cap, (List.range len).map fv, by rw [hLl], ?_⟩
    have hmk := VC.mk (w := w) (G := Old w) (k := 5) (n := 0) (s := []) (ks := []) (ls := (List.range len).map fv) (KA := none) (LA := some a) (kc := 0) (lc := cap) (cs := f) (by omega) (by omega) (by simp) (by simp) (by simp) (by rw [hLl]; exact hm') (.inl rfl) ?_ ?_
    · exact hmk
    · rcases Nat.eq_zero_or_pos len with h0 | h0
      · subst h0; exact .inl rfl
      · obtain ⟨g, o, spot⟩ := a
        obtain ⟨_, hl0, hc0⟩ := World.cells?_some (hf 0 h0).1
        have h00 := hc0 0 (by omega)
        obtain ⟨y0, hy0⟩ : ∃ y0, (f 0)[0]? = some y0 := ⟨_, List.getElem?_eq_getElem (by omega)⟩
        rw [hy0] at h00
        have hs : spot = none := World.cell?_spot (show w.cell? ⟨g, o, spot⟩ = _ from by simpa [Addr.add] using h00)
        subst hs
        refine .inr ⟨g, o, rfl, World.block_lt_of_cell? w _ h00, fun j y hy => ?_⟩
        obtain ⟨hj, rfl⟩ := hLg j y hy
        obtain ⟨_, hlj, hcj⟩ := World.cells?_some (hf j hj).1
        intro i u hu
        have hi5 : i < 5 := by have := (List.getElem?_eq_some_iff.1 hu).1; omega
        have h1 := hcj i hi5
        rw [hu] at h1
        rw [← h1, Addr.add_mid, Addr.add_mid, show o + 5 * j + i = o + j * 5 + i from by omega]
    · intro j y hy
      obtain ⟨hj, rfl⟩ := hLg j y hy
      exact (hf j hj).2

end
end Go.Proofs.Ytdkmccilnmdhmaa
