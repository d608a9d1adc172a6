/- An entity that came in. -/
import Derived.Test.YteoimkjocijcjaaVa
namespace Go.Proofs.Yteoimkjocijcjaa
open Go.RowKit Go.ChangeShapes Go.WideShapes Go.ChangeAt
section
variable {H : Type} {enc : TypeId × Value → H}
/-- A row of values that came in. -/
def LRow (w : World) (LA : Option Addr) (ls : List V) : Prop := ls = [] ∨ ∃ g o, LA = some ⟨g, o, none⟩ ∧ Old w g ∧ ∀ j y, ls[j]? = some y → ∃ cs, w.rangeAt g (o + 5 * j) cs ∧ VC w (Old w) y cs
theorem open_vals_cell {base : Nat} {spare : Nat → Bool} {held : Bool} {w : World} {fuel : Nat} {x4 : Value} {x : DataW H × List MemPlace} (h : DataW.trod enc Try.prog w base spare held fuel 23 [x4] = some x) :
    ∃ (S : Option Addr) (c : Nat) (xs : List V), x4 = .slice S xs.length c ∧ xs.length ≤ 9223372036854775807 ∧ LRow w S xs := by
  rcases DataW.trod_slice Try.underlying23 h with ⟨h1, _⟩ | ⟨a, len, cap, elems, rest, n', rfl, h1, _, hb, hl, hm, hel, hi, _⟩
  · simp at h1
    subst h1
    exact ⟨none, 0, [], rfl, by simp, .inl rfl⟩
  · simp at h1
    subst h1
    have hm' : len ≤ 9223372036854775807 := by simp only [maxLen] at hm; omega
    have each : ∀ i, i < len → ∃ (cs' : List Value) (v : V), w.cells? base (a.add (i * 5)) 5 = some cs' ∧ VC w (Old w) v cs' := by
      intro i hlt
      have h1 := hi i hlt
      rw [show Try.prog.cellsOf 27 = 5 from by kernel_rfl, List.getElem?_eq_getElem (by omega)] at h1
      obtain ⟨cs', h2, h3⟩ := Option.bind_eq_some_iff.1 h1
      obtain ⟨v, hv⟩ := open_val_cells n' n' cs' _ (Nat.le_refl _) h3
      exact ⟨cs', v, h2, hv⟩
    obtain ⟨f, fv, hf⟩ : ∃ (f : Nat → List Value) (fv : Nat → V), ∀ i, i < len → w.cells? base (a.add (i * 5)) 5 = some (f i) ∧ VC w (Old w) (fv i) (f i) := by
      refine ⟨fun i => if h : i < len then (each i h).choose else [], fun i => if h : i < len then (each i h).choose_spec.choose else .mk 0 0 [] [] [], fun i h => ?_⟩
      dsimp only
      rw [dif_pos h, dif_pos h]
      exact (each i h).choose_spec.choose_spec
    have hLl : ((List.range len).map fv).length = len := by simp
    have hLg : ∀ j y, ((List.range len).map fv)[j]? = some y → j < len ∧ y = fv j := by
      intro j y hy
      rw [List.getElem?_map] at hy
      have hj : j < len := by
        rcases Nat.lt_or_ge j len with h | h
        · exact h
        · rw [List.getElem?_eq_none (by simpa using h)] at hy; cases hy
      rw [List.getElem?_range hj] at hy
      simp only [Option.map_some, Option.some.injEq] at hy
      exact ⟨hj, hy.symm⟩
    refine ⟨some a, cap, (List.range len).map fv, by rw [hLl], by rw [hLl]; exact hm', ?_⟩
    rcases Nat.eq_zero_or_pos len with h0 | h0
    · subst h0; exact .inl rfl
    · obtain ⟨g, o, spot⟩ := a
      obtain ⟨_, hl0, hc0⟩ := World.cells?_some (hf 0 h0).1
      have h00 := hc0 0 (by omega)
      obtain ⟨y0, hy0⟩ : ∃ y0, (f 0)[0]? = some y0 := ⟨_, List.getElem?_eq_getElem (by omega)⟩
      rw [hy0] at h00
      have hs : spot = none := World.cell?_spot (show w.cell? ⟨g, o, spot⟩ = _ from by simpa [Addr.add] using h00)
      subst hs
      refine .inr ⟨g, o, rfl, World.block_lt_of_cell? w _ h00, fun j y hy => ?_⟩
      obtain ⟨hj, rfl⟩ := hLg j y hy
      obtain ⟨_, hlj, hcj⟩ := World.cells?_some (hf j hj).1
      refine ⟨f j, fun i u hu => ?_, (hf j hj).2⟩
      have hi5 : i < 5 := by have := (List.getElem?_eq_some_iff.1 hu).1; omega
      have h1 := hcj i hi5
      rw [hu] at h1
      rw [← h1, Addr.add_mid, Addr.add_mid, show o + 5 * j + i = o + j * 5 + i from by omega]
theorem vc_of_rows {w : World} {KA LA : Option Addr} {ks : List (List UInt8)} {ls : List V} {kc lc : Nat} (hK : SRow w (Old w) KA ks) (hKl : ks.length ≤ 9223372036854775807) (hKs : ∀ x ∈ ks, x.length ≤ 9223372036854775807) (hL : LRow w LA ls) (hLl : ls.length ≤ 9223372036854775807) :
    VC w (Old w) (.mk 6 0 [] ks ls) [.int .u8 6, .int .i64 0, sv [], .slice KA ks.length kc, .slice LA ls.length lc] := by
  rcases hL with h | ⟨g, o, h1, h2, h3⟩
  · subst h
    exact .mk (cs := fun _ => []) (by omega) (by omega) (by simp) hKs hKl hLl hK (.inl rfl) (by simp)
  · refine .mk (cs := fun j => if h : j < ls.length then (h3 j ls[j] (List.getElem?_eq_getElem h)).choose else []) (by omega) (by omega) (by simp) hKs hKl hLl hK (.inr ⟨g, o, h1, h2, fun j y hy => ?_⟩) (fun j y hy => ?_)
    · obtain ⟨hj, rfl⟩ := List.getElem?_eq_some_iff.1 hy
      rw [dif_pos hj]
      exact (h3 j ls[j] (List.getElem?_eq_getElem hj)).choose_spec.1
    · obtain ⟨hj, rfl⟩ := List.getElem?_eq_some_iff.1 hy
      rw [dif_pos hj]
      exact (h3 j ls[j] (List.getElem?_eq_getElem hj)).choose_spec.2
theorem open_ent {base : Nat} {spare : Nat → Bool} {held : Bool} {w : World} {v : Value} {d : DataW H} {ps : List MemPlace} {r : Reach} {b0 : Nat}
    (hv : Value.okWide Try.prog w r b0 25 v) (h : DataW.Trod enc Try.prog w base spare held 25 v d ps) :
    ∃ (typ eid : List UInt8) (ks : List (List UInt8)) (ls : List V) (KA LA : Option Addr) (kc lc : Nat), v = .agg #[sv typ, sv eid, .slice KA ks.length kc, .slice LA ls.length lc] ∧ VC w (Old w) (.mk 6 0 [] ks ls) [.int .u8 6, .int .i64 0, sv [], .slice KA ks.length kc, .slice LA ls.length lc] ∧ typ.length ≤ 9223372036854775807 ∧ eid.length ≤ 9223372036854775807 := by
  obtain ⟨fuel, hf⟩ := h
  obtain ⟨cs, rfl, _⟩ := okWide_struct Try.underlying25 hv
  obtain ⟨xs, n, hfu, _, hlen, hxl, hfs⟩ := DataW.trod_struct Try.underlying25 hf
  have hc5 : Try.prog.cellsOf 25 = 4 := by kernel_rfl
  rw [hc5] at hlen
  obtain ⟨x0, x1, x2, x3, rfl⟩ : ∃ x0 x1 x2 x3, cs = #[x0, x1, x2, x3] := by
    obtain ⟨l⟩ := cs
    match l, hlen with
    | [x0, x1, x2, x3], _ => exact ⟨_, _, _, _, rfl⟩
  have hxs : xs.length = 4 := hxl
  have g0 : DataW.trod enc Try.prog w base spare held n 9 (([x0, x1, x2, x3].drop 0).take (Try.prog.cellsOf 9)) = xs[0]? := hfs 0 _ rfl
  have g1 : DataW.trod enc Try.prog w base spare held n 9 (([x0, x1, x2, x3].drop 1).take (Try.prog.cellsOf 9)) = xs[1]? := hfs 1 _ rfl
  have g2 : DataW.trod enc Try.prog w base spare held n 22 (([x0, x1, x2, x3].drop 2).take (Try.prog.cellsOf 22)) = xs[2]? := hfs 2 _ rfl
  have g3 : DataW.trod enc Try.prog w base spare held n 23 (([x0, x1, x2, x3].drop 3).take (Try.prog.cellsOf 23)) = xs[3]? := hfs 3 _ rfl
  rw [List.getElem?_eq_getElem (by omega)] at g0 g1 g2 g3
  have c3 : Try.prog.cellsOf 9 = 1 := by kernel_rfl
  have c4 : Try.prog.cellsOf 22 = 1 := by kernel_rfl
  have c5 : Try.prog.cellsOf 23 = 1 := by kernel_rfl
  simp only [c3, c4, c5] at g0 g1 g2 g3
  simp only [List.drop_zero, List.drop_succ_cons, List.take_succ_cons, List.take_zero] at g0 g1 g2 g3
  obtain ⟨z0, e0, _, w0⟩ := DataW.trod_string Try.underlying9 g0
  obtain ⟨z1, e1, _, w1⟩ := DataW.trod_string Try.underlying9 g1
  obtain ⟨KA, kc, ks, e2, hK, hKl, hKs⟩ := open_strs_cell g2
  obtain ⟨LA, lc, ls, e3, hLl, hL⟩ := open_vals_cell g3
  simp only [List.cons.injEq, and_true] at e0 e1
  subst e0 e1 e2 e3
  have hz : ∀ z : ByteArray, z.size ≤ maxLen → z.data.toList.length ≤ 9223372036854775807 := fun z hz => by
    have e : z.data.toList.length = z.size := rfl
    rw [e]
    simp only [maxLen] at hz
    omega
  exact ⟨z0.data.toList, z1.data.toList, ks, ls, KA, LA, kc, lc, by rw [sv_bytes z0, sv_bytes z1], vc_of_rows hK hKl hKs hL hLl, hz z0 w0, hz z1 w1⟩
end
end Go.Proofs.Yteoimkjocijcjaa
