/- Layer 4: what comes in: scripts, pairs, strings. -/
import Derived.Test.YthmaodpmbmiadaaLaw
namespace Go.Proofs.Ythmaodpmbmiadaa
open Go.RowKit Go.ChangeShapes Go.WideShapes

theorem i64_of_wf {x : Int} (h : (Lit.int .i64 x).wf = true) : -9223372036854775808 ≤ x ∧ x ≤ 9223372036854775807 := by
  simp [Lit.wf, IntKind.min, IntKind.max, IntKind.signed, IntKind.bits] at h
  exact ⟨by omega, by omega⟩
theorem u8_of_wf {x : Int} (h : (Lit.int .u8 x).wf = true) : 0 ≤ x ∧ x ≤ 255 := by
  simp [Lit.wf, IntKind.min, IntKind.max, IntKind.signed, IntKind.bits] at h
  exact ⟨by omega, by omega⟩
theorem u32_of_wf {x : Int} (h : (Lit.int .u32 x).wf = true) : ∃ n : Nat, x = n ∧ n < 4294967296 := by
  simp [Lit.wf, IntKind.min, IntKind.max, IntKind.signed, IntKind.bits] at h
  exact ⟨x.toNat, by omega, by omega⟩

/-- Strings that lie one behind the other. -/
def Strs (w : World) (A : Option Addr) (ks : List ByteArray) : Prop := ks = [] ∨ ∃ g o, A = some ⟨g, o, none⟩ ∧ ∀ j (s : ByteArray), ks[j]? = some s → w.cell? ⟨g, o + j, none⟩ = some (.string s)
theorem Strs.below {w0 w : World} {A : Option Addr} {ks : List ByteArray} (h : Strs w0 A ks) (hb : Below w0.heap.size w0 w) : Strs w A ks := by
  rcases h with h | ⟨g, o, rfl, h⟩
  · exact .inl h
  · refine .inr ⟨g, o, rfl, fun j s hs => ?_⟩
    have h1 := h j s hs
    exact (hb.cell (p := ⟨g, o + j, none⟩) (World.block_lt_of_cell? w0 (a := ⟨g, o + j, none⟩) h1)).trans h1
section
variable {H : Type} {enc : TypeId × Value → H}
theorem open_strs {base : Nat} {spare : Nat → Bool} {held : Bool} {w : World} {v : Value} {d : DataW H} {ps : List MemPlace} {r : Reach} {b0 : Nat}
    (hv : Value.okWide Try.prog w r b0 30 v) (h : DataW.Trod enc Try.prog w base spare held 30 v d ps) :
    ∃ (S : Option Addr) (c : Nat) (xs : List ByteArray), v = .slice S xs.length c ∧ Strs w S xs ∧ xs.length ≤ 9223372036854775807 := by
  obtain ⟨fuel, hf⟩ := h
  obtain ⟨A, len, cap, rfl⟩ := okWide_slice Try.underlying30 hv
  rcases Go.Deep.open_slice1 Try.underlying30 (by kernel_rfl) hf with ⟨h1, _⟩ | ⟨a, len', cap', m, n, V, D, Pl, h1, hb, hl, hm, hmm, hx, hi⟩
  · simp [Value.cells] at h1
    obtain ⟨rfl, rfl, rfl⟩ := h1
    exact ⟨none, 0, [], rfl, .inl rfl, by simp⟩
  · simp [Value.cells] at h1
    obtain ⟨rfl, rfl, rfl⟩ := h1
    have hm' : len ≤ 9223372036854775807 := by simp only [maxLen] at hm; omega
    have hlm : len ≤ m := by rw [hmm]; split <;> omega
    rcases Nat.eq_zero_or_pos len with h0 | h0
    · subst h0
      exact ⟨some a, cap, [], rfl, .inl rfl, by simp⟩
    · obtain ⟨g, o, spot⟩ := a
      have hs : spot = none := World.cell?_spot (show w.cell? ⟨g, o, spot⟩ = _ from (hi 0 (by omega)).1)
      subst hs
      have each : ∀ i, i < len → ∃ s : ByteArray, w.cell? ⟨g, o + i, none⟩ = some (.string s) := by
        intro i hlt
        obtain ⟨h1, h2⟩ := hi i (by omega)
        obtain ⟨s, e, _, _⟩ := DataW.trod_string Try.underlying9 h2
        simp only [List.cons.injEq, and_true] at e
        rw [e, Addr.add_mid] at h1
        exact ⟨s, h1⟩
      refine ⟨some ⟨g, o, none⟩, cap, (List.range len).map (fun i => if h : i < len then (each i h).choose else default), by simp, .inr ⟨g, o, rfl, fun j a ha => ?_⟩, by simp; omega⟩
      rw [List.getElem?_map] at ha
      have hj : j < len := by
        rcases Nat.lt_or_ge j len with h | h
        · exact h
        · rw [List.getElem?_eq_none (by simpa using h)] at ha; cases ha
      rw [List.getElem?_range hj] at ha
      simp only [Option.map_some, Option.some.injEq] at ha
      rw [dif_pos hj] at ha
      subst ha
      exact (each j hj).choose_spec
end

structure ActD where
  kind : Int
  x : ByteArray
  n : Int
  deriving Inhabited

structure ActDAt (w : World) (g o : Nat) (a : ActD) : Prop where
  kind : w.cell? ⟨g, o, none⟩ = some (.int .u8 a.kind)
  x : w.cell? ⟨g, o + 1, none⟩ = some (.string a.x)
  n : w.cell? ⟨g, o + 2, none⟩ = some (.int .u8 a.n)
  kindwf : 0 ≤ a.kind ∧ a.kind ≤ 255
  nwf : 0 ≤ a.n ∧ a.n ≤ 255
def ActDs (w : World) (S : Option Addr) (xs : List ActD) : Prop := xs = [] ∨ ∃ g o, S = some ⟨g, o, none⟩ ∧ ∀ j a, xs[j]? = some a → ActDAt w g (o + j * 3) a
theorem ActDAt.below {w0 w : World} {g o : Nat} {a : ActD} (h : ActDAt w0 g o a) (hb : Below w0.heap.size w0 w) : ActDAt w g o a := by
  have hlt : g < w0.heap.size := World.block_lt_of_cell? w0 (a := ⟨g, o, none⟩) h.kind
  have hk : ∀ j, w.cell? ⟨g, j, none⟩ = w0.cell? ⟨g, j, none⟩ := fun j => hb.cell (p := ⟨g, j, none⟩) hlt
  exact ⟨(hk _).trans h.kind, (hk _).trans h.x, (hk _).trans h.n, h.kindwf, h.nwf⟩
theorem ActDs.below {w0 w : World} {S : Option Addr} {xs : List ActD} (h : ActDs w0 S xs) (hb : Below w0.heap.size w0 w) : ActDs w S xs := by
  rcases h with h | ⟨g, o, rfl, h⟩
  · exact .inl h
  · exact .inr ⟨g, o, rfl, fun j a ha => (h j a ha).below hb⟩
section
variable {H : Type} {enc : TypeId × Value → H}
theorem open_ActD {base : Nat} {spare : Nat → Bool} {held : Bool} {w : World} {v : Value} {d : DataW H} {ps : List MemPlace} {r : Reach} {b0 : Nat}
    (hv : Value.okWide Try.prog w r b0 23 v) (h : DataW.Trod enc Try.prog w base spare held 23 v d ps) :
    ∃ (S : Option Addr) (c : Nat) (xs : List ActD), v = .slice S xs.length c ∧ ActDs w S xs ∧ xs.length ≤ 9223372036854775807 := by
  obtain ⟨fuel, hf⟩ := h
  obtain ⟨A, len, cap, rfl⟩ := okWide_slice Try.underlying23 hv
  rcases open_slice_fields Try.underlying23 Try.underlying32 (by kernel_rfl) (by kernel_rfl) hf with h1 | ⟨a, len', cap', h1, hl, hm, hi⟩
  · simp [Value.cells] at h1
    obtain ⟨rfl, rfl, rfl⟩ := h1
    exact ⟨none, 0, [], rfl, .inl rfl, by simp⟩
  · simp [Value.cells] at h1
    obtain ⟨rfl, rfl, rfl⟩ := h1
    have hm' : len ≤ 9223372036854775807 := by simp only [maxLen] at hm; omega
    rcases Nat.eq_zero_or_pos len with h0 | h0
    · subst h0
      exact ⟨some a, cap, [], rfl, .inl rfl, by simp⟩
    · obtain ⟨g, o, spot⟩ := a
      have hs : spot = none := by
        obtain ⟨v0, _, _, hc0, _⟩ := hi 0 h0 0 _ rfl
        exact World.cell?_spot (show w.cell? ⟨g, o, spot⟩ = _ from hc0)
      subst hs
      have each : ∀ i, i < len → ∃ a : ActD, ActDAt w g (o + i * 3) a := by
        intro i hlt
        obtain ⟨v0, y0, n0, hc0, ht0⟩ := hi i hlt 0 _ rfl
        obtain ⟨v1, y1, n1, hc1, ht1⟩ := hi i hlt 1 _ rfl
        obtain ⟨v2, y2, n2, hc2, ht2⟩ := hi i hlt 2 _ rfl
        obtain ⟨z0, e0, _, w0⟩ := DataW.trod_int Try.underlying5 ht0
        obtain ⟨z1, e1, _, w1⟩ := DataW.trod_string Try.underlying9 ht1
        obtain ⟨z2, e2, _, w2⟩ := DataW.trod_int Try.underlying5 ht2
        simp only [List.cons.injEq, and_true] at e0 e1 e2
        subst e0 e1 e2
        rw [Addr.add_mid] at hc0 hc1 hc2
        exact ⟨⟨z0, z1, z2⟩, hc0, hc1, hc2, u8_of_wf w0, u8_of_wf w2⟩
      obtain ⟨f, hf'⟩ : ∃ f : Nat → ActD, ∀ i, i < len → ActDAt w g (o + i * 3) (f i) := by
        refine ⟨fun i => if h : i < len then (each i h).choose else default, fun i h => ?_⟩
        dsimp only
        rw [dif_pos h]
        exact (each i h).choose_spec
      refine ⟨some ⟨g, o, none⟩, cap, (List.range len).map f, by simp, .inr ⟨g, o, rfl, fun j a ha => ?_⟩, by simp; omega⟩
      rw [List.getElem?_map] at ha
      have hj : j < len := by
        rcases Nat.lt_or_ge j len with h | h
        · exact h
        · rw [List.getElem?_eq_none (by simpa using h)] at ha; cases ha
      rw [List.getElem?_range hj] at ha
      simp only [Option.map_some, Option.some.injEq] at ha
      subst ha
      exact hf' j hj
end
structure PairD where
  pa : Int
  pb : ByteArray
  deriving Inhabited

structure PairDAt (w : World) (g o : Nat) (a : PairD) : Prop where
  pa : w.cell? ⟨g, o, none⟩ = some (.int .i64 a.pa)
  pb : w.cell? ⟨g, o + 1, none⟩ = some (.string a.pb)
  pawf : -9223372036854775808 ≤ a.pa ∧ a.pa ≤ 9223372036854775807
def PairDs (w : World) (S : Option Addr) (xs : List PairD) : Prop := xs = [] ∨ ∃ g o, S = some ⟨g, o, none⟩ ∧ ∀ j a, xs[j]? = some a → PairDAt w g (o + j * 2) a
theorem PairDAt.below {w0 w : World} {g o : Nat} {a : PairD} (h : PairDAt w0 g o a) (hb : Below w0.heap.size w0 w) : PairDAt w g o a := by
  have hlt : g < w0.heap.size := World.block_lt_of_cell? w0 (a := ⟨g, o, none⟩) h.pa
  have hk : ∀ j, w.cell? ⟨g, j, none⟩ = w0.cell? ⟨g, j, none⟩ := fun j => hb.cell (p := ⟨g, j, none⟩) hlt
  exact ⟨(hk _).trans h.pa, (hk _).trans h.pb, h.pawf⟩
theorem PairDs.below {w0 w : World} {S : Option Addr} {xs : List PairD} (h : PairDs w0 S xs) (hb : Below w0.heap.size w0 w) : PairDs w S xs := by
  rcases h with h | ⟨g, o, rfl, h⟩
  · exact .inl h
  · exact .inr ⟨g, o, rfl, fun j a ha => (h j a ha).below hb⟩
section
variable {H : Type} {enc : TypeId × Value → H}
theorem open_PairD {base : Nat} {spare : Nat → Bool} {held : Bool} {w : World} {v : Value} {d : DataW H} {ps : List MemPlace} {r : Reach} {b0 : Nat}
    (hv : Value.okWide Try.prog w r b0 43 v) (h : DataW.Trod enc Try.prog w base spare held 43 v d ps) :
    ∃ (S : Option Addr) (c : Nat) (xs : List PairD), v = .slice S xs.length c ∧ PairDs w S xs ∧ xs.length ≤ 9223372036854775807 := by
  obtain ⟨fuel, hf⟩ := h
  obtain ⟨A, len, cap, rfl⟩ := okWide_slice Try.underlying43 hv
  rcases open_slice_fields Try.underlying43 Try.underlying48 (by kernel_rfl) (by kernel_rfl) hf with h1 | ⟨a, len', cap', h1, hl, hm, hi⟩
  · simp [Value.cells] at h1
    obtain ⟨rfl, rfl, rfl⟩ := h1
    exact ⟨none, 0, [], rfl, .inl rfl, by simp⟩
  · simp [Value.cells] at h1
    obtain ⟨rfl, rfl, rfl⟩ := h1
    have hm' : len ≤ 9223372036854775807 := by simp only [maxLen] at hm; omega
    rcases Nat.eq_zero_or_pos len with h0 | h0
    · subst h0
      exact ⟨some a, cap, [], rfl, .inl rfl, by simp⟩
    · obtain ⟨g, o, spot⟩ := a
      have hs : spot = none := by
        obtain ⟨v0, _, _, hc0, _⟩ := hi 0 h0 0 _ rfl
        exact World.cell?_spot (show w.cell? ⟨g, o, spot⟩ = _ from hc0)
      subst hs
      have each : ∀ i, i < len → ∃ a : PairD, PairDAt w g (o + i * 2) a := by
        intro i hlt
        obtain ⟨v0, y0, n0, hc0, ht0⟩ := hi i hlt 0 _ rfl
        obtain ⟨v1, y1, n1, hc1, ht1⟩ := hi i hlt 1 _ rfl
        obtain ⟨z0, e0, _, w0⟩ := DataW.trod_int Try.underlying3 ht0
        obtain ⟨z1, e1, _, w1⟩ := DataW.trod_string Try.underlying9 ht1
        simp only [List.cons.injEq, and_true] at e0 e1
        subst e0 e1
        rw [Addr.add_mid] at hc0 hc1
        exact ⟨⟨z0, z1⟩, hc0, hc1, i64_of_wf w0⟩
      obtain ⟨f, hf'⟩ : ∃ f : Nat → PairD, ∀ i, i < len → PairDAt w g (o + i * 2) (f i) := by
        refine ⟨fun i => if h : i < len then (each i h).choose else default, fun i h => ?_⟩
        dsimp only
        rw [dif_pos h]
        exact (each i h).choose_spec
      refine ⟨some ⟨g, o, none⟩, cap, (List.range len).map f, by simp, .inr ⟨g, o, rfl, fun j a ha => ?_⟩, by simp; omega⟩
      rw [List.getElem?_map] at ha
      have hj : j < len := by
        rcases Nat.lt_or_ge j len with h | h
        · exact h
        · rw [List.getElem?_eq_none (by simpa using h)] at ha; cases ha
      rw [List.getElem?_range hj] at ha
      simp only [Option.map_some, Option.some.injEq] at ha
      subst ha
      exact hf' j hj
end
end Go.Proofs.Ythmaodpmbmiadaa
