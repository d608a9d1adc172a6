/- Layer 2: a script of calls that came in. -/
import Derived.Test.YtbcpplndmndkiaaLaw
import Derived.Test.YtbcpplndmndkiaaOn
namespace Go.Proofs.Ytbcpplndmndkiaa
open Go.RowKit Go.ChangeShapes Go.WideShapes

structure ActD where
  kind : Int
  A : Option Addr
  c : Nat
  p : List UInt8
  n : Int
  keep : Int
  torn : Int
  deriving Inhabited

/-- One call of a script lies at offset o of block g. -/
structure ActAt (w : World) (g o : Nat) (a : ActD) : Prop where
  kind : w.cell? ⟨g, o, none⟩ = some (.int .u8 a.kind)
  p : w.cell? ⟨g, o + 1, none⟩ = some (.slice a.A a.p.length a.c)
  n : w.cell? ⟨g, o + 2, none⟩ = some (.int .u8 a.n)
  keep : w.cell? ⟨g, o + 3, none⟩ = some (.int .i64 a.keep)
  torn : w.cell? ⟨g, o + 4, none⟩ = some (.int .i64 a.torn)
  bytes : Bytes w a.A a.p
  kwf : 0 ≤ a.kind ∧ a.kind ≤ 255
  nwf : 0 ≤ a.n ∧ a.n ≤ 255
  wkf : -9223372036854775808 ≤ a.keep ∧ a.keep ≤ 9223372036854775807
  wtf : -9223372036854775808 ≤ a.torn ∧ a.torn ≤ 9223372036854775807
  plen : a.p.length ≤ 9223372036854775807
def Acts (w : World) (S : Option Addr) (xs : List ActD) : Prop := xs = [] ∨ ∃ g o, S = some ⟨g, o, none⟩ ∧ ∀ j a, xs[j]? = some a → ActAt w g (o + j * 5) a

theorem ActAt.below {w0 w : World} {g o : Nat} {a : ActD} (h : ActAt w0 g o a) (hb : Below w0.heap.size w0 w) : ActAt w g o a := by
  have hlt : g < w0.heap.size := World.block_lt_of_cell? w0 (a := ⟨g, o, none⟩) h.kind
  have hk : ∀ j, w.cell? ⟨g, j, none⟩ = w0.cell? ⟨g, j, none⟩ := fun j => hb.cell (p := ⟨g, j, none⟩) hlt
  exact ⟨(hk _).trans h.kind, (hk _).trans h.p, (hk _).trans h.n, (hk _).trans h.keep, (hk _).trans h.torn, h.bytes.below hb (Nat.le_refl _), h.kwf, h.nwf, h.wkf, h.wtf, h.plen⟩
theorem Acts.below {w0 w : World} {S : Option Addr} {xs : List ActD} (h : Acts w0 S xs) (hb : Below w0.heap.size w0 w) : Acts w S xs := by
  rcases h with h | ⟨g, o, rfl, h⟩
  · exact .inl h
  · exact .inr ⟨g, o, rfl, fun j a ha => (h j a ha).below hb⟩

theorem i64_of_wf {x : Int} (h : (Lit.int .i64 x).wf = true) : -9223372036854775808 ≤ x ∧ x ≤ 9223372036854775807 := by
  simp [Lit.wf, IntKind.min, IntKind.max, IntKind.signed, IntKind.bits] at h
  exact ⟨by omega, by omega⟩
theorem u8_of_wf {x : Int} (h : (Lit.int .u8 x).wf = true) : 0 ≤ x ∧ x ≤ 255 := by
  simp [Lit.wf, IntKind.min, IntKind.max, IntKind.signed, IntKind.bits] at h
  exact ⟨by omega, by omega⟩

section
variable {H : Type} {enc : TypeId × Value → H}
theorem open_acts {base : Nat} {spare : Nat → Bool} {held : Bool} {w : World} {v : Value} {d : DataW H} {ps : List MemPlace} {r : Reach} {b0 : Nat}
    (hv : Value.okWide Try.prog w r b0 27 v) (h : DataW.Trod enc Try.prog w base spare held 27 v d ps) :
    ∃ (S : Option Addr) (c : Nat) (xs : List ActD), v = .slice S xs.length c ∧ Acts w S xs ∧ xs.length ≤ 9223372036854775807 := by
  obtain ⟨fuel, hf⟩ := h
  obtain ⟨A, len, cap, rfl⟩ := okWide_slice Try.underlying27 hv
  rcases open_slice_fields Try.underlying27 Try.underlying36 (by kernel_rfl) (by kernel_rfl) hf with h1 | ⟨a, len', cap', h1, hl, hm, hi⟩
  · simp [Value.cells] at h1
    obtain ⟨rfl, rfl, rfl⟩ := h1
    exact ⟨none, 0, [], rfl, .inl rfl, by simp⟩
  · simp [Value.cells] at h1
    obtain ⟨rfl, rfl, rfl⟩ := h1
    have hm' : len ≤ 9223372036854775807 := by simp only [maxLen] at hm; omega
    rcases Nat.eq_zero_or_pos len with h0 | h0
    · subst h0
      exact ⟨some a, cap, [], rfl, .inl rfl, by simp⟩
    · obtain ⟨g, o, spot⟩ := a
      have hs : spot = none := by
        obtain ⟨v0, _, _, hc0, _⟩ := hi 0 h0 0 _ rfl
        exact World.cell?_spot (show w.cell? ⟨g, o, spot⟩ = _ from hc0)
      subst hs
      have each : ∀ i, i < len → ∃ a : ActD, ActAt w g (o + i * 5) a := by
        intro i hlt
        obtain ⟨v0, y0, n0, hc0, ht0⟩ := hi i hlt 0 _ rfl
        obtain ⟨v1, y1, n1, hc1, ht1⟩ := hi i hlt 1 _ rfl
        obtain ⟨v2, y2, n2, hc2, ht2⟩ := hi i hlt 2 _ rfl
        obtain ⟨v3, y3, n3, hc3, ht3⟩ := hi i hlt 3 _ rfl
        obtain ⟨v4, y4, n4, hc4, ht4⟩ := hi i hlt 4 _ rfl
        obtain ⟨z0, e0, _, w0⟩ := DataW.trod_int Try.underlying5 ht0
        obtain ⟨A1, c1, l1, e1, b1, m1⟩ := open_bytes_cell Try.underlying22 Try.underlying5 (by kernel_rfl) ht1
        obtain ⟨z2, e2, _, w2⟩ := DataW.trod_int Try.underlying5 ht2
        obtain ⟨z3, e3, _, w3⟩ := DataW.trod_int Try.underlying3 ht3
        obtain ⟨z4, e4, _, w4⟩ := DataW.trod_int Try.underlying3 ht4
        simp only [List.cons.injEq, and_true] at e0 e2 e3 e4
        subst e0 e1 e2 e3 e4
        rw [Addr.add_mid] at hc0 hc1 hc2 hc3 hc4
        exact ⟨⟨z0, A1, c1, l1, z2, z3, z4⟩, hc0, hc1, hc2, hc3, hc4, b1, u8_of_wf w0, u8_of_wf w2, i64_of_wf w3, i64_of_wf w4, by simp only [maxLen] at m1; omega⟩
      obtain ⟨f, hf'⟩ : ∃ f : Nat → ActD, ∀ i, i < len → ActAt w g (o + i * 5) (f i) := by
        refine ⟨fun i => if h : i < len then (each i h).choose else default, fun i h => ?_⟩
        dsimp only
        rw [dif_pos h]
        exact (each i h).choose_spec
      refine ⟨some ⟨g, o, none⟩, cap, (List.range len).map f, by simp, .inr ⟨g, o, rfl, fun j a ha => ?_⟩, by simp; omega⟩
      rw [List.getElem?_map] at ha
      have hj : j < len := by
        rcases Nat.lt_or_ge j len with h | h
        · exact h
        · rw [List.getElem?_eq_none (by simpa using h)] at ha; cases ha
      rw [List.getElem?_range hj] at ha
      simp only [Option.map_some, Option.some.injEq] at ha
      subst ha
      exact hf' j hj
end
end Go.Proofs.Ytbcpplndmndkiaa
