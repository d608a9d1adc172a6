/- slices.Equal of strings; package wire: alike. -/
import Derived.Test.YteoimkjocijcjaaVb
import Derived.Deep.QuietTactic
namespace Go.Proofs.Yteoimkjocijcjaa
open Go.RowKit

/-- A call that only drew, and told whether p. -/
def BoolP (p : Prop) (w : World) (e : Ending) (w' : World) : Prop := ∃ b, e = .returned (.bool b) ∧ (b = true ↔ p) ∧ ∃ n, w' = w.drewN n

theorem sv_inj (a b : List UInt8) : (⟨a.toArray⟩ : ByteArray) = ⟨b.toArray⟩ ↔ a = b := by
  constructor
  · intro h
    simpa using congrArg (fun x : ByteArray => x.data.toList) h
  · rintro rfl; rfl
theorem SRow.get {w : World} {G : Nat → Prop} {A : Option Addr} {ks : List (List UInt8)} (h : SRow w G A ks) {i : Nat} {y : List UInt8} (hy : ks[i]? = some y) : ∃ g o, A = some ⟨g, o, none⟩ ∧ w.cell? ⟨g, o + i, none⟩ = some (sv y) := by
  rcases h with h | ⟨g, o, h1, _, h3⟩
  · rw [h] at hy; simp at hy
  · exact ⟨g, o, h1, h3 i (sv y) (by rw [List.getElem?_map, hy]; rfl)⟩
theorem SRow.drewN {w : World} {G : Nat → Prop} {A : Option Addr} {ks : List (List UInt8)} (h : SRow w G A ks) (n : Nat) : SRow (w.drewN n) G A ks := h

/-- Alike: all but the elements. -/
def Alike0 (x y : V) : Prop := x.kind = y.kind ∧ x.n = y.n ∧ x.s = y.s ∧ x.ks = y.ks ∧ x.ls.length = y.ls.length

theorem V.ext_iff' (x y : V) : x = y ↔ Alike0 x y ∧ x.ls = y.ls := by
  constructor
  · rintro rfl; exact ⟨⟨rfl, rfl, rfl, rfl, rfl⟩, rfl⟩
  · obtain ⟨k, n, s, ks, ls⟩ := x
    obtain ⟨k', n', s', ks', ls'⟩ := y
    rintro ⟨⟨h1, h2, h3, h4, _⟩, h5⟩
    simp only [V.kind, V.n, V.s, V.ks, V.ls] at h1 h2 h3 h4 h5
    subst h1 h2 h3 h4 h5
    rfl
def SamePost (x y : V) (w : World) (e : Ending) (w' : World) : Prop := ∃ b, e = .returned (.bool b) ∧ (b = true ↔ x = y) ∧ Below w.heap.size w w'
end Go.Proofs.Yteoimkjocijcjaa
