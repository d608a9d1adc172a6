/- The laws of layer 5: what they all need: rows of tokens, awake, same. -/
import Derived.Test.YtfbkmjjcopjoeaaDoorNm
import Derived.Test.YtfbkmjjcopjoeaaDoorMe
import Derived.Laws.Cover1
namespace Go.Proofs.YtfbkmjjcopjoeaaDoor
open Go.RowKit

/-- These tokens lie at A. -/
def RowAt (w : World) (A : Option Addr) (ts : List Lx.Tok) : Prop := ts = [] ∨ ∃ g o, A = some ⟨g, o, none⟩ ∧ g < w.heap.size ∧ ∀ (j : Nat) (t : Lx.Tok) (i : Nat) (v : Value), ts[j]? = some t → (tokC t)[i]? = some v → w.cell? ⟨g, o + j * 4 + i, none⟩ = some v
theorem TokRow.at_ {T : TypeId} {w : World} {A : Option Addr} {c : Nat} {ts : List Lx.Tok} (h : TokRow T w A c ts) : RowAt w A ts := by
  rcases h.cells with h | ⟨g, rfl, hg, h⟩
  · exact .inl h
  · exact .inr ⟨g, 0, rfl, hg, fun j t i v h1 h2 => by rw [Nat.zero_add]; exact h j t i v h1 h2⟩
theorem RowAt.below {w w' : World} {A : Option Addr} {ts : List Lx.Tok} (h : RowAt w A ts) (hb : Below w.heap.size w w') : RowAt w' A ts := by
  rcases h with h | ⟨g, o, rfl, hg, h⟩
  · exact .inl h
  · exact .inr ⟨g, o, rfl, Nat.lt_of_lt_of_le hg hb.size, fun j t i v h1 h2 => (World.cell?_of_block (w := w) (hb.block g hg)).trans (h j t i v h1 h2)⟩
theorem RowAt.drewN {w : World} {A : Option Addr} {ts : List Lx.Tok} (h : RowAt w A ts) (n : Nat) : RowAt (w.drewN n) A ts := h
theorem RowAt.get {w : World} {A : Option Addr} {ts : List Lx.Tok} (h : RowAt w A ts) {j : Nat} {t : Lx.Tok} (hj : ts[j]? = some t) : ∃ g o, A = some ⟨g, o, none⟩ ∧ w.cell? ⟨g, o + j * 4, none⟩ = some (.int .u8 (t.kind : Int)) ∧ w.cell? ⟨g, o + j * 4 + 1, none⟩ = some (.string ⟨t.text.toArray⟩) ∧ w.cell? ⟨g, o + j * 4 + 2, none⟩ = some (.int .i64 t.n) ∧ w.cell? ⟨g, o + j * 4 + 3, none⟩ = some (.int .i64 (t.at_ : Int)) := by
  rcases h with rfl | ⟨g, o, rfl, _, h⟩
  · simp at hj
  · exact ⟨g, o, rfl, h j t 0 _ hj rfl, h j t 1 _ hj rfl, h j t 2 _ hj rfl, h j t 3 _ hj rfl⟩
def awakeB : List UInt8 := [123, 97, 40, 98, 58, 45, 49, 41, 35, 120]
def awakeT : List Lx.Tok := [⟨4, [123], 0, 0⟩, ⟨1, [97], 0, 1⟩, ⟨4, [40], 0, 2⟩, ⟨1, [98], 0, 3⟩, ⟨4, [58], 0, 4⟩, ⟨2, [45, 49], -1, 5⟩, ⟨4, [41], 0, 7⟩, ⟨0, [], 0, 10⟩]
theorem awake_toks : Lx.allL awakeB 0 = .inl awakeT := by decide +kernel
theorem buildA2 (w : World) : (Instr.build 33 #[(0, .int .u8 2), (1, .string ⟨#[45, 49]⟩), (2, .int .i64 (-1)), (3, .int .i64 5)]).run Tryd.prog w = .ok (.agg #[.int .u8 2, .string ⟨#[45, 49]⟩, .int .i64 (-1), .int .i64 5]) w := run_build w _ _ _ (by kernel_rfl)
theorem buildA0 (w : World) : (Instr.build 33 #[(3, .int .i64 10)]).run Tryd.prog w = .ok (.agg #[.int .u8 0, .string ⟨#[]⟩, .int .i64 0, .int .i64 10]) w := run_build w _ _ _ (by kernel_rfl)
set_option maxRecDepth 100000 in
set_option maxHeartbeats 4000000 in
theorem awake_any (w : World) : Calls Tryd.prog 10 #[] w fun e w' => e = .returned (.bool true) ∧ Below w.heap.size w w' := by
  have hb2 := buildA2
  have hb0 := buildA0
  have H := hide (toks_any awakeB w (by decide))
  go_enter Tryd.func10, Tryd.ntmps10
  go_wp2_with fail
  refine H.out.mono ?_
  rintro e w1 ⟨ho, hb⟩
  rw [awake_toks] at ho
  obtain ⟨A, c, rfl, hrow, _⟩ := ho
  have hr := hrow.at_
  have Hb := hide hb
  obtain ⟨g, o, rfl, a0, a1, a2, a3⟩ := hr.get (j := 5) (t := ⟨2, [45, 49], -1, 5⟩) rfl
  obtain ⟨g', o', hgo, z0, z1, z2, z3⟩ := hr.get (j := 7) (t := ⟨0, [], 0, 10⟩) rfl
  injection hgo with hgo
  injection hgo with e1 e2
  subst e1 e2
  have hl : awakeT.length = 8 := rfl
  clear hrow hr hb H
  simp only at a0 a1 a2 a3 z0 z1 z2 z3
  go_wp2_with fail
  go_ret
  exact ⟨rfl, Hb.out⟩
end Go.Proofs.YtfbkmjjcopjoeaaDoor
