/- Package wire: Same: the pairs that are still to be looked at, as they lie in memory. -/
import Derived.Test.YtdkmccilnmdhmaaVi
import Derived.Test.YtdkmccilnmdhmaaOwnC
import Derived.Deep.LoopGhost
import Derived.StillTailTactics
namespace Go.Proofs.Ytdkmccilnmdhmaa
open Go.RowKit

/-- Two values that must be one, and where they lie. -/
structure Ent where
  g1 : Nat
  o1 : Nat
  g2 : Nat
  o2 : Nat
  x : V
  y : V
def ecs : List Ent → List Value
  | [] => []
  | e :: r => ecs r ++ [.pointer (some ⟨e.g1, e.o1, none⟩), .pointer (some ⟨e.g2, e.o2, none⟩)]
theorem ecs_len (st : List Ent) : (ecs st).length = st.length * 2 := by
  induction st with
  | nil => rfl
  | cons e r ih => rw [ecs, List.length_append, ih]; simp; omega
def sumN : List Ent → Nat
  | [] => 0
  | e :: r => nodes e.x + sumN r
theorem sumN_append (a b : List Ent) : sumN (a ++ b) = sumN a + sumN b := by
  induction a with
  | nil => simp [sumN]
  | cons e r ih => simp only [List.cons_append, sumN, ih]; omega
theorem sum_ge (st : List Ent) : st.length ≤ sumN st := by
  induction st with
  | nil => exact Nat.le_refl _
  | cons e r ih => rw [sumN, List.length_cons, nodes_eq]; omega
/-- The pairs, the last one first; in new memory, since w0. -/
structure PR (w0 wr : World) (A : Option Addr) (n c : Nat) (st : List Ent) : Prop where
  len : st.length = n
  own : wr.ownsRow 0 68 2 (.slice A n c) n (ecs st)
  new : ∀ k, At A k → w0.heap.size ≤ k
  below : Below w0.heap.size w0 wr
  ents : ∀ e ∈ st, PV w0 (Old w0) e.g1 e.o1 e.x ∧ PV w0 (Old w0) e.g2 e.o2 e.y
theorem PR.drewN {w0 wr : World} {A : Option Addr} {n c : Nat} {st : List Ent} (h : PR w0 wr A n c st) (q : Nat) : PR w0 (wr.drewN q) A n c st :=
  ⟨h.len, own_fr (F := fun _ => False) h.own ((Fr.refl _ _).drewN q) (fun _ _ h => h), h.new, below_drewN h.below q, h.ents⟩
theorem PR.top {w0 wr : World} {A : Option Addr} {n c : Nat} {e : Ent} {r : List Ent} (h : PR w0 wr A (n + 1) c (e :: r)) : ∃ g, A = some ⟨g, 0, none⟩ ∧ n + 1 ≤ c ∧ c ≤ maxLen ∧ wr.cell? ⟨g, n * 2, none⟩ = some (.pointer (some ⟨e.g1, e.o1, none⟩)) ∧ wr.cell? ⟨g, n * 2 + 1, none⟩ = some (.pointer (some ⟨e.g2, e.o2, none⟩)) ∧ PR w0 wr A n c r := by
  have hl := h.len
  simp only [List.length_cons] at hl
  rcases h.own.2 with ⟨_, h0⟩ | ⟨g, cap, cur, he, hb, hgg, hc, hm, hs, ht⟩
  · omega
  · injection he with h1 h2 h3
    subst h1 h3
    have hblk : Blk wr g 68 cur := hgg
    have hget : ∀ i, i < (n + 1) * 2 → cur[i]? = (ecs (e :: r))[i]? := by
      intro i hi
      rw [← ht, List.getElem?_take, if_pos hi, Array.getElem?_toList]
    refine ⟨g, rfl, hc, hm, ?_, ?_, by omega, ⟨by rw [ecs_len]; omega, .inr ⟨g, c, cur, rfl, hb, hgg, by omega, hm, hs, ?_⟩⟩, h.new, h.below, fun e' he' => h.ents e' (List.mem_cons_of_mem _ he')⟩
    · rw [hblk.cell, hget _ (by omega), ecs, List.getElem?_append_right (by rw [ecs_len]; omega), ecs_len]
      rw [show n * 2 - r.length * 2 = 0 by omega]
      rfl
    · rw [hblk.cell, hget _ (by omega), ecs, List.getElem?_append_right (by rw [ecs_len]; omega), ecs_len]
      rw [show n * 2 + 1 - r.length * 2 = 1 by omega]
      rfl
    · have h4 := congrArg (List.take (n * 2)) ht
      rw [List.take_take, Nat.min_eq_left (by omega)] at h4
      rw [h4, ecs, List.take_append_of_le_length (by rw [ecs_len]; omega), List.take_of_length_le (by rw [ecs_len]; omega)]
theorem infoPP : (Try.prog.info? 68).map (fun i => (i.zero, i.size, i.bytes)) = some (some (.agg #[.pointer none, .pointer none]), 2, 16) := by kernel_rfl
theorem PR.empty {w0 wr : World} {A : Option Addr} {n c : Nat} (h : PR w0 wr A n c []) : n = 0 := h.len.symm

theorem V.ext_iff' (x y : V) : x = y ↔ Alike0 x y ∧ x.ls = y.ls := by
  constructor
  · rintro rfl; exact ⟨⟨rfl, rfl, rfl, rfl, rfl⟩, rfl⟩
  · obtain ⟨k, n, s, ks, ls⟩ := x
    obtain ⟨k', n', s', ks', ls'⟩ := y
    rintro ⟨⟨h1, h2, h3, h4, _⟩, h5⟩
    simp only [V.kind, V.n, V.s, V.ks, V.ls] at h1 h2 h3 h4 h5
    subst h1 h2 h3 h4 h5
    rfl
/-- The pairs of elements, the last one first. -/
def kids (ch : Nat → Ent) (i : Nat) : List Ent := (List.range i).reverse.map ch
theorem kids_succ (ch : Nat → Ent) (i : Nat) : kids ch (i + 1) = ch i :: kids ch i := by
  rw [kids, kids, List.range_succ, List.reverse_append]; rfl
theorem kids_mem {ch : Nat → Ent} {i : Nat} {e : Ent} : e ∈ kids ch i ↔ ∃ j, j < i ∧ e = ch j := by
  simp only [kids, List.mem_map, List.mem_reverse, List.mem_range]
  exact ⟨fun ⟨j, h, he⟩ => ⟨j, h, he.symm⟩, fun ⟨j, h, he⟩ => ⟨j, h, he.symm⟩⟩
theorem kids_sum (ch : Nat → Ent) (ls : List V) : ∀ i, i ≤ ls.length → (∀ j, j < i → ls[j]? = some (ch j).x) → sumN (kids ch i) = nodesL (ls.take i) := by
  intro i
  induction i with
  | zero => intro _ _; simp [kids, sumN, nodesL]
  | succ i ih =>
    intro hi h
    rw [kids_succ, sumN, nodesL_take ls i (ch i).x (h i (by omega)), ih (by omega) (fun j hj => h j (by omega))]
    omega
theorem ls_eq_iff (ch : Nat → Ent) (a b : List V) (hl : a.length = b.length) (h : ∀ j, j < a.length → a[j]? = some (ch j).x ∧ b[j]? = some (ch j).y) : a = b ↔ ∀ e ∈ kids ch a.length, e.x = e.y := by
  constructor
  · rintro rfl e he
    obtain ⟨j, hj, rfl⟩ := kids_mem.1 he
    obtain ⟨h1, h2⟩ := h j hj
    rw [h1] at h2
    injection h2
  · intro hk
    apply List.ext_getElem?
    intro j
    rcases Nat.lt_or_ge j a.length with hj | hj
    · obtain ⟨h1, h2⟩ := h j hj
      rw [h1, h2, hk (ch j) (kids_mem.2 ⟨j, hj, rfl⟩)]
    · rw [List.getElem?_eq_none hj, List.getElem?_eq_none (by omega)]
end Go.Proofs.Ytdkmccilnmdhmaa
