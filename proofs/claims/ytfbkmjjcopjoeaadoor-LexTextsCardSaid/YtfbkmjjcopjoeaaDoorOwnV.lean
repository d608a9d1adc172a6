/- append of one-cell elements onto a row of one's own, whatever the source; a slice literal of one such element. Plain, over any program. (Taken out of XKeptB, which keeps its own copy.) -/
import Derived.Test.YtfbkmjjcopjoeaaDoorOwnC
namespace Go.Proofs.YtfbkmjjcopjoeaaDoor
open Go.RowKit

def Src (w : World) (B : Option Addr) (m : Nat) (news : List Value) : Prop := news.length = m ∧ (news = [] ∨ ∃ g o, B = some ⟨g, o, none⟩ ∧ w.rangeAt g o news)
section
variable {P : Program}
/-- append of one-cell elements, whatever the source. -/
theorem wp_append_cells {o : Oper} {a : Act} {w : World} {K : Act → World → Prop} {Q : Exit → Act → World → Prop} (s x : Operand) (t e : TypeId) (z : Value) (bytes : Nat)
    (ho : o.op = .call { callee := .builtin .append, args := #[s, x], argTypes := #[t, t] })
    (ht : P.underlying t = some (.slice e)) (hi : (P.info? e).map (fun i => (i.zero, i.size, i.bytes)) = some (some z, 1, bytes)) (hz : z.cells.size = 1)
    (A : Option Addr) (n c : Nat) (xs : List Value) (hs : a.eval s = .slice A n c) (hown : w.ownsRow 0 e 1 (.slice A n c) n xs)
    (B : Option Addr) (m d : Nat) (news : List Value) (hx : a.eval x = .slice B m d) (hsrc : Src w B m news) (h1 : ∀ v ∈ news, v.oneCell' = true) (h63 : n + m ≤ 1000000000000) (hby : bytes ≤ 100)
    (h : ∀ A' c' w', w'.ownsRow 0 e 1 (.slice A' (n + m) c') (n + m) (xs ++ news) → Fr (At A) w w' → (∀ k, At A' k → At A k ∨ w.heap.size ≤ k) → K (a.put o.dst (.slice A' (n + m) c')) w') : o.wp P a w K Q := by
  obtain ⟨hm, hsrc⟩ := hsrc
  have hb : (n + m) * bytes ≤ 140737488355328 := Nat.le_trans (Nat.mul_le_mul h63 hby) (by omega)
  rcases B with _ | ad
  · obtain rfl : news = [] := by
      rcases hsrc with h | ⟨g, o', he, _⟩
      · exact h
      · cases he
    obtain rfl : m = 0 := by simpa using hm.symm
    obtain ⟨i, hi', _, _, _⟩ := info_parts hi
    have hr := run_append_nil_src (P := P) w t o.type _ i ht hi' 0 1 (.slice A n c) n xs hown d
    unfold Oper.wp execOp
    simp only [ho, resolve, invoke, builtin, Sem.run_bind, Sem.run_pure, Result.andThen_ok, List.map_toArray, List.map_cons, List.map_nil, hs, hx, hr]
    rw [List.append_nil] at h
    exact h A c w hown (Fr.refl _ _) (fun _ hk => .inl hk)
  · have hcells : ∀ j u, news[j]? = some u → w.cell? (ad.add j) = some u := by
      intro j u hu
      rcases hsrc with rfl | ⟨g, o', he, hr⟩
      · simp at hu
      · cases he
        rw [Addr.add_mid]
        exact hr j u hu
    refine wp_append_at w s x t ho 0 _ z 1 bytes ht hi hz (by decide) A n c xs hs hown ad m d news hx (by rw [hm, Nat.mul_one]) hcells h1 (by simp only [maxLen]; omega) hb (Nat.zero_le _) ?_
    intro A' c'' w' ho' hf hn
    exact h A' c'' w' ho' (hf.mono (fun k _ hk => at_own.1 hk)) (fun k hk => (hn k (at_own.2 hk)).imp at_own.1 id)
theorem wpList_append_cells {ops : Array Oper} {rest : List Oper} {o : Oper} {a : Act} {w : World} {Q : Exit → Act → World → Prop} (hgd : o.guard = none) (s x : Operand) (t e : TypeId) (z : Value) (bytes : Nat)
    (ho : o.op = .call { callee := .builtin .append, args := #[s, x], argTypes := #[t, t] })
    (ht : P.underlying t = some (.slice e)) (hi : (P.info? e).map (fun i => (i.zero, i.size, i.bytes)) = some (some z, 1, bytes)) (hz : z.cells.size = 1)
    (A : Option Addr) (n c : Nat) (xs : List Value) (hs : a.eval s = .slice A n c) (hown : w.ownsRow 0 e 1 (.slice A n c) n xs)
    (B : Option Addr) (m d : Nat) (news : List Value) (hx : a.eval x = .slice B m d) (hsrc : Src w B m news) (h1 : ∀ v ∈ news, v.oneCell' = true) (h63 : n + m ≤ 1000000000000) (hby : bytes ≤ 100)
    (h : ∀ A' c' w', w'.ownsRow 0 e 1 (.slice A' (n + m) c') (n + m) (xs ++ news) → Fr (At A) w w' → (∀ k, At A' k → At A k ∨ w.heap.size ≤ k) → wpList P ops Q rest (a.put o.dst (.slice A' (n + m) c')) w') : wpList P ops Q (o :: rest) a w :=
  wpList_plain hgd fun _ hK => wp_append_cells s x t e z bytes ho ht hi hz A n c xs hs hown B m d news hx hsrc h1 h63 hby fun A' c' w' h1 h2 h3 => hK _ _ (h A' c' w' h1 h2 h3)
theorem wp_buildSlice_cell {o : Oper} {a : Act} {w : World} {K : Act → World → Prop} {Q : Exit → Act → World → Prop} (t : TypeId) (x : Operand) (ho : o.op = .buildSlice t 1 #[(0, x)]) (v : Value) (hx : a.eval x = v) (hv : v.cells = #[v]) (e : TypeId) (bytes : Nat) (z : Value)
    (hu : P.underlying t = some (.slice e)) (hi : (P.info? e).map (fun i => (i.zero, i.size, i.bytes)) = some (some z, 1, bytes))
    (h : K (a.put o.dst (.slice (some ⟨w.heap.size, 0, none⟩) 1 1)) (w.alloc (.cells #[v] e))) : o.wp P a w K Q := by
  have hr := run_buildSlice_cell (P := P) w t e bytes z v hv hu hi
  unfold Oper.wp execOp
  simp only [ho, List.map_toArray, List.map_cons, List.map_nil, hx, Sem.run_bind, hr, Result.andThen_ok]
  exact h
end

/-- One cell. -/
def One (v : Value) : Prop := v.cells = #[v] ∧ v.oneCell' = true
end Go.Proofs.YtfbkmjjcopjoeaaDoor
