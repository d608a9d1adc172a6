/- Rows of bytes that the call has made itself; append of bytes, whatever the source; a call, and a slice literal of one cell, as operations. Plain, over any program whose bytes have this number. -/
import Derived.Test.YtfbkmjjcopjoeaaDoorFrame
import Derived.OwnWalk
import Derived.Maps.AppendAt
namespace Go.Proofs.YtfbkmjjcopjoeaaDoor
open Go.RowKit

theorem own_fr {F : Nat → Prop} {w w' : World} {base : Nat} {e : TypeId} {size n : Nat} {v : Value} {xs : List Value} (h : w.ownsRow base e size v n xs) (hf : Fr F w w') (hg : ∀ k, v.ownBlock = some k → ¬ F k) : w'.ownsRow base e size v n xs := by
  refine ⟨h.1, ?_⟩
  rcases h.2 with hn | ⟨g, cap, cur, rfl, hb, hgg, rest⟩
  · exact .inl hn
  · exact .inr ⟨g, cap, cur, rfl, hb, (hf.block g (Array.getElem?_eq_some_iff.1 hgg).1 (hg g rfl)).trans hgg, rest⟩
theorem infoU8 : (Tryd.prog.info? 5).map (fun i => (i.zero, i.size, i.bytes)) = some (some (.int .u8 0), 1, 1) := by kernel_rfl
theorem bytes_new (w : World) (t : TypeId) (l : List UInt8) (fr : Nat × Nat) : Bytes (w.alloc (.cells (B8s l).toArray t fr)) (some ⟨w.heap.size, 0, none⟩) l :=
  .inr ⟨_, 0, rfl, fun j v hv => by
    have h : (w.alloc (.cells (B8s l).toArray t fr)).heap[w.heap.size]? = some (.cells (B8s l).toArray t fr) := heap_alloc_new w _
    rw [cell_of_row _ _ _ _ t fr h, Nat.zero_add, List.getElem?_toArray]
    exact hv⟩

theorem below_drewN {B : Nat} {a w : World} (h : Below B a w) (n : Nat) : Below B a (w.drewN n) := ⟨h.os, h.tape, h.output, h.size, h.block⟩


/-- The slice (A, n, c) is a row of one's own that holds the bytes l. -/
def OwnB (w : World) (A : Option Addr) (n c : Nat) (l : List UInt8) : Prop := l.length = n ∧ w.ownsRow 0 5 1 (.slice A n c) n (B8s l)
/-- The block at which A stands. -/
def At (A : Option Addr) : Nat → Prop := fun k => ∃ a, A = some a ∧ a.block = k
theorem At.some_iff {a : Addr} {k : Nat} : At (some a) k ↔ a.block = k := ⟨fun ⟨_, h, hk⟩ => by cases h; exact hk, fun h => ⟨_, rfl, h⟩⟩
theorem At.none_not {k : Nat} : ¬ At none k := fun ⟨_, h, _⟩ => by cases h
theorem at_own {A : Option Addr} {n c k : Nat} : (Value.slice A n c).ownBlock = some k ↔ At A k := by
  cases A with
  | none => simp [Value.ownBlock, At]
  | some a => simp [Value.ownBlock, At]

section
variable {w w' : World} {A : Option Addr} {n c : Nat} {l : List UInt8}
theorem OwnB.nil (w : World) : OwnB w none 0 0 [] := ⟨rfl, World.ownsRow_nil _ _ _ _⟩
theorem OwnB.form (h : OwnB w A n c l) : (A = none ∧ n = 0 ∧ c = 0 ∧ l = []) ∨ ∃ g cur, A = some ⟨g, 0, none⟩ ∧ Blk w g 5 cur ∧ n ≤ c ∧ c ≤ maxLen ∧ cur.size = c ∧ cur.toList.take n = B8s l := by
  obtain ⟨h0, _, h⟩ := h
  rcases h with ⟨he, hn⟩ | ⟨g, cap, cur, he, _, hg, hc, hm, hs, ht⟩
  · injection he with h1 h2 h3
    subst h1 h2 h3
    exact .inl ⟨rfl, rfl, rfl, List.eq_nil_of_length_eq_zero h0⟩
  · injection he with h1 h2 h3
    subst h1 h3
    rw [Nat.mul_one] at hs ht
    exact .inr ⟨g, cur, rfl, hg, hc, hm, hs, ht⟩
theorem OwnB.bytes (h : OwnB w A n c l) : Bytes w A l := by
  rcases h.form with ⟨_, _, _, rfl⟩ | ⟨g, cur, rfl, hb, _, _, _, ht⟩
  · exact .inl rfl
  · refine .inr ⟨g, 0, rfl, hb.range 0 _ (fun j v hv => ?_)⟩
    rw [Nat.zero_add, ← Array.getElem?_toList]
    rw [← ht, List.getElem?_take] at hv
    split at hv
    · exact hv
    · cases hv
theorem OwnB.lt (h : OwnB w A n c l) : ∀ k, At A k → k < w.heap.size := by
  rintro k ⟨a, rfl, rfl⟩
  rcases h.form with ⟨h0, _⟩ | ⟨g, cur, hA, hb, _⟩
  · cases h0
  · cases hA; exact hb.lt
theorem OwnB.fr {F : Nat → Prop} (h : OwnB w A n c l) (hf : Fr F w w') (ha : ∀ k, At A k → ¬ F k) : OwnB w' A n c l := ⟨h.1, own_fr h.2 hf (fun k hk => ha k (at_own.1 hk))⟩
theorem OwnB.drew (h : OwnB w A n c l) : OwnB w.drew A n c l := h.fr (F := fun _ => False) (Fr.refl _ _).drew (fun _ _ h => h)
theorem OwnB.drewN (h : OwnB w A n c l) (k : Nat) : OwnB (w.drewN k) A n c l := h.fr (F := fun _ => False) ((Fr.refl _ _).drewN k) (fun _ _ h => h)
theorem OwnB.alloc (h : OwnB w A n c l) (o : Obj) : OwnB (w.alloc o) A n c l := h.fr (F := fun _ => False) ((Fr.refl _ _).alloc o) (fun _ _ h => h)
theorem OwnB.addr (h : OwnB w A n c l) (hn : 0 < n) : ∃ g, A = some ⟨g, 0, none⟩ := by
  rcases h.form with ⟨_, h0, _⟩ | ⟨g, cur, hA, _⟩
  · omega
  · exact ⟨g, hA⟩
/-- A new block of bytes, its first ones. -/
theorem OwnB.of_blk {g : Nat} {L : List UInt8} (h : Blk w g 5 (B8s L).toArray) (n : Nat) (hn : n ≤ L.length) (hm : L.length ≤ maxLen) : OwnB w (some ⟨g, 0, none⟩) n L.length (L.take n) := by
  have h1 : (L.take n).length = n := by rw [List.length_take]; omega
  refine ⟨h1, by rw [B8s_length, h1, Nat.mul_one], .inr ⟨g, L.length, _, rfl, Nat.zero_le _, h, hn, hm, by rw [List.size_toArray, B8s_length, Nat.mul_one], ?_⟩⟩
  rw [List.toList_toArray, Nat.mul_one, B8s, B8s, List.map_take]
end

section
variable {P : Program}
theorem run_append_nil_src (w : World) (t ty e : TypeId) (i : TypeInfo) (ht : P.underlying t = some (.slice e)) (hi : P.info? e = some i) (base size : Nat) (v : Value) (n : Nat) (xs : List Value) (hown : w.ownsRow base e size v n xs) (c : Nat) :
    (Builtin.append_ #[t, t] ty #[v, .slice none 0 c]).run P w = .ok v w := by
  rcases hown.2 with ⟨rfl, _⟩ | ⟨g, cap, cur, rfl, _, _, hc, _⟩
  · simp [Builtin.append_, run_underlying ht, sizeOf, typeInfo, hi, Builtin.lenOf, Builtin.firstCells]
  · simp [Builtin.append_, run_underlying ht, sizeOf, typeInfo, hi, Builtin.lenOf, Builtin.firstCells, hc, storeCells]

/-- append of bytes, as an operation. -/
theorem wp_append_bytes {o : Oper} {a : Act} {w : World} {K : Act → World → Prop} {Q : Exit → Act → World → Prop} (s x : Operand) (t : TypeId)
    (ho : o.op = .call { callee := .builtin .append, args := #[s, x], argTypes := #[t, t] })
    (ht : P.underlying t = some (.slice 5)) (hi : (P.info? 5).map (fun i => (i.zero, i.size, i.bytes)) = some (some (.int .u8 0), 1, 1))
    (A : Option Addr) (n c : Nat) (l : List UInt8) (hs : a.eval s = .slice A n c) (hown : OwnB w A n c l)
    (B : Option Addr) (m d : Nat) (r : List UInt8) (hx : a.eval x = .slice B m d) (hm : r.length = m) (hb : Bytes w B r) (h63 : n + m ≤ 140737488355328)
    (h : ∀ A' c' w', OwnB w' A' (n + m) c' (l ++ r) → Fr (At A) w w' → (∀ k, At A' k → At A k ∨ w.heap.size ≤ k) → (0 < n + m → ∃ g, A' = some ⟨g, 0, none⟩) → K (a.put o.dst (.slice A' (n + m) c')) w') : o.wp P a w K Q := by
  rcases B with _ | ad
  · obtain rfl : r = [] := by
      rcases hb with h | ⟨g, o', he, _⟩
      · exact h
      · cases he
    obtain rfl : m = 0 := by simpa using hm.symm
    obtain ⟨i, hi', _, _, _⟩ := info_parts hi
    have hr := run_append_nil_src (P := P) w t o.type _ i ht hi' 0 1 (.slice A n c) n (B8s l) hown.2 d
    unfold Oper.wp execOp
    simp only [ho, resolve, invoke, builtin, Sem.run_bind, Sem.run_pure, Result.andThen_ok, List.map_toArray, List.map_cons, List.map_nil, hs, hx, hr]
    rw [List.append_nil] at h
    exact h A c w hown (Fr.refl _ _) (fun _ hk => .inl hk) (fun h0 => hown.addr h0)
  · have hcells : ∀ j u, (B8s r)[j]? = some u → w.cell? (ad.add j) = some u := by
      intro j u hu
      rcases hb with rfl | ⟨g, o', he, hr⟩
      · simp [B8s] at hu
      · cases he
        rw [Addr.add_mid]
        exact hr j u hu
    refine wp_append_at w s x t ho 0 _ (.int .u8 0) 1 1 ht hi rfl (by decide) A n c (B8s l) hs hown.2 ad m d (B8s r) hx (by rw [B8s_length, hm, Nat.mul_one]) hcells (B8s_one r) (by simp only [maxLen]; omega) (by omega) (Nat.zero_le _) ?_
    intro A' c'' w' ho' hf hn
    have hw : OwnB w' A' (n + m) c'' (l ++ r) := ⟨by rw [List.length_append, hown.1, hm], by simpa [B8s] using ho'⟩
    exact h A' c'' w' hw (hf.mono (fun k _ hk => at_own.1 hk)) (fun k hk => (hn k (at_own.2 hk)).imp at_own.1 id) (fun h0 => hw.addr h0)
theorem wpList_append_bytes {ops : Array Oper} {rest : List Oper} {o : Oper} {a : Act} {w : World} {Q : Exit → Act → World → Prop} (hgd : o.guard = none) (s x : Operand) (t : TypeId)
    (ho : o.op = .call { callee := .builtin .append, args := #[s, x], argTypes := #[t, t] })
    (ht : P.underlying t = some (.slice 5)) (hi : (P.info? 5).map (fun i => (i.zero, i.size, i.bytes)) = some (some (.int .u8 0), 1, 1))
    (A : Option Addr) (n c : Nat) (l : List UInt8) (hs : a.eval s = .slice A n c) (hown : OwnB w A n c l)
    (B : Option Addr) (m d : Nat) (r : List UInt8) (hx : a.eval x = .slice B m d) (hm : r.length = m) (hb : Bytes w B r) (h63 : n + m ≤ 140737488355328)
    (h : ∀ A' c' w', OwnB w' A' (n + m) c' (l ++ r) → Fr (At A) w w' → (∀ k, At A' k → At A k ∨ w.heap.size ≤ k) → (0 < n + m → ∃ g, A' = some ⟨g, 0, none⟩) → wpList P ops Q rest (a.put o.dst (.slice A' (n + m) c')) w') : wpList P ops Q (o :: rest) a w :=
  wpList_plain hgd fun _ hK => wp_append_bytes s x t ho ht hi A n c l hs hown B m d r hx hm hb h63 fun A' c' w' h1 h2 h3 h4 => hK _ _ (h A' c' w' h1 h2 h3 h4)

/-- A call, as one operation, by its contract. -/
theorem wp_call_by {o : Oper} {a : Act} {w : World} {K : Act → World → Prop} {Q : Exit → Act → World → Prop} (f : FuncId) (args : Array Value) (hrun : (execOp a.eval o).run P w = .ok (.enter f args) w) {R : Ending → World → Prop}
    (hc : Calls P f args w R) (h : ∀ e w', R e w' → ∃ v, e = .returned v ∧ K (a.put o.dst v) w') : o.wp P a w K Q := by
  unfold Oper.wp
  rw [hrun, Oper.upon_enter]
  refine hc.mono fun e w'' hh => ?_
  obtain ⟨v, rfl, hk⟩ := h e w'' hh
  exact hk
/-- A slice literal of one cell. -/
theorem run_buildSlice_cell (w : World) (t e : TypeId) (bytes : Nat) (z v : Value) (hv : v.cells = #[v]) (hu : P.underlying t = some (.slice e)) (hi : (P.info? e).map (fun i => (i.zero, i.size, i.bytes)) = some (some z, 1, bytes)) :
    (Instr.buildSlice t 1 #[(0, v)]).run P w = .ok (.slice (some ⟨w.heap.size, 0, none⟩) 1 1) (w.alloc (.cells #[v] e)) := by
  obtain ⟨i, hi', hz, hs, hb⟩ := info_parts hi
  refine run_buildSlice w t e 1 _ #[v] i z hu hi' hz (by omega) (by omega) ?_
  have hf := Great.fill_whole (s := i.size) (by omega) [v] ((Array.range (1 * i.size)).map (z.cells[· % z.cells.size]!)) (by intro u hu'; simp only [List.mem_singleton] at hu'; subst hu'; rw [hv, hs]; rfl) (by simp)
  simpa [hv] using hf
end
end Go.Proofs.YtfbkmjjcopjoeaaDoor
