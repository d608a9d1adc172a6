/- Frames: what a call leaves as it was; blocks that are known whole. Plain, over any program. -/
import Derived.Test.YtfbkmjjcopjoeaaDoorRows
import Derived.WalkKit
import Derived.WalkSpells
import Derived.Lib.Hide
import Derived.Deep.MidRow
import Derived.Deep.Draws
import Derived.StillTailTactics
import Derived.Great.BuildSlice
import Derived.Maps.AppendAt
import Derived.Laws.BytesArg
import Derived.Laws.IdiomStrings
namespace Go.Proofs.YtfbkmjjcopjoeaaDoor
open Go.RowKit

theorem hide {p : Prop} (h : p) : Hid p := h

/-- All but the blocks of F (and what is new) is as it was. -/
structure Fr (F : Nat → Prop) (w w' : World) : Prop where
  os : w'.os = w.os
  tape : w'.tape = w.tape
  output : w'.output = w.output
  size : w.heap.size ≤ w'.heap.size
  block : ∀ k, k < w.heap.size → ¬ F k → w'.heap[k]? = w.heap[k]?

section
variable {F F' : Nat → Prop} {a w w' : World}
theorem Fr.refl (F : Nat → Prop) (w : World) : Fr F w w := ⟨rfl, rfl, rfl, Nat.le_refl _, fun _ _ _ => rfl⟩
theorem Fr.trans' (h : Fr F a w) (k : Fr F' w w') (hs : ∀ i, i < a.heap.size → F' i → F i) : Fr F a w' :=
  ⟨k.os.trans h.os, k.tape.trans h.tape, k.output.trans h.output, Nat.le_trans h.size k.size,
   fun i hi hn => (k.block i (Nat.lt_of_lt_of_le hi h.size) (fun hf => hn (hs i hi hf))).trans (h.block i hi hn)⟩
theorem Fr.mono (h : Fr F a w) (hs : ∀ i, i < a.heap.size → F i → F' i) : Fr F' a w :=
  ⟨h.os, h.tape, h.output, h.size, fun i hi hn => h.block i hi (fun hf => hn (hs i hi hf))⟩
theorem Fr.drew (h : Fr F a w) : Fr F a w.drew := ⟨h.os, h.tape, h.output, h.size, h.block⟩
theorem Fr.drewN (h : Fr F a w) (n : Nat) : Fr F a (w.drewN n) := ⟨h.os, h.tape, h.output, h.size, h.block⟩
theorem Fr.alloc (h : Fr F a w) (o : Obj) : Fr F a (w.alloc o) :=
  ⟨h.os, h.tape, h.output, Nat.le_trans h.size (by simp), fun i hi hn => (Below.heap_alloc w o i (Nat.lt_of_lt_of_le hi h.size)).trans (h.block i hi hn)⟩
theorem Fr.setCell (h : Fr F a w) {p : Addr} (hp : F p.block ∨ a.heap.size ≤ p.block) (u : Value) : Fr F a (w.setCell p u) :=
  ⟨h.os, h.tape, h.output, by simpa [World.setCell] using h.size, fun i hi hn => (Below.heap_setCell w p u i (by
    rintro rfl
    rcases hp with hp | hp
    · exact hn hp
    · omega)).trans (h.block i hi hn)⟩
theorem Fr.setCells {b : Nat} (hp : F b ∨ a.heap.size ≤ b) : ∀ (vs : List Value) (o : Nat) (w : World), Fr F a w → Fr F a (w.setCells b o vs)
  | [], _, _, h => h
  | v :: r, o, w, h => by
    rw [World.setCells]
    exact Fr.setCells hp r (o + 1) _ (h.setCell (p := ⟨b, o, none⟩) hp v)
theorem Fr.grown (h : Fr F a w) {row : Option Nat} (hg : w.grownBy w' row) (hr : ∀ g, row = some g → F g ∨ a.heap.size ≤ g) : Fr F a w' :=
  ⟨hg.os.trans h.os, hg.tape.trans h.tape, hg.output.trans h.output, Nat.le_trans h.size hg.size,
   fun i hi hn => (hg.block i (Nat.lt_of_lt_of_le hi h.size) (fun e => by
     rcases hr i e.symm with hf | hf
     · exact hn hf
     · omega)).trans (h.block i hi hn)⟩
theorem Fr.of_below (h : Below a.heap.size a w) : Fr F a w := ⟨h.os, h.tape, h.output, h.size, fun i hi _ => h.block i hi⟩
theorem Fr.below (h : Fr F a w) {B : Nat} (hB : B ≤ a.heap.size) (hF : ∀ i, F i → B ≤ i) : Below B a w :=
  ⟨h.os, h.tape, h.output, h.size, fun i hi => h.block i (Nat.lt_of_lt_of_le hi hB) (fun hf => by have := hF i hf; omega)⟩
theorem Fr.put1 {b : Nat} (h : Fr (fun k => k = b) a w) (i : Nat) (u : Value) : Fr (fun k => k = b) a (w.setCell ⟨b, i, none⟩ u) := h.setCell (p := ⟨b, i, none⟩) (.inl rfl) u
theorem Fr.puts1 {b : Nat} (h : Fr (fun k => k = b) a w) (i : Nat) (us : List Value) : Fr (fun k => k = b) a (w.setCells b i us) := Fr.setCells (F := fun k => k = b) (.inl rfl) us i w h
theorem Fr.cell (h : Fr F a w) {p : Addr} (hp : p.block < a.heap.size) (hn : ¬ F p.block) : w.cell? p = a.cell? p := World.cell?_of_block (w := a) (h.block p.block hp hn)
theorem Fr.frozen (h : Fr F a w) {p : Addr} (hp : p.block < a.heap.size) (hn : ¬ F p.block) : w.frozen? p = a.frozen? p := World.frozen?_of_block (w := a) (h.block p.block hp hn)
end

/-- Block g is just the cells cs. -/
def Blk (w : World) (g : Nat) (t : TypeId) (cs : Array Value) : Prop := w.heap[g]? = some (.cells cs t (0, 0))

section
variable {w w' : World} {g : Nat} {t : TypeId} {cs : Array Value}
theorem Blk.lt (h : Blk w g t cs) : g < w.heap.size := by
  rcases Nat.lt_or_ge g w.heap.size with hlt | hge
  · exact hlt
  · unfold Blk at h; rw [Array.getElem?_eq_none hge] at h; cases h
theorem Blk.cell (h : Blk w g t cs) (i : Nat) : w.cell? ⟨g, i, none⟩ = cs[i]? := cell_of_row w g i cs t (0, 0) h
theorem Blk.frozen (h : Blk w g t cs) (i : Nat) : w.frozen? ⟨g, i, none⟩ = false := by
  unfold Blk at h
  simp [World.frozen?, h]
theorem Blk.new (w : World) (t : TypeId) (cs : Array Value) : Blk (w.alloc (.cells cs t)) w.heap.size t cs := heap_alloc_new w _
theorem Blk.drew (h : Blk w g t cs) : Blk w.drew g t cs := h
theorem Blk.drewN (h : Blk w g t cs) (n : Nat) : Blk (w.drewN n) g t cs := h
theorem Blk.alloc (h : Blk w g t cs) (o : Obj) : Blk (w.alloc o) g t cs := (Below.heap_alloc w o g h.lt).trans h
theorem Blk.set_ (h : Blk w g t cs) (i : Nat) (u : Value) : Blk (w.setCell ⟨g, i, none⟩ u) g t (cs.setIfInBounds i u) := by
  unfold Blk at h ⊢
  simp [World.setCell, Array.getElem?_modify, h]
theorem Blk.far (h : Blk w g t cs) {p : Addr} (hp : g ≠ p.block) (u : Value) : Blk (w.setCell p u) g t cs := (Below.heap_setCell w p u g hp).trans h
theorem Blk.fars (h : Blk w g t cs) {b : Nat} (hp : g ≠ b) : ∀ (vs : List Value) (o : Nat), Blk (w.setCells b o vs) g t cs := by
  intro vs
  induction vs generalizing w with
  | nil => exact fun _ => h
  | cons v r ih => intro o; rw [World.setCells]; exact ih (h.far (p := ⟨b, o, none⟩) hp v) (o + 1)
theorem Blk.fr {F : Nat → Prop} (h : Blk w g t cs) (hf : Fr F w w') (hg : ¬ F g) : Blk w' g t cs := (hf.block g h.lt hg).trans h
theorem Blk.below {B : Nat} (h : Blk w g t cs) (hb : Below B w w') (hg : g < B) : Blk w' g t cs := (hb.block g hg).trans h
theorem Blk.grown {row : Option Nat} (h : Blk w g t cs) (hb : w.grownBy w' row) (hg : some g ≠ row) : Blk w' g t cs := (hb.block g h.lt hg).trans h
theorem Blk.ne_ {g' : Nat} {t' : TypeId} {cs' : Array Value} (h : Blk w g t cs) (h' : Blk w g' t' cs') (hne : t ≠ t') : g ≠ g' := by
  rintro rfl
  unfold Blk at h h'
  rw [h] at h'
  injection h' with h'
  injection h' with _ ht
  exact hne ht
theorem own_blk_ne {base : Nat} {e : TypeId} {size n : Nat} {v : Value} {xs : List Value} (h : w.ownsRow base e size v n xs) (hg : Blk w g t cs) (hne : e ≠ t) : v.ownBlock ≠ some g := by
  rcases h.2 with ⟨rfl, _⟩ | ⟨g', cap, cur, rfl, _, hh, _⟩
  · simp [Value.ownBlock]
  · intro he
    have : g' = g := by simpa [Value.ownBlock] using he
    subst this
    exact Blk.ne_ (t := e) hh hg hne rfl
theorem Blk.range (h : Blk w g t cs) (o : Nat) (vs : List Value) (hv : ∀ j v, vs[j]? = some v → cs[o + j]? = some v) : w.rangeAt g o vs := fun j v hj => by
  rw [h.cell]; exact hv j v hj
theorem Blk.there (h : Blk w g t cs) (o n : Nat) (hn : o + n ≤ cs.size) : w.there g o n := fun j hj => by
  rw [h.cell, h.frozen]
  exact ⟨by simp; omega, rfl⟩
end

/-- cells of an array, from offset o on written over. -/
def Array.splice (cs : Array Value) : Nat → List Value → Array Value
  | _, [] => cs
  | o, v :: r => Array.splice (cs.setIfInBounds o v) (o + 1) r
theorem splice_size (vs : List Value) : ∀ (o : Nat) (cs : Array Value), (Array.splice cs o vs).size = cs.size := by
  induction vs with
  | nil => intro _ _; rfl
  | cons v r ih => intro o cs; rw [Array.splice, ih]; simp
theorem splice_get (vs : List Value) : ∀ (o : Nat) (cs : Array Value) (k : Nat), o + vs.length ≤ cs.size → (Array.splice cs o vs)[k]? = if o ≤ k ∧ k < o + vs.length then vs[k - o]? else cs[k]? := by
  induction vs with
  | nil => intro o cs k _; rw [Array.splice, if_neg]; simp only [List.length_nil]; omega
  | cons v r ih =>
    intro o cs k hk
    simp only [List.length_cons] at hk
    rw [Array.splice, ih _ _ _ (by simp; omega)]
    simp only [List.length_cons]
    by_cases h1 : k = o
    · subst h1
      rw [if_neg (by omega), if_pos (by omega)]
      simp only [Nat.sub_self, List.getElem?_cons_zero, Array.getElem?_setIfInBounds]
      rw [if_pos trivial, if_pos (by omega)]
    · by_cases h2 : o + 1 ≤ k ∧ k < o + 1 + r.length
      · rw [if_pos h2, if_pos (by omega)]
        obtain ⟨m, rfl⟩ : ∃ m, k = o + 1 + m := ⟨k - (o + 1), by omega⟩
        rw [show o + 1 + m - (o + 1) = m from by omega, show o + 1 + m - o = m + 1 from by omega]
        simp
      · rw [if_neg h2, if_neg (by omega)]
        rw [Array.getElem?_setIfInBounds, if_neg (fun e => h1 e.symm)]
theorem Blk.sets {g : Nat} {t : TypeId} : ∀ (vs : List Value) (o : Nat) (cs : Array Value) (w : World), Blk w g t cs → Blk (w.setCells g o vs) g t (Array.splice cs o vs)
  | [], _, _, _, h => h
  | v :: r, o, cs, _, h => by
    rw [World.setCells, Array.splice]
    exact Blk.sets r (o + 1) _ _ (h.set_ o v)

/-- 'make([]T, n)', T of any number of cells, in every world. -/
theorem run_make_all {P : Program} (t e : TypeId) (z : Value) (size bytes : Nat) (ht : P.underlying t = some (.slice e)) (hi : (P.info? e).map (fun i => (i.zero, i.size, i.bytes)) = some (some z, size, bytes))
    (kl kc : IntKind) (n : Int) (h0 : 0 ≤ n) (hbytes : (bytes : Int) * n ≤ 281474976710656) (h63 : n ≤ 9223372036854775807) (w : World) :
    (Instr.makeSlice t (.int kl n) (.int kc n)).run P w = .ok (.slice (some ⟨w.heap.size, 0, none⟩) n.toNat n.toNat) (w.alloc (.cells (madeCells z.cells (n.toNat * size)) e)) := by
  obtain ⟨i, hi', hz, hs, hb⟩ := info_parts hi
  subst hs; subst hb
  exact run_make (P := P) w t e i z ht hi' hz kl kc n n h0 (Int.le_refl _) hbytes h63

/-- Cells stored over a whole new block. -/
theorem setCells_new_at (w : World) (t : TypeId) : ∀ (vs : List Value) (o : Nat) (Z : Array Value), (w.alloc (.cells Z t)).setCells w.heap.size o vs = w.alloc (.cells (Array.splice Z o vs) t)
  | [], _, _ => rfl
  | v :: r, o, Z => by
    rw [World.setCells, Array.splice, ← setCells_new_at w t r (o + 1) (Z.setIfInBounds o v)]
    congr 1
    exact World.setCell_alloc_at _ _ _ _ _ rfl
theorem splice_all (vs : List Value) (Z : Array Value) (h : vs.length = Z.size) : Array.splice Z 0 vs = vs.toArray := by
  apply Array.ext_getElem?
  intro k
  rw [splice_get vs 0 Z k (by omega)]
  by_cases hk : k < vs.length
  · rw [if_pos (by omega)]; simp
  · rw [if_neg (by omega), Array.getElem?_eq_none (by omega)]
    symm
    simp
    omega
theorem setCells_new (w : World) (t : TypeId) (vs : List Value) (Z : Array Value) (h : vs.length = Z.size) : (w.alloc (.cells Z t)).setCells w.heap.size 0 vs = w.alloc (.cells vs.toArray t) := by
  rw [setCells_new_at, splice_all vs Z h]
theorem there_new (w : World) (t : TypeId) (Z : Array Value) (n : Nat) (h : n ≤ Z.size) : (w.alloc (.cells Z t)).there w.heap.size 0 n := (Blk.new w t Z).there 0 n (by omega)

/-- A load of many cells, in a region that reads first. -/
theorem wpStill_load_mid {P : Program} {ops : Array Oper} {rest : List Oper} {op : Oper} {a : Act} {w : World} {Q : Act → Prop} (hgd : op.guard = none) (ty : TypeId) (x : Operand) (ho : op.op = .load ty x)
    (b o : Nat) (hx : a.eval x = .pointer (some ⟨b, o, none⟩)) (cs : List Value) (d : TypeDesc) (hc : w.rangeAt b o cs)
    (hu : P.underlying ty = some d) (hd : d.isRow = true) (hi : (P.info? ty).map (·.size) = some cs.length)
    (h : wpStill P ops w Q rest (a.put op.dst (.agg cs.toArray))) : wpStill P ops w Q (op :: rest) a := by
  refine wpStill_step fun K hK => ?_
  have hw : Region.wanted op (yielded ops a.tmps) = true := by simp [Region.wanted, hgd]
  rw [if_pos hw]
  have hrun := run_loadAt_mid (P := P) w b o ty cs d hc hu hd hi
  unfold Oper.still execOp
  simp only [ho, hx, Sem.run_bind, Sem.run_pure, Result.andThen_ok, hrun, Oper.stillUpon_value]
  exact hK _ h

/-- A region that reads first, and then does the rest in its order; behind the draw. -/
theorem wp_region_tail {P : Program} {id : Nat} {Q : Exit → Act → World → Prop} {a : Act} {w : World} {l : List Oper} (n : Nat) (hm : P.follows .mixedOrders = true) (hB : Region.lexTailB .any l.toArray n = true)
    (h : wpStill P l.toArray w.drew (fun a' => wpList P l.toArray Q (l.drop n) a' w.drew) (l.take n) a) : (Code.region id l.toArray true).wp P Q a w := wp_region_still_tail n hm hB h

/-- A byte as the model has it. -/
def B8 (x : UInt8) : Value := .int .u8 (x.toNat : Int)
def B8s (l : List UInt8) : List Value := l.map B8
theorem B8s_length (l : List UInt8) : (B8s l).length = l.length := List.length_map _
theorem B8s_get (l : List UInt8) (j : Nat) : (B8s l)[j]? = (l[j]?).map B8 := by simp [B8s]
theorem B8s_one (l : List UInt8) : ∀ v ∈ B8s l, v.oneCell' = true := by
  intro v hv
  simp only [B8s, List.mem_map] at hv
  obtain ⟨x, _, rfl⟩ := hv
  rfl

/-- The bytes l lie at A (anywhere, if there are none). -/
def Bytes (w : World) (A : Option Addr) (l : List UInt8) : Prop := l = [] ∨ ∃ g o, A = some ⟨g, o, none⟩ ∧ w.rangeAt g o (B8s l)
theorem Bytes.keep {w w' : World} {A : Option Addr} {l : List UInt8} (h : Bytes w A l) (hk : ∀ g o i, A = some ⟨g, o, none⟩ → w'.cell? ⟨g, i, none⟩ = w.cell? ⟨g, i, none⟩) : Bytes w' A l := by
  rcases h with h | ⟨g, o, rfl, h⟩
  · exact .inl h
  · exact .inr ⟨g, o, rfl, fun j v hv => (hk g o _ rfl).trans (h j v hv)⟩
theorem Bytes.lt {w : World} {g o : Nat} {l : List UInt8} (h : Bytes w (some ⟨g, o, none⟩) l) (hl : l ≠ []) : g < w.heap.size := by
  rcases h with h | ⟨g', o', he, h⟩
  · exact absurd h hl
  · cases he
    cases l with
    | nil => exact absurd rfl hl
    | cons x r => exact World.block_lt_of_cell? w _ (h 0 (B8 x) rfl)
theorem Bytes.below {B : Nat} {w w' : World} {A : Option Addr} {l : List UInt8} (h : Bytes w A l) (hb : Below B w w') (hB : w.heap.size ≤ B) : Bytes w' A l := by
  rcases h with h | ⟨g, o, rfl, h⟩
  · exact .inl h
  · refine .inr ⟨g, o, rfl, fun j v hv => ?_⟩
    have h1 := h j v hv
    exact (hb.cell (p := ⟨g, o + j, none⟩) (Nat.lt_of_lt_of_le (World.block_lt_of_cell? w _ h1) hB)).trans h1
theorem Bytes.fr {F : Nat → Prop} {w w' : World} {A : Option Addr} {l : List UInt8} (h : Bytes w A l) (hf : Fr F w w') (ha : ∀ a, A = some a → ¬ F a.block) : Bytes w' A l := by
  rcases h with h | ⟨g, o, rfl, h⟩
  · exact .inl h
  · refine .inr ⟨g, o, rfl, fun j v hv => ?_⟩
    have h1 := h j v hv
    exact (hf.cell (p := ⟨g, o + j, none⟩) (World.block_lt_of_cell? w _ h1) (ha ⟨g, o, none⟩ rfl)).trans h1

section
variable {P : Program}
/-- copy, of bytes. -/
theorem run_copy_bytes (w : World) (dT sT ty elem : TypeId) (hu : P.underlying dT = some (.slice elem)) (hs : (P.info? elem).map (·.size) = some 1) (b o dLen dCap : Nat) (A : Option Addr) (sCap : Nat) (l : List UInt8) (hb : Bytes w A l)
    (ht : w.there b o (min l.length dLen)) : (Builtin.copy_ #[dT, sT] ty #[.slice (some ⟨b, o, none⟩) dLen dCap, .slice A l.length sCap]).run P w = .ok (goInt ((min l.length dLen : Nat) : Int)) (w.setCells b o (B8s (l.take dLen))) := by
  have hlen : (B8s (l.take dLen)).length = min l.length dLen := by rw [B8s_length, List.length_take, Nat.min_comm]
  rcases Nat.eq_zero_or_pos (min l.length dLen) with h0 | h0
  · rw [run_copy_none w dT sT ty elem _ A dLen dCap l.length sCap hu hs h0, h0]
    have : B8s (l.take dLen) = [] := List.eq_nil_of_length_eq_zero (by omega)
    rw [this]
    rfl
  · rcases hb with rfl | ⟨g, o', rfl, h⟩
    · simp at h0
    · rw [← hlen] at ht ⊢
      refine run_copy_cells w dT sT ty elem b o dLen dCap ⟨g, o', none⟩ l.length sCap (B8s (l.take dLen)) hu hs hlen (fun j v hv => ?_) (fun j hj => (ht j hj).1) (fun j hj => (ht j hj).2) (B8s_one _)
      rw [Addr.add_mid]
      refine h j v ?_
      rw [B8s_get] at hv ⊢
      rw [List.getElem?_take] at hv
      split at hv
      · exact hv
      · simp at hv
theorem wpList_copy_bytes {w : World} {ops : Array Oper} {rest : List Oper} {o : Oper} {a : Act} {Q : Exit → Act → World → Prop} (hgd : o.guard = none) (d s : Operand) (t t' : TypeId)
    (ho : o.op = .call { callee := .builtin .copy, args := #[d, s], argTypes := #[t, t'] }) (elem : TypeId) (hu : P.underlying t = some (.slice elem)) (hs : (P.info? elem).map (·.size) = some 1) (b off dLen dCap : Nat) (A : Option Addr) (sLen sCap : Nat)
    (hd : a.eval d = .slice (some ⟨b, off, none⟩) dLen dCap) (hsv : a.eval s = .slice A sLen sCap) (l : List UInt8) (hl : l.length = sLen) (hb : Bytes w A l) (ht : w.there b off (min sLen dLen))
    (h : wpList P ops Q rest (a.put o.dst (goInt ((min sLen dLen : Nat) : Int))) (w.setCells b off (B8s (l.take dLen)))) : wpList P ops Q (o :: rest) a w := by
  subst hl
  refine wpList_plain hgd fun K hK => ?_
  unfold Oper.wp execOp
  simp only [ho, resolve, invoke, builtin, Sem.run_bind, Sem.run_pure, Result.andThen_ok, List.map_toArray, List.map_cons, List.map_nil, hd, hsv, run_copy_bytes w t t' o.type elem hu hs b off dLen dCap A sCap l hb ht]
  exact hK _ _ h
end

section
variable {P : Program}
/-- A slice literal of one element of many cells. -/
theorem run_buildSlice_one (t e : TypeId) (size bytes : Nat) (z : Value) (hu : P.underlying t = some (.slice e)) (hi : (P.info? e).map (fun i => (i.zero, i.size, i.bytes)) = some (some z, size, bytes)) (hpos : 0 < size) (hsm : size ≤ 16777216)
    (cs : Array Value) (hc : cs.size = size) (w : World) : (Instr.buildSlice t 1 #[(0, .agg cs)]).run P w = .ok (.slice (some ⟨w.heap.size, 0, none⟩) 1 1) (w.alloc (.cells cs e)) := by
  obtain ⟨i, hi', hz, hs, hb⟩ := info_parts hi
  subst hs
  refine run_buildSlice w t e 1 _ cs i z hu hi' hz (by omega) (by omega) ?_
  have hf := Great.fill_whole (s := i.size) hpos [.agg cs] ((Array.range (1 * i.size)).map (z.cells[· % z.cells.size]!)) (by intro v hv; simp only [List.mem_singleton] at hv; subst hv; exact hc) (by simp)
  simpa [Value.cells] using hf
end

section
variable {P : Program}
/-- A struct (or array) literal whose run is known. -/
theorem wpList_build_run {ops : Array Oper} {rest : List Oper} {o : Oper} {a : Act} {w : World} {Q : Exit → Act → World → Prop} (hg : o.guard = none) (t : TypeId) (parts : Array (Nat × Operand)) (ho : o.op = .build t parts)
    (ps : Array (Nat × Value)) (hps' : (parts.toList.map fun x => (x.1, a.eval x.2)) = ps.toList) (cells : Array Value) (hr : (Instr.build t ps).run P w = .ok (.agg cells) w)
    (h : wpList P ops Q rest (a.put o.dst (.agg cells)) w) : wpList P ops Q (o :: rest) a w := by
  have hps : (parts.map fun (i, x) => (i, a.eval x)) = ps := by
    apply Array.toList_inj.1
    rw [Array.toList_map]
    exact hps'
  subst hps
  refine wpList_plain hg fun K hK => ?_
  unfold Oper.wp execOp
  simp only [ho, Sem.run_bind, hr, Result.andThen_ok]
  exact hK _ _ h
end

section
variable {P : Program}
theorem wp_buildSlice_one {o : Oper} {a : Act} {w : World} {K : Act → World → Prop} {Q : Exit → Act → World → Prop} (t : TypeId) (x : Operand) (ho : o.op = .buildSlice t 1 #[(0, x)])
    (cells : Array Value) (hx : a.eval x = .agg cells) (e : TypeId) (size bytes : Nat) (z : Value) (hu : P.underlying t = some (.slice e)) (hi : (P.info? e).map (fun i => (i.zero, i.size, i.bytes)) = some (some z, size, bytes))
    (hpos : 0 < size) (hsm : size ≤ 16777216) (hc : cells.size = size)
    (h : K (a.put o.dst (.slice (some ⟨w.heap.size, 0, none⟩) 1 1)) (w.alloc (.cells cells e))) : o.wp P a w K Q := by
  have hr := run_buildSlice_one (P := P) t e size bytes z hu hi hpos hsm cells hc w
  unfold Oper.wp execOp
  simp only [ho, List.map_toArray, List.map_cons, List.map_nil, hx, Sem.run_bind, hr, Result.andThen_ok]
  exact h
end

section
variable {P : Program}
/-- append onto a row of one's own: and where the row lies then. -/
theorem wp_append_at {o : Oper} {a : Act} {K : Act → World → Prop} {Q : Exit → Act → World → Prop} (w : World) (s x : Operand) (t : TypeId)
    (ho : o.op = .call { callee := .builtin .append, args := #[s, x], argTypes := #[t, t] })
    (base : Nat) (e : TypeId) (z : Value) (size bytes : Nat) (ht : P.underlying t = some (.slice e)) (hi : (P.info? e).map (fun i => (i.zero, i.size, i.bytes)) = some (some z, size, bytes))
    (hzs : z.cells.size = size) (hsz : 0 < size) (A : Option Addr) (n c' : Nat) (xs : List Value) (hs : a.eval s = .slice A n c') (hown : w.ownsRow base e size (.slice A n c') n xs)
    (ad : Addr) (m c : Nat) (news : List Value) (hx : a.eval x = .slice (some ad) m c) (hl : news.length = m * size) (hnews : ∀ j u, news[j]? = some u → w.cell? (ad.add j) = some u) (h1 : ∀ u ∈ news, u.oneCell' = true)
    (h63 : n + m ≤ maxLen) (hbytes : (n + m) * bytes ≤ 140737488355328) (hbase : base ≤ w.heap.size)
    (h : ∀ A' c'' w', w'.ownsRow base e size (.slice A' (n + m) c'') (n + m) (xs ++ news) → Fr (fun k => (Value.slice A n c').ownBlock = some k) w w' →
      (∀ k, (Value.slice A' (n + m) c'').ownBlock = some k → (Value.slice A n c').ownBlock = some k ∨ w.heap.size ≤ k) → K (a.put o.dst (.slice A' (n + m) c'')) w') : o.wp P a w K Q := by
  obtain ⟨i, hi', hz, hss, hbb⟩ := info_parts hi
  obtain ⟨v', w', hr, h2, h3, _, h5⟩ := run_append_own_at (P := P) w base t o.type e i z size bytes ht hi' hz hss hbb hzs hsz _ n xs hown ad m c news hl hnews h1 h63 hbytes hbase
  obtain ⟨A', c'', rfl⟩ : ∃ A' c'', v' = .slice A' (n + m) c'' := by
    rcases h2.2 with ⟨rfl, h0⟩ | ⟨g, cap, cur, rfl, _⟩
    · exact ⟨none, 0, by rw [h0]⟩
    · exact ⟨_, _, rfl⟩
  unfold Oper.wp execOp
  simp only [ho, resolve, invoke, builtin, Sem.run_bind, Sem.run_pure, Result.andThen_ok, List.map_toArray, List.map_cons, List.map_nil, hs, hx, hr]
  refine h A' c'' w' h2 ((Fr.refl _ _).grown h3 (fun g hg => .inl hg)) (fun k hk => ?_)
  rcases h5 with h5 | h5
  · exact .inl (by rw [← h5]; exact hk)
  · rw [h5] at hk
    injection hk with hk
    exact .inr (by omega)
theorem wpList_append_at {ops : Array Oper} {rest : List Oper} {o : Oper} {a : Act} {Q : Exit → Act → World → Prop} (w : World) (hgd : o.guard = none) (s x : Operand) (t : TypeId)
    (ho : o.op = .call { callee := .builtin .append, args := #[s, x], argTypes := #[t, t] })
    (base : Nat) (e : TypeId) (z : Value) (size bytes : Nat) (ht : P.underlying t = some (.slice e)) (hi : (P.info? e).map (fun i => (i.zero, i.size, i.bytes)) = some (some z, size, bytes))
    (hzs : z.cells.size = size) (hsz : 0 < size) (A : Option Addr) (n c' : Nat) (xs : List Value) (hs : a.eval s = .slice A n c') (hown : w.ownsRow base e size (.slice A n c') n xs)
    (ad : Addr) (m c : Nat) (news : List Value) (hx : a.eval x = .slice (some ad) m c) (hl : news.length = m * size) (hnews : ∀ j u, news[j]? = some u → w.cell? (ad.add j) = some u) (h1 : ∀ u ∈ news, u.oneCell' = true)
    (h63 : n + m ≤ maxLen) (hbytes : (n + m) * bytes ≤ 140737488355328) (hbase : base ≤ w.heap.size)
    (h : ∀ A' c'' w', w'.ownsRow base e size (.slice A' (n + m) c'') (n + m) (xs ++ news) → Fr (fun k => (Value.slice A n c').ownBlock = some k) w w' →
      (∀ k, (Value.slice A' (n + m) c'').ownBlock = some k → (Value.slice A n c').ownBlock = some k ∨ w.heap.size ≤ k) → wpList P ops Q rest (a.put o.dst (.slice A' (n + m) c'')) w') : wpList P ops Q (o :: rest) a w :=
  wpList_plain hgd fun _ hK => wp_append_at w s x t ho base e z size bytes ht hi hzs hsz A n c' xs hs hown ad m c news hx hl hnews h1 h63 hbytes hbase fun A' c'' w' h2 h3 h4 => hK _ _ (h A' c'' w' h2 h3 h4)
end

theorem Bytes.take {w : World} {A : Option Addr} {l : List UInt8} (h : Bytes w A l) (n : Nat) : Bytes w A (l.take n) := by
  rcases h with rfl | ⟨g, o, rfl, h⟩
  · exact .inl (by simp)
  · refine .inr ⟨g, o, rfl, fun j v hv => h j v ?_⟩
    rw [B8s_get] at hv ⊢
    rw [List.getElem?_take] at hv
    split at hv
    · exact hv
    · simp at hv
theorem Bytes.drop {w : World} {g o : Nat} {l : List UInt8} (h : Bytes w (some ⟨g, o, none⟩) l) (n : Nat) : Bytes w (some ⟨g, o + n, none⟩) (l.drop n) := by
  rcases h with rfl | ⟨g', o', he, h⟩
  · exact .inl (by simp)
  · cases he
    refine .inr ⟨g, o + n, rfl, fun j v hv => ?_⟩
    have := h (n + j) v (by rw [B8s_get] at hv ⊢; rw [List.getElem?_drop] at hv; exact hv)
    rwa [← Nat.add_assoc] at this
/-- string(b). -/
theorem run_str_bytes {P : Program} (w : World) (src dst e : TypeId) (hs : P.underlying src = some (.slice e)) (he : P.underlying e = some (.int .u8)) (hd : P.underlying dst = some .string) (A : Option Addr) (n c : Nat) (l : List UInt8) (hn : l.length = n)
    (hb : Bytes w A l) : (convert src dst (.slice A n c)).run P w = .ok (.string ⟨l.toArray⟩) w := by
  subst hn
  rcases A with _ | a
  · rcases hb with rfl | ⟨_, _, he', _⟩
    · exact run_convert_bytes_nil (P := P) w src e hs he _ c dst hd
    · cases he'
  · refine run_convert_bytes_back (P := P) w src dst e a c l hs he hd (fun j hj => ?_)
    rcases hb with rfl | ⟨g, o, he', h⟩
    · simp at hj
    · cases he'
      rw [Addr.add_mid]
      exact h j _ (by rw [B8s_get, List.getElem?_eq_getElem hj]; rfl)

end Go.Proofs.YtfbkmjjcopjoeaaDoor
