/- Layer 1: the document's own answer (columbaryref01): what it is in memory, and its small calls. -/
import Derived.Test.YtfplafdpdfhpiaaOn
import Derived.Lib.LazyBuf
namespace Go.Proofs.Ytfplafdpdfhpiaa
open Go.RowKit

/-- So many blocks as strings. -/
def rstrs (V : Nat → List UInt8) (j : Nat) : List Value := (List.range j).map fun i => .string ⟨(V i).toArray⟩
theorem rstrs_succ (V : Nat → List UInt8) (j : Nat) : rstrs V (j + 1) = rstrs V j ++ [.string ⟨(V j).toArray⟩] := by simp [rstrs, List.range_succ]
theorem rstrs_get (V : Nat → List UInt8) (n j : Nat) (h : j < n) : (rstrs V n)[j]? = some (.string ⟨(V j).toArray⟩) := by
  simp [rstrs, List.getElem?_map, List.getElem?_range h]
theorem rstrs_len (V : Nat → List UInt8) (n : Nat) : (rstrs V n).length = n := by simp [rstrs]
theorem rstrs_upd (V : Nat → List UInt8) (n i : Nat) (c : List UInt8) : rstrs (upd V i c) n = (rstrs V n).set i (.string ⟨c.toArray⟩) := by
  apply List.ext_getElem?
  intro k
  rw [List.getElem?_set]
  by_cases hk : k < n
  · rw [rstrs_get _ _ _ hk, rstrs_get _ _ _ hk, rstrs_len]
    by_cases hi : i = k
    · subst hi
      rw [if_pos rfl, if_pos hk]
      simp [upd]
    · rw [if_neg hi]
      have : upd V i c k = V k := if_neg (fun h => hi h.symm)
      rw [this]
  · rw [List.getElem?_eq_none (by rw [rstrs_len]; omega), List.getElem?_eq_none (by rw [rstrs_len]; omega), rstrs_len]
    split
    · rw [if_neg (by omega)]
    · rfl
/-- Writes that wait, as cells. -/
def lcells (l : List (Nat × List UInt8)) : List Value := l.flatMap fun p => [.int .i64 (p.1 : Int), .string ⟨p.2.toArray⟩]
theorem lcells_snoc (l : List (Nat × List UInt8)) (i : Nat) (c : List UInt8) : lcells (l ++ [(i, c)]) = lcells l ++ [.int .i64 (i : Int), .string ⟨c.toArray⟩] := by simp [lcells]
theorem lcells_get (l : List (Nat × List UInt8)) : ∀ (k : Nat) (p : Nat × List UInt8), l[k]? = some p → (lcells l)[k * 2]? = some (.int .i64 (p.1 : Int)) ∧ (lcells l)[k * 2 + 1]? = some (.string ⟨p.2.toArray⟩) := by
  induction l with
  | nil => intro k p hk; simp at hk
  | cons q r ih =>
    intro k p hk
    cases k with
    | zero =>
      simp only [List.getElem?_cons_zero, Option.some.injEq] at hk
      subst hk
      exact ⟨rfl, rfl⟩
    | succ k =>
      have := ih k p (by simpa using hk)
      rw [show (k + 1) * 2 = k * 2 + 1 + 1 from by omega]
      exact this
theorem infoS9 : (Try.prog.info? 9).map (fun i => (i.zero, i.size, i.bytes)) = some (some (.string ⟨#[]⟩), 1, 16) := by kernel_rfl
theorem infoRW : (Try.prog.info? 66).map (fun i => (i.zero, i.size, i.bytes)) = some (some (.agg #[.int .i64 0, .string ⟨#[]⟩]), 2, 24) := by kernel_rfl

structure RefIn (w : World) (rb : Nat) (sv lv : Value) (D : Dk) : Prop where
  wf : D.Wf
  str : Blk w rb 42 #[sv, lv, .int .i64 (D.ops : Int), .int .i64 (D.fuse : Int), .bool D.off]
  sure : w.ownsRow 0 9 1 sv D.n (rstrs D.dur D.n)
  l : w.ownsRow 0 66 2 lv D.pend.length (lcells D.pend)
def rfeet (rb : Nat) (sv lv : Value) : Nat → Prop := fun k => k = rb ∨ sv.ownBlock = some k ∨ lv.ownBlock = some k
def RefAt (w : World) (rb : Nat) (F : Nat → Prop) (D : Dk) : Prop := ∃ sv lv, RefIn w rb sv lv D ∧ F = rfeet rb sv lv
def RLeaves (v : Value) (rb : Nat) (F : Nat → Prop) (D : Dk) (w : World) (e : Ending) (w' : World) : Prop :=
  ∃ F', e = .returned v ∧ RefAt w' rb F' D ∧ Fr F w w' ∧ ∀ k, F' k → F k ∨ w.heap.size ≤ k

theorem RefIn.ne_s {w : World} {rb : Nat} {sv lv : Value} {D : Dk} (h : RefIn w rb sv lv D) : sv.ownBlock ≠ some rb := own_blk_ne h.sure h.str (by decide)
theorem RefIn.ne_l {w : World} {rb : Nat} {sv lv : Value} {D : Dk} (h : RefIn w rb sv lv D) : lv.ownBlock ≠ some rb := own_blk_ne h.l h.str (by decide)
theorem own_own_ne {w : World} {b1 b2 : Nat} {e1 e2 : TypeId} {s1 s2 n1 n2 : Nat} {v1 v2 : Value} {x1 x2 : List Value} (h1 : w.ownsRow b1 e1 s1 v1 n1 x1) (h2 : w.ownsRow b2 e2 s2 v2 n2 x2) (hne : e1 ≠ e2) (k : Nat) (k1 : v1.ownBlock = some k) (k2 : v2.ownBlock = some k) : False := by
  rcases h2.2 with ⟨rfl, _⟩ | ⟨g, cap, cur, rfl, _, hg, _⟩
  · cases k2
  · simp only [Value.ownBlock, Option.some.injEq] at k2
    subst k2
    exact own_blk_ne h1 hg hne k1
theorem RefIn.ne_sl {w : World} {rb : Nat} {sv lv : Value} {D : Dk} (h : RefIn w rb sv lv D) (k : Nat) (h1 : sv.ownBlock = some k) (h2 : lv.ownBlock = some k) : False := own_own_ne h.sure h.l (by decide) k h1 h2
theorem RefIn.fr {F : Nat → Prop} {w w' : World} {rb : Nat} {sv lv : Value} {D : Dk} (h : RefIn w rb sv lv D) (hf : Fr F w w') (ha : ∀ k, rfeet rb sv lv k → ¬ F k) : RefIn w' rb sv lv D :=
  ⟨h.wf, h.str.fr hf (ha _ (.inl rfl)), own_fr h.sure hf (fun k hk => ha k (.inr (.inl hk))), own_fr h.l hf (fun k hk => ha k (.inr (.inr hk)))⟩
theorem RefIn.alloc {w : World} {rb : Nat} {sv lv : Value} {D : Dk} (h : RefIn w rb sv lv D) (o : Obj) : RefIn (w.alloc o) rb sv lv D := h.fr (F := fun _ => False) ((Fr.refl _ _).alloc o) (fun _ _ hh => hh)
theorem RefIn.drew {w : World} {rb : Nat} {sv lv : Value} {D : Dk} (h : RefIn w rb sv lv D) : RefIn w.drew rb sv lv D := h.fr (F := fun _ => False) (Fr.refl _ _).drew (fun _ _ hh => hh)
theorem RefIn.below {w w' : World} {rb : Nat} {sv lv : Value} {D : Dk} (h : RefIn w rb sv lv D) (hb : Below w.heap.size w w') : RefIn w' rb sv lv D := h.fr (F := fun _ => False) (Fr.of_below hb) (fun _ _ hh => hh)
/-- fields of the struct written over. -/
theorem RefIn.put {w w' : World} {rb : Nat} {sv lv : Value} {D D' : Dk} (h : RefIn w rb sv lv D) (hw : D'.Wf) (hn : D'.n = D.n) (hd : D'.dur = D.dur) (hp : D'.pend = D.pend)
    (hs : Blk w' rb 42 #[sv, lv, .int .i64 (D'.ops : Int), .int .i64 (D'.fuse : Int), .bool D'.off]) (hf : Fr (fun k => k = rb) w w') : RefIn w' rb sv lv D' := by
  refine ⟨hw, hs, ?_, ?_⟩
  · rw [hn, hd]
    exact own_fr h.sure hf (fun k hk e => h.ne_s (by rw [hk, e]))
  · rw [hp]
    exact own_fr h.l hf (fun k hk e => h.ne_l (by rw [hk, e]))
theorem rown_form {w : World} {base : Nat} {e : TypeId} {size n : Nat} {v : Value} {xs : List Value} (h : w.ownsRow base e size v n xs) : ∃ a c, v = .slice a n c := by
  rcases h.2 with ⟨rfl, rfl⟩ | ⟨g, cap, cur, rfl, _⟩
  · exact ⟨none, 0, rfl⟩
  · exact ⟨_, _, rfl⟩
/-- a row of one's own that has something lies in a block. -/
theorem own_block {w : World} {base : Nat} {e : TypeId} {size n c : Nat} {a : Option Addr} {xs : List Value} (h : w.ownsRow base e size (.slice a n c) n xs) (hn : 0 < n) :
    ∃ g, a = some ⟨g, 0, none⟩ ∧ n ≤ c ∧ (∀ j u, xs[j]? = some u → w.cell? ⟨g, j, none⟩ = some u) ∧ ∀ j, w.frozen? ⟨g, j, none⟩ = false := by
  rcases h.2 with ⟨_, h0⟩ | ⟨g, cap, cur, he, _, hg, hc, _, _, _⟩
  · omega
  · injection he with h1 _ h2
    subst h1 h2
    refine ⟨g, rfl, hc, fun j u hu => ?_, fun j => Blk.frozen (t := e) (cs := cur) hg j⟩
    have := h.cells (g := g) rfl j u hu
    rwa [Addr.add_mid, Nat.zero_add] at this
theorem own_set {w : World} {e : TypeId} {n c g i : Nat} {xs : List Value} {u : Value} (h : w.ownsRow 0 e 1 (.slice (some ⟨g, 0, none⟩) n c) n xs) (hi : i < n) : (w.setCell ⟨g, i, none⟩ u).ownsRow 0 e 1 (.slice (some ⟨g, 0, none⟩) n c) n (xs.set i u) := by
  refine ⟨by rw [List.length_set]; exact h.1, ?_⟩
  rcases h.2 with ⟨_, h0⟩ | ⟨g', cap, cur, he, hb, hg, hc, hm, hs, ht⟩
  · omega
  · injection he with h1 _ h2
    injection h1 with h1
    injection h1 with h1
    subst h1 h2
    refine .inr ⟨g, c, cur.setIfInBounds i u, rfl, hb, Blk.set_ (t := e) hg i u, hc, hm, by simpa using hs, ?_⟩
    rw [Array.toList_setIfInBounds, List.take_set, ht]

theorem bytes_string (l : List UInt8) : (ByteArray.mk l.toArray).size = l.length := by simp [ByteArray.size]

def rk64 : Array Value := madeCells (Value.int .u8 0).cells 64
theorem rk64_get (k : Nat) (hk : k < 64) : rk64[k]? = some (B8 0) := by
  have hz : ∀ m, m < 1 → ((Value.int .u8 0).cells)[m]! = B8 0 := by
    intro m hm
    obtain rfl : m = 0 := by omega
    rfl
  have hs : (Value.int .u8 0).cells.size = 1 := rfl
  unfold rk64 madeCells
  rw [Array.getElem?_map, Array.getElem?_range, if_pos hk]
  simp only [Option.map_some]
  rw [hs, hz _ (Nat.mod_lt _ (by omega))]
theorem rk64_size : rk64.size = 64 := size_madeCells _ _
theorem splice_rk64 (p : List UInt8) (h : p.length ≤ 64) : Array.splice rk64 0 (B8s p) = (B8s (pad p)).toArray := by
  have hpl := pad_len p h
  apply Array.ext_getElem?
  intro m
  rw [splice_get _ _ _ _ (by rw [B8s_length, rk64_size]; omega), B8s_length]
  show _ = (B8s (pad p)).toArray[m]?
  rw [@List.getElem?_toArray Value (B8s (pad p)) m, B8s_get (pad p) m]
  by_cases h1 : m < p.length
  · rw [if_pos (by omega), Nat.sub_zero, B8s_get, pad, over, List.getElem?_append_left h1]
  · rw [if_neg (by omega)]
    by_cases h2 : m < 64
    · rw [rk64_get m h2, pad, over, List.getElem?_append_right (by omega), List.getElem?_drop, zero64, List.getElem?_replicate, if_pos (by omega)]
      rfl
    · rw [Array.getElem?_eq_none (by rw [rk64_size]; omega), List.getElem?_eq_none (by omega)]
      rfl

set_option maxRecDepth 10000 in
set_option maxHeartbeats 1000000 in
theorem rfull (l : List UInt8) (w : World) (hl : l.length ≤ 64) :
    Calls Try.prog 26 #[.string ⟨l.toArray⟩] w fun e w' => e = .returned (.string ⟨(pad l).toArray⟩) ∧ Below w.heap.size w w' := by
  have hmk : ∀ W : World, (Instr.makeSlice 31 (.int .i64 64) (.int .i64 64)).run Try.prog W = .ok (.slice (some ⟨W.heap.size, 0, none⟩) 64 64) (W.alloc (.cells rk64 5)) := fun W =>
    run_make_all (P := Try.prog) 31 5 (.int .u8 0) 1 1 Try.underlying31 infoU8 .i64 .i64 64 (by omega) (by omega) (by omega) W
  have hcp : ∀ ty, (Builtin.copy_ #[31, 9] ty #[.slice (some ⟨w.heap.size, 0, none⟩) 64 64, .string ⟨l.toArray⟩]).run Try.prog (w.alloc (.cells rk64 5)) = .ok (goInt ((ByteArray.mk l.toArray).size : Nat)) (w.alloc (.cells (B8s (pad l)).toArray 5)) := by
    intro ty
    have hb := Blk.new w 5 rk64
    rw [run_copy_string (P := Try.prog) (w.alloc (.cells rk64 5)) 31 9 ty 5 w.heap.size 0 64 64 ⟨l.toArray⟩ Try.underlying31 (fun _ => by kernel_rfl) (by rw [bytes_string]; exact hl)
      (fun j hj => (hb.there 0 64 (by rw [rk64_size]; omega) j (by rw [bytes_string] at hj; omega)).1) (fun j hj => (hb.there 0 64 (by rw [rk64_size]; omega) j (by rw [bytes_string] at hj; omega)).2)]
    congr 1
    rw [← splice_rk64 l hl, ← setCells_new_at]
    rfl
  have hst : (convert 31 9 (.slice (some ⟨w.heap.size, 0, none⟩) 64 64)).run Try.prog (w.alloc (.cells (B8s (pad l)).toArray 5)) = .ok (.string ⟨(pad l).toArray⟩) (w.alloc (.cells (B8s (pad l)).toArray 5)) :=
    run_str_bytes _ _ _ 5 Try.underlying31 Try.underlying5 Try.underlying9 _ 64 64 _ (pad_len l hl) (Blk.new _ _ _).bytes
  have Hcp := hide hcp
  clear hcp
  go_enter Try.func26, Try.ntmps26
  go_wp2_with (rw [Hcp.out])
  go_ret
  exact ⟨rfl, (Below.refl _ _).alloc (Nat.le_refl _) _⟩

end Go.Proofs.Ytfplafdpdfhpiaa
