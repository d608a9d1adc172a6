/- Package lex: the lexer; sees, pass, fault, meaning. -/
import Derived.Test.YtfbkmjjcopjoeaaDoorNd
import Derived.Test.YtfbkmjjcopjoeaaDoorMc
import Derived.Deep.QuietTactic
import Derived.Test.YtfbkmjjcopjoeaaDoorRegionF
import Derived.Deep.LoopGhost
namespace Go.Proofs.YtfbkmjjcopjoeaaDoor
open Go.RowKit

def lexC (s : List UInt8) (i : Nat) (F : Fns) : Array Value := #[.string ⟨s.toArray⟩, .int .i64 (i : Int), F.f0, F.f1, F.f2, F.f3, F.f4, F.f5, F.f6, F.f7, F.f8, F.f9, F.f10, F.f11, F.f12]
/-- A lexer at place i of s. -/
structure LexAt (B : Nat) (w0 w : World) (xb : Nat) (s : List UInt8) (F : Fns) (i : Nat) : Prop where
  blk : Blk w xb 47 (lexC s i F)
  cls : Clss B w0 F
  fr : Below w0.heap.size w0 w
  new : w0.heap.size ≤ xb
  le : i ≤ s.length
  len : s.length ≤ 2000
section
variable {B xb i : Nat} {w0 w w' : World} {s : List UInt8} {F : Fns}
theorem LexAt.drewN (h : LexAt B w0 w xb s F i) (n : Nat) : LexAt B w0 (w.drewN n) xb s F i := ⟨h.blk.drewN n, h.cls, below_drewN h.fr n, h.new, h.le, h.len⟩
theorem LexAt.other (h : LexAt B w0 w xb s F i) (hb : Below w.heap.size w w') : LexAt B w0 w' xb s F i := ⟨h.blk.below hb h.blk.lt, h.cls, h.fr.trans (hb.mono h.fr.size), h.new, h.le, h.len⟩
theorem LexAt.move (h : LexAt B w0 w xb s F i) {j : Nat} (hj : j ≤ s.length) : LexAt B w0 (w.setCell ⟨xb, 1, none⟩ (.int .i64 (j : Int))) xb s F j :=
  ⟨h.blk.set_ 1 _, h.cls, h.fr.setCell (p := ⟨xb, 1, none⟩) h.new _, h.new, hj, h.len⟩
theorem LexAt.c0 (h : LexAt B w0 w xb s F i) : w.cell? ⟨xb, 0, none⟩ = some (.string ⟨s.toArray⟩) := h.blk.cell 0
theorem LexAt.c1 (h : LexAt B w0 w xb s F i) : w.cell? ⟨xb, 1, none⟩ = some (.int .i64 (i : Int)) := h.blk.cell 1
theorem LexAt.y1 (h : LexAt B w0 w xb s F i) : w.frozen? ⟨xb, 1, none⟩ = false := h.blk.frozen 1
end
theorem wpTree_skip {P : Program} {ops : Array Oper} {Q : Exit → Act → World → Prop} {S : World → Prop} {K : Act → World → Prop} {o : Oper} {r : TreeO} {a : Act} {w : World} (hw : Region.wanted o (yielded ops a.tmps) = false) (h : wpTree P ops Q S K r (a.put o.dst undef) w) : wpTree P ops Q S K (.read o r) a w :=
  ⟨undef, .inr ⟨hw, rfl⟩, h⟩
theorem any_get {s : List UInt8} {i : Nat} {c : UInt8} (h : s[i]? = some c) (p : UInt8 → Bool) : (s[i]?).any p = p c := by rw [h]; rfl
set_option maxRecDepth 100000 in
set_option maxHeartbeats 2000000 in
theorem sees_any {B xb i : Nat} {w0 w : World} {s : List UInt8} {F : Fns} {f : Value} {p : UInt8 → Bool} (H : LexAt B w0 w xb s F i) (hf : Cls B w0 f p) :
    Calls Tryd.prog 23 #[.pointer (some ⟨xb, 0, none⟩), f] w fun e w' => e = .returned (.bool ((s[i]?).any p)) ∧ ∃ n, w' = w.drewN n := by
  have b0 := H.c0
  have b1 := H.c1
  have hsz : (⟨s.toArray⟩ : ByteArray).size = s.length := rfl
  have hil := H.le
  have HH := hide H
  obtain ⟨k, caps, rfl, hent, hcall⟩ := hf
  clear H
  by_cases hlt : i < s.length
  · obtain ⟨c, hc⟩ : ∃ c, s[i]? = some c := ⟨_, List.getElem?_eq_getElem hlt⟩
    have hg := fun h => ba_get hc h
    have Hc := hide (fun n => hcall (w.drewN n) ((Fr.of_below HH.out.fr).drewN n) c)
    rw [any_get hc]
    have Hc2 := hide (show ∀ n, Calls Tryd.prog k (#[.int .u8 (c.toNat : Int)] ++ caps) (w.drewN n) fun e w' => e = .returned (.bool (p c)) ∧ w' = w.drewN n from fun n => (Hc.out n).mono (fun e w' ⟨h1, h2⟩ => ⟨h1, h2.symm⟩))
    clear hcall hc Hc
    go_enter Tryd.func23, Tryd.ntmps23
    go_upto_region 1 with fail
    go_quiet (exact Calls.quiet_of_same (Hc2.out _))
    go_wp2
    go_ret
    exact ⟨rfl, nq, rfl⟩
  · have hn : (s[i]?).any p = false := by rw [List.getElem?_eq_none (by omega)]; rfl
    rw [hn]
    have hff : decide (i < s.length) = false := decide_eq_false hlt
    clear hcall hn hlt hil
    go_enter Tryd.func23, Tryd.ntmps23
    go_upto_region 1 with fail
    refine wp_region_tree (fun W => W = w.drew) 23 (.read 0 (.read 1 (.read 2 (.read 3 (.read 4 (.read 5 (.read 6 (.read 7 (.read 8 (.read 9 (.read 10 (.read 11 (.read 12 (.read 13 (.read 14 (.read 15 (.read 16 (.read 17 (.read 18 (.read 19 (.read 20 (.read 21 (.read 22 .nil))))))))))))))))))))))) (by kernel_rfl) (by kernel_rfl) (fun _ _ d _ _ h => by cases d <;> exact h) rfl ?_
    simp only [Plan.ops, List.getElem?_toArray, List.getElem?_cons_zero, List.getElem?_cons_succ, Option.elim]
    refine wpTree_read rfl (fun W hW => (by subst hW; go_simp; try with_reducible rfl)) ?_
    simp only [Act.put, List.setIfInBounds_toArray, List.set_cons_zero, List.set_cons_succ]
    refine wpTree_read rfl (fun W hW => (by subst hW; go_simp; try with_reducible rfl)) ?_
    simp only [Act.put, List.setIfInBounds_toArray, List.set_cons_zero, List.set_cons_succ]
    refine wpTree_read rfl (fun W hW => (by subst hW; go_simp; try with_reducible rfl)) ?_
    simp only [Act.put, List.setIfInBounds_toArray, List.set_cons_zero, List.set_cons_succ]
    refine wpTree_read (v := .int .i64 (i : Int)) rfl (fun W hW => (by subst hW; go_simp; try with_reducible rfl)) ?_
    simp only [Act.put, List.setIfInBounds_toArray, List.set_cons_zero, List.set_cons_succ]
    refine wpTree_read rfl (fun W hW => (by subst hW; go_simp; try with_reducible rfl)) ?_
    simp only [Act.put, List.setIfInBounds_toArray, List.set_cons_zero, List.set_cons_succ]
    refine wpTree_read rfl (fun W hW => (by subst hW; go_simp; try with_reducible rfl)) ?_
    simp only [Act.put, List.setIfInBounds_toArray, List.set_cons_zero, List.set_cons_succ]
    refine wpTree_read rfl (fun W hW => (by subst hW; go_simp; try with_reducible rfl)) ?_
    simp only [Act.put, List.setIfInBounds_toArray, List.set_cons_zero, List.set_cons_succ]
    refine wpTree_read (v := .string ⟨s.toArray⟩) rfl (fun W hW => (by subst hW; go_simp; try with_reducible rfl)) ?_
    simp only [Act.put, List.setIfInBounds_toArray, List.set_cons_zero, List.set_cons_succ]
    refine wpTree_read (v := .int .i64 (s.length : Int)) rfl (fun W hW => (by subst hW; go_simp; try with_reducible rfl)) ?_
    simp only [Act.put, List.setIfInBounds_toArray, List.set_cons_zero, List.set_cons_succ]
    refine wpTree_read (v := .bool false) rfl (fun W hW => (by subst hW; go_simp; try with_reducible rfl)) ?_
    simp only [Act.put, List.setIfInBounds_toArray, List.set_cons_zero, List.set_cons_succ]
    clear hff
    refine wpTree_read rfl (fun W hW => (by subst hW; go_simp; try with_reducible rfl)) ?_
    simp only [Act.put, List.setIfInBounds_toArray, List.set_cons_zero, List.set_cons_succ]
    refine wpTree_skip rfl ?_
    simp only [Act.put, List.setIfInBounds_toArray, List.set_cons_zero, List.set_cons_succ]
    refine wpTree_skip rfl ?_
    simp only [Act.put, List.setIfInBounds_toArray, List.set_cons_zero, List.set_cons_succ]
    refine wpTree_skip rfl ?_
    simp only [Act.put, List.setIfInBounds_toArray, List.set_cons_zero, List.set_cons_succ]
    refine wpTree_skip rfl ?_
    simp only [Act.put, List.setIfInBounds_toArray, List.set_cons_zero, List.set_cons_succ]
    refine wpTree_skip rfl ?_
    simp only [Act.put, List.setIfInBounds_toArray, List.set_cons_zero, List.set_cons_succ]
    refine wpTree_skip rfl ?_
    simp only [Act.put, List.setIfInBounds_toArray, List.set_cons_zero, List.set_cons_succ]
    refine wpTree_skip rfl ?_
    simp only [Act.put, List.setIfInBounds_toArray, List.set_cons_zero, List.set_cons_succ]
    refine wpTree_skip rfl ?_
    simp only [Act.put, List.setIfInBounds_toArray, List.set_cons_zero, List.set_cons_succ]
    refine wpTree_skip rfl ?_
    simp only [Act.put, List.setIfInBounds_toArray, List.set_cons_zero, List.set_cons_succ]
    refine wpTree_skip rfl ?_
    simp only [Act.put, List.setIfInBounds_toArray, List.set_cons_zero, List.set_cons_succ]
    refine wpTree_skip rfl ?_
    simp only [Act.put, List.setIfInBounds_toArray, List.set_cons_zero, List.set_cons_succ]
    refine wpTree_read rfl (fun W hW => (by subst hW; go_simp; try with_reducible rfl)) ?_
    simp only [Act.put, List.setIfInBounds_toArray, List.set_cons_zero, List.set_cons_succ]
    refine wpTree_nil ?_
    go_wp2
    go_ret
    exact ⟨rfl, 1, rfl⟩
end Go.Proofs.YtfbkmjjcopjoeaaDoor
