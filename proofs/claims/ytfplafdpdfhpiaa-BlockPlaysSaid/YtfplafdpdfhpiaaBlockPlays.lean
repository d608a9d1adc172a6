/-
  Any calls, and falls: each answer, and every block, as the document's own answer has them: BlockPlays answers true for all numbers and scripts; no condition.
-/
import Derived.Test.YtfplafdpdfhpiaaBoth
import Derived.Deep.CutRange
import Derived.Deep.CutBlock
namespace Go.Proofs.Ytfplafdpdfhpiaa
open Go.RowKit Go.ChangeShapes Go.WideShapes Go.ChangeAt

set_option maxRecDepth 10000 in
set_option maxHeartbeats 1000000 in
theorem plays_bad (S : Option Addr) (c l : Nat) (n : Int) (w : World) (h : n < 1 ∨ 4096 < n) :
    Calls Try.prog 3 #[.int .i64 n, .slice S l c] w fun e w' => e = .returned (.bool true) ∧ Below w.heap.size w w' := by
  have H := hide h
  clear h
  go_enter Try.func3, Try.ntmps3
  go_wp2_with fail
  refine (awake_any _).mono ?_
  rintro e w1 ⟨rfl, hb1⟩
  have Hb1 := hide hb1
  clear hb1
  go_wp2_with fail
  refine (new_bad n w1 H.out).mono ?_
  rintro e w2 ⟨rfl, rfl⟩
  go_wp2_with fail
  refine (rnew_bad n w1 H.out).mono ?_
  rintro e w2 ⟨rfl, rfl⟩
  go_wp2
  go_ret
  exact ⟨rfl, Hb1.out⟩

def actCells (a : ActD) : List Value := [.int .u8 a.kind, .int .i64 a.i, .slice a.A a.p.length a.c, .int .i64 a.n, .int .i64 a.k]
theorem infoAct : (Try.prog.info? 33).map (·.size) = some 5 := by kernel_rfl
theorem ActAt.range {w : World} {g o : Nat} {a : ActD} (h : ActAt w g o a) : w.rangeAt g o (actCells a) := by
  intro j v hv
  match j, hv with
  | 0, hv => injection hv with hv; subst hv; exact h.kind
  | 1, hv => injection hv with hv; subst hv; exact h.i
  | 2, hv => injection hv with hv; subst hv; exact h.p
  | 3, hv => injection hv with hv; subst hv; exact h.n
  | 4, hv => injection hv with hv; subst hv; exact h.k
theorem actCells_one (a : ActD) : ∀ v ∈ actCells a, v.oneCell' = true := by
  intro v hv
  simp only [actCells, List.mem_cons, List.not_mem_nil, or_false] at hv
  rcases hv with rfl | rfl | rfl | rfl | rfl <;> rfl
def ZA : Array Value := #[.int .u8 0, .int .i64 0, .slice none 0 0, .int .i64 0, .int .i64 0]
theorem zeroA (W : World) : (Go.zeroValue 33).run Try.prog W = .ok (.agg ZA) W := by kernel_rfl

/-- Ahead of round j of the script. -/
def PlDone (w0 : World) (b rb n : Nat) (wr : World) : Prop := ∃ F G D, Both w0 wr b F D rb G D ∧ D.Bnd n 80
theorem Both.done {w0 w : World} {b rb n j : Nat} {F G : Nat → Prop} {D : Dk} (h : Both w0 w b F D rb G D) (hb : D.Bnd n j) (hj : j ≤ 80) : PlDone w0 b rb n w := ⟨F, G, D, h, hb.n, Nat.le_trans hb.ops hj, Nat.le_trans hb.pend hj, hb.fuse⟩
/-- The last loop: ahead of round j. -/
def SeRel (w0 : World) (b rb n : Nat) (F G : Nat → Prop) (D : Dk) (x : Value) (wr : World) : Prop :=
  ∃ j : Nat, j ≤ n ∧ j ≤ 200 ∧ x = .int .i64 j ∧ Both w0 wr b F D rb G D
def PlRel (w0 : World) (b rb n : Nat) (x : Value) (wr : World) : Prop :=
  ∃ j : Nat, j ≤ 80 ∧ x = .int .i64 j ∧ ∃ F G D, Both w0 wr b F D rb G D ∧ D.Bnd n j

set_option maxRecDepth 10000 in
set_option maxHeartbeats 2000000 in
theorem plays_ok (S : Option Addr) (c : Nat) (xs : List ActD) (n : Nat) (w : World) (h1 : 1 ≤ n) (h2 : n ≤ 4096) (hx : Acts w S xs) (hxl : xs.length ≤ 9223372036854775807) :
    Calls Try.prog 3 #[.int .i64 n, .slice S xs.length c] w fun e w' => e = .returned (.bool true) ∧ Below w.heap.size w w' := by
  have Hx := hide hx
  clear hx
  go_enter Try.func3, Try.ntmps3
  go_wp2_with fail
  refine (awake_any _).mono ?_
  rintro e w1 ⟨rfl, hb1⟩
  have Hb1 := hide hb1
  clear hb1
  go_wp2_with fail
  refine (new_any n w1 h1 h2).mono ?_
  intro e w2 hn
  obtain ⟨b, F, rfl, hon, hbw, _⟩ := On.of_new Hb1.out hn
  have Hon := hide hon
  clear hon hn hbw
  go_wp2_with fail
  refine (rnew_ok n w2 h1 h2).mono ?_
  rintro e w3 ⟨rb, sv, lv, rfl, hr, hbw, hG⟩
  have hboth : Both w w3 b F (Dk.new n) rb (rfeet rb sv lv) (Dk.new n) :=
    ⟨Hon.out.fr (G := fun _ => False) (Fr.of_below hbw) (fun _ _ h => h) (fun _ h => h.elim), ⟨sv, lv, hr, rfl⟩, fun k hk => Nat.le_trans Hon.out.below.size (hG k hk), fun k hk hg => by
      have h1 := Hon.out.lt k hk
      have h2 := hG k hg
      omega⟩
  have Hboth := hide hboth
  clear hboth hr hbw hG Hon Hb1
  go_upto_block 0 with fail
  go_cut [9] from 49 to 188 (fun _ w' => PlDone w b rb n w')
  case first =>
   go_wp2_with fail
   go_loopw [9] (fun i wr => PlRel w b rb n i wr) (fun i _ => 80 - (intOf i).toNat)
   case atStart => exact ⟨0, by omega, rfl, _, _, _, Hboth.out, ⟨rfl, Nat.le_refl _, Nat.le_refl _, Nat.zero_le _⟩⟩
   case round =>
     obtain ⟨j, hj, rfl, Fj, Gj, D, hboth, hbnd⟩ := hrel
     clear Hboth
     have Hboth := hide hboth
     have Hbnd := hide hbnd
     clear hboth hbnd
     by_cases hl : j < xs.length
     · by_cases h80 : j < 80
       · obtain ⟨a, ha⟩ : ∃ a, xs[j]? = some a := ⟨_, List.getElem?_eq_getElem hl⟩
         obtain ⟨g, o, rfl, hat⟩ : ∃ g o, S = some ⟨g, o, none⟩ ∧ ActAt w g (o + j * 5) a := by
           rcases Hx.out with h | ⟨g, o, h1, h2⟩
           · rw [h] at hl; simp at hl
           · exact ⟨g, o, h1, h2 j a ha⟩
         have hat2 := hat.below Hboth.out.below
         have Hr := hide hat2.range
         have Hat := hide hat
         have za := zeroA
         clear hat hat2 ha
         go_upto_region 12 with (first
           | (refine wpList_load_mid rfl 33 (.tmp 61) rfl g (o + j * 5) rfl _ _ Hr.out Try.underlying33 rfl infoAct ?_)
           | (refine wpList_store_mid rfl 33 (.tmp 10) (.tmp 62) rfl wr.heap.size 0 _ rfl rfl (there_new _ _ _ _ (by show 5 ≤ 5; omega)) (show _ = some (actCells a).toArray.size from infoAct) (all_oneCell_toArray (actCells_one a)) ?_
              rw [List.toList_toArray, setCells_new _ _ _ _ (by rfl)]))
         have hp4 : Play w (wr.alloc (.cells (actCells a).toArray 33)) b Fj D rb Gj D wr.heap.size 33 (actCells a).toArray :=
           ⟨Hboth.out.quiet ((Fr.refl _ _).alloc _), Blk.new _ _ _, fun hk => by have := Hboth.out.on.lt _ hk; omega, fun hk => by have := Hboth.out.ref.lt _ hk; omega, Hboth.out.below.size⟩
         obtain ⟨w4, hw4⟩ : ∃ w4, w4 = wr.alloc (.cells (actCells a).toArray 33) := ⟨_, rfl⟩
         rw [← hw4] at hp4 ⊢
         generalize wr.heap.size = ga at hp4 ⊢
         clear hw4 za Hr Hboth
         have k0 : w4.cell? ⟨ga, 0, none⟩ = some (.int .u8 a.kind) := hp4.blk.cell 0
         have hk0 := Hat.out.kwf.1
         have hk1 := Hat.out.kwf.2
         have Hp4 := hide hp4
         clear hp4
         go_upto_block 2 with fail
         obtain ⟨q, hq⟩ : ∃ q, q = a.kind % 10 := ⟨_, rfl⟩
         try rw [← Int.tmod_eq_emod_of_nonneg hk0] at hq
         first | rw [← hq] | (rw [Int.tmod_eq_emod_of_nonneg hk0] at hq; rw [← hq]) | (set_option pp.deepTerms true in set_option pp.maxSteps 1000000 in trace_state)
         have hq0 : q = 0 ∨ q = 1 ∨ q = 2 ∨ q = 3 ∨ q = 4 ∨ q = 5 ∨ q = 6 ∨ q = 7 ∨ q = 8 ∨ q = 9 := by
           try rw [Int.tmod_eq_emod_of_nonneg hk0] at hq
           omega
         clear hq
         go_cut [11] from 66 to 127 (fun s w' => s = .bool true ∧ Turn w b rb n (j + 1) ga 33 (actCells a).toArray w')
         case first =>
           have k3 : w4.cell? ⟨ga, 3, none⟩ = some (.int .i64 a.n) := Hp4.out.blk.cell 3
           have k4 : w4.cell? ⟨ga, 4, none⟩ = some (.int .i64 a.k) := Hp4.out.blk.cell 4
           clear hk0 hk1 k0
           rcases hq0 with rfl | rfl | rfl | rfl | rfl | rfl | rfl | rfl | rfl | rfl
           · go_upto_region 18 with fail
             refine wp_region_heldP (fun W => W.cell? ⟨ga, 1, none⟩ = some (.int .i64 a.i) ∧ W.cell? ⟨ga, 2, none⟩ = some (.slice a.A a.p.length a.c)) 12 [0, 1, 2, 3, 4, 6, 7, 8, 9, 10] [5, 11] (by kernel_rfl) (by kernel_rfl) (fun _ _ d _ _ h => by cases d <;> exact h) ⟨Hp4.out.blk.cell 1, Hp4.out.blk.cell 2⟩ ?_
             simp only [opsAt, List.getElem?_toArray, List.filterMap_cons, List.filterMap_nil, List.getElem?_cons_zero, List.getElem?_cons_succ, List.drop_succ_cons, List.drop_zero]
             iterate 2 (refine wpReads_yield rfl (fun W hW => (by go_simp; try with_reducible rfl)) ?_)
             refine wpReads_yield rfl (fun W hW => (by obtain ⟨hW1, hW2⟩ := hW; go_simp; try with_reducible rfl)) ?_
             refine wpReads_yield rfl (fun W hW => (by go_simp; try with_reducible rfl)) ?_
             refine wpReads_yield rfl (fun W hW => (by obtain ⟨hW1, hW2⟩ := hW; go_simp; try with_reducible rfl)) ?_
             iterate 2 (refine wpReads_yield rfl (fun W hW => (by go_simp; try with_reducible rfl)) ?_)
             refine wpReads_yield rfl (fun W hW => (by obtain ⟨hW1, hW2⟩ := hW; go_simp; try with_reducible rfl)) ?_
             refine wpReads_yield rfl (fun W hW => (by go_simp; try with_reducible rfl)) ?_
             refine wpReads_yield rfl (fun W hW => (by obtain ⟨hW1, hW2⟩ := hW; go_simp; try with_reducible rfl)) ?_
             refine wpReads_nil ?_
             simp only [Act.put, List.setIfInBounds_toArray, List.set_cons_zero, List.set_cons_succ]
             refine wpHeld_cons rfl (fun K hK => ?_)
             refine wp_call_of 13 #[.pointer (some ⟨b, 0, none⟩), .int .i64 a.i, .slice a.A a.p.length a.c] (by kernel_rfl) ((Hp4.out.quiet (Fr.refl _ _).drew).write a.i a.A a.c a.p Hat.out.bytes (Hbnd.out.small (by omega))) ?_
             rintro e w5 ⟨rfl, F5, hp5⟩
             refine ⟨_, rfl, hK _ _ ⟨hp5.blk.cell 1, hp5.blk.cell 2⟩ ?_⟩
             clear hK
             simp only [Act.put, List.setIfInBounds_toArray, List.set_cons_zero, List.set_cons_succ]
             refine wpHeld_cons rfl (fun K hK => ?_)
             refine wp_call_of 14 #[.pointer (some ⟨rb, 0, none⟩), .int .i64 a.i, .slice a.A a.p.length a.c] (by kernel_rfl) (hp5.rwrite a.i a.A a.c a.p Hat.out.bytes (Hbnd.out.small (by omega))) ?_
             rintro e w6 ⟨rfl, G6, hp6⟩
             refine ⟨_, rfl, hK _ _ ⟨hp6.blk.cell 1, hp6.blk.cell 2⟩ ?_⟩
             clear hK
             refine wpHeld_nil ?_
             simp only [Act.put, List.setIfInBounds_toArray, List.set_cons_zero, List.set_cons_succ]
             have Ht := hide (show Turn w b rb n (j + 1) ga 33 (actCells a).toArray w6 from ⟨_, _, _, hp6, Hbnd.out.write _ _⟩)
             generalize Dk.writeE _ _ _ = ew
             clear hp5 hp6
             go_wp2
             go_meet
             case rel => exact ⟨rfl, Ht.out⟩
           · go_upto_region 18 with fail
             refine wp_region_heldP (fun W => W.cell? ⟨ga, 1, none⟩ = some (.int .i64 a.i) ∧ W.cell? ⟨ga, 2, none⟩ = some (.slice a.A a.p.length a.c)) 12 [0, 1, 2, 3, 4, 6, 7, 8, 9, 10] [5, 11] (by kernel_rfl) (by kernel_rfl) (fun _ _ d _ _ h => by cases d <;> exact h) ⟨Hp4.out.blk.cell 1, Hp4.out.blk.cell 2⟩ ?_
             simp only [opsAt, List.getElem?_toArray, List.filterMap_cons, List.filterMap_nil, List.getElem?_cons_zero, List.getElem?_cons_succ, List.drop_succ_cons, List.drop_zero]
             iterate 2 (refine wpReads_yield rfl (fun W hW => (by go_simp; try with_reducible rfl)) ?_)
             refine wpReads_yield rfl (fun W hW => (by obtain ⟨hW1, hW2⟩ := hW; go_simp; try with_reducible rfl)) ?_
             refine wpReads_yield rfl (fun W hW => (by go_simp; try with_reducible rfl)) ?_
             refine wpReads_yield rfl (fun W hW => (by obtain ⟨hW1, hW2⟩ := hW; go_simp; try with_reducible rfl)) ?_
             iterate 2 (refine wpReads_yield rfl (fun W hW => (by go_simp; try with_reducible rfl)) ?_)
             refine wpReads_yield rfl (fun W hW => (by obtain ⟨hW1, hW2⟩ := hW; go_simp; try with_reducible rfl)) ?_
             refine wpReads_yield rfl (fun W hW => (by go_simp; try with_reducible rfl)) ?_
             refine wpReads_yield rfl (fun W hW => (by obtain ⟨hW1, hW2⟩ := hW; go_simp; try with_reducible rfl)) ?_
             refine wpReads_nil ?_
             simp only [Act.put, List.setIfInBounds_toArray, List.set_cons_zero, List.set_cons_succ]
             refine wpHeld_cons rfl (fun K hK => ?_)
             refine wp_call_of 13 #[.pointer (some ⟨b, 0, none⟩), .int .i64 a.i, .slice a.A a.p.length a.c] (by kernel_rfl) ((Hp4.out.quiet (Fr.refl _ _).drew).write a.i a.A a.c a.p Hat.out.bytes (Hbnd.out.small (by omega))) ?_
             rintro e w5 ⟨rfl, F5, hp5⟩
             refine ⟨_, rfl, hK _ _ ⟨hp5.blk.cell 1, hp5.blk.cell 2⟩ ?_⟩
             clear hK
             simp only [Act.put, List.setIfInBounds_toArray, List.set_cons_zero, List.set_cons_succ]
             refine wpHeld_cons rfl (fun K hK => ?_)
             refine wp_call_of 14 #[.pointer (some ⟨rb, 0, none⟩), .int .i64 a.i, .slice a.A a.p.length a.c] (by kernel_rfl) (hp5.rwrite a.i a.A a.c a.p Hat.out.bytes (Hbnd.out.small (by omega))) ?_
             rintro e w6 ⟨rfl, G6, hp6⟩
             refine ⟨_, rfl, hK _ _ ⟨hp6.blk.cell 1, hp6.blk.cell 2⟩ ?_⟩
             clear hK
             refine wpHeld_nil ?_
             simp only [Act.put, List.setIfInBounds_toArray, List.set_cons_zero, List.set_cons_succ]
             have Ht := hide (show Turn w b rb n (j + 1) ga 33 (actCells a).toArray w6 from ⟨_, _, _, hp6, Hbnd.out.write _ _⟩)
             generalize Dk.writeE _ _ _ = ew
             clear hp5 hp6
             go_wp2
             go_meet
             case rel => exact ⟨rfl, Ht.out⟩
           · go_upto_region 18 with fail
             refine wp_region_heldP (fun W => W.cell? ⟨ga, 1, none⟩ = some (.int .i64 a.i) ∧ W.cell? ⟨ga, 2, none⟩ = some (.slice a.A a.p.length a.c)) 12 [0, 1, 2, 3, 4, 6, 7, 8, 9, 10] [5, 11] (by kernel_rfl) (by kernel_rfl) (fun _ _ d _ _ h => by cases d <;> exact h) ⟨Hp4.out.blk.cell 1, Hp4.out.blk.cell 2⟩ ?_
             simp only [opsAt, List.getElem?_toArray, List.filterMap_cons, List.filterMap_nil, List.getElem?_cons_zero, List.getElem?_cons_succ, List.drop_succ_cons, List.drop_zero]
             iterate 2 (refine wpReads_yield rfl (fun W hW => (by go_simp; try with_reducible rfl)) ?_)
             refine wpReads_yield rfl (fun W hW => (by obtain ⟨hW1, hW2⟩ := hW; go_simp; try with_reducible rfl)) ?_
             refine wpReads_yield rfl (fun W hW => (by go_simp; try with_reducible rfl)) ?_
             refine wpReads_yield rfl (fun W hW => (by obtain ⟨hW1, hW2⟩ := hW; go_simp; try with_reducible rfl)) ?_
             iterate 2 (refine wpReads_yield rfl (fun W hW => (by go_simp; try with_reducible rfl)) ?_)
             refine wpReads_yield rfl (fun W hW => (by obtain ⟨hW1, hW2⟩ := hW; go_simp; try with_reducible rfl)) ?_
             refine wpReads_yield rfl (fun W hW => (by go_simp; try with_reducible rfl)) ?_
             refine wpReads_yield rfl (fun W hW => (by obtain ⟨hW1, hW2⟩ := hW; go_simp; try with_reducible rfl)) ?_
             refine wpReads_nil ?_
             simp only [Act.put, List.setIfInBounds_toArray, List.set_cons_zero, List.set_cons_succ]
             refine wpHeld_cons rfl (fun K hK => ?_)
             refine wp_call_of 13 #[.pointer (some ⟨b, 0, none⟩), .int .i64 a.i, .slice a.A a.p.length a.c] (by kernel_rfl) ((Hp4.out.quiet (Fr.refl _ _).drew).write a.i a.A a.c a.p Hat.out.bytes (Hbnd.out.small (by omega))) ?_
             rintro e w5 ⟨rfl, F5, hp5⟩
             refine ⟨_, rfl, hK _ _ ⟨hp5.blk.cell 1, hp5.blk.cell 2⟩ ?_⟩
             clear hK
             simp only [Act.put, List.setIfInBounds_toArray, List.set_cons_zero, List.set_cons_succ]
             refine wpHeld_cons rfl (fun K hK => ?_)
             refine wp_call_of 14 #[.pointer (some ⟨rb, 0, none⟩), .int .i64 a.i, .slice a.A a.p.length a.c] (by kernel_rfl) (hp5.rwrite a.i a.A a.c a.p Hat.out.bytes (Hbnd.out.small (by omega))) ?_
             rintro e w6 ⟨rfl, G6, hp6⟩
             refine ⟨_, rfl, hK _ _ ⟨hp6.blk.cell 1, hp6.blk.cell 2⟩ ?_⟩
             clear hK
             refine wpHeld_nil ?_
             simp only [Act.put, List.setIfInBounds_toArray, List.set_cons_zero, List.set_cons_succ]
             have Ht := hide (show Turn w b rb n (j + 1) ga 33 (actCells a).toArray w6 from ⟨_, _, _, hp6, Hbnd.out.write _ _⟩)
             generalize Dk.writeE _ _ _ = ew
             clear hp5 hp6
             go_wp2
             go_meet
             case rel => exact ⟨rfl, Ht.out⟩
           · go_upto_region 18 with fail
             refine wp_region_heldP (fun W => W.cell? ⟨ga, 1, none⟩ = some (.int .i64 a.i) ∧ W.cell? ⟨ga, 2, none⟩ = some (.slice a.A a.p.length a.c)) 12 [0, 1, 2, 3, 4, 6, 7, 8, 9, 10] [5, 11] (by kernel_rfl) (by kernel_rfl) (fun _ _ d _ _ h => by cases d <;> exact h) ⟨Hp4.out.blk.cell 1, Hp4.out.blk.cell 2⟩ ?_
             simp only [opsAt, List.getElem?_toArray, List.filterMap_cons, List.filterMap_nil, List.getElem?_cons_zero, List.getElem?_cons_succ, List.drop_succ_cons, List.drop_zero]
             iterate 2 (refine wpReads_yield rfl (fun W hW => (by go_simp; try with_reducible rfl)) ?_)
             refine wpReads_yield rfl (fun W hW => (by obtain ⟨hW1, hW2⟩ := hW; go_simp; try with_reducible rfl)) ?_
             refine wpReads_yield rfl (fun W hW => (by go_simp; try with_reducible rfl)) ?_
             refine wpReads_yield rfl (fun W hW => (by obtain ⟨hW1, hW2⟩ := hW; go_simp; try with_reducible rfl)) ?_
             iterate 2 (refine wpReads_yield rfl (fun W hW => (by go_simp; try with_reducible rfl)) ?_)
             refine wpReads_yield rfl (fun W hW => (by obtain ⟨hW1, hW2⟩ := hW; go_simp; try with_reducible rfl)) ?_
             refine wpReads_yield rfl (fun W hW => (by go_simp; try with_reducible rfl)) ?_
             refine wpReads_yield rfl (fun W hW => (by obtain ⟨hW1, hW2⟩ := hW; go_simp; try with_reducible rfl)) ?_
             refine wpReads_nil ?_
             simp only [Act.put, List.setIfInBounds_toArray, List.set_cons_zero, List.set_cons_succ]
             refine wpHeld_cons rfl (fun K hK => ?_)
             refine wp_call_of 13 #[.pointer (some ⟨b, 0, none⟩), .int .i64 a.i, .slice a.A a.p.length a.c] (by kernel_rfl) ((Hp4.out.quiet (Fr.refl _ _).drew).write a.i a.A a.c a.p Hat.out.bytes (Hbnd.out.small (by omega))) ?_
             rintro e w5 ⟨rfl, F5, hp5⟩
             refine ⟨_, rfl, hK _ _ ⟨hp5.blk.cell 1, hp5.blk.cell 2⟩ ?_⟩
             clear hK
             simp only [Act.put, List.setIfInBounds_toArray, List.set_cons_zero, List.set_cons_succ]
             refine wpHeld_cons rfl (fun K hK => ?_)
             refine wp_call_of 14 #[.pointer (some ⟨rb, 0, none⟩), .int .i64 a.i, .slice a.A a.p.length a.c] (by kernel_rfl) (hp5.rwrite a.i a.A a.c a.p Hat.out.bytes (Hbnd.out.small (by omega))) ?_
             rintro e w6 ⟨rfl, G6, hp6⟩
             refine ⟨_, rfl, hK _ _ ⟨hp6.blk.cell 1, hp6.blk.cell 2⟩ ?_⟩
             clear hK
             refine wpHeld_nil ?_
             simp only [Act.put, List.setIfInBounds_toArray, List.set_cons_zero, List.set_cons_succ]
             have Ht := hide (show Turn w b rb n (j + 1) ga 33 (actCells a).toArray w6 from ⟨_, _, _, hp6, Hbnd.out.write _ _⟩)
             generalize Dk.writeE _ _ _ = ew
             clear hp5 hp6
             go_wp2
             go_meet
             case rel => exact ⟨rfl, Ht.out⟩
           · go_upto_region 18 with fail
             refine wp_region_heldP (fun W => W.cell? ⟨ga, 1, none⟩ = some (.int .i64 a.i) ∧ W.cell? ⟨ga, 2, none⟩ = some (.slice a.A a.p.length a.c)) 12 [0, 1, 2, 3, 4, 6, 7, 8, 9, 10] [5, 11] (by kernel_rfl) (by kernel_rfl) (fun _ _ d _ _ h => by cases d <;> exact h) ⟨Hp4.out.blk.cell 1, Hp4.out.blk.cell 2⟩ ?_
             simp only [opsAt, List.getElem?_toArray, List.filterMap_cons, List.filterMap_nil, List.getElem?_cons_zero, List.getElem?_cons_succ, List.drop_succ_cons, List.drop_zero]
             iterate 2 (refine wpReads_yield rfl (fun W hW => (by go_simp; try with_reducible rfl)) ?_)
             refine wpReads_yield rfl (fun W hW => (by obtain ⟨hW1, hW2⟩ := hW; go_simp; try with_reducible rfl)) ?_
             refine wpReads_yield rfl (fun W hW => (by go_simp; try with_reducible rfl)) ?_
             refine wpReads_yield rfl (fun W hW => (by obtain ⟨hW1, hW2⟩ := hW; go_simp; try with_reducible rfl)) ?_
             iterate 2 (refine wpReads_yield rfl (fun W hW => (by go_simp; try with_reducible rfl)) ?_)
             refine wpReads_yield rfl (fun W hW => (by obtain ⟨hW1, hW2⟩ := hW; go_simp; try with_reducible rfl)) ?_
             refine wpReads_yield rfl (fun W hW => (by go_simp; try with_reducible rfl)) ?_
             refine wpReads_yield rfl (fun W hW => (by obtain ⟨hW1, hW2⟩ := hW; go_simp; try with_reducible rfl)) ?_
             refine wpReads_nil ?_
             simp only [Act.put, List.setIfInBounds_toArray, List.set_cons_zero, List.set_cons_succ]
             refine wpHeld_cons rfl (fun K hK => ?_)
             refine wp_call_of 13 #[.pointer (some ⟨b, 0, none⟩), .int .i64 a.i, .slice a.A a.p.length a.c] (by kernel_rfl) ((Hp4.out.quiet (Fr.refl _ _).drew).write a.i a.A a.c a.p Hat.out.bytes (Hbnd.out.small (by omega))) ?_
             rintro e w5 ⟨rfl, F5, hp5⟩
             refine ⟨_, rfl, hK _ _ ⟨hp5.blk.cell 1, hp5.blk.cell 2⟩ ?_⟩
             clear hK
             simp only [Act.put, List.setIfInBounds_toArray, List.set_cons_zero, List.set_cons_succ]
             refine wpHeld_cons rfl (fun K hK => ?_)
             refine wp_call_of 14 #[.pointer (some ⟨rb, 0, none⟩), .int .i64 a.i, .slice a.A a.p.length a.c] (by kernel_rfl) (hp5.rwrite a.i a.A a.c a.p Hat.out.bytes (Hbnd.out.small (by omega))) ?_
             rintro e w6 ⟨rfl, G6, hp6⟩
             refine ⟨_, rfl, hK _ _ ⟨hp6.blk.cell 1, hp6.blk.cell 2⟩ ?_⟩
             clear hK
             refine wpHeld_nil ?_
             simp only [Act.put, List.setIfInBounds_toArray, List.set_cons_zero, List.set_cons_succ]
             have Ht := hide (show Turn w b rb n (j + 1) ga 33 (actCells a).toArray w6 from ⟨_, _, _, hp6, Hbnd.out.write _ _⟩)
             generalize Dk.writeE _ _ _ = ew
             clear hp5 hp6
             go_wp2
             go_meet
             case rel => exact ⟨rfl, Ht.out⟩
           · go_wp2_with fail
             refine (Hp4.out.sync (Hbnd.out.small (by omega))).mono ?_
             rintro e w5 ⟨rfl, F5, hp5⟩
             have Hp5 := hide hp5
             clear hp5
             go_wp2_with fail
             refine (Hp5.out.rsync (Hbnd.out.small (by omega))).mono ?_
             rintro e w6 ⟨rfl, G6, hp6⟩
             have Ht := hide (show Turn w b rb n (j + 1) ga 33 (actCells a).toArray w6 from ⟨_, _, _, hp6, Hbnd.out.sync⟩)
             generalize Dk.syncE _ = ew
             clear hp6 Hp5
             go_wp2
             go_meet
             case rel => exact ⟨rfl, Ht.out⟩
           · go_wp2_with fail
             refine (Hp4.out.sync (Hbnd.out.small (by omega))).mono ?_
             rintro e w5 ⟨rfl, F5, hp5⟩
             have Hp5 := hide hp5
             clear hp5
             go_wp2_with fail
             refine (Hp5.out.rsync (Hbnd.out.small (by omega))).mono ?_
             rintro e w6 ⟨rfl, G6, hp6⟩
             have Ht := hide (show Turn w b rb n (j + 1) ga 33 (actCells a).toArray w6 from ⟨_, _, _, hp6, Hbnd.out.sync⟩)
             generalize Dk.syncE _ = ew
             clear hp6 Hp5
             go_wp2
             go_meet
             case rel => exact ⟨rfl, Ht.out⟩
           · by_cases hneg : a.n < 0
             · have ha1 : Dk.armE a.n = 1 := if_pos hneg
               have ha2 : D.armD a.n = D := if_pos hneg
               have Ha1 := hide ha1
               have Ha2 := hide ha2
               clear ha1 ha2
               go_wp2_with fail
               refine (Hp4.out.arm a.n).mono ?_
               rintro e w5 ⟨rfl, F5, hp5⟩
               rw [Ha2.out] at hp5
               rw [Ha1.out]
               have Ht := hide (show Turn w b rb n (j + 1) ga 33 (actCells a).toArray w5 from ⟨_, _, _, hp5, Hbnd.out.more⟩)
               clear hp5
               go_wp2
               go_meet
               case rel => exact ⟨rfl, Ht.out⟩
             · have ha1 : Dk.armE a.n = 0 := if_neg hneg
               have ha2 : D.armD a.n = { D with fuse := a.n.toNat } := if_neg hneg
               have Ha1 := hide ha1
               have Ha2 := hide ha2
               obtain ⟨sv, la, lc, f0, f1, f2, f3, f4, z3⟩ := Hp4.out.both.ref.fields
               clear ha1 ha2 f0 f1 f2 f4
               go_upto_region 26 with fail
               have hp5 := Hp4.out.left a.n (by omega)
               obtain ⟨w5, hw5⟩ : ∃ w5, w5 = w4.setCell ⟨rb, 3, none⟩ (.int .i64 a.n) := ⟨_, rfl⟩
               rw [← hw5] at hp5 ⊢
               have k3' : w5.cell? ⟨ga, 3, none⟩ = some (.int .i64 a.n) := hp5.blk.cell 3
               have Hp5 := hide hp5
               clear hp5 hw5 k3 k4 f3 z3
               go_wp2_with fail
               refine (Hp5.out.arm a.n).mono ?_
               rintro e w6 ⟨rfl, F6, hp6⟩
               rw [Ha1.out]
               rw [Ha2.out] at hp6
               have hbn : ({ D with fuse := a.n.toNat } : Dk).Bnd n (j + 1) := by
                 have := Hbnd.out.arm a.n Hat.out.nwf.2
                 rwa [Ha2.out] at this
               have Ht := hide (show Turn w b rb n (j + 1) ga 33 (actCells a).toArray w6 from ⟨_, _, _, hp6, hbn⟩)
               clear hp6 Hp5 hbn
               go_wp2
               go_meet
               case rel => exact ⟨rfl, Ht.out⟩
           · go_wp2_with fail
             refine (Hp4.out.rrestart a.n a.k (Hbnd.out.small (by omega))).mono ?_
             rintro e w5 ⟨rfl, G5, hp5⟩
             have k3' : w5.cell? ⟨ga, 3, none⟩ = some (.int .i64 a.n) := hp5.blk.cell 3
             have k4' : w5.cell? ⟨ga, 4, none⟩ = some (.int .i64 a.k) := hp5.blk.cell 4
             have Hp5 := hide hp5
             clear hp5 k3 k4
             go_wp2_with fail
             refine (Hp5.out.restart a.n a.k (Hbnd.out.small (by omega))).mono ?_
             rintro e w6 ⟨rfl, F6, hp6⟩
             have Ht := hide (show Turn w b rb n (j + 1) ga 33 (actCells a).toArray w6 from ⟨_, _, _, hp6, Hbnd.out.restart _ _⟩)
             clear hp6 Hp5
             go_wp2
             go_meet
             case rel => exact ⟨rfl, Ht.out⟩
           · have Ht := hide (show Turn w b rb n (j + 1) ga 33 (actCells a).toArray w4 from ⟨_, _, _, Hp4.out, Hbnd.out.more⟩)
             go_wp2
             go_meet
             case rel => exact ⟨rfl, Ht.out⟩
         case rest =>
           obtain ⟨rfl, F5, G5, D5, hp5, hbnd5⟩ := hcut
           clear Hp4 Hbnd hq0 hk0 hk1 k0
           have ki : wc.cell? ⟨ga, 1, none⟩ = some (.int .i64 a.i) := hp5.blk.cell 1
           go_wp2_with fail
           refine (read_all b F5 D5 a.i wc hp5.both.on.disk).mono ?_
           rintro e w6 (⟨hr, rfl, rfl⟩ | ⟨hr, rfl, rfl⟩)
           · obtain ⟨sv0, lv0, hr0, _⟩ := hp5.both.ref
             have cr := rread_all rb sv0 lv0 D5 a.i wc hr0 (by have := hbnd5.pend; omega)
             have Cr := hide cr
             have Hr := hide hr
             clear hr0 cr hr
             generalize hrf : refuse D5 a.i = rf at *
             go_wp2_with fail
             refine Cr.out.mono ?_
             rintro e w7 ⟨⟨_, rfl⟩ | ⟨h0, _⟩, rfl⟩
             rotate_left
             · exact absurd (hrf ▸ h0) Hr.out
             rw [hrf]
             clear hrf Cr Hr
             obtain ⟨sv, la, lc, f0, f1, f2, f3, f4, z3⟩ := (hp5.both).ref.fields
             have hwait := hide (Both.wait (hp5.both))
             have hops := hide (Both.ops (hp5.both))
             have hon := hide (Both.on_ (hp5.both))
             have hlen := hide (show ∀ m, Calls Try.prog 25 #[.pointer (some ⟨b, 0, none⟩)] ((w7).drewN m) (fun e w' => e = .returned (.int .i64 (n : Int)) ∧ w' = (w7).drewN m) from fun m => by
               have := Both.len (hp5.both) m
               rwa [hbnd5.n] at this)
             have hcv : ∀ n, (convert 31 9 (.slice none 0 0)).run Try.prog (w7.drewN n) = .ok (.string ⟨#[]⟩) (w7.drewN n) := fun n => run_str_bytes _ _ _ 5 Try.underlying31 Try.underlying5 Try.underlying9 none 0 0 [] rfl (.inl rfl)
             have Hq := hide hp5.both
             have Hbnd5 := hide hbnd5
             clear f0 f3 z3 hp5 hbnd5
             go_upto_region 32 with fail
             go_quiet ((first | (go_at_call 22; exact Calls.quiet_of_same (hwait.out _)) | (go_at_call 23; exact Calls.quiet_of_same (hops.out _)) | (go_at_call 24; exact Calls.quiet_of_same (hon.out _)) | (go_at_call 25; exact Calls.quiet_of_same (hlen.out _))))
             have Hq2 := hide (Hq.out.drewN nq)
             clear Hq hwait hops hon hlen
             go_wp2
             go_roundw
             case rel => exact ⟨j + 1, by omega, by go_num, F5, G5, D5, Hq2.out, Hbnd5.out⟩
             case measure => (simp [intOf]; try omega)
           · have hv64 : (view D5.dur D5.pend a.i.toNat).length = 64 := hp5.both.on.disk.wf.vlen _
             have hq6 : Both w (wc.alloc (.cells (B8s (view D5.dur D5.pend a.i.toNat)).toArray 5)) b F5 D5 rb G5 D5 := hp5.both.quiet ((Fr.refl _ _).alloc _)
             have hbl := Blk.new wc 5 (B8s (view D5.dur D5.pend a.i.toNat)).toArray
             have ki6 : (wc.alloc (.cells (B8s (view D5.dur D5.pend a.i.toNat)).toArray 5)).cell? ⟨ga, 1, none⟩ = some (.int .i64 a.i) := (hp5.blk.alloc _).cell 1
             obtain ⟨w6, hw6⟩ : ∃ w6, w6 = wc.alloc (.cells (B8s (view D5.dur D5.pend a.i.toNat)).toArray 5) := ⟨_, rfl⟩
             rw [← hw6] at hq6 hbl ki6 ⊢
             obtain ⟨sv0, lv0, hr0, _⟩ := hq6.ref
             have cr := rread_all rb sv0 lv0 D5 a.i w6 hr0 (by have := hbnd5.pend; omega)
             have Cr := hide cr
             have Hr := hide hr
             have Hbl := hide hbl
             have Hv64 := hide hv64
             have Hq6 := hide hq6
             clear hr0 cr hr hw6 hbl hv64 hq6 ki
             go_wp2_with fail
             refine Cr.out.mono ?_
             rintro e w7 ⟨⟨h0, _⟩ | ⟨_, rfl⟩, rfl⟩
             · exact absurd Hr.out h0
             have hq6 := Hq6.out
             clear Cr Hr Hq6
             generalize view D5.dur D5.pend a.i.toNat = vv at *
             obtain ⟨sv, la, lc, f0, f1, f2, f3, f4, z3⟩ := (hq6).ref.fields
             have hwait := hide (Both.wait (hq6))
             have hops := hide (Both.ops (hq6))
             have hon := hide (Both.on_ (hq6))
             have hlen := hide (show ∀ m, Calls Try.prog 25 #[.pointer (some ⟨b, 0, none⟩)] ((w7).drewN m) (fun e w' => e = .returned (.int .i64 (n : Int)) ∧ w' = (w7).drewN m) from fun m => by
               have := Both.len (hq6) m
               rwa [hbnd5.n] at this)
             have hcv : ∀ n, (convert 31 9 (.slice (some ⟨wc.heap.size, 0, none⟩) 64 64)).run Try.prog (w7.drewN n) = .ok (.string ⟨vv.toArray⟩) (w7.drewN n) := fun n => run_str_bytes _ _ _ 5 Try.underlying31 Try.underlying5 Try.underlying9 _ 64 64 vv Hv64.out ((Hbl.out.drewN n).bytes)
             have Hq := hide hq6
             have Hbnd5 := hide hbnd5
             clear f0 f3 z3 hq6 hp5 hbnd5
             go_upto_region 32 with fail
             go_quiet ((first | (go_at_call 22; exact Calls.quiet_of_same (hwait.out _)) | (go_at_call 23; exact Calls.quiet_of_same (hops.out _)) | (go_at_call 24; exact Calls.quiet_of_same (hon.out _)) | (go_at_call 25; exact Calls.quiet_of_same (hlen.out _))))
             have Hq2 := hide (Hq.out.drewN nq)
             clear Hq hwait hops hon hlen
             go_wp2
             go_roundw
             case rel => exact ⟨j + 1, by omega, by go_num, F5, G5, D5, Hq2.out, Hbnd5.out⟩
             case measure => (simp [intOf]; try omega)
       · obtain rfl : j = 80 := by omega
         have Hd := hide (Hboth.out.done Hbnd.out (Nat.le_refl _))
         clear Hboth Hbnd
         go_wp2
         go_meet
         case rel => exact Hd.out
     · have Hd := hide (Hboth.out.done Hbnd.out hj)
       clear Hboth Hbnd
       go_wp2
       go_meet
       case rel => exact Hd.out
  case rest =>
    obtain ⟨F8, G8, D8, h8, hb8⟩ := hcut
    have hops8 := hb8.small (by omega)
    have Hops8 := hide hops8
    have H8 := hide h8
    have Hb8 := hide hb8
    clear h8 hb8 hops8 Hboth
    go_wp2_with fail
    refine (restart_all b F8 D8 0 0 _ H8.out.on.disk Hops8.out).mono ?_
    intro e w9 hlv
    obtain ⟨rfl, F9, h9, _, _⟩ := H8.out.leaves hlv
    obtain ⟨sv0, lv0, hr0, hG0⟩ := h9.ref
    have cr := rrestart_any rb sv0 lv0 D8 0 0 w9 hr0 (by have := Hops8.out.pend; omega)
    rw [← hG0] at cr
    have Cr := hide cr
    have H9 := hide h9
    clear hlv hr0 hG0 cr h9 H8
    go_wp2_with fail
    refine Cr.out.mono ?_
    intro e w10 hlv
    obtain ⟨rfl, G10, h10, _, _⟩ := H9.out.rleaves hlv
    have hn10 : (D8.restarted 0 0).n = n := Hb8.out.n
    have ho10 : (D8.restarted 0 0).off = false := rfl
    have hp10 : (D8.restarted 0 0).pend = [] := rfl
    generalize D8.restarted 0 0 = D9 at *
    have H10 := hide h10
    have Hn10 := hide hn10
    have Ho10 := hide ho10
    have Hp10 := hide hp10
    clear hlv h10 hn10 ho10 hp10 Cr H9
    go_wp2_with fail
    go_loopw [16] (fun i wr => SeRel w b rb n F9 G10 D9 i wr) (fun i _ => 200 - (intOf i).toNat)
    case atStart => exact ⟨0, by omega, by omega, rfl, H10.out⟩
    case round =>
      obtain ⟨j, hj, hj2, rfl, hbo⟩ := hrel
      by_cases hlt : j < n
      · by_cases h200 : j < 200
        · have hrz : refuse D9 (j : Int) = 0 := by unfold refuse; rw [Hn10.out, Ho10.out, if_neg (by omega)]; rfl
          have cr := hbo.on.read (j : Int) hrz (D9.dur j) (by rw [Hp10.out]; rfl)
          have Cr := hide cr
          have Hbo := hide hbo
          clear hbo cr hrz
          go_wp2_with fail
          refine Cr.out.mono ?_
          rintro e w11 ⟨gb, rfl, _, hblk, _, _, hf11, h64⟩
          have hq := Hbo.out.quiet hf11
          obtain ⟨sv1, lv1, hr1, _⟩ := hq.ref
          obtain ⟨sa, sc, rfl⟩ := rown_form hr1.sure
          obtain ⟨sg, rfl, hsc, hsv, _⟩ := own_block hr1.sure (by have := hr1.wf.lo; omega)
          have c0 : w11.cell? ⟨rb, 0, none⟩ = some (.slice (some ⟨sg, 0, none⟩) n sc) := by rw [← Hn10.out]; exact hr1.str.cell 0
          have s0 : w11.cell? ⟨sg, j, none⟩ = some (.string ⟨(D9.dur j).toArray⟩) := hsv j _ (rstrs_get _ _ _ (by rw [Hn10.out]; exact hlt))
          have hcv : ∀ m, (convert 31 9 (.slice (some ⟨gb, 0, none⟩) 64 64)).run Try.prog (w11.drewN m) = .ok (.string ⟨(D9.dur j).toArray⟩) (w11.drewN m) := fun m => run_str_bytes _ _ _ 5 Try.underlying31 Try.underlying5 Try.underlying9 _ 64 64 _ h64 ((hblk.drewN m).bytes)
          have j0 : (0 : Int) ≤ (j : Int) := by omega
          have jn : (j : Int) < (n : Int) := by omega
          have Hq := hide hq
          clear hq hr1 hsv hsc hblk hf11 h64 Cr Hbo
          generalize (ByteArray.mk (D9.dur j).toArray) = str at *
          go_upto_region 40 with fail
          go_quiet (fail)
          have Hq2 := hide (Hq.out.drewN nq)
          clear Hq
          go_wp2
          go_roundw
          case rel => exact ⟨j + 1, by omega, by omega, by go_num, Hq2.out⟩
          case measure => (simp [intOf]; try omega)
        · have Hbo := hide hbo.below
          clear hbo
          go_wp2
          go_ret
          exact ⟨rfl, Hbo.out⟩
      · have Hbo := hide hbo.below
        clear hbo
        go_wp2
        go_ret
        exact ⟨rfl, Hbo.out⟩

theorem plays_walk (S : Option Addr) (c : Nat) (xs : List ActD) (n : Int) (w : World) (hx : Acts w S xs) (hxl : xs.length ≤ 9223372036854775807) :
    Calls Try.prog 3 #[.int .i64 n, .slice S xs.length c] w fun e w' => e = .returned (.bool true) ∧ Below w.heap.size w w' := by
  by_cases h : n < 1 ∨ 4096 < n
  · exact plays_bad S c xs.length n w h
  · obtain ⟨m, rfl⟩ := Int.eq_ofNat_of_zero_le (show 0 ≤ n by omega)
    exact plays_ok S c xs m w (by omega) (by omega) hx hxl

set_option maxRecDepth 100000 in
theorem blockPlays_lifted (os : Os) (started : os.Started) (H : Type) (enc : TypeId × Value → H) :
    ReturnsInHanded {} Try.checked os 3 .any (Rows.blockPlaysSpec.pre6 enc Try.prog Try.f3 Rows.blockPlaysRow.domain false) (Rows.blockPlaysSpec.post enc Try.prog Try.f3 false true false false) := by
  refine returnsInHanded_of_change (C := Try.checked) own0 started (by kernel_rfl) Try.func3
    (ChangeSpec.witness6 (enc := enc) (C := Try.checked) false ⟨#[], #[.int .i64 0, .slice none 0 0], []⟩ 8 (by kernel_rfl) (by kernel_rfl) (by kernel_rfl) (by kernel_rfl)) ?_
  intro W base args ds gs before hval0 hW _ _
  have hval : ∀ (j : Nat) t v, Try.f3.params[j]? = some t → args[j]? = some v → Value.okWide Try.prog W .any base t v := hval0
  have hW' := hW
  obtain ⟨p, q, hA0, hV, rfl, hfz, hnd⟩ := hW
  have hA : DataW.TrodAll enc Try.prog W 0 (fun _ => true) true Try.f3.params.toList args.toList ds p := hA0
  rw [Try.params3] at hA hval
  obtain ⟨v0, v1, d0, d1, p0, p1, rfl, rfl, rfl, h0, h1⟩ := trodAll_two hA
  obtain ⟨rfl, rfl⟩ := trodVars_none hV
  obtain ⟨x0, rfl, rfl, rfl, w0⟩ := open_int Try.underlying3 (hval 0 3 v0 rfl rfl) h0
  obtain ⟨A1, c1, l1, rfl, b1, m1⟩ := open_acts (hval 1 22 v1 rfl rfl) h1
  clear hA0 hval0
  refine (plays_walk A1 c1 l1 x0 W b1 m1).mono fun e W' ⟨he, hb⟩ => ?_
  subst he
  exact ⟨_, rfl, law_close laid0 Try.underlying4 rfl rfl (by rw [Try.params3]; decide +kernel) hW' (fun gs hg => by subst hg; rfl) hb⟩

theorem blockPlays_holds : Rows.BlockPlaysSaid :=
  OpenClaim.holds_of_wide 3 Try.f3 rfl rfl rfl rfl rfl rfl rfl ⟨rfl, rfl, rfl, rfl, rfl⟩ rfl rfl rfl rfl rfl (by kernel_rfl) Try.func3 (by kernel_rfl)
    (of_decide_eq_true (by kernel_rfl)) (by unfold Func.isWrapper; first | (rw [if_pos (by decide +kernel)]; kernel_rfl) | (rw [if_neg (by decide +kernel)]; exact ⟨rfl, rfl⟩))
    (fun os started H enc _ => blockPlays_lifted os started H enc)

end Go.Proofs.Ytfplafdpdfhpiaa
