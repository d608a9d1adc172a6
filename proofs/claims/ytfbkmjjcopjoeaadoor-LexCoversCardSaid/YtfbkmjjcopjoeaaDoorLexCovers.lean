/- the tokens of a text stand there, rising; texts apart, each as it is written: for every input the law LexCovers answers true, and leaves what came in as it was. -/
import Derived.Test.YtfbkmjjcopjoeaaDoorNq
import Derived.Test.YtfbkmjjcopjoeaaDoorLaw
import Derived.Test.YtfbkmjjcopjoeaaDoorRows
import Derived.Test.YtfbkmjjcopjoeaaDoorCards
import Derived.Test.YtfbkmjjcopjoeaaDoorTie
import Derived.Test.YtfbkmjjcopjoeaaDoorChecked
import Derived.ProofKit
import Derived.OpenShut
import Derived.LaidMore
import Derived.Lay
import Derived.SevenTiedAt
import Derived.Stop.Joined
namespace Go.Proofs.YtfbkmjjcopjoeaaDoor
open Go.RowKit Go.ChangeShapes Go.WideShapes

set_option maxRecDepth 100000 in
set_option maxHeartbeats 8000000 in
theorem lexCovers_walk (s : List UInt8) (w : World) : Calls Tryd.prog 5 #[.string ⟨s.toArray⟩] w fun e w' => e = .returned (.bool true) ∧ Below w.heap.size w w' := by
  have hsz : (⟨s.toArray⟩ : ByteArray).size = s.length := rfl
  have za := zeroLT
  obtain ⟨R, hR⟩ : ∃ R, Lx.lexL s = R := ⟨_, rfl⟩
  have HR := hide hR
  clear hR
  go_enter Tryd.func5, Tryd.ntmps5
  go_wp2_with fail
  refine (awake_any w).mono ?_
  rintro e w1 ⟨rfl, hb⟩
  have B1 := hide hb
  clear hb
  go_wp2_with fail
  refine (toks_all s w1).mono ?_
  rintro e w2 ⟨ho, hb⟩
  rw [HR.out] at ho
  have B2 := hide (B1.out.trans (hb.mono B1.out.size))
  clear hb
  cases R with
  | inr p =>
    obtain rfl : e = _ := ho
    have hez := ez_false (lex_err HR.out).1
    have hez3 : ¬ p.2 = 0 := by have := (lex_err HR.out).1; omega
    have hpl := (lex_err HR.out).2
    go_wp2_with fail
    go_ret
    exact ⟨rfl, B2.out⟩
  | inl ts =>
    obtain ⟨A, c, rfl, hrow, _⟩ := ho
    have hcov := (lex_bound HR.out).2
    have hs2 := (lex_bound HR.out).1
    obtain ⟨ks, hks, hk0⟩ := hcov.last
    obtain ⟨n', hn'⟩ : ∃ n, ks.length = n := ⟨_, rfl⟩
    obtain ⟨n, hn⟩ : ∃ n, ts.length = n := ⟨_, rfl⟩
    have hnn : n = n' + 1 := by rw [← hn, hks, List.length_append, hn']; rfl
    have hnl : n ≤ 2001 := by have h := toks_count ts 2000 (lex_at HR.out) hcov.rise; omega
    have HA2 := hide hrow.at_
    have Hn := hide hn
    have Hn' := hide hn'
    have Hks := hide hks
    have Hk0 := hide hk0
    have Hcov := hide hcov
    have Hnn := hide hnn
    have hm1 : (n : Int) - 1 = (n' : Int) := by omega
    have hm2 : IntKind.i64.wrap (n' : Int) = (n' : Int) := IntWalk.i64_in _ (by omega)
    rw [hn]
    clear hrow hn hcov hks hk0 hn' hnn
    go_wp2_with fail
    go_loopw [6] (fun iv wr => ∃ i : Nat, iv = .int .i64 (i : Int) ∧ i ≤ n ∧ Below w.heap.size w wr ∧ RowAt wr A ts) (fun iv _ => n - (intOf iv).toNat)
    case atStart => exact ⟨0, rfl, Nat.zero_le _, B2.out, HA2.out⟩
    case round =>
    obtain ⟨i, rfl, hi, hB, hA⟩ := hrel
    have BR := hide hB
    have HA := hide hA
    clear hB hA
    by_cases hin : i < n
    case neg =>
      obtain rfl : i = n := by omega
      have hlast : ts[n']? = some ⟨0, [], 0, 0 + s.length⟩ := by rw [Hks.out, List.getElem?_append_right (by rw [Hn'.out]; exact Nat.le_refl _), Hn'.out, Nat.sub_self]; rfl
      obtain ⟨g, o, rfl, a0, a1, a2, a3⟩ := HA.out.get hlast
      simp only [Nat.zero_add] at a3
      have hlt : n' < i := by have := Hnn.out; omega
      have hpos : 0 < i := by omega
      clear hlast hi a0 a1 a2
      go_wp2_with fail
      go_ret
      exact ⟨rfl, BR.out⟩
    case pos =>
    obtain ⟨t, ht⟩ : ∃ t, ts[i]? = some t := ⟨_, List.getElem?_eq_getElem (by rw [Hn.out]; exact hin)⟩
    have Ht := hide ht
    obtain ⟨g, o, rfl, a0, a1, a2, a3⟩ := HA.out.get ht
    have hta := lex_at HR.out t (List.mem_of_getElem? ht)
    have htx := Hcov.out.text t (List.mem_of_getElem? ht)
    have hkl : (t.kind = 0 ↔ i = n') := by
      constructor
      · intro h0
        apply Classical.byContradiction
        intro hne
        have hlt : i < ks.length := by have := Hn'.out; have := Hnn.out; omega
        have ht' := ht
        rw [Hks.out, List.getElem?_append_left hlt] at ht'
        exact Hk0.out t (List.mem_of_getElem? ht') h0
      · rintro rfl
        have ht' := ht
        rw [Hks.out, List.getElem?_append_right (by rw [Hn'.out]; exact Nat.le_refl _), Hn'.out, Nat.sub_self] at ht'
        injection ht' with ht'
        rw [← ht']
    obtain ⟨kd, tx, nn, at_⟩ := t
    simp only at a0 a1 a2 a3 hta htx hkl
    obtain ⟨bt, hbt⟩ : ∃ bt, wr.heap.size = bt := ⟨_, rfl⟩
    obtain ⟨w4, hw4⟩ : ∃ w4, wr.alloc (.cells #[.int .u8 0, .string ⟨#[]⟩, .int .i64 0, .int .i64 0] 33) = w4 := ⟨_, rfl⟩
    have q0 : Blk w4 bt 33 #[.int .u8 0, .string ⟨#[]⟩, .int .i64 0, .int .i64 0] := by rw [← hw4, ← hbt]; exact Blk.new wr _ _
    have B4 := hide (show Below wr.heap.size wr w4 from by rw [← hw4]; exact (Below.refl _ _).alloc (Nat.le_refl _) _)
    have Hbt := hide hbt
    have y0 := q0.frozen 0
    have x0 := q0.cell 0
    have y1 := q0.frozen 1
    have x1 := q0.cell 1
    have y2 := q0.frozen 2
    have x2 := q0.cell 2
    have y3 := q0.frozen 3
    have x3 := q0.cell 3
    have q1 := q0.set_ 0 (.int .u8 (kd : Int))
    have q2 := q1.set_ 1 (.string ⟨tx.toArray⟩)
    have q3 := q2.set_ 2 (.int .i64 nn)
    have q4 := q3.set_ 3 (.int .i64 (at_ : Int))
    have Q4 := hide q4
    have Hta := hide hta
    have Htx := hide htx
    have Hkl := hide hkl
    have Hin := hide hin
    clear q0 q1 q2 q3 q4 hta htx hkl ht hi
    go_upto_region 10 with fail
    clear y0 x0 y1 x1 y2 x2 y3 x3 a0 a1 a2 a3
    have B5 := hide (show Below wr.heap.size wr ((((w4.setCell ⟨bt, 0, none⟩ (.int .u8 (kd : Int))).setCell ⟨bt, 1, none⟩ (.string ⟨tx.toArray⟩)).setCell ⟨bt, 2, none⟩ (.int .i64 nn)).setCell ⟨bt, 3, none⟩ (.int .i64 (at_ : Int))) from
      ((((B4.out.setCell (p := ⟨bt, 0, none⟩) (by rw [Hbt.out]; exact Nat.le_refl _) _).setCell (p := ⟨bt, 1, none⟩) (by rw [Hbt.out]; exact Nat.le_refl _) _).setCell (p := ⟨bt, 2, none⟩) (by rw [Hbt.out]; exact Nat.le_refl _) _).setCell (p := ⟨bt, 3, none⟩) (by rw [Hbt.out]; exact Nat.le_refl _) _))
    obtain ⟨w5, hw5⟩ : ∃ w5, (((w4.setCell ⟨bt, 0, none⟩ (.int .u8 (kd : Int))).setCell ⟨bt, 1, none⟩ (.string ⟨tx.toArray⟩)).setCell ⟨bt, 2, none⟩ (.int .i64 nn)).setCell ⟨bt, 3, none⟩ (.int .i64 (at_ : Int)) = w5 := ⟨_, rfl⟩
    rw [hw5] at Q4 B5
    rw [hw5]
    clear hw5 hw4 hbt
    have HA5 := hide (HA.out.below B5.out)
    have BR5 := hide (BR.out.trans (B5.out.mono BR.out.size))
    have k0 : w5.cell? ⟨bt, 0, none⟩ = some (.int .u8 (kd : Int)) := Q4.out.cell 0
    have k1 : w5.cell? ⟨bt, 1, none⟩ = some (.string ⟨tx.toArray⟩) := Q4.out.cell 1
    have k3 : w5.cell? ⟨bt, 3, none⟩ = some (.int .i64 (at_ : Int)) := Q4.out.cell 3
    have hq10 : ∃ q, (∀ (K : Act → World → Prop), True) ∧ q = true := ⟨true, fun _ => trivial, rfl⟩
    clear hq10
    obtain ⟨bl, hbl⟩ : ∃ bl : Bool, decide (i = n') = bl := ⟨_, rfl⟩
    have hz0 : ((kd : Int) == 0) = bl := by
      rw [← hbl, Bool.eq_iff_iff]
      simp only [beq_iff_eq, decide_eq_true_eq]
      rw [← Hkl.out]
      omega
    have hi0 : ((i : Int) == (n' : Int)) = bl := by
      rw [← hbl, Bool.eq_iff_iff]
      simp only [beq_iff_eq, decide_eq_true_eq]
      omega
    have Hbl := hide hbl
    have hin := Hin.out
    clear hbl
    rcases Nat.eq_zero_or_pos i with h0 | h0
    · subst h0
      have Hi00 := hide (show ((0 : Int) == (n' : Int)) = bl from hi0)
      refine wp_region_tree (fun W => W = w5.drew) 23 (.read 0 (.read 1 (.read 2 (.read 3 (.read 4 (.read 5 (.read 6 (.read 7 (.read 8 (.read 9 (.read 10 (.read 11 (.read 12 (.read 13 (.read 14 (.read 15 (.read 16 (.read 17 (.read 18 (.read 19 (.read 20 (.read 21 (.read 22 .nil))))))))))))))))))))))) (by kernel_rfl) (by kernel_rfl) (fun _ _ d _ _ h => by cases d <;> exact h) rfl ?_
      simp only [Plan.ops, List.getElem?_toArray, List.getElem?_cons_zero, List.getElem?_cons_succ, Option.elim]
      refine wpTree_read rfl (fun W hW => (by subst hW; go_simp; try with_reducible rfl)) ?_
      simp only [Act.put, List.setIfInBounds_toArray, List.set_cons_zero, List.set_cons_succ]
      refine wpTree_read (v := .bool false) rfl (fun W hW => (by subst hW; go_simp; try with_reducible rfl)) ?_
      simp only [Act.put, List.setIfInBounds_toArray, List.set_cons_zero, List.set_cons_succ]
      refine wpTree_read rfl (fun W hW => (by subst hW; go_simp; try with_reducible rfl)) ?_
      simp only [Act.put, List.setIfInBounds_toArray, List.set_cons_zero, List.set_cons_succ]
      refine wpTree_skip rfl ?_
      simp only [Act.put, List.setIfInBounds_toArray, List.set_cons_zero, List.set_cons_succ]
      refine wpTree_skip rfl ?_
      simp only [Act.put, List.setIfInBounds_toArray, List.set_cons_zero, List.set_cons_succ]
      refine wpTree_skip rfl ?_
      simp only [Act.put, List.setIfInBounds_toArray, List.set_cons_zero, List.set_cons_succ]
      refine wpTree_skip rfl ?_
      simp only [Act.put, List.setIfInBounds_toArray, List.set_cons_zero, List.set_cons_succ]
      refine wpTree_skip rfl ?_
      simp only [Act.put, List.setIfInBounds_toArray, List.set_cons_zero, List.set_cons_succ]
      refine wpTree_skip rfl ?_
      simp only [Act.put, List.setIfInBounds_toArray, List.set_cons_zero, List.set_cons_succ]
      refine wpTree_skip rfl ?_
      simp only [Act.put, List.setIfInBounds_toArray, List.set_cons_zero, List.set_cons_succ]
      refine wpTree_skip rfl ?_
      simp only [Act.put, List.setIfInBounds_toArray, List.set_cons_zero, List.set_cons_succ]
      refine wpTree_skip rfl ?_
      simp only [Act.put, List.setIfInBounds_toArray, List.set_cons_zero, List.set_cons_succ]
      refine wpTree_read (v := .bool false) rfl (fun W hW => (by subst hW; go_simp; try with_reducible rfl)) ?_
      simp only [Act.put, List.setIfInBounds_toArray, List.set_cons_zero, List.set_cons_succ]
      refine wpTree_read rfl (fun W hW => (by subst hW; go_simp; try with_reducible rfl)) ?_
      simp only [Act.put, List.setIfInBounds_toArray, List.set_cons_zero, List.set_cons_succ]
      refine wpTree_read rfl (fun W hW => (by subst hW; go_simp; try with_reducible rfl)) ?_
      simp only [Act.put, List.setIfInBounds_toArray, List.set_cons_zero, List.set_cons_succ]
      refine wpTree_read (v := .int .u8 (kd : Int)) rfl (fun W hW => (by subst hW; go_simp; try with_reducible rfl)) ?_
      simp only [Act.put, List.setIfInBounds_toArray, List.set_cons_zero, List.set_cons_succ]
      refine wpTree_read (v := .bool bl) rfl (fun W hW => (by subst hW; go_simp; try with_reducible rfl)) ?_
      simp only [Act.put, List.setIfInBounds_toArray, List.set_cons_zero, List.set_cons_succ]
      refine wpTree_read rfl (fun W hW => (by subst hW; go_simp; try with_reducible rfl)) ?_
      simp only [Act.put, List.setIfInBounds_toArray, List.set_cons_zero, List.set_cons_succ]
      refine wpTree_read rfl (fun W hW => (by subst hW; go_simp; try with_reducible rfl)) ?_
      simp only [Act.put, List.setIfInBounds_toArray, List.set_cons_zero, List.set_cons_succ]
      refine wpTree_read (v := .int .i64 (n : Int)) rfl (fun W hW => (by subst hW; go_simp; try with_reducible rfl)) ?_
      simp only [Act.put, List.setIfInBounds_toArray, List.set_cons_zero, List.set_cons_succ]
      refine wpTree_read (v := .int .i64 (n' : Int)) rfl (fun W hW => (by subst hW; go_simp; try with_reducible rfl)) ?_
      simp only [Act.put, List.setIfInBounds_toArray, List.set_cons_zero, List.set_cons_succ]
      refine wpTree_read (v := .bool bl) rfl (fun W hW => (by subst hW; go_simp; first | done | exact Hi00.out | rfl)) ?_
      simp only [Act.put, List.setIfInBounds_toArray, List.set_cons_zero, List.set_cons_succ]
      refine wpTree_read (v := .bool false) rfl (fun W hW => (by subst hW; go_simp; try with_reducible rfl)) ?_
      simp only [Act.put, List.setIfInBounds_toArray, List.set_cons_zero, List.set_cons_succ]
      refine wpTree_nil ?_
      go_upto_region 12 with fail
      have k0' : (w5.drew).cell? ⟨bt, 0, none⟩ = some (.int .u8 (kd : Int)) := k0
      have k1' : (w5.drew).cell? ⟨bt, 1, none⟩ = some (.string ⟨tx.toArray⟩) := k1
      have k3' : (w5.drew).cell? ⟨bt, 3, none⟩ = some (.int .i64 (at_ : Int)) := k3
      have hb6 : Below w.heap.size w (w5.drew) := BR5.out.drew
      have hA6 : RowAt (w5.drew) (some ⟨g, o, none⟩) ts := HA5.out
      obtain ⟨w6, hw6⟩ : ∃ w6, w5.drew = w6 := ⟨_, rfl⟩
      rw [hw6] at k0' k1' k3' hb6 hA6
      rw [hw6]
      have B6 := hide hb6
      have HA6 := hide hA6
      clear hw6 hb6 hA6 k0 k1 k3
      clear hz0 hi0 hin
      by_cases h3 : kd = 3
      · have H3 := hide (show (kd : Int) = 3 from by omega)
        clear h3
        refine wp_region_tree (fun W => W = w6.drew) 33 (.read 0 (.read 1 (.read 2 (.read 3 (.read 4 (.read 5 (.read 6 (.read 7 (.read 8 (.read 9 (.read 10 (.read 11 (.read 12 (.read 13 (.read 14 (.read 15 (.read 16 (.read 17 (.read 18 (.read 19 (.read 20 (.read 21 (.read 22 (.read 23 (.read 24 (.read 25 (.read 26 (.read 27 (.read 28 (.read 29 (.read 30 (.read 31 (.read 32 .nil))))))))))))))))))))))))))))))))) (by kernel_rfl) (by kernel_rfl) (fun _ _ d _ _ h => by cases d <;> exact h) rfl ?_
        simp only [Plan.ops, List.getElem?_toArray, List.getElem?_cons_zero, List.getElem?_cons_succ, Option.elim]
        refine wpTree_read rfl (fun W hW => (by subst hW; go_simp; try with_reducible rfl)) ?_
        simp only [Act.put, List.setIfInBounds_toArray, List.set_cons_zero, List.set_cons_succ]
        refine wpTree_read (v := .int .u8 (kd : Int)) rfl (fun W hW => (by subst hW; go_simp; try with_reducible rfl)) ?_
        simp only [Act.put, List.setIfInBounds_toArray, List.set_cons_zero, List.set_cons_succ]
        refine wpTree_read (v := .bool false) rfl (fun W hW => (by subst hW; go_simp; first | done | exact H3.out | rfl)) ?_
        simp only [Act.put, List.setIfInBounds_toArray, List.set_cons_zero, List.set_cons_succ]
        refine wpTree_read rfl (fun W hW => (by subst hW; go_simp; try with_reducible rfl)) ?_
        simp only [Act.put, List.setIfInBounds_toArray, List.set_cons_zero, List.set_cons_succ]
        refine wpTree_skip rfl ?_
        simp only [Act.put, List.setIfInBounds_toArray, List.set_cons_zero, List.set_cons_succ]
        refine wpTree_skip rfl ?_
        simp only [Act.put, List.setIfInBounds_toArray, List.set_cons_zero, List.set_cons_succ]
        refine wpTree_skip rfl ?_
        simp only [Act.put, List.setIfInBounds_toArray, List.set_cons_zero, List.set_cons_succ]
        refine wpTree_read (v := .bool false) rfl (fun W hW => (by subst hW; go_simp; try with_reducible rfl)) ?_
        simp only [Act.put, List.setIfInBounds_toArray, List.set_cons_zero, List.set_cons_succ]
        refine wpTree_read rfl (fun W hW => (by subst hW; go_simp; try with_reducible rfl)) ?_
        simp only [Act.put, List.setIfInBounds_toArray, List.set_cons_zero, List.set_cons_succ]
        refine wpTree_skip rfl ?_
        simp only [Act.put, List.setIfInBounds_toArray, List.set_cons_zero, List.set_cons_succ]
        refine wpTree_skip rfl ?_
        simp only [Act.put, List.setIfInBounds_toArray, List.set_cons_zero, List.set_cons_succ]
        refine wpTree_skip rfl ?_
        simp only [Act.put, List.setIfInBounds_toArray, List.set_cons_zero, List.set_cons_succ]
        refine wpTree_skip rfl ?_
        simp only [Act.put, List.setIfInBounds_toArray, List.set_cons_zero, List.set_cons_succ]
        refine wpTree_skip rfl ?_
        simp only [Act.put, List.setIfInBounds_toArray, List.set_cons_zero, List.set_cons_succ]
        refine wpTree_skip rfl ?_
        simp only [Act.put, List.setIfInBounds_toArray, List.set_cons_zero, List.set_cons_succ]
        refine wpTree_skip rfl ?_
        simp only [Act.put, List.setIfInBounds_toArray, List.set_cons_zero, List.set_cons_succ]
        refine wpTree_skip rfl ?_
        simp only [Act.put, List.setIfInBounds_toArray, List.set_cons_zero, List.set_cons_succ]
        refine wpTree_skip rfl ?_
        simp only [Act.put, List.setIfInBounds_toArray, List.set_cons_zero, List.set_cons_succ]
        refine wpTree_skip rfl ?_
        simp only [Act.put, List.setIfInBounds_toArray, List.set_cons_zero, List.set_cons_succ]
        refine wpTree_skip rfl ?_
        simp only [Act.put, List.setIfInBounds_toArray, List.set_cons_zero, List.set_cons_succ]
        refine wpTree_skip rfl ?_
        simp only [Act.put, List.setIfInBounds_toArray, List.set_cons_zero, List.set_cons_succ]
        refine wpTree_skip rfl ?_
        simp only [Act.put, List.setIfInBounds_toArray, List.set_cons_zero, List.set_cons_succ]
        refine wpTree_skip rfl ?_
        simp only [Act.put, List.setIfInBounds_toArray, List.set_cons_zero, List.set_cons_succ]
        refine wpTree_skip rfl ?_
        simp only [Act.put, List.setIfInBounds_toArray, List.set_cons_zero, List.set_cons_succ]
        refine wpTree_skip rfl ?_
        simp only [Act.put, List.setIfInBounds_toArray, List.set_cons_zero, List.set_cons_succ]
        refine wpTree_skip rfl ?_
        simp only [Act.put, List.setIfInBounds_toArray, List.set_cons_zero, List.set_cons_succ]
        refine wpTree_skip rfl ?_
        simp only [Act.put, List.setIfInBounds_toArray, List.set_cons_zero, List.set_cons_succ]
        refine wpTree_skip rfl ?_
        simp only [Act.put, List.setIfInBounds_toArray, List.set_cons_zero, List.set_cons_succ]
        refine wpTree_skip rfl ?_
        simp only [Act.put, List.setIfInBounds_toArray, List.set_cons_zero, List.set_cons_succ]
        refine wpTree_skip rfl ?_
        simp only [Act.put, List.setIfInBounds_toArray, List.set_cons_zero, List.set_cons_succ]
        refine wpTree_skip rfl ?_
        simp only [Act.put, List.setIfInBounds_toArray, List.set_cons_zero, List.set_cons_succ]
        refine wpTree_skip rfl ?_
        simp only [Act.put, List.setIfInBounds_toArray, List.set_cons_zero, List.set_cons_succ]
        refine wpTree_skip rfl ?_
        simp only [Act.put, List.setIfInBounds_toArray, List.set_cons_zero, List.set_cons_succ]
        refine wpTree_nil ?_
        go_wp2_with fail
        refine ⟨⟨0 + 1, by go_num, Hin.out, B6.out.drew, (show RowAt w6.drew _ _ from HA6.out)⟩, ?_⟩
        have := Hin.out
        simp [intOf]
        omega
      · have H3 := hide (show ¬ (kd : Int) = 3 from by omega)
        by_cases hk00 : kd = 0
        · have Hk00 := hide hk00
          clear h3 hk00
          refine wp_region_tree (fun W => W = w6.drew) 33 (.read 0 (.read 1 (.read 2 (.read 3 (.read 4 (.read 5 (.read 6 (.read 7 (.read 8 (.read 9 (.read 10 (.read 11 (.read 12 (.read 13 (.read 14 (.read 15 (.read 16 (.read 17 (.read 18 (.read 19 (.read 20 (.read 21 (.read 22 (.read 23 (.read 24 (.read 25 (.read 26 (.read 27 (.read 28 (.read 29 (.read 30 (.read 31 (.read 32 .nil))))))))))))))))))))))))))))))))) (by kernel_rfl) (by kernel_rfl) (fun _ _ d _ _ h => by cases d <;> exact h) rfl ?_
          simp only [Plan.ops, List.getElem?_toArray, List.getElem?_cons_zero, List.getElem?_cons_succ, Option.elim]
          refine wpTree_read rfl (fun W hW => (by subst hW; go_simp; try with_reducible rfl)) ?_
          simp only [Act.put, List.setIfInBounds_toArray, List.set_cons_zero, List.set_cons_succ]
          refine wpTree_read (v := .int .u8 (kd : Int)) rfl (fun W hW => (by subst hW; go_simp; try with_reducible rfl)) ?_
          simp only [Act.put, List.setIfInBounds_toArray, List.set_cons_zero, List.set_cons_succ]
          refine wpTree_read (v := .bool true) rfl (fun W hW => (by subst hW; go_simp; first | done | exact H3.out | rfl)) ?_
          simp only [Act.put, List.setIfInBounds_toArray, List.set_cons_zero, List.set_cons_succ]
          refine wpTree_read rfl (fun W hW => (by subst hW; go_simp; try with_reducible rfl)) ?_
          simp only [Act.put, List.setIfInBounds_toArray, List.set_cons_zero, List.set_cons_succ]
          refine wpTree_read rfl (fun W hW => (by subst hW; go_simp; try with_reducible rfl)) ?_
          simp only [Act.put, List.setIfInBounds_toArray, List.set_cons_zero, List.set_cons_succ]
          refine wpTree_read (v := .int .u8 (kd : Int)) rfl (fun W hW => (by subst hW; go_simp; try with_reducible rfl)) ?_
          simp only [Act.put, List.setIfInBounds_toArray, List.set_cons_zero, List.set_cons_succ]
          refine wpTree_read (v := .bool false) rfl (fun W hW => (by subst hW; go_simp; first | done | exact Hk00.out | rfl)) ?_
          simp only [Act.put, List.setIfInBounds_toArray, List.set_cons_zero, List.set_cons_succ]
          refine wpTree_read (v := .bool false) rfl (fun W hW => (by subst hW; go_simp; try with_reducible rfl)) ?_
          simp only [Act.put, List.setIfInBounds_toArray, List.set_cons_zero, List.set_cons_succ]
          refine wpTree_read rfl (fun W hW => (by subst hW; go_simp; try with_reducible rfl)) ?_
          simp only [Act.put, List.setIfInBounds_toArray, List.set_cons_zero, List.set_cons_succ]
          refine wpTree_skip rfl ?_
          simp only [Act.put, List.setIfInBounds_toArray, List.set_cons_zero, List.set_cons_succ]
          refine wpTree_skip rfl ?_
          simp only [Act.put, List.setIfInBounds_toArray, List.set_cons_zero, List.set_cons_succ]
          refine wpTree_skip rfl ?_
          simp only [Act.put, List.setIfInBounds_toArray, List.set_cons_zero, List.set_cons_succ]
          refine wpTree_skip rfl ?_
          simp only [Act.put, List.setIfInBounds_toArray, List.set_cons_zero, List.set_cons_succ]
          refine wpTree_skip rfl ?_
          simp only [Act.put, List.setIfInBounds_toArray, List.set_cons_zero, List.set_cons_succ]
          refine wpTree_skip rfl ?_
          simp only [Act.put, List.setIfInBounds_toArray, List.set_cons_zero, List.set_cons_succ]
          refine wpTree_skip rfl ?_
          simp only [Act.put, List.setIfInBounds_toArray, List.set_cons_zero, List.set_cons_succ]
          refine wpTree_skip rfl ?_
          simp only [Act.put, List.setIfInBounds_toArray, List.set_cons_zero, List.set_cons_succ]
          refine wpTree_skip rfl ?_
          simp only [Act.put, List.setIfInBounds_toArray, List.set_cons_zero, List.set_cons_succ]
          refine wpTree_skip rfl ?_
          simp only [Act.put, List.setIfInBounds_toArray, List.set_cons_zero, List.set_cons_succ]
          refine wpTree_skip rfl ?_
          simp only [Act.put, List.setIfInBounds_toArray, List.set_cons_zero, List.set_cons_succ]
          refine wpTree_skip rfl ?_
          simp only [Act.put, List.setIfInBounds_toArray, List.set_cons_zero, List.set_cons_succ]
          refine wpTree_skip rfl ?_
          simp only [Act.put, List.setIfInBounds_toArray, List.set_cons_zero, List.set_cons_succ]
          refine wpTree_skip rfl ?_
          simp only [Act.put, List.setIfInBounds_toArray, List.set_cons_zero, List.set_cons_succ]
          refine wpTree_skip rfl ?_
          simp only [Act.put, List.setIfInBounds_toArray, List.set_cons_zero, List.set_cons_succ]
          refine wpTree_skip rfl ?_
          simp only [Act.put, List.setIfInBounds_toArray, List.set_cons_zero, List.set_cons_succ]
          refine wpTree_skip rfl ?_
          simp only [Act.put, List.setIfInBounds_toArray, List.set_cons_zero, List.set_cons_succ]
          refine wpTree_skip rfl ?_
          simp only [Act.put, List.setIfInBounds_toArray, List.set_cons_zero, List.set_cons_succ]
          refine wpTree_skip rfl ?_
          simp only [Act.put, List.setIfInBounds_toArray, List.set_cons_zero, List.set_cons_succ]
          refine wpTree_skip rfl ?_
          simp only [Act.put, List.setIfInBounds_toArray, List.set_cons_zero, List.set_cons_succ]
          refine wpTree_skip rfl ?_
          simp only [Act.put, List.setIfInBounds_toArray, List.set_cons_zero, List.set_cons_succ]
          refine wpTree_skip rfl ?_
          simp only [Act.put, List.setIfInBounds_toArray, List.set_cons_zero, List.set_cons_succ]
          refine wpTree_skip rfl ?_
          simp only [Act.put, List.setIfInBounds_toArray, List.set_cons_zero, List.set_cons_succ]
          refine wpTree_skip rfl ?_
          simp only [Act.put, List.setIfInBounds_toArray, List.set_cons_zero, List.set_cons_succ]
          refine wpTree_nil ?_
          go_wp2_with fail
          refine ⟨⟨0 + 1, by go_num, Hin.out, B6.out.drew, (show RowAt w6.drew _ _ from HA6.out)⟩, ?_⟩
          have := Hin.out
          simp [intOf]
          omega
        · have hzz : ((kd : Int) == 0) = false := by rw [beq_eq_false_iff_ne]; omega
          have hz3 : ((kd : Int) == 3) = false := by rw [beq_eq_false_iff_ne]; omega
          have hp3 : ((kd : Int) = 3) = False := eq_false (by omega)
          have hp0 : ((kd : Int) = 0) = False := eq_false (by omega)
          have hpn : (kd = 3) = False := eq_false h3
          have hpm : (kd = 0) = False := eq_false hk00
          have htx : at_ + tx.length ≤ s.length ∧ (s.drop at_).take tx.length = tx := by
            rcases Htx.out with h | h
            · exact (h3 h).elim
            · exact h
          obtain ⟨r, hr⟩ : ∃ r, s.length - at_ = r := ⟨_, rfl⟩
          obtain ⟨q, hq⟩ : ∃ q, at_ + tx.length = q := ⟨_, rfl⟩
          have hsub : (s.length : Int) - (at_ : Int) = (r : Int) := by omega
          have hadd : (at_ : Int) + (tx.length : Int) = (q : Int) := by omega
          have hnr : ¬ r < tx.length := by omega
          have haq : at_ ≤ q := by omega
          have hqs : q ≤ s.length := by omega
          have htz : (⟨tx.toArray⟩ : ByteArray).size = tx.length := rfl
          have he : (⟨s.toArray⟩ : ByteArray).extract at_ q = ⟨tx.toArray⟩ := by
            rw [ba_extract, ← hq, ← List.take_drop, htx.2]
          have hw1 : IntKind.i64.wrap (r : Int) = (r : Int) := IntWalk.i64_in _ (by omega)
          have hw2 : IntKind.i64.wrap (q : Int) = (q : Int) := IntWalk.i64_in _ (by omega)
          clear h3 hk00 htx hr hq H3
          go_quiet (fail)
          clear hsub hadd hnr haq hqs htz he hw1 hw2
          go_wp2_with fail
          refine ⟨⟨0 + 1, by go_num, Hin.out, below_drewN B6.out _, (show RowAt (w6.drewN _) _ _ from HA6.out)⟩, ?_⟩
          have := Hin.out
          simp [intOf]
          omega
    · obtain ⟨i', rfl⟩ : ∃ i', i = i' + 1 := ⟨i - 1, by omega⟩
      obtain ⟨u, hu⟩ : ∃ u, ts[i']? = some u := ⟨_, List.getElem?_eq_getElem (by rw [Hn.out]; omega)⟩
      obtain ⟨g2, o2, hgo, _, _, _, p3⟩ := HA5.out.get hu
      injection hgo with hgo
      injection hgo with e1 e2
      subst e1 e2
      have hrise : u.at_ < at_ := by
        have h := List.pairwise_iff_getElem.1 Hcov.out.rise i' (i' + 1) (by rw [Hn.out]; omega) (by rw [Hn.out]; omega) (by omega)
        have h1 := (List.getElem?_eq_some_iff.1 hu).2
        have h2 := (List.getElem?_eq_some_iff.1 Ht.out).2
        rw [h1, h2] at h
        exact h
      obtain ⟨pat, hpat⟩ : ∃ p, u.at_ = p := ⟨_, rfl⟩
      rw [hpat] at p3 hrise
      have hnle : ¬ at_ ≤ pat := by omega
      have hii : ((i' + 1 : Nat) : Int) - 1 = (i' : Int) := by omega
      have hwi : IntKind.i64.wrap (i' : Int) = (i' : Int) := IntWalk.i64_in _ (by omega)
      have hi'n : i' < n := by omega
      have hi1 : (((i' : Int) + 1) == (n' : Int)) = bl := by rw [← hi0]; rfl
      clear hu hpat h0
      cases bl
      all_goals
        go_quiet (fail)
        go_upto_region 12 with fail
        clear p3 hrise hnle hii hwi hi'n hz0 hi0 hi1 hin
        have k0' : (w5.drewN nq).cell? ⟨bt, 0, none⟩ = some (.int .u8 (kd : Int)) := k0
        have k1' : (w5.drewN nq).cell? ⟨bt, 1, none⟩ = some (.string ⟨tx.toArray⟩) := k1
        have k3' : (w5.drewN nq).cell? ⟨bt, 3, none⟩ = some (.int .i64 (at_ : Int)) := k3
        have hb6 : Below w.heap.size w (w5.drewN nq) := below_drewN BR5.out nq
        have hA6 : RowAt (w5.drewN nq) (some ⟨g, o, none⟩) ts := HA5.out
        obtain ⟨w6, hw6⟩ : ∃ w6, w5.drewN nq = w6 := ⟨_, rfl⟩
        rw [hw6] at k0' k1' k3' hb6 hA6
        rw [hw6]
        have B6 := hide hb6
        have HA6 := hide hA6
        clear hw6 hb6 hA6 k0 k1 k3
        by_cases h3 : kd = 3
        · have H3 := hide (show (kd : Int) = 3 from by omega)
          clear h3
          refine wp_region_tree (fun W => W = w6.drew) 33 (.read 0 (.read 1 (.read 2 (.read 3 (.read 4 (.read 5 (.read 6 (.read 7 (.read 8 (.read 9 (.read 10 (.read 11 (.read 12 (.read 13 (.read 14 (.read 15 (.read 16 (.read 17 (.read 18 (.read 19 (.read 20 (.read 21 (.read 22 (.read 23 (.read 24 (.read 25 (.read 26 (.read 27 (.read 28 (.read 29 (.read 30 (.read 31 (.read 32 .nil))))))))))))))))))))))))))))))))) (by kernel_rfl) (by kernel_rfl) (fun _ _ d _ _ h => by cases d <;> exact h) rfl ?_
          simp only [Plan.ops, List.getElem?_toArray, List.getElem?_cons_zero, List.getElem?_cons_succ, Option.elim]
          refine wpTree_read rfl (fun W hW => (by subst hW; go_simp; try with_reducible rfl)) ?_
          simp only [Act.put, List.setIfInBounds_toArray, List.set_cons_zero, List.set_cons_succ]
          refine wpTree_read (v := .int .u8 (kd : Int)) rfl (fun W hW => (by subst hW; go_simp; try with_reducible rfl)) ?_
          simp only [Act.put, List.setIfInBounds_toArray, List.set_cons_zero, List.set_cons_succ]
          refine wpTree_read (v := .bool false) rfl (fun W hW => (by subst hW; go_simp; first | done | exact H3.out | rfl)) ?_
          simp only [Act.put, List.setIfInBounds_toArray, List.set_cons_zero, List.set_cons_succ]
          refine wpTree_read rfl (fun W hW => (by subst hW; go_simp; try with_reducible rfl)) ?_
          simp only [Act.put, List.setIfInBounds_toArray, List.set_cons_zero, List.set_cons_succ]
          refine wpTree_skip rfl ?_
          simp only [Act.put, List.setIfInBounds_toArray, List.set_cons_zero, List.set_cons_succ]
          refine wpTree_skip rfl ?_
          simp only [Act.put, List.setIfInBounds_toArray, List.set_cons_zero, List.set_cons_succ]
          refine wpTree_skip rfl ?_
          simp only [Act.put, List.setIfInBounds_toArray, List.set_cons_zero, List.set_cons_succ]
          refine wpTree_read (v := .bool false) rfl (fun W hW => (by subst hW; go_simp; try with_reducible rfl)) ?_
          simp only [Act.put, List.setIfInBounds_toArray, List.set_cons_zero, List.set_cons_succ]
          refine wpTree_read rfl (fun W hW => (by subst hW; go_simp; try with_reducible rfl)) ?_
          simp only [Act.put, List.setIfInBounds_toArray, List.set_cons_zero, List.set_cons_succ]
          refine wpTree_skip rfl ?_
          simp only [Act.put, List.setIfInBounds_toArray, List.set_cons_zero, List.set_cons_succ]
          refine wpTree_skip rfl ?_
          simp only [Act.put, List.setIfInBounds_toArray, List.set_cons_zero, List.set_cons_succ]
          refine wpTree_skip rfl ?_
          simp only [Act.put, List.setIfInBounds_toArray, List.set_cons_zero, List.set_cons_succ]
          refine wpTree_skip rfl ?_
          simp only [Act.put, List.setIfInBounds_toArray, List.set_cons_zero, List.set_cons_succ]
          refine wpTree_skip rfl ?_
          simp only [Act.put, List.setIfInBounds_toArray, List.set_cons_zero, List.set_cons_succ]
          refine wpTree_skip rfl ?_
          simp only [Act.put, List.setIfInBounds_toArray, List.set_cons_zero, List.set_cons_succ]
          refine wpTree_skip rfl ?_
          simp only [Act.put, List.setIfInBounds_toArray, List.set_cons_zero, List.set_cons_succ]
          refine wpTree_skip rfl ?_
          simp only [Act.put, List.setIfInBounds_toArray, List.set_cons_zero, List.set_cons_succ]
          refine wpTree_skip rfl ?_
          simp only [Act.put, List.setIfInBounds_toArray, List.set_cons_zero, List.set_cons_succ]
          refine wpTree_skip rfl ?_
          simp only [Act.put, List.setIfInBounds_toArray, List.set_cons_zero, List.set_cons_succ]
          refine wpTree_skip rfl ?_
          simp only [Act.put, List.setIfInBounds_toArray, List.set_cons_zero, List.set_cons_succ]
          refine wpTree_skip rfl ?_
          simp only [Act.put, List.setIfInBounds_toArray, List.set_cons_zero, List.set_cons_succ]
          refine wpTree_skip rfl ?_
          simp only [Act.put, List.setIfInBounds_toArray, List.set_cons_zero, List.set_cons_succ]
          refine wpTree_skip rfl ?_
          simp only [Act.put, List.setIfInBounds_toArray, List.set_cons_zero, List.set_cons_succ]
          refine wpTree_skip rfl ?_
          simp only [Act.put, List.setIfInBounds_toArray, List.set_cons_zero, List.set_cons_succ]
          refine wpTree_skip rfl ?_
          simp only [Act.put, List.setIfInBounds_toArray, List.set_cons_zero, List.set_cons_succ]
          refine wpTree_skip rfl ?_
          simp only [Act.put, List.setIfInBounds_toArray, List.set_cons_zero, List.set_cons_succ]
          refine wpTree_skip rfl ?_
          simp only [Act.put, List.setIfInBounds_toArray, List.set_cons_zero, List.set_cons_succ]
          refine wpTree_skip rfl ?_
          simp only [Act.put, List.setIfInBounds_toArray, List.set_cons_zero, List.set_cons_succ]
          refine wpTree_skip rfl ?_
          simp only [Act.put, List.setIfInBounds_toArray, List.set_cons_zero, List.set_cons_succ]
          refine wpTree_skip rfl ?_
          simp only [Act.put, List.setIfInBounds_toArray, List.set_cons_zero, List.set_cons_succ]
          refine wpTree_skip rfl ?_
          simp only [Act.put, List.setIfInBounds_toArray, List.set_cons_zero, List.set_cons_succ]
          refine wpTree_skip rfl ?_
          simp only [Act.put, List.setIfInBounds_toArray, List.set_cons_zero, List.set_cons_succ]
          refine wpTree_skip rfl ?_
          simp only [Act.put, List.setIfInBounds_toArray, List.set_cons_zero, List.set_cons_succ]
          refine wpTree_nil ?_
          go_wp2_with fail
          refine ⟨⟨(i' + 1) + 1, by go_num, Hin.out, B6.out.drew, (show RowAt w6.drew _ _ from HA6.out)⟩, ?_⟩
          have := Hin.out
          simp [intOf]
          omega
        · have H3 := hide (show ¬ (kd : Int) = 3 from by omega)
          by_cases hk00 : kd = 0
          · have Hk00 := hide hk00
            clear h3 hk00
            refine wp_region_tree (fun W => W = w6.drew) 33 (.read 0 (.read 1 (.read 2 (.read 3 (.read 4 (.read 5 (.read 6 (.read 7 (.read 8 (.read 9 (.read 10 (.read 11 (.read 12 (.read 13 (.read 14 (.read 15 (.read 16 (.read 17 (.read 18 (.read 19 (.read 20 (.read 21 (.read 22 (.read 23 (.read 24 (.read 25 (.read 26 (.read 27 (.read 28 (.read 29 (.read 30 (.read 31 (.read 32 .nil))))))))))))))))))))))))))))))))) (by kernel_rfl) (by kernel_rfl) (fun _ _ d _ _ h => by cases d <;> exact h) rfl ?_
            simp only [Plan.ops, List.getElem?_toArray, List.getElem?_cons_zero, List.getElem?_cons_succ, Option.elim]
            refine wpTree_read rfl (fun W hW => (by subst hW; go_simp; try with_reducible rfl)) ?_
            simp only [Act.put, List.setIfInBounds_toArray, List.set_cons_zero, List.set_cons_succ]
            refine wpTree_read (v := .int .u8 (kd : Int)) rfl (fun W hW => (by subst hW; go_simp; try with_reducible rfl)) ?_
            simp only [Act.put, List.setIfInBounds_toArray, List.set_cons_zero, List.set_cons_succ]
            refine wpTree_read (v := .bool true) rfl (fun W hW => (by subst hW; go_simp; first | done | exact H3.out | rfl)) ?_
            simp only [Act.put, List.setIfInBounds_toArray, List.set_cons_zero, List.set_cons_succ]
            refine wpTree_read rfl (fun W hW => (by subst hW; go_simp; try with_reducible rfl)) ?_
            simp only [Act.put, List.setIfInBounds_toArray, List.set_cons_zero, List.set_cons_succ]
            refine wpTree_read rfl (fun W hW => (by subst hW; go_simp; try with_reducible rfl)) ?_
            simp only [Act.put, List.setIfInBounds_toArray, List.set_cons_zero, List.set_cons_succ]
            refine wpTree_read (v := .int .u8 (kd : Int)) rfl (fun W hW => (by subst hW; go_simp; try with_reducible rfl)) ?_
            simp only [Act.put, List.setIfInBounds_toArray, List.set_cons_zero, List.set_cons_succ]
            refine wpTree_read (v := .bool false) rfl (fun W hW => (by subst hW; go_simp; first | done | exact Hk00.out | rfl)) ?_
            simp only [Act.put, List.setIfInBounds_toArray, List.set_cons_zero, List.set_cons_succ]
            refine wpTree_read (v := .bool false) rfl (fun W hW => (by subst hW; go_simp; try with_reducible rfl)) ?_
            simp only [Act.put, List.setIfInBounds_toArray, List.set_cons_zero, List.set_cons_succ]
            refine wpTree_read rfl (fun W hW => (by subst hW; go_simp; try with_reducible rfl)) ?_
            simp only [Act.put, List.setIfInBounds_toArray, List.set_cons_zero, List.set_cons_succ]
            refine wpTree_skip rfl ?_
            simp only [Act.put, List.setIfInBounds_toArray, List.set_cons_zero, List.set_cons_succ]
            refine wpTree_skip rfl ?_
            simp only [Act.put, List.setIfInBounds_toArray, List.set_cons_zero, List.set_cons_succ]
            refine wpTree_skip rfl ?_
            simp only [Act.put, List.setIfInBounds_toArray, List.set_cons_zero, List.set_cons_succ]
            refine wpTree_skip rfl ?_
            simp only [Act.put, List.setIfInBounds_toArray, List.set_cons_zero, List.set_cons_succ]
            refine wpTree_skip rfl ?_
            simp only [Act.put, List.setIfInBounds_toArray, List.set_cons_zero, List.set_cons_succ]
            refine wpTree_skip rfl ?_
            simp only [Act.put, List.setIfInBounds_toArray, List.set_cons_zero, List.set_cons_succ]
            refine wpTree_skip rfl ?_
            simp only [Act.put, List.setIfInBounds_toArray, List.set_cons_zero, List.set_cons_succ]
            refine wpTree_skip rfl ?_
            simp only [Act.put, List.setIfInBounds_toArray, List.set_cons_zero, List.set_cons_succ]
            refine wpTree_skip rfl ?_
            simp only [Act.put, List.setIfInBounds_toArray, List.set_cons_zero, List.set_cons_succ]
            refine wpTree_skip rfl ?_
            simp only [Act.put, List.setIfInBounds_toArray, List.set_cons_zero, List.set_cons_succ]
            refine wpTree_skip rfl ?_
            simp only [Act.put, List.setIfInBounds_toArray, List.set_cons_zero, List.set_cons_succ]
            refine wpTree_skip rfl ?_
            simp only [Act.put, List.setIfInBounds_toArray, List.set_cons_zero, List.set_cons_succ]
            refine wpTree_skip rfl ?_
            simp only [Act.put, List.setIfInBounds_toArray, List.set_cons_zero, List.set_cons_succ]
            refine wpTree_skip rfl ?_
            simp only [Act.put, List.setIfInBounds_toArray, List.set_cons_zero, List.set_cons_succ]
            refine wpTree_skip rfl ?_
            simp only [Act.put, List.setIfInBounds_toArray, List.set_cons_zero, List.set_cons_succ]
            refine wpTree_skip rfl ?_
            simp only [Act.put, List.setIfInBounds_toArray, List.set_cons_zero, List.set_cons_succ]
            refine wpTree_skip rfl ?_
            simp only [Act.put, List.setIfInBounds_toArray, List.set_cons_zero, List.set_cons_succ]
            refine wpTree_skip rfl ?_
            simp only [Act.put, List.setIfInBounds_toArray, List.set_cons_zero, List.set_cons_succ]
            refine wpTree_skip rfl ?_
            simp only [Act.put, List.setIfInBounds_toArray, List.set_cons_zero, List.set_cons_succ]
            refine wpTree_skip rfl ?_
            simp only [Act.put, List.setIfInBounds_toArray, List.set_cons_zero, List.set_cons_succ]
            refine wpTree_skip rfl ?_
            simp only [Act.put, List.setIfInBounds_toArray, List.set_cons_zero, List.set_cons_succ]
            refine wpTree_skip rfl ?_
            simp only [Act.put, List.setIfInBounds_toArray, List.set_cons_zero, List.set_cons_succ]
            refine wpTree_skip rfl ?_
            simp only [Act.put, List.setIfInBounds_toArray, List.set_cons_zero, List.set_cons_succ]
            refine wpTree_skip rfl ?_
            simp only [Act.put, List.setIfInBounds_toArray, List.set_cons_zero, List.set_cons_succ]
            refine wpTree_nil ?_
            go_wp2_with fail
            refine ⟨⟨(i' + 1) + 1, by go_num, Hin.out, B6.out.drew, (show RowAt w6.drew _ _ from HA6.out)⟩, ?_⟩
            have := Hin.out
            simp [intOf]
            omega
          · have hzz : ((kd : Int) == 0) = false := by rw [beq_eq_false_iff_ne]; omega
            have hz3 : ((kd : Int) == 3) = false := by rw [beq_eq_false_iff_ne]; omega
            have hp3 : ((kd : Int) = 3) = False := eq_false (by omega)
            have hp0 : ((kd : Int) = 0) = False := eq_false (by omega)
            have hpn : (kd = 3) = False := eq_false h3
            have hpm : (kd = 0) = False := eq_false hk00
            have htx : at_ + tx.length ≤ s.length ∧ (s.drop at_).take tx.length = tx := by
              rcases Htx.out with h | h
              · exact (h3 h).elim
              · exact h
            obtain ⟨r, hr⟩ : ∃ r, s.length - at_ = r := ⟨_, rfl⟩
            obtain ⟨q, hq⟩ : ∃ q, at_ + tx.length = q := ⟨_, rfl⟩
            have hsub : (s.length : Int) - (at_ : Int) = (r : Int) := by omega
            have hadd : (at_ : Int) + (tx.length : Int) = (q : Int) := by omega
            have hnr : ¬ r < tx.length := by omega
            have haq : at_ ≤ q := by omega
            have hqs : q ≤ s.length := by omega
            have htz : (⟨tx.toArray⟩ : ByteArray).size = tx.length := rfl
            have he : (⟨s.toArray⟩ : ByteArray).extract at_ q = ⟨tx.toArray⟩ := by
              rw [ba_extract, ← hq, ← List.take_drop, htx.2]
            have hw1 : IntKind.i64.wrap (r : Int) = (r : Int) := IntWalk.i64_in _ (by omega)
            have hw2 : IntKind.i64.wrap (q : Int) = (q : Int) := IntWalk.i64_in _ (by omega)
            clear h3 hk00 htx hr hq H3
            go_quiet (fail)
            clear hsub hadd hnr haq hqs htz he hw1 hw2
            go_wp2_with fail
            refine ⟨⟨(i' + 1) + 1, by go_num, Hin.out, below_drewN B6.out _, (show RowAt (w6.drewN _) _ _ from HA6.out)⟩, ?_⟩
            have := Hin.out
            simp [intOf]
            omega
theorem lexCovers_str (x : ByteArray) (w : World) : Calls Tryd.prog 5 #[.string x] w fun e w' => e = .returned (.bool true) ∧ Below w.heap.size w w' := by
  obtain ⟨s, rfl⟩ := str_bytes x
  exact lexCovers_walk s w
set_option maxRecDepth 100000 in
theorem lexCovers_lifted (os : Os) (started : os.Started) (H : Type) (enc : TypeId × Value → H) :
    ReturnsInHanded {} Tryd.checked os 5 .any (fun w args => (Rows.lexCoversSpec.pre enc Tryd.prog Tryd.f5 Rows.lexCoversRow.domain false w args ∧ laidMetH Tryd.prog Rows.lexCoversRow.laid w) ∧ sizedMet enc Tryd.prog Tryd.f5 (OpenSpec.ofChange Rows.lexCoversSpec) false w args)
      (Rows.lexCoversSpec.post enc Tryd.prog Tryd.f5 false true false false) := by
  refine returnsInHanded_of_change_and (C := Tryd.checked) (X := fun w _ => laidMetH Tryd.prog Rows.lexCoversRow.laid w) (fun _ _ _ hh h => h.of_heap hh) own0 started (by kernel_rfl) Tryd.func5
    (ChangeSpec.witness_shaped (enc := enc) (C := Tryd.checked) (os := os) (X := fun w _ => laidMetH Tryd.prog Rows.lexCoversRow.laid w) false (World.laidAll Tryd.prog os Rows.lexCoversRow.laid) #[.string ⟨#[]⟩] 8 (World.laidAll_os _ _ _)
      (World.shaped_of_ZipB (by kernel_rfl) (by kernel_rfl)) (by kernel_rfl) (by kernel_rfl) (by kernel_rfl)
      (by rw [MakeChecks.laidMetH_plain _ _ _ (by kernel_rfl)]; exact laidMet_laidAll _ (by kernel_rfl) (by kernel_rfl))) ?_
  intro W base args ds gs before hval0 hW _ hsz0 _ _
  have hsz : (DataW.weightsEach Tryd.prog (Tryd.f5.params.toList ++ Rows.lexCoversSpec.plain.varTypes Tryd.prog) (ds ++ gs)).all (· ≤ reachBytes) = true := hsz0
  have hval : ∀ (j : Nat) t v, Tryd.f5.params[j]? = some t → args[j]? = some v → Value.okWide Tryd.prog W .any base t v := hval0
  have hW' := hW
  obtain ⟨p, q, hA0, hV, rfl, hfz, hnd⟩ := hW
  have hA : DataW.TrodAll enc Tryd.prog W 0 (fun _ => true) true Tryd.f5.params.toList args.toList ds p := hA0
  rw [Tryd.params5] at hA hval hsz
  obtain ⟨v0, d0, rfl, rfl, h0⟩ := trodAll_one hA
  obtain ⟨rfl, rfl⟩ := trodVars_none hV
  obtain ⟨x0, rfl, rfl, rfl, w0⟩ := Go.ChangeMaps.open_string Tryd.underlying9 (hval 0 9 v0 rfl rfl) h0
  have r0 : x0.data.toList.length ≤ reachBytes := sized_string hsz (j := 0) (t := 9) rfl rfl
  clear hA0 hval0
  refine (lexCovers_str x0 W).mono fun e W' ⟨he, hb⟩ => ?_
  subst he
  exact ⟨_, rfl, law_close laid0 Tryd.underlying4 rfl rfl (by rw [Tryd.params5]; decide +kernel) hW' (fun gs hg => by subst hg; rfl) hb⟩

theorem lexCovers_holds : Rows.LexCoversSaid :=
  OpenClaim.holds_of_wide 5 Tryd.f5 rfl rfl rfl rfl rfl rfl rfl ⟨rfl, rfl, rfl, rfl, rfl⟩ rfl rfl rfl rfl rfl (by kernel_rfl) Tryd.func5 (by kernel_rfl)
    (of_decide_eq_true (by kernel_rfl)) (by unfold Func.isWrapper; first | (rw [if_pos (by decide +kernel)]; kernel_rfl) | (rw [if_neg (by decide +kernel)]; exact ⟨rfl, rfl⟩))
    (fun os started H enc _ => lexCovers_lifted os started H enc)

theorem lexCovers_card : Rows.LexCoversCardSaid :=
  Claim7.holds_tied_plain_at .later [] [.data, .data, .data, .sentinel, .sentinel] true (true, "e4bfb0f06945ad57cbe129f0a800df575de38e037401972ea3686dcdf7ec80d3") true
    lexCovers_holds (fun _ h => by cases h) (by kernel_rfl) (fun _ h => by cases h) lexCovers_row_tie rfl ⟨rfl, rfl⟩ (by kernel_rfl) rfl
    (fun f fn hf hfn => by
      obtain rfl : f = 5 := Option.some.inj ((show Tryd.prog.funcNamed "columbary/columbarylaw05.LexCovers" = some 5 by kernel_rfl).symm.trans hf) |>.symm
      obtain rfl : fn = Tryd.f5 := (Option.some.inj (Tryd.func5.symm.trans hfn)).symm
      exact ⟨by kernel_rfl, fun j t ht => by
        rw [Tryd.params5] at ht
        have hm : t ∈ [9] := by
          have h := Array.mem_of_getElem? ht
          simp only [List.mem_toArray, List.mem_cons, List.not_mem_nil, or_false] at h ⊢
          simpa using h
        have hall : ([9].all fun u => !Tryd.prog.wantsStandIn u) = true := by kernel_rfl
        exact (show Tryd.prog.wantsStandIn t = false by simpa using List.all_eq_true.1 hall t hm)⟩)
    (by kernel_rfl)
end Go.Proofs.YtfbkmjjcopjoeaaDoor
