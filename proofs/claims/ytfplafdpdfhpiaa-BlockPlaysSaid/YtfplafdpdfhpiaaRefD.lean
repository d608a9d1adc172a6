/- Layer 1: the document's own answer: Write in all cases, New, done, Sync. -/
import Derived.Test.YtfplafdpdfhpiaaRefC
namespace Go.Proofs.Ytfplafdpdfhpiaa
open Go.RowKit

theorem RefIn.leaves {w : World} {rb : Nat} {sv lv : Value} {D : Dk} (h : RefIn w rb sv lv D) (v : Value) : RLeaves v rb (rfeet rb sv lv) D w (.returned v) w := ⟨_, rfl, ⟨_, _, h, rfl⟩, Fr.refl _ _, fun _ hk => .inl hk⟩

set_option maxHeartbeats 400000 in
theorem rwrite_all (w0 : World) (rb : Nat) (sv lv : Value) (D : Dk) (i : Int) (A : Option Addr) (c l : Nat) (p : List UInt8) (w : World) (h : RefIn w rb sv lv D) (hpl : p.length = l)
    (hb : Bytes w0 A p) (hw : Below w0.heap.size w0 w) (hF : ∀ k, rfeet rb sv lv k → w0.heap.size ≤ k) (hs : D.Small) :
    Calls Try.prog 14 #[.pointer (some ⟨rb, 0, none⟩), .int .i64 i, .slice A l c] w (RLeaves (.int .i64 (D.writeE i p.length)) rb (rfeet rb sv lv) (D.writeD i p) w) := by
  subst hpl
  have hl := hs.pend
  by_cases hr : refuse D i = 0
  · have hrn : ¬ (refuse D i ≠ 0) := fun h => h hr
    obtain ⟨h0, h1, h2⟩ := refuse_zero hr
    by_cases hp : 64 < p.length
    · have e1 : D.writeE i p.length = 2 := by unfold Dk.writeE; rw [if_neg hrn, if_pos hp]
      have e2 : D.writeD i p = D := by unfold Dk.writeD; rw [if_neg hrn, if_pos hp]
      rw [e1, e2]
      have fin := h.leaves (.int .i64 2)
      have H := hide h
      have Hr := hide hr
      clear h hr hrn hb hw hF e1 e2
      go_enter Try.func14, Try.ntmps14
      go_wp2_with (go_at_call 21; refine (rread_all _ _ _ D _ _ H.out (by omega)).mono ?_; rintro e w1 ⟨⟨hn, _⟩ | ⟨_, rfl⟩, rfl⟩; exact absurd Hr.out hn)
      go_ret
      exact fin
    · have e1 : D.writeE i p.length = begunE D := by unfold Dk.writeE; rw [if_neg hrn, if_neg hp]
      have e2 : D.writeD i p = (D.wrote i.toNat p).begun := by unfold Dk.writeD; rw [if_neg hrn, if_neg hp]
      rw [e1, e2]
      have := rwrite_ok w0 rb sv lv D i.toNat A c p w h h2 (by omega) (by omega) hb hw hF hs.ops hs.fuse hl
      rwa [Int.toNat_of_nonneg h0] at this
  · have e1 : D.writeE i p.length = refuse D i := by unfold Dk.writeE; rw [if_pos hr]
    have e2 : D.writeD i p = D := by unfold Dk.writeD; rw [if_pos hr]
    rw [e1, e2]
    have fin := h.leaves (.int .i64 (refuse D i))
    have H := hide h
    have Hr := hide hr
    clear h hr hb hw hF e1 e2
    have hne : ¬ (refuse D i = 0) := Hr.out
    go_enter Try.func14, Try.ntmps14
    go_wp2_with (go_at_call 21; refine (rread_all _ _ _ D _ _ H.out (by omega)).mono ?_; rintro e w1 ⟨⟨_, rfl⟩ | ⟨hn, _⟩, rfl⟩; rotate_left; exact absurd hn Hr.out)
    go_ret
    exact fin

def RNewPost (n : Nat) (w : World) (e : Ending) (w' : World) : Prop :=
  ∃ rb sv lv, e = .returned (.tuple #[.pointer (some ⟨rb, 0, none⟩), .int .i64 0]) ∧ RefIn w' rb sv lv (Dk.new n) ∧ Below w.heap.size w w' ∧ ∀ k, rfeet rb sv lv k → w.heap.size ≤ k

set_option maxHeartbeats 400000 in
theorem rnew_bad (n : Int) (w : World) (h : n < 1 ∨ 4096 < n) :
    Calls Try.prog 12 #[.int .i64 n] w fun e w' => e = .returned (.tuple #[.pointer none, .int .i64 1]) ∧ w = w' := by
  by_cases h1 : n < 1
  · clear h
    go_enter Try.func12, Try.ntmps12
    go_wp2
    go_ret2
    exact ⟨rfl, rfl⟩
  · have h2 : 4096 < n := by omega
    clear h
    go_enter Try.func12, Try.ntmps12
    go_wp2
    go_ret2
    exact ⟨rfl, rfl⟩

/-- The loop of New: behind j rounds. -/
def RnRel (n : Nat) (w : World) (rb : Nat) (x : Value) (wr : World) : Prop :=
  ∃ j : Nat, j ≤ n ∧ x = .int .i64 j ∧ ∃ a c, Blk wr rb 42 #[.slice a j c, .slice none 0 0, .int .i64 0, .int .i64 0, .bool false] ∧ wr.ownsRow 0 9 1 (.slice a j c) j (rstrs (fun _ => zero64) j) ∧ Below w.heap.size w wr ∧
    ∀ k, (Value.slice a j c).ownBlock = some k → w.heap.size ≤ k

theorem pad_nil : pad [] = zero64 := rfl

set_option maxHeartbeats 1000000 in
theorem rnew_ok (n : Nat) (w : World) (h1 : 1 ≤ n) (h2 : n ≤ 4096) : Calls Try.prog 12 #[.int .i64 n] w (RNewPost n w) := by
  go_enter Try.func12, Try.ntmps12
  go_wp2
  go_loopw [5] (fun i' wr => RnRel n w w.heap.size i' wr) (fun i _ => n - (intOf i).toNat)
  case atStart => exact ⟨0, by omega, rfl, none, 0, Blk.new _ _ _, World.ownsRow_nil _ _ _ _, (Below.refl _ _).alloc (Nat.le_refl _) _, fun k hk => by cases hk⟩
  case round =>
    obtain ⟨j, hj, rfl, a, c, hs, ho, hb, hF⟩ := hrel
    by_cases hlt : j < n
    · have c0 : wr.cell? ⟨w.heap.size, 0, none⟩ = some (.slice a j c) := hs.cell 0
      have Hs := hide hs
      have Ho := hide ho
      have Hb := hide hb
      have HF := hide hF
      clear hs ho hb hF
      go_upto_region 7 with fail
      refine wp_region_heldS (fun W => W.cell? ⟨w.heap.size, 0, none⟩ = some (.slice a j c)) 5 8 (by kernel_rfl) (by kernel_rfl) (fun _ _ d _ _ h => by cases d <;> exact h) c0 ?_
      simp only [List.take_succ_cons, List.take_zero, List.drop_succ_cons, List.drop_zero]
      iterate 4 (refine wpReads_yield rfl (fun W hW => (by go_simp; try with_reducible rfl)) ?_)
      refine wpReads_yield rfl (fun W hW => (by go_simp; try with_reducible rfl)) ?_
      refine wpReads_nil ?_
      simp only [Act.put, List.setIfInBounds_toArray, List.set_cons_zero, List.set_cons_succ]
      -- full
      refine wpHeld_cons rfl (fun K hK => ?_)
      refine wp_call_of 26 #[.string ⟨(([] : List UInt8)).toArray⟩] (by kernel_rfl) (rfull [] _ (Nat.zero_le _)) ?_
      rintro e w2 ⟨rfl, hb2⟩
      rw [pad_nil]
      have hbw : Below wr.heap.size wr w2 := (Below.refl _ _).drew.trans hb2
      have hs2 : Blk w2 w.heap.size _ _ := Hs.out.below hbw Hs.out.lt
      refine ⟨_, rfl, hK _ _ (hs2.cell 0) ?_⟩
      clear hK
      have Hs2 := hide hs2
      have Ho2 := hide (own_fr (F := fun _ => False) Ho.out (Fr.of_below hbw) (fun _ _ h => h))
      have Hb2 := hide (Hb.out.trans (hbw.mono Hb.out.size))
      clear hs2 hb2 hbw c0
      simp only [Act.put, List.setIfInBounds_toArray, List.set_cons_zero, List.set_cons_succ]
      -- the row of one
      refine wpHeld_cons rfl (fun K hK => ?_)
      refine wp_buildSlice_val 39 (.tmp 24) rfl (.string ⟨zero64.toArray⟩) rfl rfl 9 16 (.string ⟨#[]⟩) Try.underlying39 infoS9 ?_
      obtain ⟨w3, hw3⟩ : ∃ w3, w3 = w2.alloc (.cells #[.string ⟨zero64.toArray⟩] 9) := ⟨_, rfl⟩
      rw [← hw3]
      have hf3 : Fr (fun _ => False) w2 w3 := by rw [hw3]; exact (Fr.refl _ _).alloc _
      have hb3 : Below w.heap.size w w3 := by rw [hw3]; exact Hb2.out.alloc Hb2.out.size _
      have hx3 : Blk w3 w2.heap.size 9 #[.string ⟨zero64.toArray⟩] := by rw [hw3]; exact Blk.new _ _ _
      clear hw3
      have hs3 := Hs2.out.fr hf3 (fun hh => hh)
      have ho3 := own_fr Ho2.out hf3 (fun _ _ h => h)
      refine hK _ _ (hs3.cell 0) ?_
      clear hK
      have Hs3 := hide hs3
      have Ho3 := hide ho3
      have Hb3 := hide hb3
      have Hx3 := hide hx3
      clear hs3 ho3 hb3 hx3 hf3
      simp only [Act.put, List.setIfInBounds_toArray, List.set_cons_zero, List.set_cons_succ]
      -- append
      refine wpHeld_cons rfl (fun K hK => ?_)
      refine wp_append_at w3 (.tmp 23) (.tmp 25) 39 rfl 0 9 (.string ⟨#[]⟩) 1 16 Try.underlying39 infoS9 rfl (by decide) a j c _ rfl Ho3.out
        ⟨w2.heap.size, 0, none⟩ 1 1 [.string ⟨zero64.toArray⟩] rfl rfl (fun q u hu => ?_) (by intro u hu; simp only [List.mem_singleton] at hu; subst hu; rfl) (by simp only [maxLen]; omega) (by omega) (Nat.zero_le _) ?_
      · rw [Addr.add_mid, Nat.zero_add, Hx3.out.cell]
        rw [← hu]
        exact List.getElem?_toArray
      intro a' c' w4 hown hf4 hnew0
      have s4 := Hs3.out.fr hf4 (own_blk_ne Ho3.out Hs3.out (by decide))
      have hb4 : Below w.heap.size w w4 := Hb3.out.trans (hf4.below Hb3.out.size HF.out)
      refine hK _ _ (s4.cell 0) ?_
      clear hK
      refine wpHeld_nil ?_
      simp only [Act.put, List.setIfInBounds_toArray, List.set_cons_zero, List.set_cons_succ]
      have k0 : w4.cell? ⟨w.heap.size, 0, none⟩ = some (.slice a j c) := s4.cell 0
      have z0 : w4.frozen? ⟨w.heap.size, 0, none⟩ = false := s4.frozen 0
      have fin : RnRel n w w.heap.size (.int .i64 ((j + 1 : Nat) : Int)) (w4.setCell ⟨w.heap.size, 0, none⟩ (.slice a' (j + 1) c')) := by
        refine ⟨j + 1, hlt, rfl, a', c', by simpa using s4.set_ 0 (.slice a' (j + 1) c'), ?_, hb4.setCell (p := ⟨w.heap.size, 0, none⟩) (Nat.le_refl _) _, fun k hk => ?_⟩
        · rw [rstrs_succ]
          exact own_fr hown ((Fr.refl (fun k => k = w.heap.size) w4).put1 0 _) (fun k hk e => own_blk_ne hown s4 (by decide) (by rw [hk, e]))
        · rcases hnew0 k hk with h | h
          · exact HF.out k h
          · exact Nat.le_trans Hb3.out.size h
      have Fin := hide fin
      clear fin hown hf4 hnew0 s4 hb4
      go_wp2
      go_roundw
      case rel => exact Fin.out
      case measure => (simp [intOf]; try omega)
    · obtain rfl : j = n := by omega
      have fin : RNewPost j w (.returned (.tuple #[.pointer (some ⟨w.heap.size, 0, none⟩), .int .i64 0])) wr := by
        refine ⟨w.heap.size, _, _, rfl, ⟨Dk.new_wf h1 h2, hs, ho, World.ownsRow_nil _ _ _ _⟩, hb, ?_⟩
        rintro k (rfl | hk | hk)
        · exact Nat.le_refl _
        · exact hF k hk
        · cases hk
      have Fin := hide fin
      clear fin hs ho hb hF
      go_wp2
      go_ret2
      exact Fin.out

end Go.Proofs.Ytfplafdpdfhpiaa
