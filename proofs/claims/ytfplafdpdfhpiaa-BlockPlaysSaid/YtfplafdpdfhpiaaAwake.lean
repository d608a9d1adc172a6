/- Layer 1: the document's example, 'awake'. -/
import Derived.Test.YtfplafdpdfhpiaaDiskE
import Derived.Lib.SlBytesConst
namespace Go.Proofs.Ytfplafdpdfhpiaa
open Go.RowKit

def aw1 : Dk := (Dk.new 2).writeD 0 [97, 98]
def aw2 : Dk := aw1.syncD
def aw3 : Dk := aw2.writeD 0 [120, 121]
def aw4 : Dk := aw3.restarted 0 1
theorem aw_e1 : (Dk.new 2).writeE 0 2 = 0 := by decide
theorem aw_e2 : aw1.syncE = 0 := by decide
theorem aw_e3 : aw2.writeE 0 2 = 0 := by decide
theorem aw_r4 : refuse aw4 0 = 0 := by decide
theorem aw_s0 : (Dk.new 2).Small := ⟨by decide, by decide, by decide⟩
theorem aw_s1 : aw1.Small := ⟨by decide, by decide, by decide⟩
theorem aw_s2 : aw2.Small := ⟨by decide, by decide, by decide⟩
theorem aw_s3 : aw3.Small := ⟨by decide, by decide, by decide⟩
theorem aw_view : view aw4.dur aw4.pend 0 = [120, 98] ++ List.replicate 62 0 := by decide
theorem aw_len : (view aw4.dur aw4.pend 0).length = 64 := by decide

theorem bytes_new (w : World) (t : TypeId) (l : List UInt8) (fr : Nat × Nat) : Bytes (w.alloc (.cells (B8s l).toArray t fr)) (some ⟨w.heap.size, 0, none⟩) l :=
  .inr ⟨_, 0, rfl, fun j v hv => by
    have h : (w.alloc (.cells (B8s l).toArray t fr)).heap[w.heap.size]? = some (.cells (B8s l).toArray t fr) := heap_alloc_new w _
    rw [cell_of_row _ _ _ _ t fr h, Nat.zero_add, List.getElem?_toArray]
    exact hv⟩

set_option maxHeartbeats 1000000 in
theorem awake_any (w : World) : Calls Try.prog 10 #[] w fun e w' => e = .returned (.bool true) ∧ Below w.heap.size w w' := by
  have kc := fun (w : World) (C : Array Value) (n c : Nat) => Lib.run_convert_bytes_const (P := Try.prog) w 31 5 C n c Try.underlying31 Try.underlying5
  go_enter Try.func10, Try.ntmps10
  go_wp2_with fail
  have c0 : Calls Try.prog 11 #[.int .i64 2] w (NewPost 2 w) := new_any 2 w (by decide) (by decide)
  refine c0.mono ?_
  rintro e w1 ⟨b, F0, rfl, hd0, hb0, hF0⟩
  have Hd0 := hide hd0
  have HF0 := hide hF0
  have Hb0 := hide hb0
  clear hd0 hb0 hF0 c0
  go_wp2_with fail
  have c1 := write_all b F0 (Dk.new 2) 0 (some ⟨w1.heap.size, 0, none⟩) 2 2 [97, 98] _ (Hd0.out.alloc (.cells (B8s [97, 98]).toArray 5 (2, 3))) rfl (bytes_new w1 _ _ _) aw_s0
  rw [show ([97, 98] : List UInt8).length = 2 from rfl, aw_e1] at c1
  refine c1.mono ?_
  rintro e w2 ⟨F1, rfl, hd1, hf1, hs1⟩
  have Hd1 := hide hd1
  have HF1 := hide (fun k (hk : F1 k) => (hs1 k hk).elim (fun h => HF0.out k h) (fun h => Nat.le_trans Hb0.out.size (Nat.le_trans (by simp) h)))
  have Hb1 := hide ((Hb0.out.alloc Hb0.out.size (.cells (B8s [97, 98]).toArray 5 (2, 3))).trans (hf1.below (Nat.le_trans Hb0.out.size (by simp)) HF0.out))
  clear hd1 hf1 hs1 c1 Hd0 HF0 Hb0
  go_wp2_with fail
  have c2 := sync_all b F1 aw1 w2 Hd1.out aw_s1
  rw [aw_e2] at c2
  refine c2.mono ?_
  rintro e w3 ⟨F2, rfl, hd2, hf2, hs2⟩
  have Hd2 := hide hd2
  have HF2 := hide (fun k (hk : F2 k) => (hs2 k hk).elim (fun h => HF1.out k h) (fun h => Nat.le_trans Hb1.out.size h))
  have Hb2 := hide (Hb1.out.trans (hf2.below Hb1.out.size HF1.out))
  clear hd2 hf2 hs2 c2 Hd1 HF1 Hb1
  go_wp2_with fail
  have c3 := write_all b F2 aw2 0 (some ⟨w3.heap.size, 0, none⟩) 2 2 [120, 121] _ (Hd2.out.alloc (.cells (B8s [120, 121]).toArray 5 (2, 3))) rfl (bytes_new w3 _ _ _) aw_s2
  rw [show ([120, 121] : List UInt8).length = 2 from rfl, aw_e3] at c3
  refine c3.mono ?_
  rintro e w4 ⟨F3, rfl, hd3, hf3, hs3⟩
  have Hd3 := hide hd3
  have HF3 := hide (fun k (hk : F3 k) => (hs3 k hk).elim (fun h => HF2.out k h) (fun h => Nat.le_trans Hb2.out.size (Nat.le_trans (by simp) h)))
  have Hb3 := hide ((Hb2.out.alloc Hb2.out.size (.cells (B8s [120, 121]).toArray 5 (2, 3))).trans (hf3.below (Nat.le_trans Hb2.out.size (by simp)) HF2.out))
  clear hd3 hf3 hs3 c3 Hd2 HF2 Hb2
  go_wp2_with fail
  refine (restart_all b F3 aw3 0 1 w4 Hd3.out aw_s3).mono ?_
  rintro e w5 ⟨F4, rfl, hd4, hf4, hs4⟩
  have Hd4 := hide hd4
  have Hb4 := hide (Hb3.out.trans (hf4.below Hb3.out.size HF3.out))
  clear hd4 hf4 hs4 Hd3 HF3 Hb3
  go_wp2_with fail
  refine (read_all b F4 aw4 0 w5 Hd4.out).mono ?_
  rintro e w6 (⟨hr, _⟩ | ⟨_, rfl, rfl⟩)
  · exact absurd aw_r4 hr
  have Hb5 := hide (Hb4.out.alloc Hb4.out.size (.cells (B8s (view aw4.dur aw4.pend 0)).toArray 5))
  have hstr : (convert 31 9 (.slice (some ⟨w5.heap.size, 0, none⟩) 3 64)).run Try.prog (w5.alloc (.cells (B8s (view aw4.dur aw4.pend 0)).toArray 5)) = .ok (.string ⟨#[120, 98, 0]⟩) (w5.alloc (.cells (B8s (view aw4.dur aw4.pend 0)).toArray 5)) :=
    run_str_bytes _ _ _ 5 Try.underlying31 Try.underlying5 Try.underlying9 _ 3 64 [120, 98, 0] rfl (by
      have h := (bytes_new w5 5 (view aw4.dur aw4.pend 0) (0, 0)).take 3
      rw [aw_view] at h ⊢
      exact h)
  go_wp2
  go_ret
  exact ⟨rfl, Hb5.out⟩

end Go.Proofs.Ytfplafdpdfhpiaa
