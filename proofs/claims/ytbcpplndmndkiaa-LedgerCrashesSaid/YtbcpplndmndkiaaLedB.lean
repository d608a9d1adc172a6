/- Package ledger: what is laid ahead of a record or a snapshot, and read back. -/
import Derived.Test.YtbcpplndmndkiaaLedA
namespace Go.Proofs.Ytbcpplndmndkiaa
open Go.RowKit

/-- Seven bytes of a number, the lowest first. -/
def le7 (n : Nat) : List UInt8 := (List.range 7).map fun i => UInt8.ofNat (n / 256 ^ i)
def hd (m : UInt8) (n : Nat) : List UInt8 := m :: le7 n
theorem le7_len (n : Nat) : (le7 n).length = 7 := by simp [le7]
theorem hd_len (m : UInt8) (n : Nat) : (hd m n).length = 8 := by simp [hd, le7_len]
/-- The head, k bytes of the number laid, and room for n bytes. -/
def hdK (n k : Nat) : List UInt8 := 0 :: ((List.range 7).map fun i => if i < k then UInt8.ofNat (n / 256 ^ i) else 0) ++ List.replicate n 0
theorem hdK_len (n k : Nat) : (hdK n k).length = n + 8 := by simp [hdK]; omega
theorem hdK_zero (n : Nat) : hdK n 0 = List.replicate (n + 8) 0 := by
  apply List.ext_getElem?
  intro i
  simp only [hdK, Nat.not_lt_zero, if_false]
  rw [show (0 : UInt8) :: (List.range 7).map (fun _ => (0 : UInt8)) ++ List.replicate n 0 = List.replicate 8 0 ++ List.replicate n 0 from rfl, List.replicate_append_replicate, Nat.add_comm]
theorem hdK_seven (n : Nat) : (hdK n 7).take 8 = hd 0 n := by
  simp [hdK, hd, le7, List.range_succ]
theorem hdK_succ (n k : Nat) (hk : k < 7) : (hdK n k).set (1 + k) (UInt8.ofNat (n / 256 ^ k)) = hdK n (k + 1) := by
  obtain rfl | rfl | rfl | rfl | rfl | rfl | rfl : k = 0 ∨ k = 1 ∨ k = 2 ∨ k = 3 ∨ k = 4 ∨ k = 5 ∨ k = 6 := by omega
  all_goals rfl
theorem B8s_set (l : List UInt8) (i : Nat) (x : UInt8) : (B8s l).toArray.setIfInBounds i (B8 x) = (B8s (l.set i x)).toArray := by
  simp [B8s, List.map_set]
theorem made_bytes (n : Nat) : madeCells (Value.int .u8 0).cells n = (B8s (List.replicate n 0)).toArray := by
  apply Array.ext_getElem?
  intro i
  have : (Value.int .u8 0).cells = #[.int .u8 0] := rfl
  rw [this]
  unfold madeCells
  have e : (B8s (List.replicate n 0)).toArray[i]? = if i < n then some (B8 0) else none := by
    rw [List.getElem?_toArray, B8s_get, List.getElem?_replicate]
    split <;> rfl
  rw [e, Array.getElem?_map]
  by_cases h : i < n
  · rw [Array.getElem?_range, if_pos h, if_pos h]
    simp [B8, Nat.mod_one]
  · rw [Array.getElem?_eq_none (by simpa using h), if_neg h]
    rfl

def FramedPost (l : List UInt8) (w : World) (e : Ending) (w' : World) : Prop :=
  ∃ g c, e = .returned (.slice (some ⟨g, 0, none⟩) (8 + l.length) c) ∧ OwnB w' (some ⟨g, 0, none⟩) (8 + l.length) c (hd 0 l.length ++ l) ∧ w.heap.size ≤ g ∧ Below w.heap.size w w'

set_option maxHeartbeats 1000000 in
theorem framed_any (A : Option Addr) (n c : Nat) (l : List UInt8) (w : World) (hn : l.length = n) (hb : Bytes w A l) (hl : n ≤ 10000000) :
    Calls Try.prog 43 #[.slice A n c] w (FramedPost l w) := by
  subst hn
  obtain ⟨i, hi', hz, hs, hbt⟩ := info_parts (infoU8)
  have hmk : (Instr.makeSlice 22 (.int .i64 8) (.int .i64 ((l.length : Int) + 8))).run Try.prog w = .ok (.slice (some ⟨w.heap.size, 0, none⟩) 8 (l.length + 8)) (w.alloc (.cells (B8s (hdK l.length 0)).toArray 5)) := by
    have := run_make (P := Try.prog) w 22 5 i (.int .u8 0) Try.underlying22 hi' hz .i64 .i64 8 ((l.length : Int) + 8) (by omega) (by omega) (by rw [hbt]; omega) (by omega)
    rw [hs, Nat.mul_one, made_bytes] at this
    rw [hdK_zero]
    exact this
  have Hb := hide hb
  clear hb hi' hz hs hbt
  go_enter Try.func43, Try.ntmps43
  go_wp2_with (go_at_call 30; refine (need_any _ _ (by omega) (by omega)).mono ?_; rintro e w' ⟨rfl, rfl⟩)
  clear hmk
  go_loopw [9, 4] (fun i _ wr => ∃ k : Nat, k ≤ 7 ∧ i = .int .i64 k ∧ Blk wr w.heap.size 5 (B8s (hdK l.length k)).toArray ∧ Below w.heap.size w wr) (fun i _ _ => 7 - (intOf i).toNat)
  case atStart => exact ⟨0, by omega, rfl, Blk.new _ _ _, (Below.refl _ _).alloc (Nat.le_refl _) _⟩
  case round =>
    obtain ⟨k, hk, rfl, hblk, hbel⟩ := hrel
    by_cases hlt : k < 7
    · have hst : ∀ v : Int, v = ((l.length / 256 ^ k % 256 : Nat) : Int) → Blk (wr.setCell ⟨w.heap.size, 1 + k, none⟩ (.int .u8 v)) w.heap.size 5 (B8s (hdK l.length (k + 1))).toArray := by
        rintro v rfl
        rw [← hdK_succ l.length k hlt, ← B8s_set]
        have hq := hblk.set_ (1 + k) (B8 (UInt8.ofNat (l.length / 256 ^ k)))
        rw [B8, show ((UInt8.ofNat (l.length / 256 ^ k)).toNat) = l.length / 256 ^ k % 256 from UInt8.toNat_ofNat' ..] at hq ⊢
        exact hq
      have Hst := hide hst
      clear hst
      have Hblk := hide hblk
      have Hbel := hide hbel
      have hsz := hdK_len l.length k
      have hz : ∀ j, wr.frozen? ⟨w.heap.size, j, none⟩ = false := hblk.frozen
      have hcell : wr.cell? ⟨w.heap.size, 1 + k, none⟩ = some (B8 ((hdK l.length k)[1 + k]'(by omega))) := by
        rw [hblk.cell, List.getElem?_toArray, B8s_get, List.getElem?_eq_getElem (by omega)]
        rfl
      clear hblk hbel
      obtain rfl | rfl | rfl | rfl | rfl | rfl | rfl : k = 0 ∨ k = 1 ∨ k = 2 ∨ k = 3 ∨ k = 4 ∨ k = 5 ∨ k = 6 := by omega
      all_goals
        go_wp2
        go_roundw
        case rel => exact ⟨_, by omega, (rfl : _ = Value.int .i64 (((_ + 1 : Nat)) : Int)), Hst.out _ (by omega), Hbel.out.setCell (p := ⟨w.heap.size, _, none⟩) (Nat.le_refl _) _⟩
        case measure => simp [intOf]
    · obtain rfl : k = 7 := by omega
      have hown : OwnB wr (some ⟨w.heap.size, 0, none⟩) 8 (l.length + 8) (hd 0 l.length) := by
        have h := OwnB.of_blk hblk 8 (by rw [hdK_len]; omega) (by rw [hdK_len]; simp only [maxLen]; omega)
        rwa [hdK_len, hdK_seven] at h
      have hbr : Bytes wr A l := Hb.out.below hbel (Nat.le_refl _)
      have Hown := hide hown
      have Hbr := hide hbr
      have Hbel := hide hbel
      clear hown hbr hbel hblk
      go_wp2_with (refine wpList_append_bytes rfl (.tmp 24) (.tmp 25) 22 rfl Try.underlying22 infoU8 _ 8 (l.length + 8) _ rfl Hown.out _ l.length c l rfl rfl Hbr.out (by omega) ?_; intro A' c' w' ho hf hn _)
      go_ret
      obtain ⟨g, rfl⟩ := ho.addr (by omega)
      refine ⟨g, c', rfl, ho, ?_, Hbel.out.trans (hf.below Hbel.out.size (fun k hk => ?_))⟩
      · rcases hn g (At.some_iff.2 rfl) with h | h
        · rw [At.some_iff] at h; simp only at h; omega
        · exact Nat.le_trans Hbel.out.size h
      · rw [At.some_iff] at hk; simp only at hk; omega
end Go.Proofs.Ytbcpplndmndkiaa
