/- Package block: each call in one contract, whatever its arguments; the document's example. -/
import Derived.Test.YtbcpplndmndkiaaDiskD
namespace Go.Proofs.Ytbcpplndmndkiaa
open Go.RowKit

/-- Numbers that can't run over in what is done here. -/
structure Dk.Small (D : Dk) : Prop where
  ops : D.ops < 4611686018427387904
  fuse : D.fuse ≤ 9223372036854775807
  pend : D.pend.length < 999999

theorem DiskAt.leaves {w : World} {b : Nat} {F : Nat → Prop} {D : Dk} (h : DiskAt w b F D) (e0 : Int) : Leaves e0 b F D w (.returned (.int .i64 e0)) w := ⟨F, rfl, h, Fr.refl _ _, fun _ hk => .inl hk⟩

def Dk.writeE (D : Dk) (i : Int) (l : Nat) : Int := if refuse D i ≠ 0 then refuse D i else if 64 < l then 2 else begunE D
def Dk.writeD (D : Dk) (i : Int) (p : List UInt8) : Dk := if refuse D i ≠ 0 then D else if 64 < p.length then D else (D.wrote i.toNat p).begun
theorem refuse_zero {D : Dk} {i : Int} (h : refuse D i = 0) : 0 ≤ i ∧ i < D.n ∧ D.off = false := by
  unfold refuse at h
  split at h
  · cases h
  · split at h
    · cases h
    · rename_i h1 h2
      exact ⟨by omega, by omega, by simpa using h2⟩
theorem write_all (b : Nat) (F : Nat → Prop) (D : Dk) (i : Int) (A : Option Addr) (c l : Nat) (p : List UInt8) (w : World) (h : DiskAt w b F D) (hl : p.length = l) (hb : Bytes w A p) (hs : D.Small) :
    Calls Try.prog 45 #[.pointer (some ⟨b, 0, none⟩), .int .i64 i, .slice A l c] w (Leaves (D.writeE i p.length) b F (D.writeD i p) w) := by
  subst hl
  by_cases hr : refuse D i = 0
  · have hrn : ¬ (refuse D i ≠ 0) := fun h => h hr
    obtain ⟨h0, h1, h2⟩ := refuse_zero hr
    by_cases hl : 64 < p.length
    · have e1 : D.writeE i p.length = 2 := by unfold Dk.writeE; rw [if_neg hrn, if_pos hl]
      have e2 : D.writeD i p = D := by unfold Dk.writeD; rw [if_neg hrn, if_pos hl]
      rw [e1, e2]
      refine (write_long b F D i A p.length c w h hr hl).mono ?_
      rintro e w' ⟨rfl, rfl⟩
      exact h.leaves _
    · have e1 : D.writeE i p.length = begunE D := by unfold Dk.writeE; rw [if_neg hrn, if_neg hl]
      have e2 : D.writeD i p = (D.wrote i.toNat p).begun := by unfold Dk.writeD; rw [if_neg hrn, if_neg hl]
      rw [e1, e2]
      have := write_any b F D i.toNat A c p w h h2 (by omega) (by omega) hb hs.ops hs.fuse hs.pend
      rwa [Int.toNat_of_nonneg h0] at this
  · have e1 : D.writeE i p.length = refuse D i := if_pos hr
    have e2 : D.writeD i p = D := if_pos hr
    rw [e1, e2]
    refine (write_refused b F D i A p.length c w h hr).mono ?_
    rintro e w' ⟨rfl, rfl⟩
    exact h.leaves _

def Dk.syncE (D : Dk) : Int := if D.off = true then 12 else begunE D
def Dk.syncD (D : Dk) : Dk := if D.off = true then D else if D.fuse = 1 then D.begun else D.begun.synced
theorem sync_all (b : Nat) (F : Nat → Prop) (D : Dk) (w : World) (h : DiskAt w b F D) (hs : D.Small) :
    Calls Try.prog 29 #[.pointer (some ⟨b, 0, none⟩)] w (Leaves D.syncE b F D.syncD w) := by
  unfold Dk.syncE Dk.syncD
  by_cases ho : D.off = true
  · rw [if_pos ho, if_pos ho]
    refine (sync_off b F D w h ho).mono ?_
    rintro e w' ⟨rfl, rfl⟩
    exact h.leaves _
  · rw [if_neg ho, if_neg ho]
    exact sync_any b F D w h (by simpa using ho) hs.ops hs.fuse (by have := hs.pend; omega)

def Dk.armE (m : Int) : Int := if m < 0 then 1 else 0
def Dk.armD (D : Dk) (m : Int) : Dk := if m < 0 then D else { D with fuse := m.toNat }
theorem arm_all (b : Nat) (F : Nat → Prop) (D : Dk) (m : Int) (w : World) (h : DiskAt w b F D) :
    Calls Try.prog 26 #[.pointer (some ⟨b, 0, none⟩), .int .i64 m] w (Leaves (Dk.armE m) b F (D.armD m) w) := by
  unfold Dk.armE Dk.armD
  by_cases hm : m < 0
  · rw [if_pos hm, if_pos hm]
    refine (arm_neg b m w hm).mono ?_
    rintro e w' ⟨rfl, rfl⟩
    exact h.leaves _
  · rw [if_neg hm, if_neg hm]
    obtain ⟨bd, bl, pv, h, rfl⟩ := h
    refine (arm_any b bd bl pv D _ m w h (by omega)).mono ?_
    rintro e w' ⟨rfl, hd, hf⟩
    exact ⟨_, rfl, ⟨bd, bl, pv, hd, rfl⟩, hf.mono (fun _ _ e => .inl e), fun _ hk => .inl hk⟩

/-- What Read tells. -/
def ReadPost (D : Dk) (i : Int) (w : World) (e : Ending) (w' : World) : Prop :=
  (refuse D i ≠ 0 ∧ e = .returned (.tuple #[.slice none 0 0, .int .i64 (refuse D i)]) ∧ w = w') ∨
  (refuse D i = 0 ∧ e = .returned (.tuple #[.slice (some ⟨w.heap.size, 0, none⟩) 64 64, .int .i64 0]) ∧ w' = w.alloc (.cells (B8s (view D.dur D.pend i.toNat)).toArray 5))
theorem read_all (b : Nat) (F : Nat → Prop) (D : Dk) (i : Int) (w : World) (h : DiskAt w b F D) :
    Calls Try.prog 28 #[.pointer (some ⟨b, 0, none⟩), .int .i64 i] w (ReadPost D i w) := by
  by_cases hr : refuse D i = 0
  · obtain ⟨h0, h1, h2⟩ := refuse_zero hr
    have := read_any b F D i.toNat w h h2 (by omega)
    rw [Int.toNat_of_nonneg h0] at this
    exact this.mono fun e w' ⟨he, hw⟩ => .inr ⟨hr, he, hw⟩
  · exact (read_refused b F D i w h hr).mono fun e w' ⟨he, hw⟩ => .inl ⟨hr, he, hw⟩
theorem DiskAt.alloc {w : World} {b : Nat} {F : Nat → Prop} {D : Dk} (h : DiskAt w b F D) (o : Obj) : DiskAt (w.alloc o) b F D := by
  obtain ⟨bd, bl, pv, h, rfl⟩ := h
  exact ⟨bd, bl, pv, DiskL.alloc h o, rfl⟩
theorem DiskAt.fr {G : Nat → Prop} {w w' : World} {b : Nat} {F : Nat → Prop} {D : Dk} (h : DiskAt w b F D) (hf : Fr G w w') (ha : ∀ k, F k → ¬ G k) : DiskAt w' b F D := by
  obtain ⟨bd, bl, pv, h, rfl⟩ := h
  exact ⟨bd, bl, pv, DiskL.fr h hf ha, rfl⟩
theorem DiskAt.lt {w : World} {b : Nat} {F : Nat → Prop} {D : Dk} (h : DiskAt w b F D) : ∀ k, F k → k < w.heap.size := by
  obtain ⟨bd, bl, pv, h, rfl⟩ := h
  rintro k (rfl | rfl | rfl | hk)
  · exact h.str.lt
  · obtain ⟨_, h1, _⟩ := h.dur; exact h1.lt
  · obtain ⟨_, h1, _⟩ := h.lat; exact h1.lt
  · exact (World.ownsRow.lt h.pen k hk).2
theorem DiskAt.wf {w : World} {b : Nat} {F : Nat → Prop} {D : Dk} (h : DiskAt w b F D) : D.Wf := by
  obtain ⟨bd, bl, pv, h, rfl⟩ := h
  exact DiskL.wf h

theorem restart_all (b : Nat) (F : Nat → Prop) (D : Dk) (keep torn : Int) (w : World) (h : DiskAt w b F D) (hs : D.Small) :
    Calls Try.prog 20 #[.pointer (some ⟨b, 0, none⟩), .int .i64 keep, .int .i64 torn] w (Leaves 0 b F (D.restarted keep torn) w) :=
  restart_any b F D keep torn w h (by have := hs.pend; omega)
theorem len_at (b : Nat) (F : Nat → Prop) (D : Dk) (w : World) (h : DiskAt w b F D) :
    Calls Try.prog 37 #[.pointer (some ⟨b, 0, none⟩)] w fun e w' => e = .returned (.int .i64 (D.n : Int)) ∧ w = w' := by
  obtain ⟨bd, bl, pv, h, rfl⟩ := h
  exact len_any b bd bl pv D _ w h
theorem bytes_new (w : World) (t : TypeId) (l : List UInt8) (fr : Nat × Nat) : Bytes (w.alloc (.cells (B8s l).toArray t fr)) (some ⟨w.heap.size, 0, none⟩) l :=
  .inr ⟨_, 0, rfl, fun j v hv => by
    have h : (w.alloc (.cells (B8s l).toArray t fr)).heap[w.heap.size]? = some (.cells (B8s l).toArray t fr) := heap_alloc_new w _
    rw [cell_of_row _ _ _ _ t fr h, Nat.zero_add, List.getElem?_toArray]
    exact hv⟩

end Go.Proofs.Ytbcpplndmndkiaa
