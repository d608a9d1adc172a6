/- A disk that a law has made: where it stands, and that all from before is as it was. -/
import Derived.Test.YtbcpplndmndkiaaDiskE
namespace Go.Proofs.Ytbcpplndmndkiaa
open Go.RowKit

structure On (w0 w : World) (b : Nat) (F : Nat → Prop) (D : Dk) : Prop where
  disk : DiskAt w b F D
  below : Below w0.heap.size w0 w
  own : ∀ k, F k → w0.heap.size ≤ k

theorem On.leaves {w0 w w' : World} {b : Nat} {F : Nat → Prop} {D D' : Dk} {e0 : Int} {e : Ending} (h : On w0 w b F D) (hl : Leaves e0 b F D' w e w') :
    e = .returned (.int .i64 e0) ∧ ∃ F', On w0 w' b F' D' ∧ Fr F w w' ∧ ∀ k, F' k → F k ∨ w.heap.size ≤ k := by
  obtain ⟨F', he, hd, hf, hs⟩ := hl
  exact ⟨he, F', ⟨hd, h.below.trans (hf.below h.below.size h.own), fun k hk => (hs k hk).elim (h.own k) (fun h' => Nat.le_trans h.below.size h')⟩, hf, hs⟩
theorem On.alloc {w0 w : World} {b : Nat} {F : Nat → Prop} {D : Dk} (h : On w0 w b F D) (o : Obj) : On w0 (w.alloc o) b F D := ⟨h.disk.alloc o, h.below.alloc h.below.size o, h.own⟩
theorem On.drew {w0 w : World} {b : Nat} {F : Nat → Prop} {D : Dk} (h : On w0 w b F D) : On w0 w.drew b F D := ⟨h.disk.fr (G := fun _ => False) (Fr.refl _ _).drew (fun _ _ hh => hh), h.below.drew, h.own⟩
theorem On.drewN {w0 w : World} {b : Nat} {F : Nat → Prop} {D : Dk} (h : On w0 w b F D) (n : Nat) : On w0 (w.drewN n) b F D := ⟨h.disk.fr (G := fun _ => False) ((Fr.refl _ _).drewN n) (fun _ _ hh => hh), ⟨h.below.os, h.below.tape, h.below.output, h.below.size, h.below.block⟩, h.own⟩
theorem On.setCell {w0 w : World} {b : Nat} {F : Nat → Prop} {D : Dk} (h : On w0 w b F D) (g i : Nat) (u : Value) (hg : ¬ F g) (hg0 : w0.heap.size ≤ g) : On w0 (w.setCell ⟨g, i, none⟩ u) b F D :=
  ⟨h.disk.fr (G := fun k => k = g) ((Fr.refl _ _).put1 i u) (fun _ hk e => hg (e ▸ hk)), h.below.setCell (p := ⟨g, i, none⟩) hg0 u, h.own⟩
theorem On.fr {w0 w w' : World} {b : Nat} {F G : Nat → Prop} {D : Dk} (h : On w0 w b F D) (hf : Fr G w w') (ha : ∀ k, F k → ¬ G k) (hg : ∀ k, G k → w0.heap.size ≤ k) : On w0 w' b F D :=
  ⟨h.disk.fr hf ha, h.below.trans (hf.below h.below.size hg), h.own⟩
theorem On.of_new {w0 w w1 : World} {n : Nat} {e : Ending} (hb : Below w0.heap.size w0 w) (h : NewPost n w e w1) : ∃ b F, e = .returned (.tuple #[.pointer (some ⟨b, 0, none⟩), .int .i64 0]) ∧ On w0 w1 b F (Dk.new n) ∧ Below w.heap.size w w1 ∧ ∀ k, F k → w.heap.size ≤ k := by
  obtain ⟨b, F, he, hd, hb1, hF⟩ := h
  exact ⟨b, F, he, ⟨hd, hb.trans (hb1.mono hb.size), fun k hk => Nat.le_trans hb.size (hF k hk)⟩, hb1, hF⟩
theorem On.lt {w0 w : World} {b : Nat} {F : Nat → Prop} {D : Dk} (h : On w0 w b F D) : ∀ k, F k → k < w.heap.size := h.disk.lt
/-- Bytes that were there at first are there. -/
theorem On.bytes {w0 w : World} {b : Nat} {F : Nat → Prop} {D : Dk} (h : On w0 w b F D) {A : Option Addr} {l : List UInt8} (hb : Bytes w0 A l) : Bytes w A l := hb.below h.below (Nat.le_refl _)

/-- Read, of a block that is there, the power on: new bytes. -/
theorem On.read {w0 w : World} {b : Nat} {F : Nat → Prop} {D : Dk} (h : On w0 w b F D) (i : Int) (hr : refuse D i = 0) (v : List UInt8) (hv : view D.dur D.pend i.toNat = v) :
    Calls Try.prog 28 #[.pointer (some ⟨b, 0, none⟩), .int .i64 i] w fun e w' => ∃ ga, e = .returned (.tuple #[.slice (some ⟨ga, 0, none⟩) 64 64, .int .i64 0]) ∧ On w0 w' b F D ∧
      Blk w' ga 5 (B8s v).toArray ∧ ¬ F ga ∧ w.heap.size ≤ ga ∧ Fr (fun _ => False) w w' ∧ v.length = 64 := by
  refine (read_all b F D i w h.disk).mono ?_
  rintro e w' (⟨hn, _⟩ | ⟨_, rfl, rfl⟩)
  · exact absurd hr hn
  · rw [hv]
    refine ⟨_, rfl, h.alloc _, Blk.new _ _ _, fun hF => by have := h.lt _ hF; omega, Nat.le_refl _, (Fr.refl _ _).alloc _, ?_⟩
    rw [← hv]
    exact h.disk.wf.vlen _
/-- The bytes of a block that is known whole. -/
theorem Blk.bytes {w : World} {g : Nat} {t : TypeId} {l : List UInt8} (h : Blk w g t (B8s l).toArray) : Bytes w (some ⟨g, 0, none⟩) l :=
  .inr ⟨g, 0, rfl, h.range 0 _ (fun j v hv => by rw [Nat.zero_add, List.getElem?_toArray]; exact hv)⟩
theorem pad_take (l : List UInt8) : (pad l).take l.length = l := by
  rw [pad, over, List.take_append_of_le_length (Nat.le_refl _), List.take_length]
theorem pad_cons (l : List UInt8) (h : l.length ≤ 64) : ∃ x r, pad l = x :: r := by
  have := pad_len l h
  match h' : pad l with
  | [] => rw [h'] at this; cases this
  | x :: r => exact ⟨x, r, rfl⟩

end Go.Proofs.Ytbcpplndmndkiaa
