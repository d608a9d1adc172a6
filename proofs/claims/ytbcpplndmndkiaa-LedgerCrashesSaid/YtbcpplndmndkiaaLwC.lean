/- The laws of layer 2: their own variable of a snapshot and records. -/
import Derived.Test.YtbcpplndmndkiaaLwB
namespace Go.Proofs.Ytbcpplndmndkiaa
open Go.RowKit

theorem mk_run (kl kc : IntKind) (n : Nat) (hn : n ≤ 1000000) (W : World) :
    (Instr.makeSlice 22 (.int kl (n : Int)) (.int kc (n : Int))).run Try.prog W = .ok (.slice (some ⟨W.heap.size, 0, none⟩) n n) (W.alloc (.cells (B8s (List.replicate n 0)).toArray 5)) := by
  have h := run_make_all (P := Try.prog) 22 5 (.int .u8 0) 1 1 Try.underlying22 infoU8 kl kc (n : Int) (by omega) (by omega) (by omega) W
  rw [Nat.mul_one, made_bytes, Int.toNat_natCast] at h
  exact h
/-- The law's own variable of a snapshot and records. -/
structure KVar (w0 w : World) (kb : Nat) (k : Kp) : Prop where
  ex : ∃ A c, Blk w kb 34 #[.string ⟨k.snap.toArray⟩, .slice A k.recs.length c] ∧ KRow w A k.recs.length c k.recs ∧ ∀ j, At A j → w0.heap.size ≤ j
  kb : w0.heap.size ≤ kb
theorem KVar.fr {w0 w w' : World} {kb : Nat} {k : Kp} {G : Nat → Prop} (h : KVar w0 w kb k) (hf : Fr G w w') (hG : ∀ j, w0.heap.size ≤ j → G j → ∀ t cs, Blk w j t cs → t ≠ 34 ∧ t ≠ 9) : KVar w0 w' kb k := by
  obtain ⟨A, c, h1, h2, h3⟩ := h.ex
  refine ⟨⟨A, c, Blk.fr h1 hf (fun hg => (hG kb h.kb hg _ _ h1).1 rfl), h2.fr hf (fun j hj hg => ?_), h3⟩, h.kb⟩
  obtain ⟨cs, hb⟩ := krow_type h2 hj
  exact (hG j (h3 j hj) hg _ _ hb).2 rfl
theorem KVar.call {w0 w w' : World} {lb b : Nat} {F : Nat → Prop} {L : Lg} {D : Dk} {kb : Nat} {k : Kp} (h : KVar w0 w kb k) (hl : LOn w0 w lb b F L D) (hf : Fr (fun k => F k ∨ k = lb) w w') : KVar w0 w' kb k :=
  h.fr hf (fun j _ hj t cs hb => ⟨fun e => by subst e; exact hl.feet_ne hb (by decide) (by decide) (by decide) (by decide) hj, fun e => by subst e; exact hl.feet_ne hb (by decide) (by decide) (by decide) (by decide) hj⟩)
theorem KVar.same {w0 w w' : World} {kb : Nat} {k : Kp} (h : KVar w0 w kb k) (hf : Fr (fun _ => False) w w') : KVar w0 w' kb k := h.fr hf (fun _ _ h => h.elim)
theorem own_new (w : World) (l : List UInt8) (n : Nat) (hn : l.length = n) (hm : n ≤ 1000000) : OwnB (w.alloc (.cells (B8s l).toArray 5)) (some ⟨w.heap.size, 0, none⟩) n n l := by
  subst hn
  have h := OwnB.of_blk (w := w.alloc (.cells (B8s l).toArray 5)) (Blk.new w _ (B8s l).toArray) l.length (Nat.le_refl _) (by simp only [maxLen]; omega)
  rwa [List.take_length] at h
/-- Appended: there is no room. -/
theorem LOn.append_full {w0 w : World} {lb b : Nat} {F : Nat → Prop} {L : Lg} {D : Dk} {k : Kp} (h : LOn w0 w lb b F L D) (hs : St D L k) (ho : D.ops ≤ 3000000000000000000) (hf : D.fuse = 0) (A : Option Addr) (n c : Nat) (p : List UInt8) (hn : p.length = n) (hb : Bytes w A p)
    (hnl : n ≤ 4000) (hfull : L.room < (k.with_ p).need) :
    Calls Try.prog 16 #[.pointer (some ⟨lb, 0, none⟩), .slice A n c] w (Aft w0 13 lb b F L D w) := by
  refine (h.append hs ho (by omega) A n c p hn hb (by omega)).mono fun e w' ha => ?_
  rcases hs.append p with ⟨h1, _⟩ | ⟨_, _, h1, h2, h3⟩ | ⟨_, h1, _⟩ | ⟨_, h1, _⟩
  · omega
  · rw [h1, h2, h3] at ha; exact ha
  · omega
  · omega
theorem LOn.putK {w0 w : World} {lb b kb : Nat} {F : Nat → Prop} {L : Lg} {D : Dk} {cs : Array Value} (h : LOn w0 w lb b F L D) (hb : Blk w kb 34 cs) (hk : w0.heap.size ≤ kb) (u v : Value) :
    LOn w0 ((w.setCell ⟨kb, 0, none⟩ u).setCell ⟨kb, 1, none⟩ v) lb b F L D :=
  h.fr (G := fun k => k = kb) (((Fr.refl _ _).put1 0 u).put1 1 v) (fun k _ hk' => by
    subst hk'
    exact ⟨hk, h.feet_ne hb (by decide) (by decide) (by decide) (by decide)⟩)
theorem KVar.put {w0 w : World} {kb : Nat} {k' : Kp} {v0 v1 : Value} (hb : Blk w kb 34 #[v0, v1]) (hk : w0.heap.size ≤ kb) (A : Option Addr) (n c : Nat) (hn : k'.recs.length = n) (hr : KRow w A n c k'.recs) (hA : ∀ j, At A j → w0.heap.size ≤ j) :
    KVar w0 ((w.setCell ⟨kb, 0, none⟩ (.string ⟨k'.snap.toArray⟩)).setCell ⟨kb, 1, none⟩ (.slice A n c)) kb k' := by
  subst hn
  refine ⟨⟨A, c, ?_, hr.fr (F := fun k => k = kb) (((Fr.refl _ _).put1 0 _).put1 1 _) (fun j hj e => ?_), hA⟩, hk⟩
  · exact (hb.set_ 0 _).set_ 1 _
  · subst e
    obtain ⟨cs, hb'⟩ := krow_type hr hj
    exact Blk.ne_ hb hb' (by decide) rfl
end Go.Proofs.Ytbcpplndmndkiaa
