/- Package ledger: a ledger that a law has made: where it stands, and what each call makes of it. -/
import Derived.Test.YtbcpplndmndkiaaLedM
namespace Go.Proofs.Ytbcpplndmndkiaa
open Go.RowKit

structure LOn (w0 w : World) (lb b : Nat) (F : Nat → Prop) (L : Lg) (D : Dk) : Prop where
  led : Led w lb b L
  disk : DiskAt w b F D
  ne : ¬ F lb
  below : Below w0.heap.size w0 w
  own : ∀ k, F k → w0.heap.size ≤ k
  lown : w0.heap.size ≤ lb

/-- A block of the disk has one of three types. -/
theorem foot_type {w : World} {b : Nat} {F : Nat → Prop} {D : Dk} (h : DiskAt w b F D) {k : Nat} (hk : F k) : ∃ t cs, Blk w k t cs ∧ (t = 68 ∨ t = 72 ∨ t = 74) := by
  obtain ⟨bd, bl, pv, h, rfl⟩ := h
  rcases hk with rfl | rfl | rfl | hk
  · exact ⟨_, _, h.str, .inl rfl⟩
  · obtain ⟨cs, h1, _⟩ := h.dur; exact ⟨_, _, h1, .inr (.inl rfl)⟩
  · obtain ⟨cs, h1, _⟩ := h.lat; exact ⟨_, _, h1, .inr (.inl rfl)⟩
  · rcases h.pen.2 with ⟨h0, _⟩ | ⟨g, cap, cur, h0, _, hg, _⟩
    · rw [h0] at hk; cases hk
    · rw [h0] at hk
      have : g = k := by simpa [Value.ownBlock] using hk
      subst this
      exact ⟨_, _, hg, .inr (.inr rfl)⟩
theorem foot_ne {w : World} {b : Nat} {F : Nat → Prop} {D : Dk} (h : DiskAt w b F D) {k : Nat} {t : TypeId} {cs : Array Value} (hb : Blk w k t cs) (h1 : t ≠ 68) (h2 : t ≠ 72) (h3 : t ≠ 74) : ¬ F k := fun hk => by
  obtain ⟨t', cs', hb', ht⟩ := foot_type h hk
  have : t' = t := by
    unfold Blk at hb hb'
    rw [hb] at hb'
    injection hb' with hb'
    injection hb' with _ e
    exact e.symm
  subst this
  rcases ht with e | e | e
  · exact h1 e
  · exact h2 e
  · exact h3 e
theorem LOn.feet_ne {w0 w : World} {lb b : Nat} {F : Nat → Prop} {L : Lg} {D : Dk} (h : LOn w0 w lb b F L D) {k : Nat} {t : TypeId} {cs : Array Value} (hb : Blk w k t cs) (h1 : t ≠ 68) (h2 : t ≠ 72) (h3 : t ≠ 74) (h4 : t ≠ 62) :
    ¬ (F k ∨ k = lb) := by
  rintro (hk | hk)
  · exact foot_ne h.disk hb h1 h2 h3 hk
  · subst hk
    exact Blk.ne_ hb h.led h4 rfl
theorem krow_type {w : World} {A : Option Addr} {n c : Nat} {ls : List (List UInt8)} (h : KRow w A n c ls) {k : Nat} (hk : At A k) : ∃ cs, Blk w k 9 cs := by
  rcases h.2.2 with ⟨he, _⟩ | ⟨g, cap, cur, he, _, hg, _⟩
  · injection he with h1
    subst h1
    exact absurd hk At.none_not
  · injection he with h1
    subst h1
    rw [At.some_iff] at hk
    simp only at hk
    subst hk
    exact ⟨_, hg⟩
/-- What a ledger's call leaves of a row of texts. -/
theorem LOn.krow {w0 w w' : World} {lb b : Nat} {F : Nat → Prop} {L : Lg} {D : Dk} (h : LOn w0 w lb b F L D) (hf : Fr (fun k => F k ∨ k = lb) w w') {A : Option Addr} {n c : Nat} {ls : List (List UInt8)} (hk : KRow w A n c ls) : KRow w' A n c ls :=
  hk.fr hf (fun k hk' => by
    obtain ⟨cs, hb⟩ := krow_type hk hk'
    exact h.feet_ne hb (by decide) (by decide) (by decide) (by decide))
theorem LOn.fr {w0 w w' : World} {lb b : Nat} {F G : Nat → Prop} {L : Lg} {D : Dk} (h : LOn w0 w lb b F L D) (hf : Fr G w w') (hG : ∀ k, k < w.heap.size → G k → w0.heap.size ≤ k ∧ ¬ (F k ∨ k = lb)) : LOn w0 w' lb b F L D :=
  ⟨Blk.fr h.led hf (fun hg => (hG _ (Blk.lt h.led) hg).2 (.inr rfl)), h.disk.fr hf (fun k hk hg => (hG _ (h.disk.lt k hk) hg).2 (.inl hk)), h.ne,
    h.below.trans ⟨hf.os, hf.tape, hf.output, hf.size, fun i hi => hf.block i (Nat.lt_of_lt_of_le hi h.below.size) (fun hg => by have := (hG i (Nat.lt_of_lt_of_le hi h.below.size) hg).1; omega)⟩, h.own, h.lown⟩
theorem LOn.below_ {w0 w w' : World} {lb b : Nat} {F : Nat → Prop} {L : Lg} {D : Dk} (h : LOn w0 w lb b F L D) (hb : Below w.heap.size w w') : LOn w0 w' lb b F L D := h.fr (G := fun _ => False) (Fr.of_below hb) (fun _ _ (hg : False) => False.elim hg)
theorem LOn.alloc {w0 w : World} {lb b : Nat} {F : Nat → Prop} {L : Lg} {D : Dk} (h : LOn w0 w lb b F L D) (o : Obj) : LOn w0 (w.alloc o) lb b F L D := h.fr (G := fun _ => False) ((Fr.refl _ _).alloc o) (fun _ _ (hg : False) => False.elim hg)
theorem LOn.drew {w0 w : World} {lb b : Nat} {F : Nat → Prop} {L : Lg} {D : Dk} (h : LOn w0 w lb b F L D) : LOn w0 w.drew lb b F L D := h.fr (G := fun _ => False) (Fr.refl _ _).drew (fun _ _ (hg : False) => False.elim hg)
theorem LOn.drewN {w0 w : World} {lb b : Nat} {F : Nat → Prop} {L : Lg} {D : Dk} (h : LOn w0 w lb b F L D) (n : Nat) : LOn w0 (w.drewN n) lb b F L D := h.fr (G := fun _ => False) ((Fr.refl _ _).drewN n) (fun _ _ (hg : False) => False.elim hg)
theorem LOn.bytes {w0 w : World} {lb b : Nat} {F : Nat → Prop} {L : Lg} {D : Dk} (h : LOn w0 w lb b F L D) {A : Option Addr} {l : List UInt8} (hb : Bytes w0 A l) : Bytes w A l := hb.below h.below (Nat.le_refl _)
theorem LOn.lb_lt {w0 w : World} {lb b : Nat} {F : Nat → Prop} {L : Lg} {D : Dk} (h : LOn w0 w lb b F L D) : lb < w.heap.size := Blk.lt h.led

/-- What a ledger's call leaves. -/
def Aft (w0 : World) (e0 : Int) (lb b : Nat) (F : Nat → Prop) (L' : Lg) (D' : Dk) (w : World) (e : Ending) (w' : World) : Prop :=
  ∃ F', e = .returned (.int .i64 e0) ∧ LOn w0 w' lb b F' L' D' ∧ Fr (fun k => F k ∨ k = lb) w w' ∧ ∀ k, F' k → F k ∨ w.heap.size ≤ k
theorem LOn.after {w0 w : World} {lb b : Nat} {F : Nat → Prop} {L L' : Lg} {D D' : Dk} (h : LOn w0 w lb b F L D) {e0 : Int} {e : Ending} {w' : World} (hl : LLeaves e0 lb b F L' D' w e w') : Aft w0 e0 lb b F L' D' w e w' := by
  obtain ⟨F', he, hl, hd, hf, hn⟩ := hl
  refine ⟨F', he, ⟨hl, hd, fun hk => (hn lb hk).elim h.ne (fun hh => by have := h.lb_lt; omega), ?_, fun k hk => (hn k hk).elim (h.own k) (fun hh => Nat.le_trans h.below.size hh), h.lown⟩, hf, hn⟩
  exact h.below.trans (hf.below h.below.size (fun k hk => hk.elim (h.own k) (fun e => by rw [e]; exact h.lown)))
theorem LOn.leaves {w0 w : World} {lb b : Nat} {F : Nat → Prop} {L : Lg} {D D' : Dk} (h : LOn w0 w lb b F L D) {e0 : Int} {e : Ending} {w' : World} (hl : Leaves e0 b F D' w e w') : Aft w0 e0 lb b F L D' w e w' := by
  obtain ⟨F', he, hd, hf, hn⟩ := hl
  exact h.after ⟨F', he, Blk.fr h.led hf h.ne, hd, hf.mono (fun _ _ hk => .inl hk), hn⟩

theorem St.calm {D : Dk} {L : Lg} {k : Kp} (h : St D L k) (ho : D.ops ≤ 3000000000000000000) (hf : D.fuse ≤ 9223372036854775807) : D.Calm := ⟨by omega, hf, by rw [h.pend]; simp⟩
theorem Lies.small {D : Dk} {at_ bl half : Nat} {k : Kp} (h : Lies D at_ bl half k) (ho : D.ops ≤ 3000000000000000000) (hf : D.fuse ≤ 9223372036854775807) : D.Small := ⟨by omega, hf, by rw [h.pend]; simp⟩

theorem LOn.append {w0 w : World} {lb b : Nat} {F : Nat → Prop} {L : Lg} {D : Dk} {k : Kp} (h : LOn w0 w lb b F L D) (hs : St D L k) (ho : D.ops ≤ 3000000000000000000) (hf : D.fuse ≤ 9223372036854775807) (A : Option Addr) (n c : Nat) (p : List UInt8) (hn : p.length = n) (hb : Bytes w A p)
    (hnl : n ≤ 1000000) :
    Calls Try.prog 16 #[.pointer (some ⟨lb, 0, none⟩), .slice A n c] w (Aft w0 (L.appE D p) lb b F (L.appL D p) (L.appD D p) w) :=
  (append_all lb b F L D A n c p w h.led h.disk hs.ok hs.sure hs.off h.ne hn hb hnl (hs.calm ho hf)).mono fun _ _ hl => h.after hl
theorem LOn.snapshot {w0 w : World} {lb b : Nat} {F : Nat → Prop} {L : Lg} {D : Dk} {k : Kp} (h : LOn w0 w lb b F L D) (hs : St D L k) (ho : D.ops ≤ 3000000000000000000) (hf : D.fuse ≤ 9223372036854775807) (A : Option Addr) (n c : Nat) (p : List UInt8) (hn : p.length = n) (hb : Bytes w A p)
    (hnl : n ≤ 1000000) :
    Calls Try.prog 19 #[.pointer (some ⟨lb, 0, none⟩), .slice A n c] w (Aft w0 (L.snE D p) lb b F (L.snL D p) (L.snD D p) w) :=
  (snapshot_all lb b F L D A n c p w h.led h.disk hs.ok hs.sure hs.off h.ne hn hb hnl (hs.calm ho hf)).mono fun _ _ hl => h.after hl
theorem LOn.len {w0 w : World} {lb b : Nat} {F : Nat → Prop} {L : Lg} {D : Dk} {k : Kp} (h : LOn w0 w lb b F L D) (hs : St D L k) :
    Calls Try.prog 24 #[.pointer (some ⟨lb, 0, none⟩)] w fun e w' => e = .returned (.int .i64 (k.recs.length : Int)) ∧ w = w' := by
  rw [← hs.cnt]
  exact len_sure lb b L w h.led hs.sure
theorem LOn.left {w0 w : World} {lb b : Nat} {F : Nat → Prop} {L : Lg} {D : Dk} {k : Kp} (h : LOn w0 w lb b F L D) (hs : St D L k) :
    Calls Try.prog 25 #[.pointer (some ⟨lb, 0, none⟩)] w (Drew (.int .i64 ((L.room : Int) - (k.need : Int))) w) := by
  have := left_sure lb b L D.n w h.led hs.ok hs.sure
  rwa [hs.ed, k.need_enc] at this
/-- Appended: there is room, and no fuse. -/
theorem LOn.append_ok {w0 w : World} {lb b : Nat} {F : Nat → Prop} {L : Lg} {D : Dk} {k : Kp} (h : LOn w0 w lb b F L D) (hs : St D L k) (ho : D.ops ≤ 3000000000000000000) (hf : D.fuse = 0) (A : Option Addr) (n c : Nat) (p : List UInt8) (hn : p.length = n) (hb : Bytes w A p)
    (hnl : n ≤ 4000) (hfit : (k.with_ p).need ≤ L.room) :
    Calls Try.prog 16 #[.pointer (some ⟨lb, 0, none⟩), .slice A n c] w (fun e w' => ∃ L' D', Did D L (k.with_ p) D' L' ∧ Aft w0 0 lb b F L' D' w e w') := by
  refine (h.append hs ho (by omega) A n c p hn hb (by omega)).mono fun e w' ha => ?_
  rcases hs.append p with ⟨h1, _⟩ | ⟨_, h1, _⟩ | ⟨_, _, h1, h2⟩ | ⟨_, _, _, _, h1⟩
  · omega
  · omega
  · rw [h1] at ha; exact ⟨_, _, h2, ha⟩
  · exact absurd hf h1
theorem LOn.snapshot_ok {w0 w : World} {lb b : Nat} {F : Nat → Prop} {L : Lg} {D : Dk} {k : Kp} (h : LOn w0 w lb b F L D) (hs : St D L k) (ho : D.ops ≤ 3000000000000000000) (hf : D.fuse = 0) (A : Option Addr) (n c : Nat) (p : List UInt8) (hn : p.length = n) (hb : Bytes w A p)
    (hnl : n ≤ 1000000) (hfit : (⟨p, []⟩ : Kp).need ≤ L.room) :
    Calls Try.prog 19 #[.pointer (some ⟨lb, 0, none⟩), .slice A n c] w (fun e w' => ∃ L' D', Did D L ⟨p, []⟩ D' L' ∧ Aft w0 0 lb b F L' D' w e w') := by
  refine (h.snapshot hs ho (by omega) A n c p hn hb (by omega)).mono fun e w' ha => ?_
  rcases hs.snapshot p with ⟨h1, _⟩ | ⟨_, h1, h2⟩ | ⟨_, _, _, h1⟩
  · omega
  · rw [h1] at ha; exact ⟨_, _, h2, ha⟩
  · exact absurd hf h1

/-- Opened: the ledger is new, and tells k. -/
def OpPost (w0 : World) (b : Nat) (F : Nat → Prop) (D : Dk) (at_ bl half : Nat) (k : Kp) (w : World) (e : Ending) (w' : World) : Prop :=
  ∃ lb A c R d, e = .returned (.tuple #[.pointer (some ⟨lb, 0, none⟩), .slice A k.snap.length c, .slice R k.recs.length d, .int .i64 0]) ∧ Bytes w' A k.snap ∧ RecsAt w' w.heap.size R k.recs.length d k.recs ∧ LOn w0 w' lb b F (Lg.opened at_ bl half k) D ∧ w.heap.size ≤ lb ∧ Below w.heap.size w w' ∧ (∀ j, At A j → w.heap.size ≤ j)
theorem open_lies {w0 w : World} {b : Nat} {F : Nat → Prop} {D : Dk} {at_ bl half : Nat} {k : Kp} (h : Lies D at_ bl half k) (hd : DiskAt w b F D) (hbel : Below w0.heap.size w0 w) (hown : ∀ k, F k → w0.heap.size ≤ k) :
    Calls Try.prog 21 #[.pointer (some ⟨b, 0, none⟩), .int .i64 (at_ : Int), .int .i64 ((2 * bl : Nat) : Int)] w (OpPost w0 b F D at_ bl half k w) := by
  have hv : view D.dur D.pend = D.dur := by rw [h.pend]; rfl
  refine (open_on b F D at_ bl half k w hd h.two h.room h.off (by rw [hv]; exact h.lays)).mono fun e w' ho => ?_
  obtain ⟨lb, A, c, R, d, he, h1, h2, h3, h4, h5, h6⟩ := ho
  have hd' := hd.below h6
  refine ⟨lb, A, c, R, d, he, h1.bytes, h3, ⟨h4, hd', fun hk => by have := hd.lt lb hk; omega, hbel.trans (h6.mono hbel.size), hown, Nat.le_trans hbel.size h5⟩, h5, h6, h2⟩
end Go.Proofs.Ytbcpplndmndkiaa
