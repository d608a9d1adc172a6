/- Layer 2: what a round of LedgerCrashes holds: two variables of the law's own; what may lie on the disk. -/
import Derived.Test.YtbcpplndmndkiaaActsC
namespace Go.Proofs.Ytbcpplndmndkiaa
open Go.RowKit

theorem KVar.put2 {w0 w : World} {kb mb : Nat} {k : Kp} {cs : Array Value} (h : KVar w0 w kb k) (hb : Blk w mb 34 cs) (hne : kb ≠ mb) (u v : Value) :
    KVar w0 ((w.setCell ⟨mb, 0, none⟩ u).setCell ⟨mb, 1, none⟩ v) kb k := by
  obtain ⟨A, c, h1, h2, h3⟩ := h.ex
  have hf : Fr (fun k => k = mb) w ((w.setCell ⟨mb, 0, none⟩ u).setCell ⟨mb, 1, none⟩ v) := ((Fr.refl _ _).put1 0 u).put1 1 v
  refine ⟨⟨A, c, Blk.fr h1 hf hne, h2.fr hf (fun j hj e => ?_), h3⟩, h.kb⟩
  subst e
  obtain ⟨cs', hb'⟩ := krow_type h2 hj
  exact Blk.ne_ hb hb' (by decide) rfl

structure Cr2 (w0 w : World) (lb b kb mb ga : Nat) (ac : Array Value) (F : Nat → Prop) (L : Lg) (D : Dk) (k km : Kp) : Prop where
  pl : Pl w0 w lb b kb ga ac F L D k
  mv : KVar w0 w mb km
  ne : kb ≠ mb
section
variable {w0 w w' : World} {lb b kb mb ga : Nat} {ac : Array Value} {F F' : Nat → Prop} {L L' : Lg} {D D' : Dk} {k km : Kp}
theorem Cr2.call (h : Cr2 w0 w lb b kb mb ga ac F L D k km) (h' : LOn w0 w' lb b F' L' D') (hf : Fr (fun k => F k ∨ k = lb) w w') : Cr2 w0 w' lb b kb mb ga ac F' L' D' k km :=
  ⟨h.pl.call h' hf, h.mv.call h.pl.on hf, h.ne⟩
theorem Cr2.same (h : Cr2 w0 w lb b kb mb ga ac F L D k km) (hf : Fr (fun _ => False) w w') : Cr2 w0 w' lb b kb mb ga ac F L D k km := ⟨h.pl.same hf, h.mv.same hf, h.ne⟩
theorem Cr2.putM {v0 v1 : Value} {k' : Kp} (h : Cr2 w0 w lb b kb mb ga ac F L D k km) (hb : Blk w mb 34 #[v0, v1]) (A : Option Addr) (n c : Nat) (hn : k'.recs.length = n) (hr : KRow w A n c k'.recs) (hA : ∀ j, At A j → w0.heap.size ≤ j) :
    Cr2 w0 ((w.setCell ⟨mb, 0, none⟩ (.string ⟨k'.snap.toArray⟩)).setCell ⟨mb, 1, none⟩ (.slice A n c)) lb b kb mb ga ac F L D k k' :=
  ⟨⟨h.pl.on.putK hb h.mv.kb _ _, h.pl.kv.put2 hb h.ne _ _, Blk.fr h.pl.blk (F := fun k => k = mb) (((Fr.refl _ _).put1 0 _).put1 1 _) (fun e => by
    subst e
    exact Blk.ne_ h.pl.blk hb (by decide) rfl), h.pl.gaw⟩, KVar.put hb h.mv.kb A n c hn hr hA, h.ne⟩
theorem Cr2.putK {v0 v1 : Value} {k' : Kp} (h : Cr2 w0 w lb b kb mb ga ac F L D k km) (hb : Blk w kb 34 #[v0, v1]) (A : Option Addr) (n c : Nat) (hn : k'.recs.length = n) (hr : KRow w A n c k'.recs) (hA : ∀ j, At A j → w0.heap.size ≤ j) :
    Cr2 w0 ((w.setCell ⟨kb, 0, none⟩ (.string ⟨k'.snap.toArray⟩)).setCell ⟨kb, 1, none⟩ (.slice A n c)) lb b kb mb ga ac F L D k' km :=
  ⟨h.pl.putK hb A n c hn hr hA, h.mv.put2 hb (fun e => h.ne e.symm) _ _, h.ne⟩

/-- What may lie on the disk once it was restarted. -/
def Tells (bl : Nat) (k km : Kp) (D : Dk) : Prop := (∃ half, Lies D 1 bl half k) ∨ (∃ half, Lies D 1 bl half km)
structure CrFell (bl : Nat) (k km : Kp) (D : Dk) (j : Nat) : Prop where
  pend : D.pend.length ≤ 5000
  ops : D.ops ≤ 6000 * j + 5000
  left : ∀ keep torn, Tells bl k km (D.restarted keep torn)
theorem St.crFell {bl j : Nat} (hs : St D L k) (ha : L.at_ = 1) (hb : L.bl = bl) (ho : D.ops ≤ 6000 * j + 5000) (km : Kp) : CrFell bl k km D j := by
  refine ⟨by rw [hs.pend]; simp, ho, fun keep torn => .inl ⟨L.half, ?_⟩⟩
  have := hs.lies.restarted keep torn
  rwa [ha, hb] at this
theorem Fell.crFell {bl j : Nat} (h : Fell D L k km D') (hs : St D L k) (ha : L.at_ = 1) (hb : L.bl = bl) (ho : D.ops ≤ 6000 * j) : CrFell bl k km D' j := by
  refine ⟨h.wait, by have := h.ops; omega, fun keep torn => ?_⟩
  have := h.restarted hs keep torn
  rwa [ha, hb] at this

/-- Behind the switch. -/
def CrTurn (w0 : World) (lb b kb mb ga bl : Nat) (ac : Array Value) (k : Kp) (j : Nat) (low : Prop) (ev : Value) (w' : World) : Prop :=
  ∃ F L D km, Cr2 w0 w' lb b kb mb ga ac F L D k km ∧
   ((ev = .int .i64 0 ∧ St D L km ∧ L.at_ = 1 ∧ L.bl = bl ∧ D.fuse ≤ 255 ∧ D.ops ≤ 6000 * j + 5000) ∨
    (ev = .int .i64 13 ∧ low ∧ St D L k ∧ L.at_ = 1 ∧ L.bl = bl ∧ D.fuse ≤ 255 ∧ D.ops ≤ 6000 * j + 5000) ∨
    (ev = .int .i64 12 ∧ CrFell bl k km D j))

def RePost (w0 : World) (lb b kb mb ga bl : Nat) (ac : Array Value) (L : Lg) (k km : Kp) (j : Nat) (e : Ending) (w' : World) : Prop :=
  ∃ F D v, e = .returned (.int .i64 v) ∧ Cr2 w0 w' lb b kb mb ga ac F L D k km ∧ Tells bl k km D ∧ D.ops ≤ 6000 * j + 5000
theorem Cr2.restart {bl j : Nat} (h : Cr2 w0 w lb b kb mb ga ac F L D k km) (hf : CrFell bl k km D j) (keep torn : Int) :
    Calls Try.prog 20 #[.pointer (some ⟨b, 0, none⟩), .int .i64 keep, .int .i64 torn] w (RePost w0 lb b kb mb ga bl ac L k km j) := by
  refine (h.pl.on.restart (by have := hf.pend; omega) keep torn).mono ?_
  rintro e w4 ⟨F4, rfl, h4, hf4, _⟩
  exact ⟨F4, _, _, rfl, h.call h4 hf4, hf.left keep torn, hf.ops⟩
theorem Cr2.arm {bl j : Nat} (h : Cr2 w0 w lb b kb mb ga ac F L D k km) (ht : Tells bl k km D) (ho : D.ops ≤ 6000 * j + 5000) (m : Int) :
    Calls Try.prog 26 #[.pointer (some ⟨b, 0, none⟩), .int .i64 m] w (RePost w0 lb b kb mb ga bl ac L k km j) := by
  refine (h.pl.on.arm m).mono ?_
  rintro e w4 ⟨F4, rfl, h4, hf4, _⟩
  refine ⟨F4, _, _, rfl, h.call h4 hf4, ?_, by rw [armed_ops]; exact ho⟩
  rcases ht with ⟨half, hl⟩ | ⟨half, hl⟩
  · exact .inl ⟨half, hl.armed m⟩
  · exact .inr ⟨half, hl.armed m⟩
end

def CrSt (w0 : World) (b kb bl : Nat) (lv : Value) (j : Nat) (wr : World) : Prop :=
  ∃ lb F L D k, lv = .pointer (some ⟨lb, 0, none⟩) ∧ LOn w0 wr lb b F L D ∧ St D L k ∧ L.at_ = 1 ∧ L.bl = bl ∧ D.fuse ≤ 255 ∧ D.ops ≤ 6000 * j ∧ KVar w0 wr kb k
def CrRel (w0 : World) (b kb bl : Nat) (lv i : Value) (wr : World) : Prop := ∃ j : Nat, j ≤ 50 ∧ i = .int .i64 j ∧ CrSt w0 b kb bl lv j wr
theorem CrSt.below {w0 : World} {b kb bl : Nat} {lv : Value} {j : Nat} {wr : World} (h : CrSt w0 b kb bl lv j wr) : Below w0.heap.size w0 wr := by
  obtain ⟨lb, F, L, D, k, h1, h2, _⟩ := h
  exact h2.below
/-- Behind the restarts. -/
def CrL (w0 : World) (b kb bl : Nat) (lv : Value) (j : Nat) (wr : World) : Prop :=
  ∃ lb F L D k, lv = .pointer (some ⟨lb, 0, none⟩) ∧ LOn w0 wr lb b F L D ∧ St D L k ∧ L.at_ = 1 ∧ L.bl = bl ∧ D.ops ≤ 6000 * j + 5000 ∧ KVar w0 wr kb k
theorem armed_small (D : Dk) (m : Int) (h0 : 0 ≤ m) (h : m ≤ 255) : (D.armD m).fuse ≤ 255 := by
  unfold Dk.armD
  rw [if_neg (by omega)]
  show m.toNat ≤ 255
  omega
end Go.Proofs.Ytbcpplndmndkiaa
