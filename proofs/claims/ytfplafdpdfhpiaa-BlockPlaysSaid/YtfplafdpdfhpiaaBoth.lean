/- Layer 1: the program's disk and the document's own answer side by side. -/
import Derived.Test.YtfplafdpdfhpiaaRefF
import Derived.Test.YtfplafdpdfhpiaaActs
import Derived.Test.YtfplafdpdfhpiaaRegionP
namespace Go.Proofs.Ytfplafdpdfhpiaa
open Go.RowKit

theorem RefAt.fr {H : Nat → Prop} {w w' : World} {rb : Nat} {G : Nat → Prop} {D : Dk} (h : RefAt w rb G D) (hf : Fr H w w') (ha : ∀ k, G k → ¬ H k) : RefAt w' rb G D := by
  obtain ⟨sv, lv, h, rfl⟩ := h
  exact ⟨sv, lv, h.fr hf ha, rfl⟩
theorem RefAt.lt {w : World} {rb : Nat} {G : Nat → Prop} {D : Dk} (h : RefAt w rb G D) : ∀ k, G k → k < w.heap.size := by
  obtain ⟨sv, lv, h, rfl⟩ := h
  rintro k (rfl | hk | hk)
  · exact h.str.lt
  · exact (World.ownsRow.lt h.sure k hk).2
  · exact (World.ownsRow.lt h.l k hk).2
theorem RefAt.wf {w : World} {rb : Nat} {G : Nat → Prop} {D : Dk} (h : RefAt w rb G D) : D.Wf := by
  obtain ⟨sv, lv, h, rfl⟩ := h
  exact h.wf

/-- Both disks, and a block X of something else. -/
structure Both (w0 w : World) (b : Nat) (F : Nat → Prop) (D : Dk) (rb : Nat) (G : Nat → Prop) (E : Dk) : Prop where
  on : On w0 w b F D
  ref : RefAt w rb G E
  own : ∀ k, G k → w0.heap.size ≤ k
  apart : ∀ k, F k → ¬ G k

theorem Both.below {w0 w : World} {b rb : Nat} {F G : Nat → Prop} {D E : Dk} (h : Both w0 w b F D rb G E) : Below w0.heap.size w0 w := h.on.below
theorem Both.fr {H : Nat → Prop} {w0 w w' : World} {b rb : Nat} {F G : Nat → Prop} {D E : Dk} (h : Both w0 w b F D rb G E) (hf : Fr H w w') (h1 : ∀ k, F k → ¬ H k) (h2 : ∀ k, G k → ¬ H k) (h3 : ∀ k, H k → w0.heap.size ≤ k) : Both w0 w' b F D rb G E :=
  ⟨h.on.fr hf h1 h3, h.ref.fr hf h2, h.own, h.apart⟩
theorem Both.quiet {w0 w w' : World} {b rb : Nat} {F G : Nat → Prop} {D E : Dk} (h : Both w0 w b F D rb G E) (hf : Fr (fun _ => False) w w') : Both w0 w' b F D rb G E := h.fr hf (fun _ _ h => h) (fun _ _ h => h) (fun _ h => h.elim)
theorem Both.leaves {w0 w w' : World} {b rb : Nat} {F G : Nat → Prop} {D D' E : Dk} {e0 : Int} {e : Ending} (h : Both w0 w b F D rb G E) (hl : Leaves e0 b F D' w e w') :
    e = .returned (.int .i64 e0) ∧ ∃ F', Both w0 w' b F' D' rb G E ∧ Fr F w w' ∧ ∀ k, F' k → F k ∨ w.heap.size ≤ k := by
  obtain ⟨he, F', hon, hf, hn⟩ := h.on.leaves hl
  refine ⟨he, F', ⟨hon, h.ref.fr hf (fun k hg hk => h.apart k hk hg), h.own, fun k hk hg => ?_⟩, hf, hn⟩
  rcases hn k hk with h1 | h1
  · exact h.apart k h1 hg
  · have := h.ref.lt k hg; omega
theorem Both.rleaves {w0 w w' : World} {b rb : Nat} {F G : Nat → Prop} {D E E' : Dk} {v : Value} {e : Ending} (h : Both w0 w b F D rb G E) (hl : RLeaves v rb G E' w e w') :
    e = .returned v ∧ ∃ G', Both w0 w' b F D rb G' E' ∧ Fr G w w' ∧ ∀ k, G' k → G k ∨ w.heap.size ≤ k := by
  obtain ⟨G', he, hr, hf, hn⟩ := hl
  refine ⟨he, G', ⟨h.on.fr hf h.apart h.own, hr, fun k hk => (hn k hk).elim (h.own k) (fun h' => Nat.le_trans h.below.size h'), fun k hk hg => ?_⟩, hf, hn⟩
  rcases hn k hg with h1 | h1
  · exact h.apart k hk h1
  · have := h.on.lt k hk; omega

/-- .. and a block of a call's own. -/
structure Play (w0 w : World) (b : Nat) (F : Nat → Prop) (D : Dk) (rb : Nat) (G : Nat → Prop) (E : Dk) (g : Nat) (t : TypeId) (cs : Array Value) : Prop where
  both : Both w0 w b F D rb G E
  blk : Blk w g t cs
  nF : ¬ F g
  nG : ¬ G g
  own : w0.heap.size ≤ g

theorem Play.quiet {w0 w w' : World} {b rb : Nat} {F G : Nat → Prop} {D E : Dk} {g : Nat} {t : TypeId} {cs : Array Value} (h : Play w0 w b F D rb G E g t cs) (hf : Fr (fun _ => False) w w') : Play w0 w' b F D rb G E g t cs :=
  ⟨h.both.quiet hf, h.blk.fr hf (fun h => h), h.nF, h.nG, h.own⟩
theorem Play.leaves {w0 w w' : World} {b rb : Nat} {F G : Nat → Prop} {D D' E : Dk} {g : Nat} {t : TypeId} {cs : Array Value} {e0 : Int} {e : Ending} (h : Play w0 w b F D rb G E g t cs) (hl : Leaves e0 b F D' w e w') :
    e = .returned (.int .i64 e0) ∧ ∃ F', Play w0 w' b F' D' rb G E g t cs := by
  obtain ⟨he, F', hb, hf, hn⟩ := h.both.leaves hl
  exact ⟨he, F', hb, h.blk.fr hf h.nF, fun hk => (hn g hk).elim h.nF (fun h1 => by have := h.blk.lt; omega), h.nG, h.own⟩
theorem Play.rleaves {w0 w w' : World} {b rb : Nat} {F G : Nat → Prop} {D E E' : Dk} {g : Nat} {t : TypeId} {cs : Array Value} {v : Value} {e : Ending} (h : Play w0 w b F D rb G E g t cs) (hl : RLeaves v rb G E' w e w') :
    e = .returned v ∧ ∃ G', Play w0 w' b F D rb G' E' g t cs := by
  obtain ⟨he, G', hb, hf, hn⟩ := h.both.rleaves hl
  exact ⟨he, G', hb, h.blk.fr hf h.nG, h.nF, fun hk => (hn g hk).elim h.nG (fun h1 => by have := h.blk.lt; omega), h.own⟩

/-- The calls, each by its contract, over 'Play'. -/
theorem Play.write {w0 w : World} {b rb : Nat} {F G : Nat → Prop} {D E : Dk} {g : Nat} {t : TypeId} {cs : Array Value} (h : Play w0 w b F D rb G E g t cs) (i : Int) (A : Option Addr) (c : Nat) (p : List UInt8) (hb : Bytes w0 A p) (hs : D.Small) :
    Calls Try.prog 13 #[.pointer (some ⟨b, 0, none⟩), .int .i64 i, .slice A p.length c] w fun e w' => e = .returned (.int .i64 (D.writeE i p.length)) ∧ ∃ F', Play w0 w' b F' (D.writeD i p) rb G E g t cs :=
  (write_all b F D i A c p.length p w h.both.on.disk rfl (h.both.on.bytes hb) hs).mono fun _ _ hl => h.leaves hl
theorem Play.rwrite {w0 w : World} {b rb : Nat} {F G : Nat → Prop} {D E : Dk} {g : Nat} {t : TypeId} {cs : Array Value} (h : Play w0 w b F D rb G E g t cs) (i : Int) (A : Option Addr) (c : Nat) (p : List UInt8) (hb : Bytes w0 A p) (hs : E.Small) :
    Calls Try.prog 14 #[.pointer (some ⟨rb, 0, none⟩), .int .i64 i, .slice A p.length c] w fun e w' => e = .returned (.int .i64 (E.writeE i p.length)) ∧ ∃ G', Play w0 w' b F D rb G' (E.writeD i p) g t cs := by
  obtain ⟨sv, lv, hr, rfl⟩ := h.both.ref
  exact (rwrite_all w0 rb sv lv E i A c p.length p w hr rfl hb h.both.below h.both.own hs).mono fun _ _ hl => h.rleaves hl
theorem Play.sync {w0 w : World} {b rb : Nat} {F G : Nat → Prop} {D E : Dk} {g : Nat} {t : TypeId} {cs : Array Value} (h : Play w0 w b F D rb G E g t cs) (hs : D.Small) :
    Calls Try.prog 15 #[.pointer (some ⟨b, 0, none⟩)] w fun e w' => e = .returned (.int .i64 D.syncE) ∧ ∃ F', Play w0 w' b F' D.syncD rb G E g t cs :=
  (sync_all b F D w h.both.on.disk hs).mono fun _ _ hl => h.leaves hl
theorem Play.rsync {w0 w : World} {b rb : Nat} {F G : Nat → Prop} {D E : Dk} {g : Nat} {t : TypeId} {cs : Array Value} (h : Play w0 w b F D rb G E g t cs) (hs : E.Small) :
    Calls Try.prog 16 #[.pointer (some ⟨rb, 0, none⟩)] w fun e w' => e = .returned (.int .i64 E.syncE) ∧ ∃ G', Play w0 w' b F D rb G' E.syncD g t cs := by
  obtain ⟨sv, lv, hr, rfl⟩ := h.both.ref
  exact (rsync_all rb sv lv E w hr hs).mono fun _ _ hl => h.rleaves hl
theorem Play.arm {w0 w : World} {b rb : Nat} {F G : Nat → Prop} {D E : Dk} {g : Nat} {t : TypeId} {cs : Array Value} (h : Play w0 w b F D rb G E g t cs) (m : Int) :
    Calls Try.prog 17 #[.pointer (some ⟨b, 0, none⟩), .int .i64 m] w fun e w' => e = .returned (.int .i64 (Dk.armE m)) ∧ ∃ F', Play w0 w' b F' (D.armD m) rb G E g t cs :=
  (arm_all b F D m w h.both.on.disk).mono fun _ _ hl => h.leaves hl
theorem Play.restart {w0 w : World} {b rb : Nat} {F G : Nat → Prop} {D E : Dk} {g : Nat} {t : TypeId} {cs : Array Value} (h : Play w0 w b F D rb G E g t cs) (k q : Int) (hs : D.Small) :
    Calls Try.prog 19 #[.pointer (some ⟨b, 0, none⟩), .int .i64 k, .int .i64 q] w fun e w' => e = .returned (.int .i64 0) ∧ ∃ F', Play w0 w' b F' (D.restarted k q) rb G E g t cs :=
  (restart_all b F D k q w h.both.on.disk hs).mono fun _ _ hl => h.leaves hl
theorem Play.rrestart {w0 w : World} {b rb : Nat} {F G : Nat → Prop} {D E : Dk} {g : Nat} {t : TypeId} {cs : Array Value} (h : Play w0 w b F D rb G E g t cs) (k q : Int) (hs : E.Small) :
    Calls Try.prog 18 #[.pointer (some ⟨rb, 0, none⟩), .int .i64 k, .int .i64 q] w fun e w' => e = .returned (.tuple #[]) ∧ ∃ G', Play w0 w' b F D rb G' (E.restarted k q) g t cs := by
  obtain ⟨sv, lv, hr, rfl⟩ := h.both.ref
  exact (rrestart_any rb sv lv E k q w hr (by have := hs.pend; omega)).mono fun _ _ hl => h.rleaves hl

/-- How far a script has come. -/
structure Dk.Bnd (D : Dk) (n j : Nat) : Prop where
  n : D.n = n
  ops : D.ops ≤ j
  pend : D.pend.length ≤ j
  fuse : D.fuse ≤ 9223372036854775807
theorem Dk.Bnd.small {D : Dk} {n j : Nat} (h : D.Bnd n j) (hj : j ≤ 1000) : D.Small := ⟨by have := h.ops; omega, h.fuse, by have := h.pend; omega⟩
theorem Dk.Bnd.more {D : Dk} {n j : Nat} (h : D.Bnd n j) : D.Bnd n (j + 1) := ⟨h.n, Nat.le_succ_of_le h.ops, Nat.le_succ_of_le h.pend, h.fuse⟩
theorem Dk.Bnd.begun {D : Dk} {n j : Nat} (h : D.n = n) (h1 : D.ops ≤ j) (h2 : D.pend.length ≤ j + 1) (h3 : D.fuse ≤ 9223372036854775807) : D.begun.Bnd n (j + 1) := ⟨h, Nat.succ_le_succ h1, h2, by simp only [Dk.begun]; omega⟩
theorem Dk.Bnd.write {D : Dk} {n j : Nat} (h : D.Bnd n j) (i : Int) (p : List UInt8) : (D.writeD i p).Bnd n (j + 1) := by
  unfold Dk.writeD
  split
  · exact h.more
  · split
    · exact h.more
    · exact Dk.Bnd.begun h.n h.ops (by simp only [Dk.wrote, List.length_append, List.length_singleton]; have := h.pend; omega) h.fuse
theorem Dk.Bnd.sync {D : Dk} {n j : Nat} (h : D.Bnd n j) : D.syncD.Bnd n (j + 1) := by
  have hb : D.begun.Bnd n (j + 1) := Dk.Bnd.begun h.n h.ops (Nat.le_succ_of_le h.pend) h.fuse
  unfold Dk.syncD
  split
  · exact h.more
  · split
    · exact hb
    · exact ⟨hb.n, hb.ops, Nat.zero_le _, hb.fuse⟩
theorem Dk.Bnd.arm {D : Dk} {n j : Nat} (h : D.Bnd n j) (m : Int) (hm : m ≤ 9223372036854775807) : (D.armD m).Bnd n (j + 1) := by
  unfold Dk.armD
  split
  · exact h.more
  · exact ⟨h.n, Nat.le_succ_of_le h.ops, Nat.le_succ_of_le h.pend, by simp only; omega⟩
theorem Dk.Bnd.restart {D : Dk} {n j : Nat} (h : D.Bnd n j) (k q : Int) : (D.restarted k q).Bnd n (j + 1) := ⟨h.n, Nat.le_succ_of_le h.ops, Nat.zero_le _, Nat.zero_le _⟩

/-- m.Left is set by hand. -/
theorem Play.left {w0 w : World} {b rb : Nat} {F G : Nat → Prop} {D E : Dk} {g : Nat} {t : TypeId} {cs : Array Value} (h : Play w0 w b F D rb G E g t cs) (m : Int) (hm : 0 ≤ m) :
    Play w0 (w.setCell ⟨rb, 3, none⟩ (.int .i64 m)) b F D rb G { E with fuse := m.toNat } g t cs := by
  obtain ⟨sv, lv, hr, rfl⟩ := h.both.ref
  have hf : Fr (fun k => k = rb) w (w.setCell ⟨rb, 3, none⟩ (.int .i64 m)) := (Fr.refl _ _).put1 3 _
  have hG : rfeet rb sv lv rb := .inl rfl
  refine ⟨⟨h.both.on.fr hf (fun k hk e => h.both.apart k hk (by rw [e]; exact hG)) (fun k e => by rw [e]; exact h.both.own _ hG), ⟨sv, lv, ?_, rfl⟩, h.both.own, h.both.apart⟩, h.blk.fr hf (fun e => h.nG (by rw [e]; exact hG)), h.nF, h.nG, h.own⟩
  refine hr.put (D' := { E with fuse := m.toNat }) ⟨hr.wf.lo, hr.wf.hi, hr.wf.dlen, hr.wf.pat, hr.wf.plen⟩ rfl rfl rfl ?_ hf
  have hb := hr.str.set_ 3 (.int .i64 m)
  have e : ((m.toNat : Nat) : Int) = m := Int.toNat_of_nonneg hm
  simpa [e] using hb
theorem RefAt.fields {w : World} {rb : Nat} {G : Nat → Prop} {E : Dk} (h : RefAt w rb G E) : ∃ sv la lc, w.cell? ⟨rb, 0, none⟩ = some sv ∧ w.cell? ⟨rb, 1, none⟩ = some (.slice la E.pend.length lc) ∧ w.cell? ⟨rb, 2, none⟩ = some (.int .i64 (E.ops : Int)) ∧
    w.cell? ⟨rb, 3, none⟩ = some (.int .i64 (E.fuse : Int)) ∧ w.cell? ⟨rb, 4, none⟩ = some (.bool E.off) ∧ w.frozen? ⟨rb, 3, none⟩ = false := by
  obtain ⟨sv, lv, hr, rfl⟩ := h
  obtain ⟨la, lc, rfl⟩ := rown_form hr.l
  exact ⟨sv, la, lc, hr.str.cell 0, hr.str.cell 1, hr.str.cell 2, hr.str.cell 3, hr.str.cell 4, hr.str.frozen 3⟩

/-- Looking, in a world that has drawn. -/
theorem Both.drewN {w0 w : World} {b rb : Nat} {F G : Nat → Prop} {D E : Dk} (h : Both w0 w b F D rb G E) (n : Nat) : Both w0 (w.drewN n) b F D rb G E := h.quiet ((Fr.refl _ _).drewN n)
theorem Both.wait {w0 w : World} {b rb : Nat} {F G : Nat → Prop} {D E : Dk} (h : Both w0 w b F D rb G E) (n : Nat) :
    Calls Try.prog 22 #[.pointer (some ⟨b, 0, none⟩)] (w.drewN n) fun e w' => e = .returned (.int .i64 (D.pend.length : Int)) ∧ w' = w.drewN n :=
  (wait_at b F D _ (h.drewN n).on.disk).mono fun _ _ h => ⟨h.1, h.2.symm⟩
theorem Both.ops {w0 w : World} {b rb : Nat} {F G : Nat → Prop} {D E : Dk} (h : Both w0 w b F D rb G E) (n : Nat) :
    Calls Try.prog 23 #[.pointer (some ⟨b, 0, none⟩)] (w.drewN n) fun e w' => e = .returned (.int .i64 (D.ops : Int)) ∧ w' = w.drewN n :=
  (ops_at b F D _ (h.drewN n).on.disk).mono fun _ _ h => ⟨h.1, h.2.symm⟩
theorem Both.on_ {w0 w : World} {b rb : Nat} {F G : Nat → Prop} {D E : Dk} (h : Both w0 w b F D rb G E) (n : Nat) :
    Calls Try.prog 24 #[.pointer (some ⟨b, 0, none⟩)] (w.drewN n) fun e w' => e = .returned (.bool (!D.off)) ∧ w' = w.drewN n :=
  (on_at b F D _ (h.drewN n).on.disk).mono fun _ _ h => ⟨h.1, h.2.symm⟩
theorem Both.len {w0 w : World} {b rb : Nat} {F G : Nat → Prop} {D E : Dk} (h : Both w0 w b F D rb G E) (n : Nat) :
    Calls Try.prog 25 #[.pointer (some ⟨b, 0, none⟩)] (w.drewN n) fun e w' => e = .returned (.int .i64 (D.n : Int)) ∧ w' = w.drewN n :=
  (len_at b F D _ (h.drewN n).on.disk).mono fun _ _ h => ⟨h.1, h.2.symm⟩

/-- A turn of the script is done: both have come to one state. -/
def Turn (w0 : World) (b rb n j g : Nat) (t : TypeId) (cs : Array Value) (w' : World) : Prop := ∃ F G D, Play w0 w' b F D rb G D g t cs ∧ D.Bnd n j

end Go.Proofs.Ytfplafdpdfhpiaa
