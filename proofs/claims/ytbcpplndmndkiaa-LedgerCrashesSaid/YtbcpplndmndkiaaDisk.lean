/- Package block: the disk as plain data, and as it lies in memory; the small calls. -/
import Derived.Test.YtbcpplndmndkiaaFrame
import Derived.WalkLawsBesides
import Derived.BigQuiet
import Derived.Deep.QuietTactic
namespace Go.Proofs.Ytbcpplndmndkiaa
open Go.RowKit

/-- A disk as plain data: what is durable, the writes since (first to last), the counts. -/
structure Dk where
  n : Nat
  dur : Nat → List UInt8
  pend : List (Nat × List UInt8)
  ops : Nat
  fuse : Nat
  off : Bool

def upd (f : Nat → List UInt8) (i : Nat) (c : List UInt8) : Nat → List UInt8 := fun k => if k = i then c else f k
def view (f : Nat → List UInt8) (l : List (Nat × List UInt8)) : Nat → List UInt8 := l.foldl (fun f p => upd f p.1 p.2) f
theorem view_snoc (f : Nat → List UInt8) (l : List (Nat × List UInt8)) (i : Nat) (c : List UInt8) : view f (l ++ [(i, c)]) = upd (view f l) i c := by simp [view]
theorem view_len (l : List (Nat × List UInt8)) : ∀ (f : Nat → List UInt8), (∀ i, (f i).length = 64) → (∀ p ∈ l, p.2.length = 64) → ∀ i, (view f l i).length = 64 := by
  induction l with
  | nil => exact fun f h _ => h
  | cons p r ih =>
    intro f h hp
    refine ih _ (fun i => ?_) (fun q hq => hp q (List.mem_cons_of_mem _ hq))
    show (if i = p.1 then p.2 else f i).length = 64
    split
    · exact hp p List.mem_cons_self
    · exact h i

structure Dk.Wf (D : Dk) : Prop where
  lo : 1 ≤ D.n
  hi : D.n ≤ 4096
  dlen : ∀ i, (D.dur i).length = 64
  pat : ∀ p ∈ D.pend, p.1 < D.n
  plen : ∀ p ∈ D.pend, p.2.length = 64
theorem Dk.Wf.vlen {D : Dk} (h : D.Wf) : ∀ i, (view D.dur D.pend i).length = 64 := view_len _ _ h.dlen h.plen

/-- Block g is n blocks of 64 bytes, one behind the other. -/
def Arr (w : World) (g n : Nat) (f : Nat → List UInt8) : Prop :=
  ∃ cs : Array Value, Blk w g 72 cs ∧ cs.size = n * 64 ∧ ∀ i, i < n → ∀ j, j < 64 → cs[i * 64 + j]? = ((f i)[j]?).map B8
/-- The writes that wait, as cells. -/
def pcells (l : List (Nat × List UInt8)) : List Value := l.flatMap fun p => .int .i64 (p.1 : Int) :: B8s p.2

/-- The disk's struct. -/
def dcells (D : Dk) (bd bl : Nat) (pv : Value) : Array Value :=
  #[.slice (some ⟨bd, 0, none⟩) D.n D.n, .slice (some ⟨bl, 0, none⟩) D.n D.n, pv, .int .i64 (D.ops : Int), .int .i64 (D.fuse : Int), .bool D.off]

/-- The disk D lies at block b; its blocks are bd, bl and pv's; what Read tells is lat. -/
structure DiskL (w : World) (b bd bl : Nat) (pv : Value) (D : Dk) (lat : Nat → List UInt8) : Prop where
  wf : D.Wf
  llen : ∀ i, (lat i).length = 64
  str : Blk w b 68 (dcells D bd bl pv)
  dur : Arr w bd D.n D.dur
  lat : Arr w bl D.n lat
  pen : w.ownsRow 0 74 65 pv D.pend.length (pcells D.pend)
  ne : bd ≠ bl
def DiskIn (w : World) (b bd bl : Nat) (pv : Value) (D : Dk) : Prop := DiskL w b bd bl pv D (view D.dur D.pend)

/-- The blocks of a disk. -/
def feet (b bd bl : Nat) (pv : Value) : Nat → Prop := fun k => k = b ∨ k = bd ∨ k = bl ∨ pv.ownBlock = some k
def DiskAt (w : World) (b : Nat) (F : Nat → Prop) (D : Dk) : Prop := ∃ bd bl pv, DiskIn w b bd bl pv D ∧ F = feet b bd bl pv

set_option maxHeartbeats 400000 in
theorem clamp_any (n m : Int) (w : World) :
    Calls Try.prog 35 #[.int .i64 n, .int .i64 m] w fun e w' => e = .returned (.int .i64 (max 0 (min n m))) ∧ w = w' := by
  go_enter Try.func35, Try.ntmps35
  go_wp2
  all_goals
    go_ret
    refine ⟨?_, rfl⟩
    show Ending.returned (.int .i64 _) = _
    congr 2
    omega

set_option maxHeartbeats 400000 in
theorem len_nil (w : World) :
    Calls Try.prog 37 #[.pointer none] w fun e w' => e = .returned (.int .i64 0) ∧ w = w' := by
  go_enter Try.func37, Try.ntmps37
  go_wp2
  go_ret
  exact ⟨rfl, rfl⟩

set_option maxHeartbeats 400000 in
theorem len_any (b bd bl : Nat) (pv : Value) (D : Dk) (lat : Nat → List UInt8) (w : World) (h : DiskL w b bd bl pv D lat) :
    Calls Try.prog 37 #[.pointer (some ⟨b, 0, none⟩)] w fun e w' => e = .returned (.int .i64 (D.n : Int)) ∧ w = w' := by
  have c1 : w.cell? ⟨b, 1, none⟩ = some (.slice (some ⟨bl, 0, none⟩) D.n D.n) := h.str.cell 1
  clear h
  go_enter Try.func37, Try.ntmps37
  go_wp2
  go_ret
  exact ⟨rfl, rfl⟩

/-- the slice of what waits. -/
theorem pen_form {w : World} {l : List (Nat × List UInt8)} {pv : Value} (h : w.ownsRow 0 74 65 pv l.length (pcells l)) : ∃ a c, pv = .slice a l.length c := by
  rcases h.2 with ⟨rfl, h0⟩ | ⟨g, cap, cur, rfl, _⟩
  · exact ⟨none, 0, by rw [h0]⟩
  · exact ⟨_, _, rfl⟩

/-- Which error a call of block i meets first. -/
def refuse (D : Dk) (i : Int) : Int := if i < 0 ∨ (D.n : Int) ≤ i then 1 else if D.off then 12 else 0

set_option maxHeartbeats 400000 in
theorem refusal_nil (i : Int) (w : World) :
    Calls Try.prog 39 #[.pointer none, .int .i64 i] w fun e w' => e = .returned (.int .i64 6) ∧ w = w' := by
  go_enter Try.func39, Try.ntmps39
  go_wp2
  go_ret
  exact ⟨rfl, rfl⟩

set_option maxHeartbeats 400000 in
theorem refusal_any (b bd bl : Nat) (pv : Value) (D : Dk) (lat : Nat → List UInt8) (w : World) (h : DiskL w b bd bl pv D lat) (i : Int) :
    Calls Try.prog 39 #[.pointer (some ⟨b, 0, none⟩), .int .i64 i] w fun e w' => e = .returned (.int .i64 (refuse D i)) ∧ w = w' := by
  have c1 : w.cell? ⟨b, 1, none⟩ = some (.slice (some ⟨bl, 0, none⟩) D.n D.n) := h.str.cell 1
  have c5 : w.cell? ⟨b, 5, none⟩ = some (.bool D.off) := h.str.cell 5
  have hn := h.wf.hi
  clear h
  by_cases h1 : i < 0
  · have hr : refuse D i = 1 := by unfold refuse; rw [if_pos (by omega)]
    have Hr := hide hr
    clear hr
    go_enter Try.func39, Try.ntmps39
    go_wp2
    go_ret
    exact ⟨by rw [Hr.out]; rfl, rfl⟩
  · by_cases h2 : (D.n : Int) ≤ i
    · have hr : refuse D i = 1 := by unfold refuse; rw [if_pos (by omega)]
      have Hr := hide hr
      clear hr
      go_enter Try.func39, Try.ntmps39
      go_wp2
      go_ret
      exact ⟨by rw [Hr.out]; rfl, rfl⟩
    · cases ho : D.off
      · have hr : refuse D i = 0 := by unfold refuse; rw [if_neg (by omega), ho]; rfl
        have Hr := hide hr
        clear hr
        rw [ho] at c5
        clear ho
        go_enter Try.func39, Try.ntmps39
        go_wp2
        go_ret
        exact ⟨by rw [Hr.out]; rfl, rfl⟩
      · have hr : refuse D i = 12 := by unfold refuse; rw [if_neg (by omega), ho]; rfl
        have Hr := hide hr
        clear hr
        rw [ho] at c5
        clear ho
        go_enter Try.func39, Try.ntmps39
        go_wp2
        go_ret
        exact ⟨by rw [Hr.out]; rfl, rfl⟩

end Go.Proofs.Ytbcpplndmndkiaa
