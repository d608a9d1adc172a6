/- Package ledger: the ledger's struct; the small calls. -/
import Derived.Test.YtbcpplndmndkiaaOwnB
namespace Go.Proofs.Ytbcpplndmndkiaa
open Go.RowKit

/-- A ledger as plain data: its first block, the blocks of each half, the half in use, how many bytes are occupied, how many records there are. -/
structure Lg where
  at_ : Nat
  bl : Nat
  half : Nat
  ed : Nat
  cnt : Nat
  unsure : Bool

def lcells (b : Nat) (L : Lg) : Array Value := #[.pointer (some ⟨b, 0, none⟩), .int .i64 (L.at_ : Int), .int .i64 (L.bl : Int), .int .i64 (L.half : Int), .int .i64 (L.ed : Int), .int .i64 (L.cnt : Int), .bool L.unsure]
def Led (w : World) (lb b : Nat) (L : Lg) : Prop := Blk w lb 62 (lcells b L)

/-- The blocks are there. -/
structure Lg.Ok (L : Lg) (n : Nat) : Prop where
  two : 2 ≤ L.bl
  room : L.at_ + 2 * L.bl ≤ n
  n : n ≤ 4096
  half : L.half ≤ 1
  ed : L.ed ≤ 64 * (L.bl - 1)
  cnt : 8 * L.cnt ≤ L.ed
def Lg.room (L : Lg) : Nat := 64 * (L.bl - 1)

/-- A call that only drew. -/
def Drew (v : Value) (w : World) (e : Ending) (w' : World) : Prop := e = .returned v ∧ ∃ n, w' = w.drewN n

set_option maxHeartbeats 400000 in
theorem first_any (lb b : Nat) (L : Lg) (n : Nat) (h : Nat) (w : World) (hl : Led w lb b L) (ok : L.Ok n) (hh : h ≤ 1) :
    Calls Try.prog 41 #[.pointer (some ⟨lb, 0, none⟩), .int .i64 (h : Int)] w (Drew (.int .i64 ((L.at_ + h * L.bl : Nat) : Int)) w) := by
  have c1 : w.cell? ⟨lb, 1, none⟩ = some (.int .i64 (L.at_ : Int)) := hl.cell 1
  have c2 : w.cell? ⟨lb, 2, none⟩ = some (.int .i64 (L.bl : Int)) := hl.cell 2
  have h1 := ok.two
  have h2 := ok.room
  have h3 := ok.n
  clear hl ok
  obtain rfl | rfl : h = 0 ∨ h = 1 := by omega
  all_goals
    go_enter Try.func41, Try.ntmps41
    go_upto_region 1 with fail
    go_quiet (fail)
    go_wp2
    go_ret
    refine ⟨?_, _, rfl⟩
    show Ending.returned (.int .i64 _) = _
    congr 2
    omega

set_option maxHeartbeats 400000 in
theorem room_any (lb b : Nat) (L : Lg) (n : Nat) (w : World) (hl : Led w lb b L) (ok : L.Ok n) :
    Calls Try.prog 33 #[.pointer (some ⟨lb, 0, none⟩)] w fun e w' => e = .returned (.int .i64 (L.room : Int)) ∧ w = w' := by
  have c2 : w.cell? ⟨lb, 2, none⟩ = some (.int .i64 (L.bl : Int)) := hl.cell 2
  have h1 := ok.two
  have h2 := ok.room
  have h3 := ok.n
  clear hl ok
  go_enter Try.func33, Try.ntmps33
  go_wp2
  go_ret
  refine ⟨?_, rfl⟩
  show Ending.returned (.int .i64 _) = _
  congr 2
  unfold Lg.room
  omega

set_option maxHeartbeats 400000 in
theorem need_any (n : Int) (w : World) (h0 : 0 ≤ n) (h : n ≤ 1000000000000) :
    Calls Try.prog 30 #[.int .i64 n] w fun e w' => e = .returned (.int .i64 (n + 8)) ∧ w = w' := by
  go_enter Try.func30, Try.ntmps30
  go_wp2
  go_ret
  exact ⟨rfl, rfl⟩

set_option maxHeartbeats 400000 in
theorem ascertain_sure (lb b : Nat) (L : Lg) (w : World) (hl : Led w lb b L) (hu : L.unsure = false) :
    Calls Try.prog 32 #[.pointer (some ⟨lb, 0, none⟩)] w fun e w' => e = .returned (.tuple #[]) ∧ w = w' := by
  have c6 : w.cell? ⟨lb, 6, none⟩ = some (.bool false) := by rw [← hu]; exact hl.cell 6
  clear hl hu
  go_enter Try.func32, Try.ntmps32
  go_wp2
  go_end0
  exact ⟨rfl, rfl⟩

set_option maxHeartbeats 400000 in
theorem len_sure (lb b : Nat) (L : Lg) (w : World) (hl : Led w lb b L) (hu : L.unsure = false) :
    Calls Try.prog 24 #[.pointer (some ⟨lb, 0, none⟩)] w fun e w' => e = .returned (.int .i64 (L.cnt : Int)) ∧ w = w' := by
  have c5 : w.cell? ⟨lb, 5, none⟩ = some (.int .i64 (L.cnt : Int)) := hl.cell 5
  have Hl := hide hl
  have Hu := hide hu
  clear hl hu
  go_enter Try.func24, Try.ntmps24
  go_wp2_with (go_at_call 32; refine (ascertain_sure lb b L w Hl.out Hu.out).mono ?_; rintro e w' ⟨rfl, rfl⟩)
  go_ret
  exact ⟨rfl, rfl⟩

set_option maxHeartbeats 400000 in
theorem len_none (w : World) :
    Calls Try.prog 24 #[.pointer none] w fun e w' => e = .returned (.int .i64 0) ∧ w = w' := by
  go_enter Try.func24, Try.ntmps24
  go_wp2
  go_ret
  exact ⟨rfl, rfl⟩
set_option maxHeartbeats 400000 in
theorem left_none (w : World) :
    Calls Try.prog 25 #[.pointer none] w fun e w' => e = .returned (.int .i64 0) ∧ w = w' := by
  go_enter Try.func25, Try.ntmps25
  go_wp2
  go_ret
  exact ⟨rfl, rfl⟩
set_option maxHeartbeats 400000 in
theorem append_none (A : Option Addr) (n c : Nat) (w : World) :
    Calls Try.prog 16 #[.pointer none, .slice A n c] w fun e w' => e = .returned (.int .i64 6) ∧ w = w' := by
  go_enter Try.func16, Try.ntmps16
  go_wp2
  go_ret
  exact ⟨rfl, rfl⟩
set_option maxHeartbeats 400000 in
theorem snapshot_none (A : Option Addr) (n c : Nat) (w : World) :
    Calls Try.prog 19 #[.pointer none, .slice A n c] w fun e w' => e = .returned (.int .i64 6) ∧ w = w' := by
  go_enter Try.func19, Try.ntmps19
  go_wp2
  go_ret
  exact ⟨rfl, rfl⟩

set_option maxHeartbeats 400000 in
theorem left_sure (lb b : Nat) (L : Lg) (n : Nat) (w : World) (hl : Led w lb b L) (ok : L.Ok n) (hu : L.unsure = false) :
    Calls Try.prog 25 #[.pointer (some ⟨lb, 0, none⟩)] w (Drew (.int .i64 ((L.room : Int) - (L.ed : Int))) w) := by
  have c4 : w.cell? ⟨lb, 4, none⟩ = some (.int .i64 (L.ed : Int)) := hl.cell 4
  have h1 := ok.ed
  have h2 := ok.room
  have h3 := ok.n
  have hr : L.room ≤ 1000000 := by unfold Lg.room; omega
  have Hl := hide hl
  have Hu := hide hu
  have Ok := hide ok
  clear hl hu ok
  go_enter Try.func25, Try.ntmps25
  go_upto_region 4 with (go_at_call 32; refine (ascertain_sure lb b L w Hl.out Hu.out).mono ?_; rintro e w' ⟨rfl, rfl⟩)
  go_quiet ((go_at_call 33; exact Calls.quiet_of_same ((room_any lb b L n _ (Blk.drewN Hl.out _) Ok.out).mono (fun e w' h => ⟨h.1, h.2.symm⟩))))
  go_wp2
  go_ret
  exact ⟨rfl, _, rfl⟩
end Go.Proofs.Ytbcpplndmndkiaa
