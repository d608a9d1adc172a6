/-
  No disk, no blocks; a nil ledger; a disk whose power is off; no condition.
-/
import Derived.Test.YtehddmaapfofnaaLedO
import Derived.Test.YtehddmaapfofnaaLaw
namespace Go.Proofs.Ytehddmaapfofnaa
open Go.RowKit Go.ChangeShapes Go.WideShapes Go.ChangeAt

/-- What a law's Open of a disk that it has made leaves. -/
structure DOn (w0 w : World) (b : Nat) (F : Nat → Prop) (D : Dk) : Prop where
  disk : DiskAt w b F D
  below : Below w0.heap.size w0 w
  own : ∀ k, F k → w0.heap.size ≤ k
theorem DOn.leaves {w0 w w' : World} {b : Nat} {F : Nat → Prop} {D D' : Dk} {e0 : Int} {e : Ending} (h : DOn w0 w b F D) (hl : Leaves e0 b F D' w e w') :
    ∃ F', e = .returned (.int .i64 e0) ∧ DOn w0 w' b F' D' ∧ Fr F w w' := by
  obtain ⟨F', he, hd, hf, hs⟩ := hl
  exact ⟨F', he, ⟨hd, h.below.trans (hf.below h.below.size h.own), fun k hk => (hs k hk).elim (h.own k) (fun h' => Nat.le_trans h.below.size h')⟩, hf⟩
theorem DOn.below_ {w0 w w' : World} {b : Nat} {F : Nat → Prop} {D : Dk} (h : DOn w0 w b F D) (hb : Below w.heap.size w w') : DOn w0 w' b F D :=
  ⟨h.disk.below hb, h.below.trans (hb.mono h.below.size), h.own⟩

/-- Open, of a new disk: some ledger, or ErrArg. -/
theorem open_new (b : Nat) (F : Nat → Prop) (n : Nat) (at_ c : Int) (w0 w : World) (h : DOn w0 w b F (Dk.new n)) (hn : n ≤ 4096) (ha : at_ < 9223372036854775808) (ha' : -9223372036854775808 ≤ at_) (hc : c < 9223372036854775808) (hc' : -9223372036854775808 ≤ c) :
    Calls Try.prog 21 #[.pointer (some ⟨b, 0, none⟩), .int .i64 at_, .int .i64 c] w fun e w' => ∃ x y z f, e = .returned (.tuple #[x, y, z, .int .i64 f]) ∧ (okArgs n at_ c ∧ f = 0 ∨ ¬ okArgs n at_ c ∧ f = 1) ∧ DOn w0 w' b F (Dk.new n) := by
  by_cases hk : okArgs n at_ c
  · have hk0 := hk
    obtain ⟨h1, h2, h3, h4⟩ := hk
    obtain ⟨a, rfl⟩ : ∃ a : Nat, at_ = a := ⟨at_.toNat, by omega⟩
    obtain ⟨m, rfl⟩ : ∃ m : Nat, c = ((2 * m : Nat) : Int) := ⟨(c / 2).toNat, by omega⟩
    refine (open_lies (w0 := w0) (lies_new n a m (by omega) (by omega) hn) h.disk h.below h.own).mono ?_
    rintro e w' ⟨lb, A, cc, R, d, rfl, _, _, _, _, hb, _⟩
    exact ⟨_, _, _, _, rfl, .inl ⟨hk0, rfl⟩, h.below_ hb⟩
  · refine (open_arg b F (Dk.new n) at_ c w h.disk ha ha' hc hc' hk).mono ?_
    rintro e w' ⟨rfl, k, rfl⟩
    refine ⟨_, _, _, _, rfl, .inr ⟨hk, rfl⟩, h.disk.fr (G := fun _ => False) ((Fr.refl _ _).drewN k) (fun _ _ h => h), ⟨h.below.os, h.below.tape, h.below.output, h.below.size, h.below.block⟩, h.own⟩

def erD : Dk := ((Dk.new 20).armD 1).syncD
theorem er_off : erD.off = true := by decide
theorem er_n : erD.n = 20 := by decide
theorem er_s1 : ((Dk.new 20).armD 1).Small := ⟨by decide, by decide, by decide⟩

set_option maxHeartbeats 1000000 in
theorem errs_long (v0 v1 : Value) (A : Option Addr) (c l : Nat) (w : World) (hl : 100 < l) :
    Calls Try.prog 8 #[v0, v1, .slice A l c] w fun e w' => e = .returned (.bool true) ∧ Below w.heap.size w w' := by
  go_enter Try.func8, Try.ntmps8
  go_wp2_with fail
  refine (awake_any w).mono ?_
  rintro e w1 ⟨rfl, hb1⟩
  have Hb1 := hide hb1
  clear hb1
  go_wp2_with fail
  refine (awake_any w1).mono ?_
  rintro e w2 ⟨rfl, hb2⟩
  have Hb2 := hide (Hb1.out.trans (hb2.mono Hb1.out.size))
  clear hb2
  go_wp2
  go_ret
  exact ⟨rfl, Hb2.out⟩


set_option maxHeartbeats 2000000 in
theorem errs_ok (x0 x1 : Int) (A : Option Addr) (c l : Nat) (w : World) (hl : l ≤ 100) (f0 : Int)
    (hop : ∀ b F w2, DOn w w2 b F (Dk.new 20) → Calls Try.prog 21 #[.pointer (some ⟨b, 0, none⟩), .int .i64 x0, .int .i64 x1] w2 fun e w' => ∃ x y z, e = .returned (.tuple #[x, y, z, .int .i64 f0]) ∧ DOn w w' b F (Dk.new 20)) (h0 : 0 ≤ x0) (h1 : 4 ≤ x1) (h2 : x1 % 2 = 0) (h3 : x1 ≤ 20) (h4 : x0 ≤ 20 - x1) (hf : f0 = 0) :
    Calls Try.prog 8 #[.int .i64 x0, .int .i64 x1, .slice A l c] w fun e w' => e = .returned (.bool true) ∧ Below w.heap.size w w' := by
  subst hf
  have hm : (x1 % 2 == 0) = true := by rw [beq_iff_eq]; exact h2
  go_enter Try.func8, Try.ntmps8
  go_wp2_with fail
  refine (awake_any w).mono ?_
  rintro e w1 ⟨rfl, hb1⟩
  have Hb1 := hide hb1
  clear hb1
  go_wp2_with fail
  refine (open_none _ _ _).mono ?_
  rintro e w2 ⟨rfl, rfl⟩
  go_wp2_with fail
  refine (new_any 20 w1 (by omega) (by omega)).mono ?_
  rintro e w2 ⟨b, F, rfl, hd, hb2, hF⟩
  have hon : DOn w w2 b F (Dk.new 20) := ⟨hd, Hb1.out.trans (hb2.mono Hb1.out.size), fun k hk => Nat.le_trans Hb1.out.size (hF k hk)⟩
  have Hon := hide hon
  clear hon hd hb2 hF Hb1
  go_wp2_with fail
  refine (hop b F w2 Hon.out).mono ?_
  rintro e w3 ⟨x, y, z, rfl, hon3⟩
  have Hon3 := hide hon3
  clear hon3 Hon hop
  go_wp2_with fail
  refine (arm_all b F (Dk.new 20) 1 w3 Hon3.out.disk).mono ?_
  rintro e w4 hl4
  obtain ⟨F4, rfl, hon4, _⟩ := Hon3.out.leaves hl4
  have Hon4 := hide hon4
  clear hl4 hon4 Hon3
  go_wp2_with fail
  refine (sync_all b F4 ((Dk.new 20).armD 1) w4 Hon4.out.disk er_s1).mono ?_
  rintro e w5 hl5
  obtain ⟨F5, rfl, hon5, _⟩ := Hon4.out.leaves hl5
  have Hon5 := hide hon5
  clear hl5 hon5 Hon4
  go_wp2_with fail
  refine (open_off b F5 erD 0 10 w5 Hon5.out.disk (by omega) (by rw [er_n]; omega) er_off).mono ?_
  rintro e w6 ⟨rfl, hb6⟩
  have Hb6 := hide (Hon5.out.below_ hb6).below
  clear hb6 Hon5
  go_wp2_with (first
    | (go_at_call 16; refine (append_none _ _ _ _).mono ?_; rintro e w7 ⟨rfl, rfl⟩)
    | (go_at_call 19; refine (snapshot_none _ _ _ _).mono ?_; rintro e w7 ⟨rfl, rfl⟩)
    | (go_at_call 24; refine (len_none _).mono ?_; rintro e w7 ⟨rfl, rfl⟩)
    | (go_at_call 25; refine (left_none _).mono ?_; rintro e w7 ⟨rfl, rfl⟩))
  go_ret
  exact ⟨rfl, Hb6.out⟩

set_option maxHeartbeats 2000000 in
theorem errs_neg (x0 x1 : Int) (A : Option Addr) (c l : Nat) (w : World) (hl : l ≤ 100) (f0 : Int)
    (hop : ∀ b F w2, DOn w w2 b F (Dk.new 20) → Calls Try.prog 21 #[.pointer (some ⟨b, 0, none⟩), .int .i64 x0, .int .i64 x1] w2 fun e w' => ∃ x y z, e = .returned (.tuple #[x, y, z, .int .i64 f0]) ∧ DOn w w' b F (Dk.new 20)) (h0 : x0 < 0) (hf : f0 = 1) :
    Calls Try.prog 8 #[.int .i64 x0, .int .i64 x1, .slice A l c] w fun e w' => e = .returned (.bool true) ∧ Below w.heap.size w w' := by
  subst hf
  go_enter Try.func8, Try.ntmps8
  go_wp2_with fail
  refine (awake_any w).mono ?_
  rintro e w1 ⟨rfl, hb1⟩
  have Hb1 := hide hb1
  clear hb1
  go_wp2_with fail
  refine (open_none _ _ _).mono ?_
  rintro e w2 ⟨rfl, rfl⟩
  go_wp2_with fail
  refine (new_any 20 w1 (by omega) (by omega)).mono ?_
  rintro e w2 ⟨b, F, rfl, hd, hb2, hF⟩
  have hon : DOn w w2 b F (Dk.new 20) := ⟨hd, Hb1.out.trans (hb2.mono Hb1.out.size), fun k hk => Nat.le_trans Hb1.out.size (hF k hk)⟩
  have Hon := hide hon
  clear hon hd hb2 hF Hb1
  go_wp2_with fail
  refine (hop b F w2 Hon.out).mono ?_
  rintro e w3 ⟨x, y, z, rfl, hon3⟩
  have Hon3 := hide hon3
  clear hon3 Hon hop
  go_wp2_with fail
  refine (arm_all b F (Dk.new 20) 1 w3 Hon3.out.disk).mono ?_
  rintro e w4 hl4
  obtain ⟨F4, rfl, hon4, _⟩ := Hon3.out.leaves hl4
  have Hon4 := hide hon4
  clear hl4 hon4 Hon3
  go_wp2_with fail
  refine (sync_all b F4 ((Dk.new 20).armD 1) w4 Hon4.out.disk er_s1).mono ?_
  rintro e w5 hl5
  obtain ⟨F5, rfl, hon5, _⟩ := Hon4.out.leaves hl5
  have Hon5 := hide hon5
  clear hl5 hon5 Hon4
  go_wp2_with fail
  refine (open_off b F5 erD 0 10 w5 Hon5.out.disk (by omega) (by rw [er_n]; omega) er_off).mono ?_
  rintro e w6 ⟨rfl, hb6⟩
  have Hb6 := hide (Hon5.out.below_ hb6).below
  clear hb6 Hon5
  go_wp2_with (first
    | (go_at_call 16; refine (append_none _ _ _ _).mono ?_; rintro e w7 ⟨rfl, rfl⟩)
    | (go_at_call 19; refine (snapshot_none _ _ _ _).mono ?_; rintro e w7 ⟨rfl, rfl⟩)
    | (go_at_call 24; refine (len_none _).mono ?_; rintro e w7 ⟨rfl, rfl⟩)
    | (go_at_call 25; refine (left_none _).mono ?_; rintro e w7 ⟨rfl, rfl⟩))
  go_ret
  exact ⟨rfl, Hb6.out⟩

set_option maxHeartbeats 2000000 in
theorem errs_few (x0 x1 : Int) (A : Option Addr) (c l : Nat) (w : World) (hl : l ≤ 100) (f0 : Int)
    (hop : ∀ b F w2, DOn w w2 b F (Dk.new 20) → Calls Try.prog 21 #[.pointer (some ⟨b, 0, none⟩), .int .i64 x0, .int .i64 x1] w2 fun e w' => ∃ x y z, e = .returned (.tuple #[x, y, z, .int .i64 f0]) ∧ DOn w w' b F (Dk.new 20)) (h0 : 0 ≤ x0) (h1 : x1 < 4) (hf : f0 = 1) :
    Calls Try.prog 8 #[.int .i64 x0, .int .i64 x1, .slice A l c] w fun e w' => e = .returned (.bool true) ∧ Below w.heap.size w w' := by
  subst hf
  go_enter Try.func8, Try.ntmps8
  go_wp2_with fail
  refine (awake_any w).mono ?_
  rintro e w1 ⟨rfl, hb1⟩
  have Hb1 := hide hb1
  clear hb1
  go_wp2_with fail
  refine (open_none _ _ _).mono ?_
  rintro e w2 ⟨rfl, rfl⟩
  go_wp2_with fail
  refine (new_any 20 w1 (by omega) (by omega)).mono ?_
  rintro e w2 ⟨b, F, rfl, hd, hb2, hF⟩
  have hon : DOn w w2 b F (Dk.new 20) := ⟨hd, Hb1.out.trans (hb2.mono Hb1.out.size), fun k hk => Nat.le_trans Hb1.out.size (hF k hk)⟩
  have Hon := hide hon
  clear hon hd hb2 hF Hb1
  go_wp2_with fail
  refine (hop b F w2 Hon.out).mono ?_
  rintro e w3 ⟨x, y, z, rfl, hon3⟩
  have Hon3 := hide hon3
  clear hon3 Hon hop
  go_wp2_with fail
  refine (arm_all b F (Dk.new 20) 1 w3 Hon3.out.disk).mono ?_
  rintro e w4 hl4
  obtain ⟨F4, rfl, hon4, _⟩ := Hon3.out.leaves hl4
  have Hon4 := hide hon4
  clear hl4 hon4 Hon3
  go_wp2_with fail
  refine (sync_all b F4 ((Dk.new 20).armD 1) w4 Hon4.out.disk er_s1).mono ?_
  rintro e w5 hl5
  obtain ⟨F5, rfl, hon5, _⟩ := Hon4.out.leaves hl5
  have Hon5 := hide hon5
  clear hl5 hon5 Hon4
  go_wp2_with fail
  refine (open_off b F5 erD 0 10 w5 Hon5.out.disk (by omega) (by rw [er_n]; omega) er_off).mono ?_
  rintro e w6 ⟨rfl, hb6⟩
  have Hb6 := hide (Hon5.out.below_ hb6).below
  clear hb6 Hon5
  go_wp2_with (first
    | (go_at_call 16; refine (append_none _ _ _ _).mono ?_; rintro e w7 ⟨rfl, rfl⟩)
    | (go_at_call 19; refine (snapshot_none _ _ _ _).mono ?_; rintro e w7 ⟨rfl, rfl⟩)
    | (go_at_call 24; refine (len_none _).mono ?_; rintro e w7 ⟨rfl, rfl⟩)
    | (go_at_call 25; refine (left_none _).mono ?_; rintro e w7 ⟨rfl, rfl⟩))
  go_ret
  exact ⟨rfl, Hb6.out⟩

set_option maxHeartbeats 2000000 in
theorem errs_odd (x0 x1 : Int) (A : Option Addr) (c l : Nat) (w : World) (hl : l ≤ 100) (f0 : Int)
    (hop : ∀ b F w2, DOn w w2 b F (Dk.new 20) → Calls Try.prog 21 #[.pointer (some ⟨b, 0, none⟩), .int .i64 x0, .int .i64 x1] w2 fun e w' => ∃ x y z, e = .returned (.tuple #[x, y, z, .int .i64 f0]) ∧ DOn w w' b F (Dk.new 20)) (h0 : 0 ≤ x0) (h1 : 4 ≤ x1) (h2 : x1 % 2 ≠ 0) (hf : f0 = 1) :
    Calls Try.prog 8 #[.int .i64 x0, .int .i64 x1, .slice A l c] w fun e w' => e = .returned (.bool true) ∧ Below w.heap.size w w' := by
  subst hf
  have hm : (x1 % 2 == 0) = false := by rw [beq_eq_false_iff_ne]; exact h2
  go_enter Try.func8, Try.ntmps8
  go_wp2_with fail
  refine (awake_any w).mono ?_
  rintro e w1 ⟨rfl, hb1⟩
  have Hb1 := hide hb1
  clear hb1
  go_wp2_with fail
  refine (open_none _ _ _).mono ?_
  rintro e w2 ⟨rfl, rfl⟩
  go_wp2_with fail
  refine (new_any 20 w1 (by omega) (by omega)).mono ?_
  rintro e w2 ⟨b, F, rfl, hd, hb2, hF⟩
  have hon : DOn w w2 b F (Dk.new 20) := ⟨hd, Hb1.out.trans (hb2.mono Hb1.out.size), fun k hk => Nat.le_trans Hb1.out.size (hF k hk)⟩
  have Hon := hide hon
  clear hon hd hb2 hF Hb1
  go_wp2_with fail
  refine (hop b F w2 Hon.out).mono ?_
  rintro e w3 ⟨x, y, z, rfl, hon3⟩
  have Hon3 := hide hon3
  clear hon3 Hon hop
  go_wp2_with fail
  refine (arm_all b F (Dk.new 20) 1 w3 Hon3.out.disk).mono ?_
  rintro e w4 hl4
  obtain ⟨F4, rfl, hon4, _⟩ := Hon3.out.leaves hl4
  have Hon4 := hide hon4
  clear hl4 hon4 Hon3
  go_wp2_with fail
  refine (sync_all b F4 ((Dk.new 20).armD 1) w4 Hon4.out.disk er_s1).mono ?_
  rintro e w5 hl5
  obtain ⟨F5, rfl, hon5, _⟩ := Hon4.out.leaves hl5
  have Hon5 := hide hon5
  clear hl5 hon5 Hon4
  go_wp2_with fail
  refine (open_off b F5 erD 0 10 w5 Hon5.out.disk (by omega) (by rw [er_n]; omega) er_off).mono ?_
  rintro e w6 ⟨rfl, hb6⟩
  have Hb6 := hide (Hon5.out.below_ hb6).below
  clear hb6 Hon5
  go_wp2_with (first
    | (go_at_call 16; refine (append_none _ _ _ _).mono ?_; rintro e w7 ⟨rfl, rfl⟩)
    | (go_at_call 19; refine (snapshot_none _ _ _ _).mono ?_; rintro e w7 ⟨rfl, rfl⟩)
    | (go_at_call 24; refine (len_none _).mono ?_; rintro e w7 ⟨rfl, rfl⟩)
    | (go_at_call 25; refine (left_none _).mono ?_; rintro e w7 ⟨rfl, rfl⟩))
  go_ret
  exact ⟨rfl, Hb6.out⟩

set_option maxHeartbeats 2000000 in
theorem errs_many (x0 x1 : Int) (A : Option Addr) (c l : Nat) (w : World) (hl : l ≤ 100) (f0 : Int)
    (hop : ∀ b F w2, DOn w w2 b F (Dk.new 20) → Calls Try.prog 21 #[.pointer (some ⟨b, 0, none⟩), .int .i64 x0, .int .i64 x1] w2 fun e w' => ∃ x y z, e = .returned (.tuple #[x, y, z, .int .i64 f0]) ∧ DOn w w' b F (Dk.new 20)) (h0 : 0 ≤ x0) (h1 : 4 ≤ x1) (h2 : x1 % 2 = 0) (h3 : 20 < x1) (hf : f0 = 1) :
    Calls Try.prog 8 #[.int .i64 x0, .int .i64 x1, .slice A l c] w fun e w' => e = .returned (.bool true) ∧ Below w.heap.size w w' := by
  subst hf
  have hm : (x1 % 2 == 0) = true := by rw [beq_iff_eq]; exact h2
  go_enter Try.func8, Try.ntmps8
  go_wp2_with fail
  refine (awake_any w).mono ?_
  rintro e w1 ⟨rfl, hb1⟩
  have Hb1 := hide hb1
  clear hb1
  go_wp2_with fail
  refine (open_none _ _ _).mono ?_
  rintro e w2 ⟨rfl, rfl⟩
  go_wp2_with fail
  refine (new_any 20 w1 (by omega) (by omega)).mono ?_
  rintro e w2 ⟨b, F, rfl, hd, hb2, hF⟩
  have hon : DOn w w2 b F (Dk.new 20) := ⟨hd, Hb1.out.trans (hb2.mono Hb1.out.size), fun k hk => Nat.le_trans Hb1.out.size (hF k hk)⟩
  have Hon := hide hon
  clear hon hd hb2 hF Hb1
  go_wp2_with fail
  refine (hop b F w2 Hon.out).mono ?_
  rintro e w3 ⟨x, y, z, rfl, hon3⟩
  have Hon3 := hide hon3
  clear hon3 Hon hop
  go_wp2_with fail
  refine (arm_all b F (Dk.new 20) 1 w3 Hon3.out.disk).mono ?_
  rintro e w4 hl4
  obtain ⟨F4, rfl, hon4, _⟩ := Hon3.out.leaves hl4
  have Hon4 := hide hon4
  clear hl4 hon4 Hon3
  go_wp2_with fail
  refine (sync_all b F4 ((Dk.new 20).armD 1) w4 Hon4.out.disk er_s1).mono ?_
  rintro e w5 hl5
  obtain ⟨F5, rfl, hon5, _⟩ := Hon4.out.leaves hl5
  have Hon5 := hide hon5
  clear hl5 hon5 Hon4
  go_wp2_with fail
  refine (open_off b F5 erD 0 10 w5 Hon5.out.disk (by omega) (by rw [er_n]; omega) er_off).mono ?_
  rintro e w6 ⟨rfl, hb6⟩
  have Hb6 := hide (Hon5.out.below_ hb6).below
  clear hb6 Hon5
  go_wp2_with (first
    | (go_at_call 16; refine (append_none _ _ _ _).mono ?_; rintro e w7 ⟨rfl, rfl⟩)
    | (go_at_call 19; refine (snapshot_none _ _ _ _).mono ?_; rintro e w7 ⟨rfl, rfl⟩)
    | (go_at_call 24; refine (len_none _).mono ?_; rintro e w7 ⟨rfl, rfl⟩)
    | (go_at_call 25; refine (left_none _).mono ?_; rintro e w7 ⟨rfl, rfl⟩))
  go_ret
  exact ⟨rfl, Hb6.out⟩

set_option maxHeartbeats 2000000 in
theorem errs_far (x0 x1 : Int) (A : Option Addr) (c l : Nat) (w : World) (hl : l ≤ 100) (f0 : Int)
    (hop : ∀ b F w2, DOn w w2 b F (Dk.new 20) → Calls Try.prog 21 #[.pointer (some ⟨b, 0, none⟩), .int .i64 x0, .int .i64 x1] w2 fun e w' => ∃ x y z, e = .returned (.tuple #[x, y, z, .int .i64 f0]) ∧ DOn w w' b F (Dk.new 20)) (h0 : 0 ≤ x0) (h1 : 4 ≤ x1) (h2 : x1 % 2 = 0) (h3 : x1 ≤ 20) (h4 : 20 - x1 < x0) (hf : f0 = 1) :
    Calls Try.prog 8 #[.int .i64 x0, .int .i64 x1, .slice A l c] w fun e w' => e = .returned (.bool true) ∧ Below w.heap.size w w' := by
  subst hf
  have hm : (x1 % 2 == 0) = true := by rw [beq_iff_eq]; exact h2
  go_enter Try.func8, Try.ntmps8
  go_wp2_with fail
  refine (awake_any w).mono ?_
  rintro e w1 ⟨rfl, hb1⟩
  have Hb1 := hide hb1
  clear hb1
  go_wp2_with fail
  refine (open_none _ _ _).mono ?_
  rintro e w2 ⟨rfl, rfl⟩
  go_wp2_with fail
  refine (new_any 20 w1 (by omega) (by omega)).mono ?_
  rintro e w2 ⟨b, F, rfl, hd, hb2, hF⟩
  have hon : DOn w w2 b F (Dk.new 20) := ⟨hd, Hb1.out.trans (hb2.mono Hb1.out.size), fun k hk => Nat.le_trans Hb1.out.size (hF k hk)⟩
  have Hon := hide hon
  clear hon hd hb2 hF Hb1
  go_wp2_with fail
  refine (hop b F w2 Hon.out).mono ?_
  rintro e w3 ⟨x, y, z, rfl, hon3⟩
  have Hon3 := hide hon3
  clear hon3 Hon hop
  go_wp2_with fail
  refine (arm_all b F (Dk.new 20) 1 w3 Hon3.out.disk).mono ?_
  rintro e w4 hl4
  obtain ⟨F4, rfl, hon4, _⟩ := Hon3.out.leaves hl4
  have Hon4 := hide hon4
  clear hl4 hon4 Hon3
  go_wp2_with fail
  refine (sync_all b F4 ((Dk.new 20).armD 1) w4 Hon4.out.disk er_s1).mono ?_
  rintro e w5 hl5
  obtain ⟨F5, rfl, hon5, _⟩ := Hon4.out.leaves hl5
  have Hon5 := hide hon5
  clear hl5 hon5 Hon4
  go_wp2_with fail
  refine (open_off b F5 erD 0 10 w5 Hon5.out.disk (by omega) (by rw [er_n]; omega) er_off).mono ?_
  rintro e w6 ⟨rfl, hb6⟩
  have Hb6 := hide (Hon5.out.below_ hb6).below
  clear hb6 Hon5
  go_wp2_with (first
    | (go_at_call 16; refine (append_none _ _ _ _).mono ?_; rintro e w7 ⟨rfl, rfl⟩)
    | (go_at_call 19; refine (snapshot_none _ _ _ _).mono ?_; rintro e w7 ⟨rfl, rfl⟩)
    | (go_at_call 24; refine (len_none _).mono ?_; rintro e w7 ⟨rfl, rfl⟩)
    | (go_at_call 25; refine (left_none _).mono ?_; rintro e w7 ⟨rfl, rfl⟩))
  go_ret
  exact ⟨congrArg Ending.returned (congrArg Value.bool (show (!decide (x0 ≤ 20 - x1)) = true by rw [decide_eq_false (show ¬ x0 ≤ 20 - x1 by omega)]; rfl)), Hb6.out⟩

theorem errs_walk (x0 x1 : Int) (A : Option Addr) (c l : Nat) (w : World) (w0 : (Lit.int IntKind.i64 x0).wf = true) (w1 : (Lit.int IntKind.i64 x1).wf = true) :
    Calls Try.prog 8 #[.int .i64 x0, .int .i64 x1, .slice A l c] w fun e w' => e = .returned (.bool true) ∧ Below w.heap.size w w' := by
  simp [Lit.wf, IntKind.min, IntKind.max, IntKind.signed, IntKind.bits] at w0 w1
  by_cases hl : 100 < l
  · exact errs_long _ _ A c l w hl
  have hbad : ¬ okArgs 20 x0 x1 → ∀ b F w2, DOn w w2 b F (Dk.new 20) → Calls Try.prog 21 #[.pointer (some ⟨b, 0, none⟩), .int .i64 x0, .int .i64 x1] w2 fun e w' => ∃ x y z, e = .returned (.tuple #[x, y, z, .int .i64 1]) ∧ DOn w w' b F (Dk.new 20) := fun hn b F w2 h =>
    (open_new b F 20 x0 x1 w w2 h (by omega) (by omega) (by omega) (by omega) (by omega)).mono fun e w' ⟨x, y, z, f, he, hf, ho⟩ => by
      rcases hf with h | h
      · exact absurd h.1 hn
      · rw [h.2] at he; exact ⟨x, y, z, he, ho⟩
  by_cases h0 : x0 < 0
  · exact errs_neg x0 x1 A c l w (by omega) 1 (hbad fun h => by have := h.1; omega) h0 rfl
  by_cases h1 : x1 < 4
  · exact errs_few x0 x1 A c l w (by omega) 1 (hbad fun h => by have := h.2.1; omega) (by omega) h1 rfl
  by_cases h2 : x1 % 2 = 0
  case neg => exact errs_odd x0 x1 A c l w (by omega) 1 (hbad fun h => h2 h.2.2.1) (by omega) (by omega) h2 rfl
  by_cases h3 : 20 < x1
  · exact errs_many x0 x1 A c l w (by omega) 1 (hbad fun h => by have := h.2.2.2; omega) (by omega) (by omega) h2 h3 rfl
  by_cases h4 : 20 - x1 < x0
  · exact errs_far x0 x1 A c l w (by omega) 1 (hbad fun h => by have := h.2.2.2; omega) (by omega) (by omega) h2 (by omega) h4 rfl
  have hok : okArgs 20 x0 x1 := ⟨by omega, by omega, h2, by omega⟩
  exact errs_ok x0 x1 A c l w (by omega) 0 (fun b F w2 h =>
    (open_new b F 20 x0 x1 w w2 h (by omega) (by omega) (by omega) (by omega) (by omega)).mono fun e w' ⟨x, y, z, f, he, hf, ho⟩ => by
      rcases hf with h | h
      · rw [h.2] at he; exact ⟨x, y, z, he, ho⟩
      · exact absurd hok h.1) (by omega) (by omega) h2 (by omega) (by omega) rfl

set_option maxRecDepth 100000 in
theorem ledgerErrs_lifted (os : Os) (started : os.Started) (H : Type) (enc : TypeId × Value → H) :
    ReturnsInHanded {} Try.checked os 8 .any (Rows.ledgerErrsSpec.pre6 enc Try.prog Try.f8 Rows.ledgerErrsRow.domain false) (Rows.ledgerErrsSpec.post enc Try.prog Try.f8 false true false false) := by
  refine returnsInHanded_of_change (C := Try.checked) own0 started (by kernel_rfl) Try.func8
    (ChangeSpec.witness6 (enc := enc) (C := Try.checked) false ⟨#[], #[.int .i64 0, .int .i64 0, .slice none 0 0], []⟩ 8 (by kernel_rfl) (by kernel_rfl) (by kernel_rfl) (by kernel_rfl)) ?_
  intro W base args ds gs before hval0 hW _ _
  have hval : ∀ (j : Nat) t v, Try.f8.params[j]? = some t → args[j]? = some v → Value.okWide Try.prog W .any base t v := hval0
  have hW' := hW
  obtain ⟨p, q, hA0, hV, rfl, hfz, hnd⟩ := hW
  have hA : DataW.TrodAll enc Try.prog W 0 (fun _ => true) true Try.f8.params.toList args.toList ds p := hA0
  rw [Try.params8] at hA hval
  obtain ⟨v0, v1, v2, d0, d1, d2, p0, p1, p2, rfl, rfl, rfl, h0, h1, h2⟩ := trodAll_three hA
  obtain ⟨rfl, rfl⟩ := trodVars_none hV
  obtain ⟨x0, rfl, rfl, rfl, w0⟩ := open_int Try.underlying3 (hval 0 3 v0 rfl rfl) h0
  obtain ⟨x1, rfl, rfl, rfl, w1⟩ := open_int Try.underlying3 (hval 1 3 v1 rfl rfl) h1
  obtain ⟨A2, c2, l2, rfl, b2, m2⟩ := open_bytes Try.underlying22 Try.underlying5 (by kernel_rfl) (hval 2 22 v2 rfl rfl) h2
  clear hA0 hval0
  refine (errs_walk x0 x1 A2 c2 l2.length W w0 w1).mono fun e W' ⟨he, hb⟩ => ?_
  subst he
  exact ⟨_, rfl, law_close laid0 Try.underlying4 rfl rfl (by rw [Try.params8]; decide +kernel) hW' (fun gs hg => by subst hg; rfl) hb⟩

theorem ledgerErrs_holds : Rows.LedgerErrsSaid :=
  OpenClaim.holds_of_wide 8 Try.f8 rfl rfl rfl rfl rfl rfl rfl ⟨rfl, rfl, rfl, rfl, rfl⟩ rfl rfl rfl rfl rfl (by kernel_rfl) Try.func8 (by kernel_rfl)
    (of_decide_eq_true (by kernel_rfl)) (by unfold Func.isWrapper; first | (rw [if_pos (by decide +kernel)]; kernel_rfl) | (rw [if_neg (by decide +kernel)]; exact ⟨rfl, rfl⟩))
    (fun os started H enc _ => ledgerErrs_lifted os started H enc)
end Go.Proofs.Ytehddmaapfofnaa
