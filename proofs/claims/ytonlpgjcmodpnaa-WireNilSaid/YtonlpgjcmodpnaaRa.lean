/- Package wire: a nil reader. -/
import Derived.Test.YtonlpgjcmodpnaaWf
namespace Go.Proofs.Ytonlpgjcmodpnaa
open Go.RowKit

def NilPost (v : Value) (w : World) (e : Ending) (w' : World) : Prop := e = .returned v ∧ Below w.heap.size w w'
set_option maxHeartbeats 1000000 in
theorem bad_nil (w : World) : Calls Try.prog 25 #[.pointer none] w fun e w' => e = .returned (.bool true) ∧ w = w' := by
  go_enter Try.func25, Try.ntmps25
  go_wp2
  go_ret
  exact ⟨rfl, rfl⟩
set_option maxHeartbeats 1000000 in
theorem fail_nil (w : World) : Calls Try.prog 44 #[.pointer none] w fun e w' => e = .returned (.tuple #[]) ∧ w = w' := by
  go_enter Try.func44, Try.ntmps44
  go_wp2
  go_end0
  exact ⟨rfl, rfl⟩
set_option maxHeartbeats 1000000 in
theorem end_nil (w : World) : Calls Try.prog 24 #[.pointer none] w fun e w' => e = .returned (.bool false) ∧ w = w' := by
  go_enter Try.func24, Try.ntmps24
  go_wp2_with (go_at_call 25; refine (bad_nil _).mono ?_; rintro e w' ⟨rfl, rfl⟩)
  go_ret
  exact ⟨rfl, rfl⟩
set_option maxHeartbeats 1000000 in
theorem next_nil (w : World) : Calls Try.prog 43 #[.pointer none] w fun e w' => e = .returned (.int .u8 0) ∧ w = w' := by
  go_enter Try.func43, Try.ntmps43
  go_wp2_with (first
    | (go_at_call 25; refine (bad_nil _).mono ?_; rintro e w' ⟨rfl, rfl⟩)
    | (go_at_call 44; refine (fail_nil _).mono ?_; rintro e w' ⟨rfl, rfl⟩))
  go_ret
  exact ⟨rfl, rfl⟩
set_option maxHeartbeats 1000000 in
theorem uint_nil (m : Int) (w : World) : Calls Try.prog 21 #[.pointer none, .int .u64 m] w fun e w' => e = .returned (.int .u64 0) ∧ w = w' := by
  go_enter Try.func21, Try.ntmps21
  go_wp2
  go_loop [5, 6] (fun n s => n = .int .u64 0 ∧ s = .int .i64 0) (fun _ _ => 0)
  case atStart => exact ⟨rfl, rfl⟩
  case round =>
    obtain ⟨rfl, rfl⟩ := hrel
    go_wp2_with (first
      | (go_at_call 25; refine (bad_nil _).mono ?_; rintro e w' ⟨rfl, rfl⟩)
      | (go_at_call 43; refine (next_nil _).mono ?_; rintro e w' ⟨rfl, rfl⟩)
      | (go_at_call 44; refine (fail_nil _).mono ?_; rintro e w' ⟨rfl, rfl⟩))
    go_ret
    exact ⟨rfl, rfl⟩
set_option maxHeartbeats 1000000 in
theorem int_nil (w : World) : Calls Try.prog 22 #[.pointer none] w fun e w' => e = .returned (.int .i64 0) ∧ w = w' := by
  go_enter Try.func22, Try.ntmps22
  go_wp2_with (go_at_call 21; refine (uint_nil _ _).mono ?_; rintro e w' ⟨rfl, rfl⟩)
  go_ret
  refine ⟨?_, rfl⟩
  show Ending.returned (.int .i64 (bits .xor .i64 0 (wrap64 (-wrap64 (bits .and .u64 0 1))))) = _
  rw [show bits .xor .i64 0 (wrap64 (-wrap64 (bits .and .u64 0 1))) = 0 by decide +kernel]
set_option maxHeartbeats 1000000 in
theorem text_nil (m : Int) (w : World) : Calls Try.prog 23 #[.pointer none, .int .i64 m] w fun e w' => e = .returned (.string ⟨#[]⟩) ∧ w = w' := by
  go_enter Try.func23, Try.ntmps23
  go_wp2_with (first
    | (go_at_call 21; refine (uint_nil _ _).mono ?_; rintro e w' ⟨rfl, rfl⟩)
    | (go_at_call 25; refine (bad_nil _).mono ?_; rintro e w' ⟨rfl, rfl⟩))
  all_goals
    go_ret
    exact ⟨rfl, rfl⟩
/-- The value that is none. -/
abbrev VZ : Value := .agg #[.int .u8 0, .int .i64 0, .string ⟨#[]⟩, .slice none 0 0, .slice none 0 0]
set_option maxHeartbeats 1000000 in
theorem rvalue_nil (w : World) : Calls Try.prog 49 #[.pointer none, .int .i64 0] w (NilPost VZ w) := by
  go_enter Try.func49, Try.ntmps49
  go_wp2_with (go_at_call 21; refine (uint_nil _ _).mono ?_; rintro e w' ⟨rfl, rfl⟩)
  exact bodyPost_ret (v := VZ) (by simp [results, Try.results49, go_sem]) rfl ⟨rfl, ((Below.refl _ _).alloc (Nat.le_refl _) _).alloc (by simp) _⟩
set_option maxHeartbeats 1000000 in
theorem value_nil (w : World) : Calls Try.prog 30 #[.pointer none] w (NilPost VZ w) := by
  go_enter Try.func30, Try.ntmps30
  go_wp2_with fail
  refine (rvalue_nil _).mono ?_
  rintro e w1 ⟨rfl, hb⟩
  have hsz := hb.size
  rw [World.size_alloc] at hsz
  have hlt : w.heap.size < w1.heap.size := by omega
  have q : Blk w1 w.heap.size 44 #[.int .u8 0, .int .i64 0, .string ⟨#[]⟩, .slice none 0 0, .slice none 0 0] := (Blk.new w _ _).below hb (by simp)
  have q0 : w1.cell? ⟨w.heap.size, 0, none⟩ = some (.int .u8 0) := q.cell 0
  have q1 : w1.cell? ⟨w.heap.size, 1, none⟩ = some (.int .i64 0) := q.cell 1
  have q2 : w1.cell? ⟨w.heap.size, 2, none⟩ = some (.string ⟨#[]⟩) := q.cell 2
  have q3 : w1.cell? ⟨w.heap.size, 3, none⟩ = some (.slice none 0 0) := q.cell 3
  have q4 : w1.cell? ⟨w.heap.size, 4, none⟩ = some (.slice none 0 0) := q.cell 4
  have z0 := q.frozen 0
  have z1 := q.frozen 1
  have z2 := q.frozen 2
  have z3 := q.frozen 3
  have z4 := q.frozen 4
  have Hb := hide (((Below.refl w.heap.size w).alloc (Nat.le_refl _) (.cells #[.int .u8 0, .int .i64 0, .string ⟨#[]⟩, .slice none 0 0, .slice none 0 0] 44)).trans (hb.mono (by simp)))
  have Hq := hide q
  generalize hbb : w.heap.size = b at hlt q0 q1 q2 q3 q4 z0 z1 z2 z3 z4 Hb Hq ⊢
  have Hbb := hide hbb
  clear hbb
  clear hb q hsz
  go_wp2_with (go_at_call 25; refine (bad_nil _).mono ?_; rintro e w' ⟨rfl, rfl⟩)
  obtain ⟨w5, hw5⟩ : ∃ w5, w5 = (((((w1.setCell ⟨b, 0, none⟩ (.int .u8 0)).setCell ⟨b, 1, none⟩ (.int .i64 0)).setCell ⟨b, 2, none⟩ (.string ⟨#[]⟩)).setCell ⟨b, 3, none⟩ (.slice none 0 0)).setCell ⟨b, 4, none⟩ (.slice none 0 0)).alloc (.cells #[.int .u8 0, .int .i64 0, .string ⟨#[]⟩, .slice none 0 0, .slice none 0 0] 44) := ⟨_, rfl⟩
  rw [← hw5]
  have hb5 : Blk w5 b 44 #[.int .u8 0, .int .i64 0, .string ⟨#[]⟩, .slice none 0 0, .slice none 0 0] := by
    rw [hw5]
    exact (((((Hq.out.set_ 0 _).set_ 1 _).set_ 2 _).set_ 3 _).set_ 4 _).alloc _
  have q0 : w5.cell? ⟨b, 0, none⟩ = some (.int .u8 0) := hb5.cell 0
  have q1 : w5.cell? ⟨b, 1, none⟩ = some (.int .i64 0) := hb5.cell 1
  have q2 : w5.cell? ⟨b, 2, none⟩ = some (.string ⟨#[]⟩) := hb5.cell 2
  have q3 : w5.cell? ⟨b, 3, none⟩ = some (.slice none 0 0) := hb5.cell 3
  have q4 : w5.cell? ⟨b, 4, none⟩ = some (.slice none 0 0) := hb5.cell 4
  refine bodyPost_ret (v := VZ) (by simp [results, Try.results30, go_sem, q0, q1, q2, q3, q4]) rfl ⟨rfl, ?_⟩
  rw [Hbb.out]
  have f5 : Fr (fun k => k = b) w1 w5 := by rw [hw5]; exact ((((((Fr.refl _ _).put1 0 _).put1 1 _).put1 2 _).put1 3 _).put1 4 _).alloc _
  exact Hb.out.trans (f5.below (by have := Hq.out.lt; omega) (fun k hk => by omega))

/-- The entity that is none. -/
abbrev EZ : Value := .agg #[.string ⟨#[]⟩, .string ⟨#[]⟩, .slice none 0 0, .slice none 0 0]
set_option maxHeartbeats 2000000 in
theorem entity_nil (w : World) : Calls Try.prog 39 #[.pointer none] w (NilPost EZ w) := by
  go_enter Try.func39, Try.ntmps39
  go_wp2_with (go_at_call 23; refine (text_nil _ _).mono ?_; rintro e w' ⟨rfl, rfl⟩)
  refine (value_nil _).mono ?_
  rintro e w1 ⟨rfl, hb⟩
  have hsz := hb.size
  rw [World.size_alloc] at hsz
  have hlt : w.heap.size < w1.heap.size := by omega
  have q : Blk w1 w.heap.size 61 #[.string ⟨#[]⟩, .string ⟨#[]⟩, .slice none 0 0, .slice none 0 0] := (Blk.new w _ _).below hb (by simp)
  have q0 : w1.cell? ⟨w.heap.size, 0, none⟩ = some (.string ⟨#[]⟩) := q.cell 0
  have q1 : w1.cell? ⟨w.heap.size, 1, none⟩ = some (.string ⟨#[]⟩) := q.cell 1
  have q2 : w1.cell? ⟨w.heap.size, 2, none⟩ = some (.slice none 0 0) := q.cell 2
  have q3 : w1.cell? ⟨w.heap.size, 3, none⟩ = some (.slice none 0 0) := q.cell 3
  have z0 := q.frozen 0
  have z1 := q.frozen 1
  have z2 := q.frozen 2
  have z3 := q.frozen 3
  have Hb := hide (((Below.refl w.heap.size w).alloc (Nat.le_refl _) (.cells #[.string ⟨#[]⟩, .string ⟨#[]⟩, .slice none 0 0, .slice none 0 0] 61)).trans (hb.mono (by simp)))
  have Hq := hide q
  generalize hbb : w.heap.size = b at hlt q0 q1 q2 q3 z0 z1 z2 z3 Hb Hq ⊢
  have Hbb := hide hbb
  clear hbb hb q hsz
  go_wp2_with (first
    | (go_at_call 25; refine (bad_nil _).mono ?_; rintro e w' ⟨rfl, rfl⟩)
    | (go_at_call 44; refine (fail_nil _).mono ?_; rintro e w' ⟨rfl, rfl⟩))
  obtain ⟨w5, hw5⟩ : ∃ w5, w5 = ((((w1.setCell ⟨b, 0, none⟩ (.string ⟨#[]⟩)).setCell ⟨b, 1, none⟩ (.string ⟨#[]⟩)).setCell ⟨b, 2, none⟩ (.slice none 0 0)).setCell ⟨b, 3, none⟩ (.slice none 0 0)).alloc (.cells #[.int .u8 0, .int .i64 0, .string ⟨#[]⟩, .slice none 0 0, .slice none 0 0] 44) := ⟨_, rfl⟩
  rw [← hw5]
  have hb5 : Blk w5 b 61 #[.string ⟨#[]⟩, .string ⟨#[]⟩, .slice none 0 0, .slice none 0 0] := by
    rw [hw5]
    exact ((((Hq.out.set_ 0 _).set_ 1 _).set_ 2 _).set_ 3 _).alloc _
  have q0 : w5.cell? ⟨b, 0, none⟩ = some (.string ⟨#[]⟩) := hb5.cell 0
  have q1 : w5.cell? ⟨b, 1, none⟩ = some (.string ⟨#[]⟩) := hb5.cell 1
  have q2 : w5.cell? ⟨b, 2, none⟩ = some (.slice none 0 0) := hb5.cell 2
  have q3 : w5.cell? ⟨b, 3, none⟩ = some (.slice none 0 0) := hb5.cell 3
  refine bodyPost_ret (v := EZ) (by simp [results, Try.results39, go_sem, q0, q1, q2, q3]) rfl ⟨rfl, ?_⟩
  rw [Hbb.out]
  have f5 : Fr (fun k => k = b) w1 w5 := by rw [hw5]; exact (((((Fr.refl _ _).put1 0 _).put1 1 _).put1 2 _).put1 3 _).alloc _
  exact Hb.out.trans (f5.below (by have := Hq.out.lt; omega) (fun k hk => by omega))
set_option maxHeartbeats 2000000 in
theorem same_zero (w : World) : Calls Try.prog 32 #[VZ, VZ] w (NilPost (.bool true) w) := by
  go_enter Try.func32, Try.ntmps32
  go_wp2
  go_loop [5] (fun i => i = .int .i64 0) (fun _ => 0)
  case atStart => exact rfl
  case round =>
    obtain rfl := hrel
    go_wp2
    go_loop [6] (fun i => i = .int .i64 0) (fun _ => 0)
    case atStart => exact rfl
    case round =>
      obtain rfl := hrel
      go_wp2
      go_ret
      exact ⟨rfl, ((Below.refl _ _).alloc (Nat.le_refl _) _).alloc (by simp) _⟩

theorem fieldEZ (W : World) : (Instr.field 61 EZ 1).run Try.prog W = .ok (.string ⟨#[]⟩) W := by kernel_rfl
set_option maxRecDepth 100000 in
set_option maxHeartbeats 4000000 in
theorem wnil_any (n m : Int) (w : World) : Calls Try.prog 8 #[.int .u64 n, .int .i64 m] w fun e w' => e = .returned (.bool true) ∧ Below w.heap.size w w' := by
  go_enter Try.func8, Try.ntmps8
  go_wp2_with fail
  refine (awake_any _).mono ?_
  rintro e w1 ⟨rfl, hb1⟩
  have Hb1 := hide hb1
  clear hb1
  go_wp2_with (first
    | (go_at_call 25; refine (bad_nil _).mono ?_; rintro e w' ⟨rfl, rfl⟩)
    | (go_at_call 24; refine (end_nil _).mono ?_; rintro e w' ⟨rfl, rfl⟩)
    | (go_at_call 21; refine (uint_nil _ _).mono ?_; rintro e w' ⟨rfl, rfl⟩)
    | (go_at_call 22; refine (int_nil _).mono ?_; rintro e w' ⟨rfl, rfl⟩)
    | (go_at_call 23; refine (text_nil _ _).mono ?_; rintro e w' ⟨rfl, rfl⟩))
  refine (value_nil _).mono ?_
  rintro e w2 ⟨rfl, hb2⟩
  have Hb2 := hide (Hb1.out.trans (hb2.mono Hb1.out.size))
  clear hb2 Hb1
  go_wp2_with fail
  refine (same_zero _).mono ?_
  rintro e w3 ⟨rfl, hb3⟩
  have Hb3 := hide (Hb2.out.trans (hb3.mono Hb2.out.size))
  clear hb3 Hb2
  go_wp2_with fail
  refine (entity_nil _).mono ?_
  rintro e w4 ⟨rfl, hb4⟩
  have Hb4 := hide (Hb3.out.trans (hb4.mono Hb3.out.size))
  clear hb4 Hb3
  have kf := fieldEZ
  go_wp2
  go_ret
  exact ⟨rfl, Hb4.out⟩
end Go.Proofs.Ytonlpgjcmodpnaa
