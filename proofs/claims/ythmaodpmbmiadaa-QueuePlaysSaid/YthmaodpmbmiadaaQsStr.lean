/- A queue of string: send and receive, which never wait. -/
import Derived.Test.YthmaodpmbmiadaaQa
import Derived.KernelRfl
import Derived.Laws.Rows
namespace Go.Proofs.Ythmaodpmbmiadaa
open Go.Conc Go.RowKit

set_option maxRecDepth 100000 in
set_option maxHeartbeats 2000000 in
theorem send_roomStr (q c cap : Nat) (buf : Array Value) (s r gone : Nat) (x : Value) (w : World) (hq : Blk w q 73 #[.chan (some c), .int .u64 (gone : Int)]) (hc : w.heap[c]? = some (.chan cap buf false s r false)) (hroom : buf.size < cap) :
    Calls Try.prog 33 #[.pointer (some ⟨q, 0, none⟩), x] w fun e w' => e = .returned (.bool true) ∧ w' = w.setChan c cap (buf.push x) false (s + 1) r false := by
  have hq0 : w.cell? ⟨q, 0, none⟩ = some (.chan (some c)) := hq.cell 0
  refine calls_of_loneTo fun cs => ?_
  have e : Frame.enter Try.prog 33 #[.pointer (some ⟨q, 0, none⟩), x] .normal = (base 33).at ⟨#[.pointer (some ⟨q, 0, none⟩), x, undef, undef, undef, undef, undef, undef, undef, undef, undef, undef, undef], []⟩ [.code (Try.f33.body.getD .skip)] := by
    simp [Frame.enter, Frame.at, Try.func33, base, Try.f33]
    try rfl
  rw [e]
  refine LoneTo.goes (n := 20) ?_
  simp only [Try.f33, Option.getD_some]
  s_c stepG_seq
  s_reg
  s_op
  s_c stepG_region_end
  s_c stepG_seq
  s_c stepG_seq
  s_reg
  s_op
  s_op
  s_op
  s_op
  s_c stepG_region_end
  s_reg
  s_op
  s_c stepG_region_end
  s_c stepG_seq
  s_reg
  s_stop
  refine LoneTo.step (step_lone_select_send_room (c := c) (cap := cap) (buf := buf) (s := s) (r := r) (tm := false) (stepG_comm (cases := #[scase c x (.string ⟨#[]⟩)]) (blocking := false) (shape := .select) (w' := w) rfl rfl (by decide) (by simp [go_sem, execOp, scase, Act.eval])) hc hroom) ?_
  rw [Frame.finish_at]
  walk_nrm
  refine LoneTo.goes (n := 20) ?_
  s_op
  s_op
  s_c stepG_region_end
  s_c stepG_block
  s_cond true
  s_c stepG_seq
  s_reg
  s_op
  s_c stepG_region_end
  s_c stepG_ret'
  s_stop
  exact LoneTo.done ⟨.returned (.bool true), _, rfl, ⟨rfl, rfl⟩, rfl, rfl, rfl, rfl, _, Try.func33, by simp [results, Try.f33, Frame.at]⟩

set_option maxRecDepth 100000 in
set_option maxHeartbeats 2000000 in
theorem send_fullStr (q c cap : Nat) (buf : Array Value) (s r gone : Nat) (x : Value) (w : World) (hq : Blk w q 73 #[.chan (some c), .int .u64 (gone : Int)]) (hc : w.heap[c]? = some (.chan cap buf false s r false)) (hfull : cap ≤ buf.size) :
    Calls Try.prog 33 #[.pointer (some ⟨q, 0, none⟩), x] w fun e w' => e = .returned (.bool false) ∧ w' = w := by
  have hq0 : w.cell? ⟨q, 0, none⟩ = some (.chan (some c)) := hq.cell 0
  refine calls_of_loneTo fun cs => ?_
  have e : Frame.enter Try.prog 33 #[.pointer (some ⟨q, 0, none⟩), x] .normal = (base 33).at ⟨#[.pointer (some ⟨q, 0, none⟩), x, undef, undef, undef, undef, undef, undef, undef, undef, undef, undef, undef], []⟩ [.code (Try.f33.body.getD .skip)] := by
    simp [Frame.enter, Frame.at, Try.func33, base, Try.f33]
    try rfl
  rw [e]
  refine LoneTo.goes (n := 20) ?_
  simp only [Try.f33, Option.getD_some]
  s_c stepG_seq
  s_reg
  s_op
  s_c stepG_region_end
  s_c stepG_seq
  s_c stepG_seq
  s_reg
  s_op
  s_op
  s_op
  s_op
  s_c stepG_region_end
  s_reg
  s_op
  s_c stepG_region_end
  s_c stepG_seq
  s_reg
  s_stop
  refine LoneTo.step (step_lone_select_send_full (c := c) (cap := cap) (buf := buf) (s := s) (r := r) (tm := false) (stepG_comm (cases := #[scase c x (.string ⟨#[]⟩)]) (blocking := false) (shape := .select) (w' := w) rfl rfl (by decide) (by simp [go_sem, execOp, scase, Act.eval])) hc hfull) ?_
  rw [Frame.finish_at]
  walk_nrm
  refine LoneTo.goes (n := 20) ?_
  s_op
  s_op
  s_c stepG_region_end
  s_c stepG_block
  s_cond false
  s_c stepG_seq
  s_reg
  s_op
  s_c stepG_region_end
  s_c stepG_ret'
  s_stop
  exact LoneTo.done ⟨.returned (.bool false), _, rfl, ⟨rfl, rfl⟩, rfl, rfl, rfl, rfl, _, Try.func33, by simp [results, Try.f33, Frame.at]⟩

set_option maxRecDepth 100000 in
set_option maxHeartbeats 2000000 in
theorem recv_someStr (q c cap : Nat) (x : Value) (l : List Value) (s r gone : Nat) (w : World) (hq : Blk w q 73 #[.chan (some c), .int .u64 (gone : Int)]) (hc : w.heap[c]? = some (.chan cap (x :: l).toArray false s r false)) :
    Calls Try.prog 35 #[.pointer (some ⟨q, 0, none⟩)] w fun e w' => e = .returned (.tuple #[x, .bool true]) ∧ w' = w.setChan c cap l.toArray false s (r + 1) false := by
  have hq0 : w.cell? ⟨q, 0, none⟩ = some (.chan (some c)) := hq.cell 0
  refine calls_of_loneTo fun cs => ?_
  have e : Frame.enter Try.prog 35 #[.pointer (some ⟨q, 0, none⟩)] .normal = (base 35).at ⟨#[.pointer (some ⟨q, 0, none⟩), undef, undef, undef, undef, undef, undef, undef, undef, undef, undef, undef, undef, undef, undef, undef], []⟩ [.code (Try.f35.body.getD .skip)] := by
    simp [Frame.enter, Frame.at, Try.func35, base, Try.f35]
    try rfl
  rw [e]
  refine LoneTo.goes (n := 20) ?_
  simp only [Try.f35, Option.getD_some]
  s_c stepG_seq
  s_reg
  s_op
  s_op
  s_c stepG_region_end
  s_c stepG_seq
  s_reg
  s_op
  s_op
  s_op
  s_op
  s_c stepG_region_end
  s_c stepG_seq
  s_reg
  s_stop
  refine LoneTo.step (step_lone_select_recv_buf (c := c) (z := .string ⟨#[]⟩) (cap := cap) (buf := (x :: l).toArray) (closed := false) (s := s) (r := r) (tm := false) (stepG_comm (cases := #[rcase c (.string ⟨#[]⟩)]) (blocking := false) (shape := .select) (w' := w) rfl rfl (by decide) (by simp [go_sem, execOp, rcase, Act.eval])) hc (by simp)) ?_
  have hx : (x :: l).toArray.getD 0 undef = x := by simp [Array.getD]
  rw [hx]
  rw [Frame.finish_at]
  walk_nrm
  refine LoneTo.goes (n := 30) ?_
  s_op
  s_op
  s_c stepG_region_end
  s_c stepG_block
  s_cond true
  s_c stepG_seq
  s_reg
  s_op
  s_op
  s_c stepG_region_end
  s_c stepG_seq
  s_reg
  s_op
  s_op
  s_op
  s_c stepG_region_end
  s_c stepG_ret'
  s_stop
  exact LoneTo.done ⟨.returned (.tuple #[x, .bool true]), _, rfl, ⟨rfl, by simp⟩, rfl, rfl, rfl, rfl, _, Try.func35, by simp [results, Try.f35, Frame.at]⟩

set_option maxRecDepth 100000 in
set_option maxHeartbeats 2000000 in
theorem recv_noneStr (q c cap : Nat) (s r gone : Nat) (w : World) (hq : Blk w q 73 #[.chan (some c), .int .u64 (gone : Int)]) (hc : w.heap[c]? = some (.chan cap #[] false s r false)) :
    Calls Try.prog 35 #[.pointer (some ⟨q, 0, none⟩)] w fun e w' => e = .returned (.tuple #[.string ⟨#[]⟩, .bool false]) ∧ w' = w := by
  have hq0 : w.cell? ⟨q, 0, none⟩ = some (.chan (some c)) := hq.cell 0
  refine calls_of_loneTo fun cs => ?_
  have e : Frame.enter Try.prog 35 #[.pointer (some ⟨q, 0, none⟩)] .normal = (base 35).at ⟨#[.pointer (some ⟨q, 0, none⟩), undef, undef, undef, undef, undef, undef, undef, undef, undef, undef, undef, undef, undef, undef, undef], []⟩ [.code (Try.f35.body.getD .skip)] := by
    simp [Frame.enter, Frame.at, Try.func35, base, Try.f35]
    try rfl
  rw [e]
  refine LoneTo.goes (n := 20) ?_
  simp only [Try.f35, Option.getD_some]
  s_c stepG_seq
  s_reg
  s_op
  s_op
  s_c stepG_region_end
  s_c stepG_seq
  s_reg
  s_op
  s_op
  s_op
  s_op
  s_c stepG_region_end
  s_c stepG_seq
  s_reg
  s_stop
  refine LoneTo.step (step_lone_select_default (c := c) (z := .string ⟨#[]⟩) (cap := cap) (s := s) (r := r) (tm := false) (stepG_comm (cases := #[rcase c (.string ⟨#[]⟩)]) (blocking := false) (shape := .select) (w' := w) rfl rfl (by decide) (by simp [go_sem, execOp, rcase, Act.eval])) hc) ?_
  rw [Frame.finish_at]
  walk_nrm
  refine LoneTo.goes (n := 30) ?_
  s_op
  s_op
  s_c stepG_region_end
  s_c stepG_block
  s_cond false
  s_c stepG_seq
  s_reg
  s_op
  s_c stepG_region_end
  s_c stepG_seq
  s_reg
  s_op
  s_op
  s_op
  s_c stepG_region_end
  s_c stepG_ret'
  s_stop
  exact LoneTo.done ⟨.returned (.tuple #[.string ⟨#[]⟩, .bool false]), _, rfl, ⟨rfl, rfl⟩, rfl, rfl, rfl, rfl, _, Try.func35, by simp [results, Try.f35, Frame.at]⟩
end Go.Proofs.Ythmaodpmbmiadaa
