/- A queue of pairs: send and receive, which never wait. -/
import Derived.Test.YthmaodpmbmiadaaQa
import Derived.KernelRfl
import Derived.Laws.Rows
namespace Go.Proofs.Ythmaodpmbmiadaa
open Go.Conc Go.RowKit

set_option maxRecDepth 100000 in
set_option maxHeartbeats 2000000 in
theorem send_roomPair (q c cap : Nat) (buf : Array Value) (s r gone : Nat) (a : Int) (b : ByteArray) (w : World) (hq : Blk w q 79 #[.chan (some c), .int .u64 (gone : Int)]) (hc : w.heap[c]? = some (.chan cap buf false s r false)) (hroom : buf.size < cap) :
    Calls Try.prog 36 #[.pointer (some ⟨q, 0, none⟩), .agg #[.int .i64 a, .string b]] w fun e w' => e = .returned (.bool true) ∧ w' = (w.alloc (.cells #[.int .i64 a, .string b] 48)).setChan c cap (buf.push (.agg #[.int .i64 a, .string b])) false (s + 1) r false := by
  have hq0 : (w.alloc (.cells #[.int .i64 a, .string b] 48)).cell? ⟨q, 0, none⟩ = some (.chan (some c)) := (hq.alloc _).cell 0
  have p0 : (w.alloc (.cells #[.int .i64 a, .string b] 48)).cell? ⟨w.heap.size, 0, none⟩ = some (.int .i64 a) := (Blk.new w 48 #[.int .i64 a, .string b]).cell 0
  have p1 : (w.alloc (.cells #[.int .i64 a, .string b] 48)).cell? ⟨w.heap.size, 1, none⟩ = some (.string b) := (Blk.new w 48 #[.int .i64 a, .string b]).cell 1
  have hcl : c < w.heap.size := (Array.getElem?_eq_some_iff.1 hc).1
  have hc1 : (w.alloc (.cells #[.int .i64 a, .string b] 48)).heap[c]? = some (.chan cap buf false s r false) := (Below.heap_alloc w _ c hcl).trans hc
  refine calls_of_loneTo fun cs => ?_
  have e : Frame.enter Try.prog 36 #[.pointer (some ⟨q, 0, none⟩), .agg #[.int .i64 a, .string b]] .normal = (base 36).at ⟨#[.pointer (some ⟨q, 0, none⟩), .agg #[.int .i64 a, .string b], undef, undef, undef, undef, undef, undef, undef, undef, undef, undef, undef], []⟩ [.code (Try.f36.body.getD .skip)] := by
    simp [Frame.enter, Frame.at, Try.func36, base, Try.f36]
    try rfl
  rw [e]
  refine LoneTo.goes (n := 22) ?_
  simp only [Try.f36, Option.getD_some]
  s_c stepG_seq
  s_reg
  s_op
  s_op
  s_c stepG_region_end
  s_c stepG_seq
  s_c stepG_seq
  s_reg
  s_op
  s_op
  s_op
  s_op
  s_c stepG_region_end
  s_reg
  s_op
  s_c stepG_region_end
  s_c stepG_seq
  s_reg
  s_stop
  refine LoneTo.step (step_lone_select_send_room (c := c) (cap := cap) (buf := buf) (s := s) (r := r) (tm := false) (stepG_comm (cases := #[scase c (.agg #[.int .i64 a, .string b]) (.agg #[.int .i64 0, .string ⟨#[]⟩])]) (blocking := false) (shape := .select) (w' := w.alloc (.cells #[.int .i64 a, .string b] 48)) rfl rfl (by decide) (by simp [go_sem, execOp, scase, Act.eval])) hc1 hroom) ?_
  rw [Frame.finish_at]
  walk_nrm
  refine LoneTo.goes (n := 20) ?_
  s_op
  s_op
  s_c stepG_region_end
  s_c stepG_block
  s_cond true
  s_c stepG_seq
  s_reg
  s_op
  s_c stepG_region_end
  s_c stepG_ret'
  s_stop
  exact LoneTo.done ⟨.returned (.bool true), _, rfl, ⟨rfl, rfl⟩, rfl, rfl, rfl, rfl, _, Try.func36, by simp [results, Try.f36, Frame.at]⟩

set_option maxRecDepth 100000 in
set_option maxHeartbeats 2000000 in
theorem send_fullPair (q c cap : Nat) (buf : Array Value) (s r gone : Nat) (a : Int) (b : ByteArray) (w : World) (hq : Blk w q 79 #[.chan (some c), .int .u64 (gone : Int)]) (hc : w.heap[c]? = some (.chan cap buf false s r false)) (hroom : cap ≤ buf.size) :
    Calls Try.prog 36 #[.pointer (some ⟨q, 0, none⟩), .agg #[.int .i64 a, .string b]] w fun e w' => e = .returned (.bool false) ∧ w' = w.alloc (.cells #[.int .i64 a, .string b] 48) := by
  have hq0 : (w.alloc (.cells #[.int .i64 a, .string b] 48)).cell? ⟨q, 0, none⟩ = some (.chan (some c)) := (hq.alloc _).cell 0
  have p0 : (w.alloc (.cells #[.int .i64 a, .string b] 48)).cell? ⟨w.heap.size, 0, none⟩ = some (.int .i64 a) := (Blk.new w 48 #[.int .i64 a, .string b]).cell 0
  have p1 : (w.alloc (.cells #[.int .i64 a, .string b] 48)).cell? ⟨w.heap.size, 1, none⟩ = some (.string b) := (Blk.new w 48 #[.int .i64 a, .string b]).cell 1
  have hcl : c < w.heap.size := (Array.getElem?_eq_some_iff.1 hc).1
  have hc1 : (w.alloc (.cells #[.int .i64 a, .string b] 48)).heap[c]? = some (.chan cap buf false s r false) := (Below.heap_alloc w _ c hcl).trans hc
  refine calls_of_loneTo fun cs => ?_
  have e : Frame.enter Try.prog 36 #[.pointer (some ⟨q, 0, none⟩), .agg #[.int .i64 a, .string b]] .normal = (base 36).at ⟨#[.pointer (some ⟨q, 0, none⟩), .agg #[.int .i64 a, .string b], undef, undef, undef, undef, undef, undef, undef, undef, undef, undef, undef], []⟩ [.code (Try.f36.body.getD .skip)] := by
    simp [Frame.enter, Frame.at, Try.func36, base, Try.f36]
    try rfl
  rw [e]
  refine LoneTo.goes (n := 22) ?_
  simp only [Try.f36, Option.getD_some]
  s_c stepG_seq
  s_reg
  s_op
  s_op
  s_c stepG_region_end
  s_c stepG_seq
  s_c stepG_seq
  s_reg
  s_op
  s_op
  s_op
  s_op
  s_c stepG_region_end
  s_reg
  s_op
  s_c stepG_region_end
  s_c stepG_seq
  s_reg
  s_stop
  refine LoneTo.step (step_lone_select_send_full (c := c) (cap := cap) (buf := buf) (s := s) (r := r) (tm := false) (stepG_comm (cases := #[scase c (.agg #[.int .i64 a, .string b]) (.agg #[.int .i64 0, .string ⟨#[]⟩])]) (blocking := false) (shape := .select) (w' := w.alloc (.cells #[.int .i64 a, .string b] 48)) rfl rfl (by decide) (by simp [go_sem, execOp, scase, Act.eval])) hc1 hroom) ?_
  rw [Frame.finish_at]
  walk_nrm
  refine LoneTo.goes (n := 20) ?_
  s_op
  s_op
  s_c stepG_region_end
  s_c stepG_block
  s_cond false
  s_c stepG_seq
  s_reg
  s_op
  s_c stepG_region_end
  s_c stepG_ret'
  s_stop
  exact LoneTo.done ⟨.returned (.bool false), _, rfl, ⟨rfl, rfl⟩, rfl, rfl, rfl, rfl, _, Try.func36, by simp [results, Try.f36, Frame.at]⟩

theorem zeroP (w : World) : (zeroValue 48).run Try.prog w = .ok (.agg #[.int .i64 0, .string ⟨#[]⟩]) w := by
  have h : (Try.prog.info? 48).map (·.zero) = some (some (.agg #[.int .i64 0, .string ⟨#[]⟩])) := by kernel_rfl
  obtain ⟨i, hi, hz⟩ := Option.map_eq_some_iff.1 h
  simp [zeroValue, typeInfo, hi, hz]
set_option maxRecDepth 100000 in
set_option maxHeartbeats 2000000 in
theorem recv_somePair (q c cap : Nat) (a : Int) (b : ByteArray) (l : List Value) (s r gone : Nat) (w : World) (hq : Blk w q 79 #[.chan (some c), .int .u64 (gone : Int)]) (hc : w.heap[c]? = some (.chan cap (Value.agg #[.int .i64 a, .string b] :: l).toArray false s r false)) :
    Calls Try.prog 40 #[.pointer (some ⟨q, 0, none⟩)] w fun e w' => e = .returned (.tuple #[.agg #[.int .i64 a, .string b], .bool true]) ∧ Ch w' c cap l ∧ Fr (fun k => k = c) w w' := by
  have hq0 : (w.alloc (.cells #[.int .i64 0, .string ⟨#[]⟩] 48)).cell? ⟨q, 0, none⟩ = some (.chan (some c)) := (hq.alloc _).cell 0
  have hcl : c < w.heap.size := (Array.getElem?_eq_some_iff.1 hc).1
  have hc1 : (w.alloc (.cells #[.int .i64 0, .string ⟨#[]⟩] 48)).heap[c]? = some (.chan cap (Value.agg #[.int .i64 a, .string b] :: l).toArray false s r false) := (Below.heap_alloc w _ c hcl).trans hc
  have za := zeroP
  refine calls_of_loneTo fun cs => ?_
  have e : Frame.enter Try.prog 40 #[.pointer (some ⟨q, 0, none⟩)] .normal = (base 40).at ⟨#[.pointer (some ⟨q, 0, none⟩), undef, undef, undef, undef, undef, undef, undef, undef, undef, undef, undef, undef, undef, undef, undef], []⟩ [.code (Try.f40.body.getD .skip)] := by
    simp [Frame.enter, Frame.at, Try.func40, base, Try.f40]
    try rfl
  rw [e]
  refine LoneTo.goes (n := 20) ?_
  simp only [Try.f40, Option.getD_some]
  s_c stepG_seq
  s_reg
  s_op
  s_op
  s_c stepG_region_end
  s_c stepG_seq
  s_reg
  s_op
  s_op
  s_op
  s_op
  s_c stepG_region_end
  s_c stepG_seq
  s_reg
  s_stop
  refine LoneTo.step (step_lone_select_recv_buf (c := c) (z := .agg #[.int .i64 0, .string ⟨#[]⟩]) (cap := cap) (buf := (Value.agg #[.int .i64 a, .string b] :: l).toArray) (closed := false) (s := s) (r := r) (tm := false) (stepG_comm (cases := #[rcase c (.agg #[.int .i64 0, .string ⟨#[]⟩])]) (blocking := false) (shape := .select) (w' := (w.alloc (.cells #[.int .i64 0, .string ⟨#[]⟩] 48))) rfl rfl (by decide) (by simp [go_sem, execOp, rcase, Act.eval, za])) hc1 (by simp)) ?_
  have hx : (Value.agg #[.int .i64 a, .string b] :: l).toArray.getD 0 undef = .agg #[.int .i64 a, .string b] := by simp [Array.getD]
  have hl : (Value.agg #[.int .i64 a, .string b] :: l).toArray.extract 1 (Value.agg #[.int .i64 a, .string b] :: l).toArray.size = l.toArray := by simp
  rw [hx, hl]
  obtain ⟨W, hW⟩ : ∃ W, (w.alloc (.cells #[.int .i64 0, .string ⟨#[]⟩] 48)).setChan c cap l.toArray false s (r + 1) false = W := ⟨_, rfl⟩
  have hb2 : Blk W w.heap.size 48 #[.int .i64 0, .string ⟨#[]⟩] := by rw [← hW]; exact (Blk.new w 48 _).setChan (by omega) _ _ _ _ _ _
  have hWs : W.heap.size = w.heap.size + 1 := by rw [← hW, size_setChan]; simp
  rw [hW]
  rw [Frame.finish_at]
  walk_nrm
  refine LoneTo.goes (n := 40) ?_
  have hp : Blk (W.alloc (.cells #[.int .i64 a, .string b] 48)) (w.heap.size + 1) 48 #[.int .i64 a, .string b] := by rw [← hWs]; exact Blk.new W 48 _
  have p0 := hp.cell 0
  have p1 := hp.cell 1
  have b0 := hb2.cell 0
  have b1 := hb2.cell 1
  have g0 := hb2.frozen 0
  have g1 := hb2.frozen 1
  have r0 : (W.alloc (.cells #[.int .i64 a, .string b] 48)).cell? ⟨w.heap.size, 0, none⟩ = some (.int .i64 0) := (hb2.alloc _).cell 0
  have r1 : (W.alloc (.cells #[.int .i64 a, .string b] 48)).cell? ⟨w.heap.size, 1, none⟩ = some (.string ⟨#[]⟩) := (hb2.alloc _).cell 1
  have f0 : (W.alloc (.cells #[.int .i64 a, .string b] 48)).frozen? ⟨w.heap.size, 0, none⟩ = false := (hb2.alloc _).frozen 0
  have f1 : (W.alloc (.cells #[.int .i64 a, .string b] 48)).frozen? ⟨w.heap.size, 1, none⟩ = false := (hb2.alloc _).frozen 1
  s_op
  s_op
  s_c stepG_region_end
  s_c stepG_block
  s_cond true
  s_c stepG_seq
  s_reg
  have hz : Blk (W.alloc (.cells #[.int .i64 0, .string ⟨#[]⟩] 48)) (w.heap.size + 1) 48 #[.int .i64 0, .string ⟨#[]⟩] := by rw [← hWs]; exact Blk.new W 48 _
  have z0 := hz.cell 0
  have z1 := hz.cell 1
  have y0 := hz.frozen 0
  have y1 := hz.frozen 1
  s_op
  s_op
  s_op
  s_c stepG_region_end
  s_c stepG_seq
  s_reg
  s_op
  s_op
  s_op
  s_c stepG_region_end
  s_c stepG_ret'
  s_stop
  have hV := ((hb2.set_ 0 (.int .i64 a)).set_ 1 (.string b)).alloc (.cells #[.int .i64 a, .string b] 48)
  have v0 : (((W.setCell ⟨w.heap.size, 0, none⟩ (.int .i64 a)).setCell ⟨w.heap.size, 1, none⟩ (.string b)).alloc (.cells #[.int .i64 a, .string b] 48)).cell? ⟨w.heap.size, 0, none⟩ = some (.int .i64 a) := hV.cell 0
  have v1 : (((W.setCell ⟨w.heap.size, 0, none⟩ (.int .i64 a)).setCell ⟨w.heap.size, 1, none⟩ (.string b)).alloc (.cells #[.int .i64 a, .string b] 48)).cell? ⟨w.heap.size, 1, none⟩ = some (.string b) := hV.cell 1
  have hfw : Fr (fun k => k = c) w W := by rw [← hW]; exact Fr.setChan (F := fun k => k = c) ((Fr.refl _ _).alloc _) (.inl rfl) _ _ _ _ _ _
  have hcW : Ch W c cap l := by rw [← hW]; exact Ch.set_ (by rw [World.size_alloc]; omega) _ _ _ rfl _ _
  refine LoneTo.done ⟨.returned (.tuple #[.agg #[.int .i64 a, .string b], .bool true]), _, rfl, ⟨rfl, ?_, ?_⟩, rfl, rfl, rfl, rfl, _, Try.func40, ?_⟩
  · exact ((hcW.setCell (p := ⟨w.heap.size, 0, none⟩) (by show c ≠ w.heap.size; omega) _).setCell (p := ⟨w.heap.size, 1, none⟩) (by show c ≠ w.heap.size; omega) _).alloc _
  · exact ((hfw.setCell (p := ⟨w.heap.size, 0, none⟩) (.inr (Nat.le_refl _)) _).setCell (p := ⟨w.heap.size, 1, none⟩) (.inr (Nat.le_refl _)) _).alloc _
  · simp [results, Try.f40, Frame.at, go_sem, v0, v1, Result.andThen]
end Go.Proofs.Ythmaodpmbmiadaa
