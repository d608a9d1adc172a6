/- A queue of pairs: its methods. -/
import Derived.Test.YthmaodpmbmiadaaQsPair
import Derived.Test.YthmaodpmbmiadaaOwnV
import Derived.Deep.QuietTactic
import Derived.Deep.Cut
namespace Go.Proofs.Ythmaodpmbmiadaa
open Go.Conc Go.RowKit

abbrev pv (a : Int) (b : ByteArray) : Value := .agg #[.int .i64 a, .string b]
theorem sendPair (S : QS) (a : Int) (b : ByteArray) (w : World) (h : QAt w 79 S) (hr : S.l.length < S.cap) : Calls Try.prog 36 #[.pointer (some ⟨S.q, 0, none⟩), pv a b] w (QLeaves (.bool true) 79 S (S.put (pv a b)) w) := by
  have hne := h.ne
  have hlt := h.ch.lt
  have hb := h.blk
  have hsm := h.small
  obtain ⟨s, r, hc⟩ := h.ch
  refine (send_roomPair S.q S.c S.cap _ s r S.gone a b w hb hc (by simpa using hr)).mono ?_
  rintro e w' ⟨rfl, rfl⟩
  exact ⟨rfl, ⟨(hb.alloc _).setChan hne _ _ _ _ _ _, Ch.set_ (by rw [World.size_alloc]; omega) _ _ _ (by simp [QS.put]) _ _, by simp only [QS.put, List.length_append, List.length_cons, List.length_nil]; omega, hsm⟩, ((Fr.refl _ _).alloc _).setChan (.inl S.F_c) _ _ _ _ _ _⟩
theorem sendFullPair (S : QS) (a : Int) (b : ByteArray) (w : World) (h : QAt w 79 S) (hr : S.cap ≤ S.l.length) : Calls Try.prog 36 #[.pointer (some ⟨S.q, 0, none⟩), pv a b] w (QLeaves (.bool false) 79 S S w) := by
  obtain ⟨s, r, hc⟩ := h.ch
  refine (send_fullPair S.q S.c S.cap _ s r S.gone a b w h.blk hc (by simpa using hr)).mono ?_
  rintro e w' ⟨rfl, rfl⟩
  exact ⟨rfl, h.alloc _, (Fr.refl _ _).alloc _⟩
theorem recvPair (S : QS) (a : Int) (b : ByteArray) (l : List Value) (w : World) (h : QAt w 79 S) (hl : S.l = pv a b :: l) : Calls Try.prog 40 #[.pointer (some ⟨S.q, 0, none⟩)] w (QLeaves (.tuple #[pv a b, .bool true]) 79 S S.pop w) := by
  have hne := h.ne
  have hb := h.blk
  have hsm := h.small
  have hr := h.room
  obtain ⟨s, r, hc⟩ := h.ch
  rw [hl] at hc hr
  refine (recv_somePair S.q S.c S.cap a b l s r S.gone w hb hc).mono ?_
  rintro e w' ⟨rfl, hch, hf⟩
  have hp : S.pop.l = l := by simp [QS.pop, hl]
  refine ⟨rfl, ⟨hb.fr hf hne, ?_, ?_, hsm⟩, hf.mono (fun k _ hk => .inr hk)⟩
  · rw [hp]; exact hch
  · rw [hp]
    simp only [List.length_cons] at hr
    show l.length ≤ S.cap
    omega

set_option maxHeartbeats 1000000 in
theorem lastPair (S : QS) (w : World) (h : QAt w 79 S) (hg : S.gone < 1000000000000) : Calls Try.prog 37 #[.pointer (some ⟨S.q, 0, none⟩)] w (DrewQ (.int .u64 (S.last : Int)) w) := by
  have c0 : w.cell? ⟨S.q, 0, none⟩ = some (.chan (some S.c)) := h.blk.cell 0
  have c1 : w.cell? ⟨S.q, 1, none⟩ = some (.int .u64 (S.gone : Int)) := h.blk.cell 1
  obtain ⟨n, hn⟩ : ∃ n, S.l.length = n := ⟨_, rfl⟩
  have hroom := h.room
  have hsm := h.small
  rw [hn] at hroom
  have hlen : ∀ k ty, (Builtin.len_ #[77] ty #[.chan (some S.c)]).run Try.prog (w.drewN k) = .ok (.int .i64 (n : Int)) (w.drewN k) := by
    intro k ty
    obtain ⟨s, r, hc⟩ := h.ch
    have := run_len_chan (P := Try.prog) (w := w.drewN k) 77 ty Try.underlying77 hc
    rw [this]
    simp [goInt, hn]
  rw [QS.last, hn]
  generalize S.gone = gn at *
  clear h hn
  go_enter Try.func37, Try.ntmps37
  go_upto_region 1 with fail
  go_quiet (fail)
  go_wp2
  go_ret
  refine ⟨?_, _, rfl⟩
  show Ending.returned (.int .u64 _) = _
  congr 2
  rw [IntKind.wrap_u64, IntKind.wrap_u64]
  omega

set_option maxHeartbeats 1000000 in
theorem lenPair (S : QS) (w : World) (h : QAt w 79 S) : Calls Try.prog 23 #[.pointer (some ⟨S.q, 0, none⟩)] w fun e w' => e = .returned (.int .i64 (S.l.length : Int)) ∧ w' = w := by
  have c0 : w.cell? ⟨S.q, 0, none⟩ = some (.chan (some S.c)) := h.blk.cell 0
  obtain ⟨n, hn⟩ : ∃ n, S.l.length = n := ⟨_, rfl⟩
  have hlen : ∀ ty, (Builtin.len_ #[77] ty #[.chan (some S.c)]).run Try.prog w = .ok (.int .i64 (n : Int)) w := by
    intro ty
    obtain ⟨s, r, hc⟩ := h.ch
    have := run_len_chan (P := Try.prog) (w := w) 77 ty Try.underlying77 hc
    rw [this]
    simp [goInt, hn]
  rw [hn]
  clear h hn
  go_enter Try.func23, Try.ntmps23
  go_wp2
  go_ret
  exact ⟨rfl, rfl⟩
set_option maxHeartbeats 1000000 in
theorem lenNilPair (w : World) : Calls Try.prog 23 #[.pointer none] w fun e w' => e = .returned (.int .i64 0) ∧ w' = w := by
  go_enter Try.func23, Try.ntmps23
  go_wp2
  go_ret
  exact ⟨rfl, rfl⟩


set_option maxHeartbeats 1000000 in
theorem putPair (S : QS) (a : Int) (b : ByteArray) (w : World) (h : QAt w 79 S) (hr : S.l.length < S.cap) (hg : S.gone < 1000000000000) : Calls Try.prog 19 #[.pointer (some ⟨S.q, 0, none⟩), pv a b] w (QLeaves (.tuple #[.int .u64 ((S.last + 1 : Nat) : Int), .int .i64 0]) 79 S (S.put (pv a b)) w) := by
  have p0 : (w.alloc (.cells #[.int .i64 a, .string b] 48)).cell? ⟨w.heap.size, 0, none⟩ = some (.int .i64 a) := (Blk.new w 48 #[.int .i64 a, .string b]).cell 0
  have p1 : (w.alloc (.cells #[.int .i64 a, .string b] 48)).cell? ⟨w.heap.size, 1, none⟩ = some (.string b) := (Blk.new w 48 #[.int .i64 a, .string b]).cell 1
  have H := hide h
  have Hr := hide hr
  clear h hr
  go_enter Try.func19, Try.ntmps19
  go_wp2_with fail
  refine (sendPair S a b _ (H.out.alloc _) Hr.out).mono ?_
  rintro e w1 ⟨rfl, h1, f1⟩
  have H1 := hide h1
  have F1 := hide (((Fr.refl S.F w).alloc (.cells #[.int .i64 a, .string b] 48)).trans' f1 (fun _ _ h => h))
  clear h1 f1 p0 p1
  go_wp2_with fail
  refine (lastPair (S.put (pv a b)) w1 H1.out hg).mono ?_
  rintro e w2 ⟨rfl, n, rfl⟩
  go_wp2
  go_ret2
  refine ⟨?_, H1.out.drewN n, F1.out.drewN n⟩
  simp only [QS.last, QS.put, List.length_append, List.length_cons, List.length_nil]
  try rfl
set_option maxHeartbeats 1000000 in
theorem putFullPair (S : QS) (a : Int) (b : ByteArray) (w : World) (h : QAt w 79 S) (hr : S.cap ≤ S.l.length) : Calls Try.prog 19 #[.pointer (some ⟨S.q, 0, none⟩), pv a b] w (QLeaves (.tuple #[.int .u64 0, .int .i64 17]) 79 S S w) := by
  have p0 : (w.alloc (.cells #[.int .i64 a, .string b] 48)).cell? ⟨w.heap.size, 0, none⟩ = some (.int .i64 a) := (Blk.new w 48 #[.int .i64 a, .string b]).cell 0
  have p1 : (w.alloc (.cells #[.int .i64 a, .string b] 48)).cell? ⟨w.heap.size, 1, none⟩ = some (.string b) := (Blk.new w 48 #[.int .i64 a, .string b]).cell 1
  have H := hide h
  have Hr := hide hr
  clear h hr
  go_enter Try.func19, Try.ntmps19
  go_wp2_with fail
  refine (sendFullPair S a b _ (H.out.alloc _) Hr.out).mono ?_
  rintro e w1 ⟨rfl, h1, f1⟩
  have H1 := hide h1
  have F1 := hide (((Fr.refl S.F w).alloc (.cells #[.int .i64 a, .string b] 48)).trans' f1 (fun _ _ h => h))
  clear h1 f1 p0 p1
  go_wp2
  go_ret2
  exact ⟨rfl, H1.out, F1.out⟩
set_option maxHeartbeats 1000000 in
theorem takePair (S : QS) (a : Int) (b : ByteArray) (l : List Value) (w : World) (h : QAt w 79 S) (hl : S.l = pv a b :: l) (hg : S.gone < 1000000000000) : Calls Try.prog 21 #[.pointer (some ⟨S.q, 0, none⟩)] w (QLeaves (.tuple #[pv a b, .int .i64 0]) 79 S (S.drop 1) w) := by
  have za := zeroP
  have H := hide h
  have Hl := hide hl
  clear h hl
  go_enter Try.func21, Try.ntmps21
  go_wp2_with fail
  obtain ⟨wa, hwa⟩ : ∃ wa, (w.alloc (.cells #[.int .i64 0, .string ⟨#[]⟩] 48)).alloc (.cells #[.int .i64 0, .string ⟨#[]⟩] 48) = wa := ⟨_, rfl⟩
  have Ha := hide (show QAt wa 79 S by rw [← hwa]; exact (H.out.alloc _).alloc _)
  have Fa := hide (show Fr S.F w wa by rw [← hwa]; exact ((Fr.refl _ _).alloc _).alloc _)
  have Hb2 := hide (show Blk wa w.heap.size 48 #[.int .i64 0, .string ⟨#[]⟩] by rw [← hwa]; exact (Blk.new w 48 _).alloc _)
  have Hsz := hide (show wa.heap.size = w.heap.size + 2 by rw [← hwa]; simp)
  rw [hwa]
  clear hwa
  refine (recvPair S a b l wa Ha.out Hl.out).mono ?_
  rintro e w1 ⟨rfl, h1, f1⟩
  have hqs : S.q < w.heap.size := H.out.blk.lt
  have hcs : S.c < w.heap.size := H.out.ch.lt
  have H1 := hide h1
  have F1 := hide (Fa.out.trans' f1 (fun _ _ h => h))
  have hw1 : w.heap.size + 2 ≤ w1.heap.size := by
    have := f1.size
    have h2 := Hsz.out
    omega
  have Hb3 := hide (Hb2.out.fr f1 (fun hF => by rcases hF with hF | hF <;> omega))
  have Hqs := hide hqs
  have Hcs := hide hcs
  have Hw1 := hide hw1
  clear h1 f1 Ha Hb2 Fa hqs hcs hw1 Hsz
  obtain ⟨wb, hwb⟩ : ∃ wb, w1.alloc (.cells #[.int .i64 a, .string b] 48) = wb := ⟨_, rfl⟩
  have H4 := hide (show QAt wb 79 S.pop by rw [← hwb]; exact H1.out.alloc _)
  have F4 := hide (show Fr S.F w wb by rw [← hwb]; exact F1.out.alloc _)
  have B4 := hide (show Blk wb w1.heap.size 48 #[.int .i64 a, .string b] by rw [← hwb]; exact Blk.new w1 48 _)
  have B3 := hide (show Blk wb w.heap.size 48 #[.int .i64 0, .string ⟨#[]⟩] by rw [← hwb]; exact Hb3.out.alloc _)
  have z4 : (w1.alloc (.cells #[.int .i64 0, .string ⟨#[]⟩] 48)).cell? ⟨w1.heap.size, 0, none⟩ = some (.int .i64 0) := (Blk.new w1 48 _).cell 0
  have z5 : (w1.alloc (.cells #[.int .i64 0, .string ⟨#[]⟩] 48)).cell? ⟨w1.heap.size, 1, none⟩ = some (.string ⟨#[]⟩) := (Blk.new w1 48 _).cell 1
  have y4 : (w1.alloc (.cells #[.int .i64 0, .string ⟨#[]⟩] 48)).frozen? ⟨w1.heap.size, 0, none⟩ = false := (Blk.new w1 48 _).frozen 0
  have y5 : (w1.alloc (.cells #[.int .i64 0, .string ⟨#[]⟩] 48)).frozen? ⟨w1.heap.size, 1, none⟩ = false := (Blk.new w1 48 _).frozen 1
  go_upto_region 7 with fail
  try rw [hwb]
  obtain ⟨nb, hnb⟩ : ∃ nb, w1.heap.size = nb := ⟨_, rfl⟩
  have Hnb := hide hnb
  rw [hnb] at B4 ⊢
  have c1 : wb.cell? ⟨S.q, 1, none⟩ = some (.int .u64 (S.gone : Int)) := H4.out.blk.cell 1
  have z1 : wb.frozen? ⟨S.q, 1, none⟩ = false := H4.out.blk.frozen 1
  clear z4 z5 y4 y5 hwb hnb za
  go_upto_region 8 with fail
  obtain ⟨wc, hwc⟩ : ∃ wc, wb.setCell ⟨S.q, 1, none⟩ (.int .u64 ((S.gone : Int) + 1)) = wc := ⟨_, rfl⟩
  try rw [hwc]
  have hne1 : nb ≠ S.q := by have := Hnb.out; have := Hw1.out; have := Hqs.out; omega
  have hne2 : w.heap.size ≠ S.q := by have := Hqs.out; omega
  have hne3 : w.heap.size ≠ nb := by have := Hnb.out; have := Hw1.out; omega
  have hne4 : S.c ≠ S.q := fun e => H4.out.ne e.symm
  have b4 : Blk wc nb 48 #[.int .i64 a, .string b] := by rw [← hwc]; exact B4.out.far (p := ⟨S.q, 1, none⟩) hne1 _
  have b3 : Blk wc w.heap.size 48 #[.int .i64 0, .string ⟨#[]⟩] := by rw [← hwc]; exact B3.out.far (p := ⟨S.q, 1, none⟩) hne2 _
  have hq5 : QAt wc 79 (S.drop 1) := by
    rw [← hwc]
    exact ⟨H4.out.blk.set_ 1 (.int .u64 ((S.gone + 1 : Nat) : Int)), H4.out.ch.setCell (p := ⟨S.q, 1, none⟩) hne4 _, H4.out.room, H4.out.small⟩
  have f5 : Fr S.F w wc := by rw [← hwc]; exact F4.out.setCell (p := ⟨S.q, 1, none⟩) (.inl S.F_q) _
  have q0 := b4.cell 0
  have q1 := b4.cell 1
  have s0 := b3.cell 0
  have s1 := b3.cell 1
  have t0 := b3.frozen 0
  have t1 := b3.frozen 1
  have V := (b3.set_ 0 (.int .i64 a)).set_ 1 (.string b)
  have Q5 := hide hq5
  have F5 := hide f5
  have HV := hide V
  have Hne2 := hide hne2
  have Hcs2 := hide Hcs.out
  clear hq5 f5 V b3 b4 c1 z1 hwc hne1 hne2 hne3 hne4
  go_wp2
  have v0 : ((wc.setCell ⟨w.heap.size, 0, none⟩ (.int .i64 a)).setCell ⟨w.heap.size, 1, none⟩ (.string b)).cell? ⟨w.heap.size, 0, none⟩ = some (.int .i64 a) := HV.out.cell 0
  have v1 : ((wc.setCell ⟨w.heap.size, 0, none⟩ (.int .i64 a)).setCell ⟨w.heap.size, 1, none⟩ (.string b)).cell? ⟨w.heap.size, 1, none⟩ = some (.string b) := HV.out.cell 1
  have f6 : Fr (fun k => k = w.heap.size) wc ((wc.setCell ⟨w.heap.size, 0, none⟩ (.int .i64 a)).setCell ⟨w.heap.size, 1, none⟩ (.string b)) := ((Fr.refl (fun k => k = w.heap.size) wc).put1 0 _).put1 1 _
  exact bodyPost_ret (v := .tuple #[pv a b, .int .i64 0]) (by simp [results, Try.results21, go_sem, v0, v1, Result.andThen]) rfl ⟨rfl, Q5.out.fr f6 (fun e => Hne2.out e.symm) (fun e => by have := Hcs2.out; have e' : S.c = w.heap.size := e; omega), ⟨f6.os.trans F5.out.os, f6.tape.trans F5.out.tape, f6.output.trans F5.out.output, Nat.le_trans F5.out.size f6.size, fun k hk hn => (f6.block k (Nat.lt_of_lt_of_le hk F5.out.size) (fun e => by have e' : k = w.heap.size := e; omega)).trans (F5.out.block k hk hn)⟩⟩

theorem makeChPair (n : Nat) (hn : n ≤ 64) (w : World) : (Instr.makeChan 77 (.int .i64 (n : Int))).run Try.prog w = .ok (.chan (some w.heap.size)) (w.alloc (.chan n #[] false 0 0 false)) := by
  have h : (Try.prog.info? 48).map (·.bytes) = some 24 := by kernel_rfl
  obtain ⟨i, hi, hb⟩ := Option.map_eq_some_iff.1 h
  simpa using run_makeChan (P := Try.prog) (w := w) Try.underlying77 hi .i64 n (by omega) (by rw [hb]; omega)
set_option maxHeartbeats 1000000 in
theorem newPair (n gone : Nat) (w : World) (h1 : 1 ≤ n) (h2 : n ≤ 64) : Calls Try.prog 17 #[.int .i64 (n : Int), .int .u64 (gone : Int)] w fun e w' =>
    ∃ S : QS, e = .returned (.tuple #[.pointer (some ⟨S.q, 0, none⟩), .int .i64 0]) ∧ QAt w' 79 S ∧ S.cap = n ∧ S.gone = gone ∧ S.l = [] ∧ Below w.heap.size w w' ∧ (∀ k, S.F k → w.heap.size ≤ k) := by
  have hm := makeChPair n h2
  go_enter Try.func17, Try.ntmps17
  go_wp2
  go_ret2
  have hB := ((Below.refl w.heap.size w).alloc (Nat.le_refl _) (Obj.chan n #[] false 0 0 false)).alloc (by simp) (Obj.cells #[.chan (some w.heap.size), .int .u64 (gone : Int)] 79)
  have hs : (w.alloc (Obj.chan n #[] false 0 0 false)).heap.size = w.heap.size + 1 := by simp
  have hbk := Blk.new (w.alloc (Obj.chan n #[] false 0 0 false)) 79 #[.chan (some w.heap.size), .int .u64 (gone : Int)]
  rw [hs] at hbk
  refine ⟨⟨w.heap.size + 1, w.heap.size, n, gone, []⟩, rfl, ⟨hbk, (Ch.new w n).alloc _, Nat.zero_le _, h2⟩, rfl, rfl, rfl, hB, ?_⟩
  rintro k (rfl | rfl)
  · exact Nat.le_succ _
  · exact Nat.le_refl _
end Go.Proofs.Ythmaodpmbmiadaa
