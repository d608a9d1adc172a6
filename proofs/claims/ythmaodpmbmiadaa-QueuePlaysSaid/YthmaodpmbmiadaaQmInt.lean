/- A queue of int: its methods. -/
import Derived.Test.YthmaodpmbmiadaaQsInt
import Derived.Test.YthmaodpmbmiadaaOwnV
import Derived.Deep.QuietTactic
import Derived.Deep.Cut
namespace Go.Proofs.Ythmaodpmbmiadaa
open Go.Conc Go.RowKit

theorem sendInt (S : QS) (x : Value) (w : World) (h : QAt w 82 S) (hr : S.l.length < S.cap) : Calls Try.prog 38 #[.pointer (some ⟨S.q, 0, none⟩), x] w (QLeaves (.bool true) 82 S (S.put x) w) := by
  have hne := h.ne
  have hlt := h.ch.lt
  have hb := h.blk
  have hsm := h.small
  obtain ⟨s, r, hc⟩ := h.ch
  refine (send_roomInt S.q S.c S.cap _ s r S.gone x w hb hc (by simpa using hr)).mono ?_
  rintro e w' ⟨rfl, rfl⟩
  exact ⟨rfl, ⟨hb.setChan hne _ _ _ _ _ _, Ch.set_ hlt _ _ _ (by simp [QS.put]) _ _, by simp only [QS.put, List.length_append, List.length_cons, List.length_nil]; omega, hsm⟩, (Fr.refl _ _).setChan (.inl S.F_c) _ _ _ _ _ _⟩
theorem sendFullInt (S : QS) (x : Value) (w : World) (h : QAt w 82 S) (hr : S.cap ≤ S.l.length) : Calls Try.prog 38 #[.pointer (some ⟨S.q, 0, none⟩), x] w fun e w' => e = .returned (.bool false) ∧ w' = w := by
  obtain ⟨s, r, hc⟩ := h.ch
  exact send_fullInt S.q S.c S.cap _ s r S.gone x w h.blk hc (by simpa using hr)
theorem recvInt (S : QS) (x : Value) (l : List Value) (w : World) (h : QAt w 82 S) (hl : S.l = x :: l) : Calls Try.prog 41 #[.pointer (some ⟨S.q, 0, none⟩)] w (QLeaves (.tuple #[x, .bool true]) 82 S S.pop w) := by
  have hne := h.ne
  have hlt := h.ch.lt
  have hb := h.blk
  have hsm := h.small
  have hr := h.room
  obtain ⟨s, r, hc⟩ := h.ch
  rw [hl] at hc hr
  refine (recv_someInt S.q S.c S.cap x l s r S.gone w hb hc).mono ?_
  rintro e w' ⟨rfl, rfl⟩
  have hp : S.pop.l = l := by simp [QS.pop, hl]
  refine ⟨rfl, ⟨hb.setChan hne _ _ _ _ _ _, ?_, ?_, hsm⟩, (Fr.refl _ _).setChan (.inl S.F_c) _ _ _ _ _ _⟩
  · rw [hp]; exact Ch.set_ hlt _ _ _ rfl _ _
  · rw [hp]
    simp only [List.length_cons] at hr
    show l.length ≤ S.cap
    omega
theorem recvNoneInt (S : QS) (w : World) (h : QAt w 82 S) (hl : S.l = []) : Calls Try.prog 41 #[.pointer (some ⟨S.q, 0, none⟩)] w fun e w' => e = .returned (.tuple #[.int .i64 0, .bool false]) ∧ w' = w := by
  obtain ⟨s, r, hc⟩ := h.ch
  rw [hl] at hc
  exact recv_noneInt S.q S.c S.cap s r S.gone w h.blk hc

set_option maxHeartbeats 1000000 in
theorem lastInt (S : QS) (w : World) (h : QAt w 82 S) (hg : S.gone < 1000000000000) : Calls Try.prog 39 #[.pointer (some ⟨S.q, 0, none⟩)] w (DrewQ (.int .u64 (S.last : Int)) w) := by
  have c0 : w.cell? ⟨S.q, 0, none⟩ = some (.chan (some S.c)) := h.blk.cell 0
  have c1 : w.cell? ⟨S.q, 1, none⟩ = some (.int .u64 (S.gone : Int)) := h.blk.cell 1
  obtain ⟨n, hn⟩ : ∃ n, S.l.length = n := ⟨_, rfl⟩
  have hroom := h.room
  have hsm := h.small
  rw [hn] at hroom
  have hlen : ∀ k ty, (Builtin.len_ #[80] ty #[.chan (some S.c)]).run Try.prog (w.drewN k) = .ok (.int .i64 (n : Int)) (w.drewN k) := by
    intro k ty
    obtain ⟨s, r, hc⟩ := h.ch
    have := run_len_chan (P := Try.prog) (w := w.drewN k) 80 ty Try.underlying80 hc
    rw [this]
    simp [goInt, hn]
  rw [QS.last, hn]
  generalize S.gone = gn at *
  clear h hn
  go_enter Try.func39, Try.ntmps39
  go_upto_region 1 with fail
  go_quiet (fail)
  go_wp2
  go_ret
  refine ⟨?_, _, rfl⟩
  show Ending.returned (.int .u64 _) = _
  congr 2
  rw [IntKind.wrap_u64, IntKind.wrap_u64]
  omega

set_option maxHeartbeats 1000000 in
theorem lenInt (S : QS) (w : World) (h : QAt w 82 S) : Calls Try.prog 24 #[.pointer (some ⟨S.q, 0, none⟩)] w fun e w' => e = .returned (.int .i64 (S.l.length : Int)) ∧ w' = w := by
  have c0 : w.cell? ⟨S.q, 0, none⟩ = some (.chan (some S.c)) := h.blk.cell 0
  obtain ⟨n, hn⟩ : ∃ n, S.l.length = n := ⟨_, rfl⟩
  have hlen : ∀ ty, (Builtin.len_ #[80] ty #[.chan (some S.c)]).run Try.prog w = .ok (.int .i64 (n : Int)) w := by
    intro ty
    obtain ⟨s, r, hc⟩ := h.ch
    have := run_len_chan (P := Try.prog) (w := w) 80 ty Try.underlying80 hc
    rw [this]
    simp [goInt, hn]
  rw [hn]
  clear h hn
  go_enter Try.func24, Try.ntmps24
  go_wp2
  go_ret
  exact ⟨rfl, rfl⟩
set_option maxHeartbeats 1000000 in
theorem lenNilInt (w : World) : Calls Try.prog 24 #[.pointer none] w fun e w' => e = .returned (.int .i64 0) ∧ w' = w := by
  go_enter Try.func24, Try.ntmps24
  go_wp2
  go_ret
  exact ⟨rfl, rfl⟩

set_option maxHeartbeats 1000000 in
theorem goneInt (S : QS) (w : World) (h : QAt w 82 S) : Calls Try.prog 26 #[.pointer (some ⟨S.q, 0, none⟩)] w fun e w' => e = .returned (.int .u64 (S.gone : Int)) ∧ w' = w := by
  have c1 : w.cell? ⟨S.q, 1, none⟩ = some (.int .u64 (S.gone : Int)) := h.blk.cell 1
  clear h
  go_enter Try.func26, Try.ntmps26
  go_wp2
  go_ret
  exact ⟨rfl, rfl⟩

set_option maxHeartbeats 1000000 in
theorem putInt (S : QS) (x : Value) (w : World) (h : QAt w 82 S) (hr : S.l.length < S.cap) (hg : S.gone < 1000000000000) : Calls Try.prog 20 #[.pointer (some ⟨S.q, 0, none⟩), x] w (QLeaves (.tuple #[.int .u64 ((S.last + 1 : Nat) : Int), .int .i64 0]) 82 S (S.put x) w) := by
  have H := hide h
  have Hr := hide hr
  clear h hr
  go_enter Try.func20, Try.ntmps20
  go_wp2_with fail
  refine (sendInt S x w H.out Hr.out).mono ?_
  rintro e w1 ⟨rfl, h1, f1⟩
  have H1 := hide h1
  have F1 := hide f1
  clear h1 f1
  go_wp2_with fail
  refine (lastInt (S.put x) w1 H1.out hg).mono ?_
  rintro e w2 ⟨rfl, n, rfl⟩
  go_wp2
  go_ret2
  refine ⟨?_, H1.out.drewN n, F1.out.drewN n⟩
  simp only [QS.last, QS.put, List.length_append, List.length_cons, List.length_nil]
  try rfl
set_option maxHeartbeats 1000000 in
theorem putFullInt (S : QS) (x : Value) (w : World) (h : QAt w 82 S) (hr : S.cap ≤ S.l.length) : Calls Try.prog 20 #[.pointer (some ⟨S.q, 0, none⟩), x] w fun e w' => e = .returned (.tuple #[.int .u64 0, .int .i64 17]) ∧ w' = w := by
  have H := hide h
  have Hr := hide hr
  clear h hr
  go_enter Try.func20, Try.ntmps20
  go_wp2_with fail
  refine (sendFullInt S x w H.out Hr.out).mono ?_
  rintro e w1 ⟨rfl, rfl⟩
  go_wp2
  go_ret2
  exact ⟨rfl, rfl⟩
set_option maxHeartbeats 1000000 in
theorem takeInt (S : QS) (x : Value) (l : List Value) (w : World) (h : QAt w 82 S) (hl : S.l = x :: l) (hg : S.gone < 1000000000000 + 64) : Calls Try.prog 22 #[.pointer (some ⟨S.q, 0, none⟩)] w (QLeaves (.tuple #[x, .int .i64 0]) 82 S (S.drop 1) w) := by
  have H := hide h
  clear h
  have Hl := hide hl
  clear hl
  go_enter Try.func22, Try.ntmps22
  go_wp2_with fail
  refine (recvInt S x l w H.out Hl.out).mono ?_
  rintro e w1 ⟨rfl, h1, f1⟩
  have c1 : w1.cell? ⟨S.q, 1, none⟩ = some (.int .u64 (S.gone : Int)) := h1.blk.cell 1
  have z1 : w1.frozen? ⟨S.q, 1, none⟩ = false := h1.blk.frozen 1
  have H1 := hide h1
  have F1 := hide f1
  clear h1 f1
  go_wp2
  go_ret2
  have hb := H1.out.blk.set_ 1 (.int .u64 ((S.gone + 1 : Nat) : Int))
  refine ⟨rfl, ⟨?_, H1.out.ch.setCell (p := ⟨S.q, 1, none⟩) (fun e => H1.out.ne e.symm) _, H1.out.room, H1.out.small⟩, F1.out.setCell (p := ⟨S.q, 1, none⟩) (.inl S.F_q) _⟩
  exact hb
set_option maxHeartbeats 1000000 in
theorem takeNoneInt (S : QS) (w : World) (h : QAt w 82 S) (hl : S.l = []) : Calls Try.prog 22 #[.pointer (some ⟨S.q, 0, none⟩)] w fun e w' => e = .returned (.tuple #[.int .i64 0, .int .i64 6]) ∧ w' = w := by
  have H := hide h
  have Hl := hide hl
  clear h hl
  go_enter Try.func22, Try.ntmps22
  go_wp2_with fail
  refine (recvNoneInt S w H.out Hl.out).mono ?_
  rintro e w1 ⟨rfl, rfl⟩
  go_wp2
  go_ret2
  exact ⟨rfl, rfl⟩

theorem makeChInt (n : Nat) (hn : n ≤ 64) (w : World) : (Instr.makeChan 80 (.int .i64 (n : Int))).run Try.prog w = .ok (.chan (some w.heap.size)) (w.alloc (.chan n #[] false 0 0 false)) := by
  have h : (Try.prog.info? 3).map (·.bytes) = some 8 := by kernel_rfl
  obtain ⟨i, hi, hb⟩ := Option.map_eq_some_iff.1 h
  simpa using run_makeChan (P := Try.prog) (w := w) Try.underlying80 hi .i64 n (by omega) (by rw [hb]; omega)
set_option maxHeartbeats 1000000 in
theorem newInt (n gone : Nat) (w : World) (h1 : 1 ≤ n) (h2 : n ≤ 64) : Calls Try.prog 18 #[.int .i64 (n : Int), .int .u64 (gone : Int)] w fun e w' =>
    ∃ S : QS, e = .returned (.tuple #[.pointer (some ⟨S.q, 0, none⟩), .int .i64 0]) ∧ QAt w' 82 S ∧ S.cap = n ∧ S.gone = gone ∧ S.l = [] ∧ Below w.heap.size w w' ∧ (∀ k, S.F k → w.heap.size ≤ k) := by
  have hm := makeChInt n h2
  go_enter Try.func18, Try.ntmps18
  go_wp2
  go_ret2
  have hB := ((Below.refl w.heap.size w).alloc (Nat.le_refl _) (Obj.chan n #[] false 0 0 false)).alloc (by simp) (Obj.cells #[.chan (some w.heap.size), .int .u64 (gone : Int)] 82)
  have hs : (w.alloc (Obj.chan n #[] false 0 0 false)).heap.size = w.heap.size + 1 := by simp
  have hbk := Blk.new (w.alloc (Obj.chan n #[] false 0 0 false)) 82 #[.chan (some w.heap.size), .int .u64 (gone : Int)]
  rw [hs] at hbk
  refine ⟨⟨w.heap.size + 1, w.heap.size, n, gone, []⟩, rfl, ⟨hbk, (Ch.new w n).alloc _, Nat.zero_le _, h2⟩, rfl, rfl, rfl, hB, ?_⟩
  rintro k (rfl | rfl)
  · exact Nat.le_succ _
  · exact Nat.le_refl _

set_option maxHeartbeats 1000000 in
theorem dropArgInt (S : QS) (to : Nat) (w : World) (h : QAt w 82 S) (hg : S.gone < 1000000000000) (ht : S.last < to) : Calls Try.prog 25 #[.pointer (some ⟨S.q, 0, none⟩), .int .u64 (to : Int)] w fun e w' => e = .returned (.tuple #[.int .i64 0, .int .i64 1]) ∧ ∃ n, w' = w.drewN n := by
  have H := hide h
  clear h
  go_enter Try.func25, Try.ntmps25
  go_wp2_with fail
  refine (lastInt S w H.out hg).mono ?_
  rintro e w1 ⟨rfl, n, rfl⟩
  go_wp2_with fail
  go_ret2
  exact ⟨rfl, _, rfl⟩
set_option maxHeartbeats 2000000 in
theorem dropInt (S : QS) (to : Nat) (w : World) (h : QAt w 82 S) (hg : S.gone < 1000000000000) (ht : to ≤ S.last) : Calls Try.prog 25 #[.pointer (some ⟨S.q, 0, none⟩), .int .u64 (to : Int)] w (QLeaves (.tuple #[.int .i64 ((to - S.gone : Nat) : Int), .int .i64 0]) 82 S (S.drop (to - S.gone)) w) := by
  have H := hide h
  have Ht := hide ht
  have Hg := hide hg
  have hl64 : S.l.length ≤ 64 := Nat.le_trans h.room h.small
  obtain ⟨L, hL⟩ : ∃ L, S.last = L := ⟨_, rfl⟩
  have hLb : L < 1000000000064 := by rw [← hL, QS.last]; omega
  have HL := hide hL
  have Hl64 := hide hl64
  clear h
  go_enter Try.func25, Try.ntmps25
  go_wp2_with fail
  refine (lastInt S w H.out hg).mono ?_
  rintro e w1 ⟨rfl, n, rfl⟩
  rw [hL] at ht ⊢
  clear hL hg hl64
  go_wp2_with fail
  generalize decide (L < to) = bb
  go_loopw [6] (fun nv wr => ∃ j : Nat, j ≤ L - S.gone ∧ j ≤ S.l.length ∧ j ≤ to - S.gone ∧ nv = .int .i64 (j : Int) ∧ QAt wr 82 (S.drop j) ∧ Fr S.F w wr) (fun nv _ => (to - S.gone) - (intOf nv).toNat)
  case atStart =>
    have e : S.drop 0 = S := by simp [QS.drop]
    exact ⟨0, Nat.zero_le _, Nat.zero_le _, Nat.zero_le _, rfl, by rw [e]; exact H.out.drewN n, (Fr.refl _ _).drewN n⟩
  case round =>
    obtain ⟨j, hj, hjl, hjt, rfl, hq, hf⟩ := hrel
    have c1 : wr.cell? ⟨S.q, 1, none⟩ = some (.int .u64 ((S.gone + j : Nat) : Int)) := hq.blk.cell 1
    have hLe := HL.out
    have hto := Ht.out
    unfold QS.last at hLe hto
    have Hq := hide hq
    have Hf := hide hf
    have h64 := Hl64.out
    have hgg := Hg.out
    clear hq hf
    by_cases hlt : S.gone + j < to
    · obtain ⟨x, hx⟩ : ∃ x, S.l[j]? = some x := ⟨_, List.getElem?_eq_getElem (by omega)⟩
      have hd : (S.drop j).l = x :: S.l.drop (j + 1) := by
        obtain ⟨hj', hx⟩ := List.getElem?_eq_some_iff.1 hx
        show S.l.drop j = _
        rw [List.drop_eq_getElem_cons hj', hx]
      have Hd := hide hd
      have hg2 : (S.drop j).gone < 1000000000000 + 64 := by show S.gone + j < _; omega
      have Hg2 := hide hg2
      clear hx hd hg2
      go_wp2_with fail
      refine (takeInt (S.drop j) x _ wr Hq.out Hd.out Hg2.out).mono ?_
      rintro e w2 ⟨rfl, hq2, hf2⟩
      have Hq2 := hide hq2
      have Hf2 := hide hf2
      clear hq2 hf2
      go_wp2
      go_roundw
      case rel =>
        have e : (S.drop j).drop 1 = S.drop (j + 1) := by simp [QS.drop, Nat.add_assoc]
        first
          | exact ⟨j + 1, by omega, by omega, by omega, by go_num, by rw [← e]; exact Hq2.out, Hf.out.trans' Hf2.out (fun _ _ h => h)⟩
          | ((repeat apply Exists.intro); exact ⟨⟨j + 1, by omega, by omega, by omega, by go_num, by rw [← e]; exact Hq2.out, Hf.out.trans' Hf2.out (fun _ _ h => h)⟩, rfl⟩)
      case measure => simp [intOf]; omega
    · obtain rfl : j = to - S.gone := by omega
      go_wp2
      go_ret2
      exact ⟨rfl, Hq.out, Hf.out⟩

theorem infoInt : (Try.prog.info? 3).map (fun i => (i.zero, i.size, i.bytes)) = some (some (.int .i64 0), 1, 8) := by kernel_rfl
set_option maxHeartbeats 2000000 in
theorem allInt (S : QS) (w : World) (h : QAt w 82 S) (h1 : ∀ v ∈ S.l, One v) : Calls Try.prog 27 #[.pointer (some ⟨S.q, 0, none⟩)] w fun e w' =>
    ∃ A c, e = .returned (.slice A S.l.length c) ∧ QRow 3 w' A S.l.length c S.l ∧ (∀ k, At A k → w.heap.size ≤ k) ∧ QAt w' 82 S ∧ Fr S.F w w' := by
  have H := hide h
  have H1 := hide h1
  have hl64 : S.l.length ≤ 64 := Nat.le_trans h.room h.small
  obtain ⟨n, hn⟩ : ∃ n, S.l.length = n := ⟨_, rfl⟩
  rw [hn] at hl64
  have Hn := hide hn
  clear h h1
  go_enter Try.func27, Try.ntmps27
  go_wp2_with fail
  refine (lenInt S w H.out).mono ?_
  rintro e w1 ⟨rfl, rfl⟩
  rw [hn]
  clear hn
  go_wp2_with fail
  go_loopw [3, 8] (fun av iv wr => ∃ j : Nat, j ≤ n ∧ iv = .int .i64 (j : Int) ∧ ∃ A c, av = .slice A j c ∧ QRow 3 wr A j c (S.l.take j) ∧ (∀ k, At A k → w1.heap.size ≤ k) ∧ QAt wr 82 { S with l := S.l.drop j ++ S.l.take j } ∧ Fr S.F w1 wr) (fun _ iv _ => n - (intOf iv).toNat)
  case atStart =>
    exact ⟨0, Nat.zero_le _, rfl, none, 0, rfl, ⟨rfl, World.ownsRow_nil _ _ _ _⟩, fun k hk => absurd hk At.none_not, by simpa using H.out, Fr.refl _ _⟩
  case round =>
    obtain ⟨j, hj, rfl, A, c, rfl, hrow, hA, hq, hf⟩ := hrel
    have Hrow := hide hrow
    have HA := hide hA
    have Hq := hide hq
    have Hf := hide hf
    clear hrow hA hq hf
    by_cases hlt : j < n
    · obtain ⟨x, hx⟩ : ∃ x, S.l[j]? = some x := ⟨_, List.getElem?_eq_getElem (by rw [Hn.out]; exact hlt)⟩
      have hd : S.l.drop j = x :: S.l.drop (j + 1) := by
        obtain ⟨hj', hx⟩ := List.getElem?_eq_some_iff.1 hx
        rw [List.drop_eq_getElem_cons hj', hx]
      have htk : S.l.take (j + 1) = S.l.take j ++ [x] := by
        rw [List.take_add_one, hx]; rfl
      have hone : One x := H1.out x (List.mem_of_getElem? hx)
      have hll : ({ S with l := S.l.drop j ++ S.l.take j } : QS).l = x :: (S.l.drop (j + 1) ++ S.l.take j) := by
        show S.l.drop j ++ S.l.take j = _
        rw [hd]; rfl
      have Hll := hide hll
      have Htk := hide htk
      have Hone := hide hone
      clear hx hd htk hone hll
      go_wp2_with fail
      refine (recvInt _ x _ wr Hq.out Hll.out).mono ?_
      rintro e w2 ⟨rfl, hq2, hf2⟩
      have hr2 : (QS.pop { S with l := S.l.drop j ++ S.l.take j }).l.length < S.cap := by
        have hr := Hq.out.room
        have hl := congrArg List.length Hll.out
        simp only [List.length_cons] at hl
        simp only [QS.pop, List.length_drop]
        dsimp only at hr hl
        omega
      have Hq2 := hide hq2
      have Hf2 := hide hf2
      have Hr2 := hide hr2
      clear hq2 hf2 hr2
      go_wp2_with fail
      refine (sendInt _ x w2 Hq2.out Hr2.out).mono ?_
      rintro e w3 ⟨rfl, hq3, hf3⟩
      have f3 : Fr S.F wr w3 := Hf2.out.trans' hf3 (fun _ _ h => h)
      have hA2 : ∀ k, At A k → ¬ S.F k := by
        intro k hk hF
        have hb := HA.out k hk
        rcases hF with rfl | rfl
        · have := H.out.blk.lt; omega
        · have := H.out.ch.lt; omega
      have hown3 : w3.ownsRow 0 3 1 (.slice A j c) j (S.l.take j) := own_fr Hrow.out.2 f3 (fun k hk => hA2 k (at_own.1 hk))
      have Hq3 := hide hq3
      have F3 := hide f3
      have Hown := hide (own_fr (F := fun _ => False) hown3 ((Fr.refl _ _).alloc (.cells #[x] 3)) (fun _ _ h => h))
      have hsrc : Src (w3.alloc (.cells #[x] 3)) (some ⟨w3.heap.size, 0, none⟩) 1 [x] := ⟨rfl, .inr ⟨_, 0, rfl, (Blk.new w3 3 #[x]).range 0 [x] (fun i v hv => by
        match i, hv with
        | 0, hv => simpa using hv)⟩⟩
      have Hsrc := hide hsrc
      have h1m : ∀ v ∈ [x], v.oneCell' = true := fun v hv => by
        obtain rfl := List.mem_singleton.1 hv
        exact Hone.out.2
      have H1m := hide h1m
      clear hq3 hf3 f3 hown3 hsrc h1m
      go_wp2_with (first
        | (refine wpList_plain rfl (fun K hK => ?_); refine wp_buildSlice_cell 59 (.tmp 19) rfl x rfl Hone.out.1 3 8 (.int .i64 0) Try.underlying59 infoInt ?_; refine hK _ _ ?_; clear hK K)
        | (refine wpList_append_cells rfl (.tmp 18) (.tmp 20) 59 3 (.int .i64 0) 8 rfl Try.underlying59 infoInt rfl A j c _ rfl Hown.out (some ⟨w3.heap.size, 0, none⟩) 1 1 [x] rfl Hsrc.out H1m.out (by omega) (by omega) ?_; intro A4 c4 w4 ho4 hf4 hn4; have Ho4 := hide ho4; have Hf4 := hide hf4; have Hn4 := hide hn4; clear ho4 hf4 hn4))
      have f4 : Fr (At A) w3 w4 := ((Fr.refl _ _).alloc _).trans' Hf4.out (fun _ _ h => h)
      have hsz : w1.heap.size ≤ w3.heap.size := Nat.le_trans Hf.out.size F3.out.size
      have hq4 : QAt w4 82 { S with l := S.l.drop (j + 1) ++ S.l.take (j + 1) } := by
        have e : QS.put (QS.pop { S with l := S.l.drop j ++ S.l.take j }) x = { S with l := S.l.drop (j + 1) ++ S.l.take (j + 1) } := by
          simp only [QS.put, QS.pop]
          rw [show S.l.drop j ++ S.l.take j = x :: (S.l.drop (j + 1) ++ S.l.take j) from Hll.out, Htk.out]
          simp
        rw [← e]
        exact Hq3.out.fr f4 (fun hk => by have := HA.out _ hk; have := H.out.blk.lt; simp only [QS.put, QS.pop] at *; omega) (fun hk => by have := HA.out _ hk; have := H.out.ch.lt; simp only [QS.put, QS.pop] at *; omega)
      have hA4 : ∀ k, At A4 k → w1.heap.size ≤ k := fun k hk => (Hn4.out k hk).elim (fun h => HA.out k h) (fun h => by simp only [World.size_alloc] at h; omega)
      have hf4' : Fr S.F w1 w4 := (Hf.out.trans' F3.out (fun _ _ h => h)).trans' f4 (fun k hk h => by have := HA.out k h; omega)
      have Fin := hide (show _ ∧ _ ∧ _ from ⟨hq4, hA4, hf4'⟩)
      clear f4 hsz hq4 hA4 hf4'
      go_roundw
      case rel =>
        refine ⟨j + 1, by omega, by go_num, A4, c4, rfl, ⟨?_, ?_⟩, Fin.out.2.1, Fin.out.1, Fin.out.2.2⟩
        · rw [List.length_take, Hn.out]; omega
        · rw [Htk.out]; exact Ho4.out
      case measure => simp [intOf]; omega
    · obtain rfl : j = n := by omega
      go_wp2
      go_ret
      have e : S.l.take j = S.l := by rw [← Hn.out, List.take_length]
      have e2 : S.l.drop j = [] := by rw [← Hn.out, List.drop_length]
      refine ⟨A, c, by rw [Hn.out]; rfl, ?_, HA.out, ?_, Hf.out⟩
      · rw [Hn.out]; have := Hrow.out; rwa [e] at this
      · have := Hq.out; rw [e, e2] at this; exact this
end Go.Proofs.Ythmaodpmbmiadaa
