/- Package lex: Tokens. -/
import Derived.Test.YtfbkmjjcopjoeaaDoorNl
namespace Go.Proofs.YtfbkmjjcopjoeaaDoor
open Go.RowKit

theorem skip_idem : ∀ (l : List UInt8) (b : Bool), Lx.skipL false (Lx.skipL b l) = Lx.skipL b l
  | [], b => by cases b <;> rfl
  | c :: r, false => by
    rw [Lx.skipL]
    split
    · exact skip_idem r false
    · split
      · exact skip_idem r true
      · rename_i h1 h2
        rw [Lx.skipL, if_neg h1, if_neg h2]
  | c :: r, true => by
    rw [Lx.skipL]
    split
    · exact skip_idem r false
    · exact skip_idem r true
theorem allL_move (s : List UInt8) (q j : Nat) (h1 : q ≤ j) (h2 : j ≤ s.length) (h3 : s.drop j = Lx.skipL false (s.drop q)) : Lx.allL (s.drop q) q = Lx.allL (s.drop j) j := by
  have e : (s.drop q).take (j - q) ++ s.drop j = s.drop q := by
    have := List.take_append_drop (j - q) (s.drop q)
    rw [List.drop_drop, show q + (j - q) = j by omega] at this
    exact this
  have h := Lx.allL_over (g := (s.drop q).take (j - q)) (l := s.drop j) (by rw [e, h3, skip_idem]) q
  rw [e, List.length_take, List.length_drop, show q + min (j - q) (s.length - q) = j by omega] at h
  exact h
theorem allL_stop (s : List UInt8) (q j : Nat) (h1 : q ≤ j) (h2 : j = s.length) (h3 : s.drop j = Lx.skipL false (s.drop q)) : Lx.allL (s.drop q) q = .inl [⟨0, [], 0, j⟩] := by
  rw [allL_move s q j h1 (by omega) h3, h2, List.drop_length, Lx.allL_end]
theorem allL_go (s : List UInt8) (q j : Nat) (h1 : q ≤ j) (h2 : j < s.length) (h3 : s.drop j = Lx.skipL false (s.drop q)) : Lx.allL (s.drop q) q = match Lx.oneT (s.drop j) with
    | .bad off e => .inr (j + off, e)
    | .ok k t n len => Lx.preL [⟨k, t, n, j⟩] (Lx.allL (s.drop (j + len)) (j + len)) := by
  rw [allL_move s q j h1 (by omega) h3, Lx.allL_eq]
  have hs : Lx.skipL false (s.drop j) = s.drop j := by rw [h3, skip_idem]
  rw [hs]
  obtain ⟨c, hc⟩ : ∃ c, s[j]? = some c := ⟨_, List.getElem?_eq_getElem h2⟩
  rw [drop_at hc]
  simp only [Nat.sub_self, Nat.add_zero]
  rw [← drop_at hc]
  cases Lx.oneT (s.drop j) with
  | bad off e => rfl
  | ok k t n len =>
    simp only
    rw [List.drop_drop]
    cases Lx.allL (s.drop (j + len)) (j + len) <;> rfl
theorem infoLT : (Tryd.prog.info? 33).map (fun i => (i.zero, i.size, i.bytes)) = some (some (.agg #[.int .u8 0, .string ⟨#[]⟩, .int .i64 0, .int .i64 0]), 4, 40) := by kernel_rfl
theorem buildLx (s : ByteArray) (F : Fns) (w : World) : (Instr.build 47 #[(0, .string s), (2, .agg #[F.f0, F.f1, F.f2, F.f3, F.f4, F.f5, F.f6, F.f7, F.f8, F.f9, F.f10, F.f11, F.f12])]).run Tryd.prog w = .ok (.agg #[.string s, .int .i64 0, F.f0, F.f1, F.f2, F.f3, F.f4, F.f5, F.f6, F.f7, F.f8, F.f9, F.f10, F.f11, F.f12]) w := run_build w _ _ _ (by kernel_rfl)
theorem LexAt.apart {B xb i : Nat} {w0 w w' : World} {s : List UInt8} {F : Fns} {G : Nat → Prop} (h : LexAt B w0 w xb s F i) (hf : Fr G w w') (hx : ¬ G xb) (hg : ∀ g, G g → w0.heap.size ≤ g) : LexAt B w0 w' xb s F i :=
  ⟨h.blk.fr hf hx, h.cls, h.fr.trans (hf.below h.fr.size hg), h.new, h.le, h.len⟩
/-- How far the lexer has come. -/
structure LRel (w w2 wr : World) (xb : Nat) (s : List UInt8) (A : Option Addr) (c : Nat) (ts : List Lx.Tok) (q : Nat) : Prop where
  row : TokRow 33 wr A c ts
  new : ∀ g, At A g → w2.heap.size ≤ g
  far : ∀ g, At A g → g ≠ xb
  below : Below w.heap.size w wr
  rest : Lx.preL ts (Lx.allL (s.drop q) q) = Lx.allL s 0
  len : ts.length ≤ q
  size : w2.heap.size ≤ wr.heap.size
set_option maxRecDepth 100000 in
set_option maxHeartbeats 8000000 in
theorem toks_any (s : List UInt8) (w : World) (hs : s.length ≤ 2000) :
    Calls Tryd.prog 11 #[.string ⟨s.toArray⟩] w fun e w' => TokOut 33 w w' (Lx.allL s 0) e ∧ Below w.heap.size w w' := by
  have za := zeroLT
  have hbx := buildLx
  have hsz : (⟨s.toArray⟩ : ByteArray).size = s.length := rfl
  go_enter Tryd.func11, Tryd.ntmps11
  go_wp2_with fail
  refine (newClasses_any w).mono ?_
  rintro e w1 ⟨F, rfl, hC, hb1⟩
  simp only [Fns.agg]
  obtain ⟨B, hB⟩ : ∃ B, w.heap.size + 1 = B := ⟨_, rfl⟩
  rw [hB] at hC
  obtain ⟨xb, hxb⟩ : ∃ xb, w1.heap.size = xb := ⟨_, rfl⟩
  obtain ⟨w2, hw2⟩ : ∃ w2, w1.alloc (.cells #[.string ⟨s.toArray⟩, .int .i64 0, F.f0, F.f1, F.f2, F.f3, F.f4, F.f5, F.f6, F.f7, F.f8, F.f9, F.f10, F.f11, F.f12] 47) = w2 := ⟨_, rfl⟩
  have hL2 : LexAt B w1 w2 xb s F 0 := ⟨by rw [← hw2, ← hxb]; exact Blk.new w1 _ _, hC, by rw [← hw2]; exact (Below.refl _ _).alloc (Nat.le_refl _) _, by omega, Nat.zero_le _, hs⟩
  have HL2 := hide hL2
  have Hb2 := hide (show Below w.heap.size w w2 from by rw [← hw2]; exact hb1.alloc hb1.size _)
  have Hxb := hide (show xb < w2.heap.size from hL2.blk.lt)
  have Hw := hide (show w.heap.size ≤ w1.heap.size from hb1.size)
  clear hC hb1 hB hL2
  go_wp2_with fail
  go_loopg [6] (s.length + 1) (fun gk tv wr => ∃ (A : Option Addr) (c : Nat) (ts : List Lx.Tok) (q : Nat), tv = .slice A ts.length c ∧ gk = s.length + 1 - q ∧ LexAt B w1 wr xb s F q ∧ LRel w w2 wr xb s A c ts q)
  case atStart => exact ⟨none, 0, [], 0, rfl, rfl, HL2.out, TokRow.nil _ _, (fun g hg => (At.none_not hg).elim), (fun g hg => (At.none_not hg).elim), Hb2.out, Lx.preL_nil _, Nat.le_refl _, Nat.le_refl _⟩
  case round =>
  obtain ⟨A, c, ts, q, rfl, rfl, hL, hR0⟩ := hrel
  have HL := hide hL
  have R0 := hide hR0
  clear hL hR0 HL2 Hb2 hw2
  go_wp2_with fail
  refine (next_any HL.out).mono ?_
  rintro e w3 ⟨j, hqj, hsj, hjs, h⟩
  rcases h with ⟨hj, rfl, hL3, hf3⟩ | ⟨hj, h⟩
  · have hst := allL_stop s q j hqj hj hsj
    have hrest := R0.out.rest
    rw [hst] at hrest
    have Hend := hide hrest
    have H3 := hide hL3
    have F3 := hide hf3
    clear hqj hsj hjs hj hst hrest hL3 hf3 hxb
    obtain ⟨bt, hbt⟩ : ∃ bt, w3.heap.size = bt := ⟨_, rfl⟩
    obtain ⟨w4, hw4⟩ : ∃ w4, w3.alloc (.cells #[.int .u8 0, .string ⟨#[]⟩, .int .i64 0, .int .i64 0] 33) = w4 := ⟨_, rfl⟩
    have HT4 := hide (show Blk w4 bt 33 #[.int .u8 0, .string ⟨#[]⟩, .int .i64 0, .int .i64 0] from by rw [← hw4, ← hbt]; exact Blk.new w3 _ _)
    have H4 := hide (H3.out.other (w' := w4) (by rw [← hw4]; exact (Below.refl _ _).alloc (Nat.le_refl _) _))
    have F4 := hide (show Fr (fun q => q = xb) wr w4 from by rw [← hw4]; exact F3.out.alloc _)
    have Hge := hide (show wr.heap.size ≤ bt from by rw [← hbt]; exact F3.out.size)
    have q0 := HT4.out
    have y0 := q0.frozen 0
    have x0 := q0.cell 0
    have y1 := q0.frozen 1
    have x1 := q0.cell 1
    have y2 := q0.frozen 2
    have x2 := q0.cell 2
    have y3 := q0.frozen 3
    have x3 := q0.cell 3
    have q1 := q0.set_ 0 (.int .u8 0)
    have q2 := q1.set_ 1 (.string ⟨#[]⟩)
    have q3 := q2.set_ 2 (.int .i64 0)
    have q4 := q3.set_ 3 (.int .i64 (j : Int))
    have hq5 : Blk (((((w4.setCell ⟨bt, 0, none⟩ (.int .u8 0)).setCell ⟨bt, 1, none⟩ (.string ⟨#[]⟩)).setCell ⟨bt, 2, none⟩ (.int .i64 0)).setCell ⟨bt, 3, none⟩ (.int .i64 (j : Int)))) bt 33 (tokC ⟨0, [], 0, j⟩).toArray := q4
    have Q5 := hide hq5
    have H5 := hide (H4.out.put4 (tb := bt) (by have := Hge.out; have := HL.out.blk.lt; omega) (by have := Hge.out; have := HL.out.fr.size; have := HL.out.new; have := HL.out.blk.lt; omega) (.int .u8 0) (.string ⟨#[]⟩) (.int .i64 0) (.int .i64 (j : Int)))
    have F5 := hide (F4.out.put4 (tb := bt) Hge.out (.int .u8 0) (.string ⟨#[]⟩) (.int .i64 0) (.int .i64 (j : Int)))
    clear q0 q1 q2 q3 q4 hq5
    go_upto_region 8 with fail
    clear y0 x0 y1 x1 y2 x2 y3 x3
    obtain ⟨w5, hw5⟩ : ∃ w5, ((((w4.setCell ⟨bt, 0, none⟩ (.int .u8 0)).setCell ⟨bt, 1, none⟩ (.string ⟨#[]⟩)).setCell ⟨bt, 2, none⟩ (.int .i64 0)).setCell ⟨bt, 3, none⟩ (.int .i64 (j : Int))) = w5 := ⟨_, rfl⟩
    rw [hw5] at Q5 F5 H5
    rw [hw5]
    clear hw5 hw4 hbt
    have r0 := Q5.out.cell 0
    have r1 := Q5.out.cell 1
    have r2 := Q5.out.cell 2
    have r3 := Q5.out.cell 3
    simp only [tokC] at r0 r1 r2 r3
    have Hrow := hide ((R0.out.row.fr F5.out (fun g hg e => R0.out.far g hg e)).fr (F := fun _ => False) ((Fr.refl _ _).alloc (.cells (tokC ⟨0, [], 0, j⟩).toArray 33)) (fun _ _ h => h))
    have Hbk := hide (Blk.new w5 33 (tokC ⟨0, [], 0, j⟩).toArray)
    have Hn := hide (show ts.length ≤ 100000 from by have := R0.out.len; have := HL.out.le; have := HL.out.len; omega)
    have Q5a := hide (Q5.out.alloc (.cells (tokC ⟨0, [], 0, j⟩).toArray 33))
    have Hbt := hide (show ∀ g, At A g → g ≠ bt from fun g hg e => by have := R0.out.row.lt g hg; have := Hge.out; omega)
    go_upto_region 9 with (first
      | (refine wpList_build_tok rfl 23 (.tmp 29) rfl ⟨0, [], 0, j⟩ rfl 33 (.agg #[.int .u8 0, .string ⟨#[]⟩, .int .i64 0, .int .i64 0]) Tryd.underlying23 infoLT ?_)
      | (refine wpList_append_tok rfl (.tmp 28) (.tmp 30) 23 33 (.agg #[.int .u8 0, .string ⟨#[]⟩, .int .i64 0, .int .i64 0]) rfl Tryd.underlying23 infoLT rfl A c ts rfl Hrow.out w5.heap.size ⟨0, [], 0, j⟩ rfl Hbk.out Hn.out ?_; intro A6 c6 w6 hr6 hf6 hn6; have Hr6 := hide hr6; have Hf6 := hide hf6; have Hn6 := hide hn6; clear hr6 hf6 hn6))
    clear r0 r1 r2 r3
    have k0 := (Q5a.out.fr Hf6.out (fun h => Hbt.out _ h rfl)).cell 0
    simp only [tokC] at k0
    have hf5a : Fr (fun q => q = xb) wr (w5.alloc (.cells (tokC ⟨0, [], 0, j⟩).toArray 33)) := F5.out.alloc _
    have hf6x : Fr (fun q => q = xb ∨ At A q) wr w6 := (hf5a.mono (F' := fun q => q = xb ∨ At A q) (fun _ _ h => .inl h)).trans' Hf6.out (fun _ _ h => .inr h)
    have hnew6 : ∀ g, At A6 g → w2.heap.size ≤ g := fun g hg => by
      rcases Hn6.out g hg with h | h
      · exact R0.out.new g h
      · have := hf5a.size; have := R0.out.size; omega
    have hfar6 : ∀ g, At A6 g → g ≠ xb := fun g hg e => by have := hnew6 g hg; have := Hxb.out; omega
    have h6L : LexAt B w1 w6 xb s F (j) := (H5.out.other ((Below.refl _ _).alloc (Nat.le_refl _) _)).apart Hf6.out (fun h => R0.out.far xb h rfl) (fun g hg => by have := R0.out.new g hg; have := Hxb.out; have := HL.out.new; omega)
    have H6L := hide h6L
    have Hnew6 := hide hnew6
    have hb6 : Below w.heap.size w w6 := R0.out.below.trans (hf6x.below R0.out.below.size (fun g hg => by
      rcases hg with h | h
      · have := HL.out.new; have := Hw.out; omega
      · have := R0.out.new g h; have := Hw.out; have := Hxb.out; have := HL.out.new; omega))
    have Hb6 := hide hb6
    have Hsz6 := hide (show w2.heap.size ≤ w6.heap.size from by have := hf6x.size; have := R0.out.size; omega)
    have Hfar6 := hide hfar6
    clear hf5a hf6x hnew6 hfar6 h6L hb6
    go_wp2_with fail
    refine bodyPost_ret (v := .tuple #[.slice A6 (ts.length + 1) c6, .int .i64 0, .int .i64 0]) (by simp [results, Tryd.results11, go_sem]) rfl ⟨?_, Hb6.out⟩
    rw [← Hend.out]
    refine ⟨A6, c6, ?_, Hr6.out, fun g hg => by have := Hnew6.out g hg; have := Hw.out; have := Hxb.out; have := HL.out.new; omega⟩
    simp

  have hgo := allL_go s q j hqj hj hsj
  have hrest := R0.out.rest
  rw [hgo] at hrest
  obtain ⟨R, hR⟩ : ∃ R, Lx.oneT (s.drop j) = R := ⟨_, rfl⟩
  rw [hR] at hrest h
  clear hgo
  cases R with
  | ok kd t n len =>
    obtain ⟨rfl, hL3, hf3⟩ := h
    simp only at hrest
    rw [Lx.preL_preL] at hrest
    have Hok := hide hrest
    have H3 := hide hL3
    have F3 := hide hf3
    have hl := Lx.oneT_len hR
    rw [List.length_drop] at hl
    have Hlen := hide (show 1 ≤ len ∧ q ≤ j ∧ j + len ≤ s.length from ⟨hl.1, hqj, by omega⟩)
    have Hkd := hide (Lx.oneT_text hR).1
    clear hqj hsj hjs hj hrest hL3 hf3 hxb hR hl
    obtain ⟨bt, hbt⟩ : ∃ bt, w3.heap.size = bt := ⟨_, rfl⟩
    obtain ⟨w4, hw4⟩ : ∃ w4, w3.alloc (.cells #[.int .u8 0, .string ⟨#[]⟩, .int .i64 0, .int .i64 0] 33) = w4 := ⟨_, rfl⟩
    have HT4 := hide (show Blk w4 bt 33 #[.int .u8 0, .string ⟨#[]⟩, .int .i64 0, .int .i64 0] from by rw [← hw4, ← hbt]; exact Blk.new w3 _ _)
    have H4 := hide (H3.out.other (w' := w4) (by rw [← hw4]; exact (Below.refl _ _).alloc (Nat.le_refl _) _))
    have F4 := hide (show Fr (fun q => q = xb) wr w4 from by rw [← hw4]; exact F3.out.alloc _)
    have Hge := hide (show wr.heap.size ≤ bt from by rw [← hbt]; exact F3.out.size)
    have hkd : ((kd : Int) == 0) = false := by rw [beq_eq_false_iff_ne]; have := Hkd.out; omega
    have q0 := HT4.out
    have y0 := q0.frozen 0
    have x0 := q0.cell 0
    have y1 := q0.frozen 1
    have x1 := q0.cell 1
    have y2 := q0.frozen 2
    have x2 := q0.cell 2
    have y3 := q0.frozen 3
    have x3 := q0.cell 3
    have q1 := q0.set_ 0 (.int .u8 (kd : Int))
    have q2 := q1.set_ 1 (.string ⟨t.toArray⟩)
    have q3 := q2.set_ 2 (.int .i64 n)
    have q4 := q3.set_ 3 (.int .i64 (j : Int))
    have hq5 : Blk (((((w4.setCell ⟨bt, 0, none⟩ (.int .u8 (kd : Int))).setCell ⟨bt, 1, none⟩ (.string ⟨t.toArray⟩)).setCell ⟨bt, 2, none⟩ (.int .i64 n)).setCell ⟨bt, 3, none⟩ (.int .i64 (j : Int)))) bt 33 (tokC ⟨kd, t, n, j⟩).toArray := q4
    have Q5 := hide hq5
    have H5 := hide (H4.out.put4 (tb := bt) (by have := Hge.out; have := HL.out.blk.lt; omega) (by have := Hge.out; have := HL.out.fr.size; have := HL.out.new; have := HL.out.blk.lt; omega) (.int .u8 (kd : Int)) (.string ⟨t.toArray⟩) (.int .i64 n) (.int .i64 (j : Int)))
    have F5 := hide (F4.out.put4 (tb := bt) Hge.out (.int .u8 (kd : Int)) (.string ⟨t.toArray⟩) (.int .i64 n) (.int .i64 (j : Int)))
    clear q0 q1 q2 q3 q4 hq5
    go_upto_region 8 with fail
    clear y0 x0 y1 x1 y2 x2 y3 x3
    obtain ⟨w5, hw5⟩ : ∃ w5, ((((w4.setCell ⟨bt, 0, none⟩ (.int .u8 (kd : Int))).setCell ⟨bt, 1, none⟩ (.string ⟨t.toArray⟩)).setCell ⟨bt, 2, none⟩ (.int .i64 n)).setCell ⟨bt, 3, none⟩ (.int .i64 (j : Int))) = w5 := ⟨_, rfl⟩
    rw [hw5] at Q5 F5 H5
    rw [hw5]
    clear hw5 hw4 hbt
    have r0 := Q5.out.cell 0
    have r1 := Q5.out.cell 1
    have r2 := Q5.out.cell 2
    have r3 := Q5.out.cell 3
    simp only [tokC] at r0 r1 r2 r3
    have Hrow := hide ((R0.out.row.fr F5.out (fun g hg e => R0.out.far g hg e)).fr (F := fun _ => False) ((Fr.refl _ _).alloc (.cells (tokC ⟨kd, t, n, j⟩).toArray 33)) (fun _ _ h => h))
    have Hbk := hide (Blk.new w5 33 (tokC ⟨kd, t, n, j⟩).toArray)
    have Hn := hide (show ts.length ≤ 100000 from by have := R0.out.len; have := HL.out.le; have := HL.out.len; omega)
    have Q5a := hide (Q5.out.alloc (.cells (tokC ⟨kd, t, n, j⟩).toArray 33))
    have Hbt := hide (show ∀ g, At A g → g ≠ bt from fun g hg e => by have := R0.out.row.lt g hg; have := Hge.out; omega)
    go_upto_region 9 with (first
      | (refine wpList_build_tok rfl 23 (.tmp 29) rfl ⟨kd, t, n, j⟩ rfl 33 (.agg #[.int .u8 0, .string ⟨#[]⟩, .int .i64 0, .int .i64 0]) Tryd.underlying23 infoLT ?_)
      | (refine wpList_append_tok rfl (.tmp 28) (.tmp 30) 23 33 (.agg #[.int .u8 0, .string ⟨#[]⟩, .int .i64 0, .int .i64 0]) rfl Tryd.underlying23 infoLT rfl A c ts rfl Hrow.out w5.heap.size ⟨kd, t, n, j⟩ rfl Hbk.out Hn.out ?_; intro A6 c6 w6 hr6 hf6 hn6; have Hr6 := hide hr6; have Hf6 := hide hf6; have Hn6 := hide hn6; clear hr6 hf6 hn6))
    clear r0 r1 r2 r3
    have k0 := (Q5a.out.fr Hf6.out (fun h => Hbt.out _ h rfl)).cell 0
    simp only [tokC] at k0
    have hf5a : Fr (fun q => q = xb) wr (w5.alloc (.cells (tokC ⟨kd, t, n, j⟩).toArray 33)) := F5.out.alloc _
    have hf6x : Fr (fun q => q = xb ∨ At A q) wr w6 := (hf5a.mono (F' := fun q => q = xb ∨ At A q) (fun _ _ h => .inl h)).trans' Hf6.out (fun _ _ h => .inr h)
    have hnew6 : ∀ g, At A6 g → w2.heap.size ≤ g := fun g hg => by
      rcases Hn6.out g hg with h | h
      · exact R0.out.new g h
      · have := hf5a.size; have := R0.out.size; omega
    have hfar6 : ∀ g, At A6 g → g ≠ xb := fun g hg e => by have := hnew6 g hg; have := Hxb.out; omega
    have h6L : LexAt B w1 w6 xb s F (j + len) := (H5.out.other ((Below.refl _ _).alloc (Nat.le_refl _) _)).apart Hf6.out (fun h => R0.out.far xb h rfl) (fun g hg => by have := R0.out.new g hg; have := Hxb.out; have := HL.out.new; omega)
    have H6L := hide h6L
    have Hnew6 := hide hnew6
    have hb6 : Below w.heap.size w w6 := R0.out.below.trans (hf6x.below R0.out.below.size (fun g hg => by
      rcases hg with h | h
      · have := HL.out.new; have := Hw.out; omega
      · have := R0.out.new g h; have := Hw.out; have := Hxb.out; have := HL.out.new; omega))
    have Hb6 := hide hb6
    have Hsz6 := hide (show w2.heap.size ≤ w6.heap.size from by have := hf6x.size; have := R0.out.size; omega)
    have Hfar6 := hide hfar6
    clear hf5a hf6x hnew6 hfar6 h6L hb6
    go_wp2_with fail
    go_roundg (s.length + 1 - (j + len))
    case measure => have := Hlen.out; have := HL.out.le; omega
    case rel => exact ⟨A6, c6, ts ++ [⟨kd, t, n, j⟩], j + len, by rw [List.length_append, List.length_singleton], rfl, H6L.out, ⟨Hr6.out, Hnew6.out, Hfar6.out, Hb6.out, Hok.out, by rw [List.length_append, List.length_singleton]; have := R0.out.len; have := Hlen.out; omega, Hsz6.out⟩⟩

  | bad off er =>
    obtain ⟨rfl, hL3, hf3⟩ := h
    simp only at hrest
    have Hbad := hide hrest
    have H3 := hide hL3
    have F3 := hide hf3
    have Her := hide (Lx.oneT_err hR)
    clear hqj hsj hjs hj hrest hL3 hf3 hxb hR
    obtain ⟨bt, hbt⟩ : ∃ bt, w3.heap.size = bt := ⟨_, rfl⟩
    obtain ⟨w4, hw4⟩ : ∃ w4, w3.alloc (.cells #[.int .u8 0, .string ⟨#[]⟩, .int .i64 0, .int .i64 0] 33) = w4 := ⟨_, rfl⟩
    have HT4 := hide (show Blk w4 bt 33 #[.int .u8 0, .string ⟨#[]⟩, .int .i64 0, .int .i64 0] from by rw [← hw4, ← hbt]; exact Blk.new w3 _ _)
    have H4 := hide (H3.out.other (w' := w4) (by rw [← hw4]; exact (Below.refl _ _).alloc (Nat.le_refl _) _))
    have F4 := hide (show Fr (fun q => q = xb) wr w4 from by rw [← hw4]; exact F3.out.alloc _)
    have Hge := hide (show wr.heap.size ≤ bt from by rw [← hbt]; exact F3.out.size)
    have hez : ((er : Int) == 0) = false := by rw [beq_eq_false_iff_ne]; have := Her.out; omega
    have q0 := HT4.out
    have y0 := q0.frozen 0
    have x0 := q0.cell 0
    have y1 := q0.frozen 1
    have x1 := q0.cell 1
    have y2 := q0.frozen 2
    have x2 := q0.cell 2
    have y3 := q0.frozen 3
    have x3 := q0.cell 3
    have q1 := q0.set_ 0 (.int .u8 0)
    have q2 := q1.set_ 1 (.string ⟨#[]⟩)
    have q3 := q2.set_ 2 (.int .i64 0)
    have q4 := q3.set_ 3 (.int .i64 0)
    have hq5 : Blk (((((w4.setCell ⟨bt, 0, none⟩ (.int .u8 0)).setCell ⟨bt, 1, none⟩ (.string ⟨#[]⟩)).setCell ⟨bt, 2, none⟩ (.int .i64 0)).setCell ⟨bt, 3, none⟩ (.int .i64 0))) bt 33 (tokC ⟨0, [], 0, 0⟩).toArray := q4
    have H5 := hide (H4.out.put4 (tb := bt) (by have := Hge.out; have := HL.out.blk.lt; omega) (by have := Hge.out; have := HL.out.fr.size; have := HL.out.new; have := HL.out.blk.lt; omega) (.int .u8 0) (.string ⟨#[]⟩) (.int .i64 0) (.int .i64 0))
    have F5 := hide (F4.out.put4 (tb := bt) Hge.out (.int .u8 0) (.string ⟨#[]⟩) (.int .i64 0) (.int .i64 0))
    clear q0 q1 q2 q3 q4 hq5
    simp only [tokZ]
    go_upto_region 7 with fail
    clear y0 x0 y1 x1 y2 x2 y3 x3
    obtain ⟨w5, hw5⟩ : ∃ w5, ((((w4.setCell ⟨bt, 0, none⟩ (.int .u8 0)).setCell ⟨bt, 1, none⟩ (.string ⟨#[]⟩)).setCell ⟨bt, 2, none⟩ (.int .i64 0)).setCell ⟨bt, 3, none⟩ (.int .i64 0)) = w5 := ⟨_, rfl⟩
    rw [hw5] at F5 H5
    rw [hw5]
    clear hw5 hw4 hbt hez
    have dc1 := H5.out.c1
    go_quiet (fail)
    have Hb9 := hide (show Below w.heap.size w (w5.drewN nq) from R0.out.below.trans ((F5.out.drewN nq).below R0.out.below.size (fun g hg => by have := HL.out.new; have := Hw.out; omega)))
    go_wp2_with fail
    refine bodyPost_ret (v := .tuple #[.slice none 0 0, .int .i64 ((j + off : Nat) : Int), .int .i64 (er : Int)]) (by simp [results, Tryd.results11, go_sem]) rfl ⟨?_, Hb9.out⟩
    rw [← Hbad.out]
    rfl

end Go.Proofs.YtfbkmjjcopjoeaaDoor
