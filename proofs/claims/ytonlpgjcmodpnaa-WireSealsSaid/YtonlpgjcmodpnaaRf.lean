/- Package wire: a new reader; the law of numbers and texts. -/
import Derived.Test.YtonlpgjcmodpnaaRe
namespace Go.Proofs.Ytonlpgjcmodpnaa
open Go.RowKit

def ReadPost (l : List UInt8) (w : World) (e : Ending) (w' : World) : Prop := ∃ rb, e = .returned (.pointer (some ⟨rb, 0, none⟩)) ∧ Rd w' rb l false ∧ Below w.heap.size w w' ∧ w.heap.size ≤ rb
set_option maxHeartbeats 2000000 in
theorem read_any (A : Option Addr) (n c : Nat) (l : List UInt8) (w : World) (hn : l.length = n) (h : Bytes w A l) (hl : n ≤ 140737488355328) :
    Calls Try.prog 20 #[.slice A n c] w (ReadPost l w) := by
  have hc := clone_any A n c l w hn h hl
  have Hc := hide hc
  have Hn := hide hn
  have Hl := hide hl
  clear hc h hn hl
  go_enter Try.func20, Try.ntmps20
  go_wp2_with fail
  refine Hc.out.mono ?_
  rintro e w1 ⟨A1, c1, rfl, ho, hA, hb⟩
  have Hp := hide (show _ ∧ _ ∧ _ from ⟨ho, hA, hb⟩)
  clear ho hA hb Hc
  go_wp2
  go_ret
  obtain ⟨ho, hA, hb⟩ := Hp.out
  have ho2 := ho.alloc (.cells #[.slice A1 n c1, .bool false] 73)
  refine ⟨w1.heap.size, rfl, ⟨A1, c1, by rw [Hn.out]; exact Blk.new _ _ _, ho2.bytes, fun a ha e => ?_, (fun h => by cases h), ?_, by rw [Hn.out]; exact Hl.out⟩, hb.alloc hb.size _, hb.size⟩
  · have := ho.lt a.block ⟨a, ha, rfl⟩
    omega
  · rcases ho.form with ⟨_, h0, _, h1⟩ | ⟨g, cur, _, _, h2, _⟩
    · rw [h1]; exact Nat.zero_le _
    · rw [Hn.out]; exact h2

set_option maxRecDepth 100000 in
set_option maxHeartbeats 8000000 in
theorem wnumbers_any (n : Nat) (i : Int) (s : List UInt8) (most : Int) (w : World) (hn : n < 18446744073709551616) (hi0 : -9223372036854775808 ≤ i) (hi1 : i ≤ 9223372036854775807) (hs : s.length ≤ 9223372036854775807) (hm0 : -9223372036854775808 ≤ most) (hm1 : most ≤ 9223372036854775807) :
    Calls Try.prog 3 #[.int .u64 (n : Int), .int .i64 i, sv s, .int .i64 most] w fun e w' => e = .returned (.bool true) ∧ Below w.heap.size w w' := by
  have Hn := hide hn
  clear hn
  go_enter Try.func3, Try.ntmps3
  go_wp2_with fail
  refine (awake_any _).mono ?_
  rintro e w1 ⟨rfl, hb1⟩
  have Hb1 := hide hb1
  clear hb1
  by_cases hlong : 3000 < s.length
  · go_wp2_with fail
    refine (awake_any _).mono ?_
    rintro e w2 ⟨rfl, hb2⟩
    have Hb2 := hide (Hb1.out.trans (hb2.mono Hb1.out.size))
    clear hb2
    go_wp2
    go_ret
    exact ⟨rfl, Hb2.out⟩
  have hs3 : s.length ≤ 3000 := by omega
  clear hlong hs
  have hu10 := Lib.uvarint_length64 Hn.out
  have hz := Lib.zigzag_lt hi0 hi1
  have hz10 := Lib.uvarint_length64 hz
  have ht10 : (textB s).length ≤ 3010 := by
    have := Lib.uvarint_length64 (x := s.length) (by omega)
    rw [textB, List.length_append]
    omega
  have Hz := hide hz
  clear hz
  go_wp2_with fail
  refine (wuint_any w1.heap.size _ [] n _ (wt_new w1) Hn.out (by simp)).mono ?_
  rintro e w2 ⟨F2, rfl, h2, f2, n2⟩
  have b2 : Below w1.heap.size w1 w2 := ((Below.refl _ _).alloc (Nat.le_refl _) _).trans (f2.below (by simp) (fun k hk => hk.elim (fun e => by omega) (fun h => absurd h At.none_not)))
  have n2' : ∀ k, F2 k → w1.heap.size ≤ k := fun k hk => (n2 k hk).elim (fun h => h.elim (fun e => by omega) (fun h => absurd h At.none_not)) (fun h => by rw [World.size_alloc] at h; omega)
  have H2 := hide (show _ ∧ _ ∧ _ from ⟨h2, b2, n2'⟩)
  clear h2 f2 n2 b2 n2'
  go_wp2_with fail
  refine (wint_any w1.heap.size F2 _ i w2 H2.out.1 hi0 hi1 (by rw [List.nil_append]; omega)).mono ?_
  rintro e w3 ⟨F3, rfl, h3, f3, n3⟩
  have b3 : Below w1.heap.size w1 w3 := H2.out.2.1.trans (f3.below H2.out.2.1.size H2.out.2.2)
  have n3' : ∀ k, F3 k → w1.heap.size ≤ k := fun k hk => (n3 k hk).elim (H2.out.2.2 k) (fun h => Nat.le_trans H2.out.2.1.size h)
  have H3 := hide (show _ ∧ _ ∧ _ from ⟨h3, b3, n3'⟩)
  clear h3 f3 n3 b3 n3' H2
  go_wp2_with fail
  refine (wtext_any w1.heap.size F3 _ s w3 H3.out.1 (by rw [List.nil_append, List.length_append]; omega)).mono ?_
  rintro e w4 ⟨F4, rfl, h4, f4, n4⟩
  have b4 : Below w1.heap.size w1 w4 := H3.out.2.1.trans (f4.below H3.out.2.1.size H3.out.2.2)
  have H4 := hide (show _ ∧ _ from ⟨h4, b4⟩)
  clear h4 f4 n4 b4 H3
  obtain ⟨L, hL⟩ : ∃ L, L = Lib.uvarint n ++ (Lib.uvarint (Lib.zigzag i) ++ textB s) := ⟨_, rfl⟩
  have hLl : L.length ≤ 3030 := by rw [hL, List.length_append, List.length_append]; omega
  have hd := done_any w1.heap.size F4 L w4 (by rw [hL]; have := H4.out.1; rw [List.nil_append, List.append_assoc] at this; exact this) (by omega)
  have Hd := hide hd
  have HL := hide hL
  clear hd hL
  go_wp2_with fail
  refine Hd.out.mono ?_
  rintro e w5 ⟨Ap, cp, rfl, hop, hAp, hb5⟩
  have H5 := hide (show _ ∧ _ from ⟨hop, H4.out.2.trans (hb5.mono H4.out.2.size)⟩)
  clear hop hAp hb5 Hd H4
  go_wp2_with fail
  refine (ruint_any _ n w5 (Nat.le_refl _) Hn.out).mono ?_
  rintro e w6 ⟨A6, c6, rfl, ho6, hA6, hb6⟩
  have H6 := hide (show _ ∧ _ ∧ _ ∧ _ from ⟨ho6, hA6, H5.out.1.below hb6, H5.out.2.trans (hb6.mono H5.out.2.size)⟩)
  have hs6 := hb6.size
  clear ho6 hA6 hb6
  go_wp2_with fail
  refine (rint_any i w6 hi0 hi1).mono ?_
  rintro e w7 ⟨A7, c7, rfl, ho7, hA7, hb7⟩
  have H7 := hide (show _ ∧ _ ∧ _ ∧ _ from ⟨ho7, H6.out.1.below hb7, H6.out.2.2.1.below hb7, H6.out.2.2.2.trans (hb7.mono H6.out.2.2.2.size)⟩)
  have hs7 := hb7.size
  clear ho7 hA7 hb7
  have hm7 : (Lib.uvarint n).length + (Lib.uvarint (Lib.zigzag i)).length ≤ 140737488355328 := by omega
  have Hm7 := hide hm7
  clear hm7
  go_upto_region 7 with (refine wpList_append_bytes rfl (.tmp 37) (.tmp 39) 25 rfl Try.underlying25 infoU8 A6 _ c6 _ rfl H7.out.2.1 A7 _ c7 _ rfl rfl H7.out.1.bytes Hm7.out ?_; intro A8 c8 w8 ho8 hf8 hn8 hs8; have Ho8 := hide ho8; have Hf8 := hide hf8; have Hn8 := hide hn8; clear ho8 hf8 hn8 hs8)
  obtain ⟨m8, hm8⟩ : ∃ m8, m8 = (Lib.uvarint n).length + (Lib.uvarint (Lib.zigzag i)).length := ⟨_, rfl⟩
  have hmb : m8 ≤ 20 := by omega
  rw [← hm8] at Ho8 ⊢
  have hp8 : OwnB w8 Ap L.length cp L := H7.out.2.2.1.fr Hf8.out (fun k hk hk6 => by have := H5.out.1.lt k hk; have := H6.out.2.1 k hk6; omega)
  have hA8 : ∀ k, At A8 k → w5.heap.size ≤ k := fun k hk => (Hn8.out k hk).elim (fun h => H6.out.2.1 k h) (fun h => by omega)
  have hb8 : Below w1.heap.size w1 w8 := H7.out.2.2.2.trans (Hf8.out.below H7.out.2.2.2.size (fun k hk => by have := H6.out.2.1 k hk; have := H5.out.2.size; omega))
  have hs8 := Hf8.out.size
  have H8 := hide (show _ ∧ _ ∧ _ ∧ _ from ⟨Ho8.out, hp8, hA8, hb8⟩)
  have Hm8 := hide hm8
  clear hp8 hA8 hb8 hm8 Ho8 H7 Hm7
  go_wp2_with fail
  refine (rtext_any s w8 (by omega)).mono ?_
  rintro e w9 ⟨A9, c9, rfl, ho9, hA9, hb9⟩
  have H9 := hide (show _ ∧ _ ∧ _ ∧ _ from ⟨ho9, H8.out.1.below hb9, H8.out.2.1.below hb9, H8.out.2.2.2.trans (hb9.mono H8.out.2.2.2.size)⟩)
  have hs9 := hb9.size
  clear ho9 hA9 hb9
  have hm9 : m8 + (textB s).length ≤ 140737488355328 := by omega
  have Hm9 := hide hm9
  clear hm9
  go_upto_region 8 with (refine wpList_append_bytes rfl (.tmp 41) (.tmp 43) 25 rfl Try.underlying25 infoU8 A8 _ c8 _ rfl H9.out.2.1 A9 _ c9 _ rfl rfl H9.out.1.bytes Hm9.out ?_; intro A10 c10 w10 ho10 hf10 hn10 hs10; have Ho10 := hide ho10; have Hf10 := hide hf10; have Hn10 := hide hn10; clear ho10 hf10 hn10 hs10)
  have hp10 : OwnB w10 Ap L.length cp L := H9.out.2.2.1.fr Hf10.out (fun k hk hk8 => by have := H5.out.1.lt k hk; have := H8.out.2.2.1 k hk8; omega)
  have hb10 : Below w1.heap.size w1 w10 := H9.out.2.2.2.trans (Hf10.out.below H9.out.2.2.2.size (fun k hk => by have := H8.out.2.2.1 k hk; have := H5.out.2.size; omega))
  have hs10 := Hf10.out.size
  have hwant : OwnB w10 A10 L.length c10 L := by
    have h := Ho10.out
    rw [List.append_assoc, ← HL.out] at h
    have hl : m8 + (textB s).length = L.length := by rw [← h.1]
    rw [hl] at h
    exact h
  have hlw : m8 + (textB s).length = L.length := by rw [HL.out, Hm8.out, List.length_append, List.length_append]; omega
  rw [hlw]
  have H10 := hide (show _ ∧ _ ∧ _ from ⟨hwant, hp10, hb10⟩)
  clear hwant hp10 hb10 hlw Ho10 Hf10 Hn10 H9 H8 H6 Hf8 Hn8 Hm9 Hm8
  go_wp2_with fail
  refine (read_any Ap L.length cp L w10 rfl H10.out.2.1.bytes (by omega)).mono ?_
  rintro e w11 ⟨rb, rfl, hr11, hb11, hrb⟩
  have hu := ruint_all rb L false n w11 hr11 Hn.out
  rw [HL.out, rdUint_enc n n _ Hn.out, if_pos (Nat.le_refl n)] at hu
  have Hu := hide (show Calls Try.prog 21 #[.pointer (some ⟨rb, 0, none⟩), .int .u64 (n : Int)] w11 (RPost rb (.int .u64 (n : Int)) (Lib.uvarint (Lib.zigzag i) ++ textB s) false w11) from hu)
  have H11 := hide (show _ ∧ _ ∧ _ from ⟨H10.out.1.below hb11, H10.out.2.1.below hb11, H10.out.2.2.trans (hb11.mono H10.out.2.2.size)⟩)
  have Hrb := hide (show w1.heap.size ≤ rb ∧ (∀ k, At A10 k → k ≠ rb) ∧ (∀ k, At Ap k → k ≠ rb) from ⟨Nat.le_trans H10.out.2.2.size hrb, fun k hk e => by have := H10.out.1.lt k hk; omega, fun k hk e => by have := H10.out.2.1.lt k hk; omega⟩)
  clear hr11 hb11 hu H10 hrb
  go_wp2_with fail
  refine Hu.out.mono ?_
  rintro e w12 ⟨rfl, h12, f12⟩
  have hi := rint_all rb _ false w12 h12
  rw [rdUint_enc _ _ _ Hz.out, if_pos (by have := Hz.out; omega)] at hi
  simp only [Option.map_some, unzig_zig] at hi
  have Hi := hide (show Calls Try.prog 22 #[.pointer (some ⟨rb, 0, none⟩)] w12 (RPost rb (.int .i64 i) (textB s) false w12) from hi)
  have F12 := hide f12
  clear h12 hi f12 Hu
  go_wp2_with fail
  refine Hi.out.mono ?_
  rintro e w13 ⟨rfl, h13, f13⟩
  have ht := rtext_all rb _ false most w13 h13 hm1
  have hte := rdText_enc s most.toNat [] (by omega)
  rw [List.append_nil] at hte
  rw [hte] at ht
  have Ht := hide ht
  have F13 := hide (F12.out.trans' f13 (fun _ _ h => h))
  clear h13 ht hte f13 Hi F12
  have hcase : ((s.length : Int) ≤ most ∧ s.length ≤ most.toNat) ∨ (¬ (s.length : Int) ≤ most ∧ s.length = 0) ∨ (¬ (s.length : Int) ≤ most ∧ s.length ≠ 0 ∧ ¬ s.length ≤ most.toNat) := by omega
  have Hm1 := hide hm1
  rcases hcase with ⟨h1, h2⟩ | ⟨h1, h2⟩ | ⟨h1, h2, h3⟩
  · have ht2 := Ht.out
    rw [if_pos h2] at ht2
    have Ht2 := hide (show Calls Try.prog 23 #[.pointer (some ⟨rb, 0, none⟩), .int .i64 most] w13 (RPost rb (sv s) [] false w13) from ht2)
    clear ht2 Ht
    go_wp2_with fail
    refine Ht2.out.mono ?_
    rintro e w14 ⟨rfl, h14, f14⟩
    have f14' := F13.out.trans' f14 (fun _ _ h => h)
    have hst1 := str_run (c := cp) rfl (H11.out.2.1.fr f14' (fun k hk e => Hrb.out.2.2 k hk e)).bytes
    have hst2 := str_run (c := c10) rfl (H11.out.1.fr f14' (fun k hk e => Hrb.out.2.1 k hk e)).bytes
    have hen : Calls Try.prog 24 #[.pointer (some ⟨rb, 0, none⟩)] w14 fun e w' => e = .returned (.bool true) ∧ w14 = w' := rend_any rb [] false w14 h14
    have hbd := rbad_any rb [] false w14 h14
    have Hen := hide hen
    have Hbd := hide hbd
    have Hfin := hide (H11.out.2.2.trans (f14'.below H11.out.2.2.size (fun k hk => by have := Hrb.out.1; omega)))
    clear h14 f14 f14' hen hbd Ht2 H11 F13
    go_wp2_with (first
      | (go_at_call 24; refine Hen.out.mono ?_; rintro e w' ⟨rfl, rfl⟩)
      | (go_at_call 25; refine Hbd.out.mono ?_; rintro e w' ⟨rfl, rfl⟩))
    go_ret
    exact ⟨rfl, Hb1.out.trans (Hfin.out.mono Hb1.out.size)⟩
  · have hnil : s = [] := List.eq_nil_of_length_eq_zero h2
    have ht2 := Ht.out
    rw [if_pos (by omega)] at ht2
    have Ht2 := hide (show Calls Try.prog 23 #[.pointer (some ⟨rb, 0, none⟩), .int .i64 most] w13 (RPost rb (sv s) [] false w13) from ht2)
    have hsl : ((s.length : Int) == 0) = true := by rw [beq_iff_eq]; omega
    clear ht2 Ht hnil
    go_wp2_with fail
    refine Ht2.out.mono ?_
    rintro e w14 ⟨rfl, h14, f14⟩
    have f14' := F13.out.trans' f14 (fun _ _ h => h)
    have hst1 := str_run (c := cp) rfl (H11.out.2.1.fr f14' (fun k hk e => Hrb.out.2.2 k hk e)).bytes
    have hst2 := str_run (c := c10) rfl (H11.out.1.fr f14' (fun k hk e => Hrb.out.2.1 k hk e)).bytes
    have hen : Calls Try.prog 24 #[.pointer (some ⟨rb, 0, none⟩)] w14 fun e w' => e = .returned (.bool true) ∧ w14 = w' := rend_any rb [] false w14 h14
    have hbd := rbad_any rb [] false w14 h14
    have Hen := hide hen
    have Hbd := hide hbd
    have Hfin := hide (H11.out.2.2.trans (f14'.below H11.out.2.2.size (fun k hk => by have := Hrb.out.1; omega)))
    clear h14 f14 f14' hen hbd Ht2 H11 F13
    go_wp2_with (first
      | (go_at_call 24; refine Hen.out.mono ?_; rintro e w' ⟨rfl, rfl⟩)
      | (go_at_call 25; refine Hbd.out.mono ?_; rintro e w' ⟨rfl, rfl⟩))
    go_ret
    exact ⟨rfl, Hb1.out.trans (Hfin.out.mono Hb1.out.size)⟩
  · have ht2 := Ht.out
    rw [if_neg h3] at ht2
    have Ht2 := hide (show Calls Try.prog 23 #[.pointer (some ⟨rb, 0, none⟩), .int .i64 most] w13 (RPost rb (sv []) [] true w13) from ht2)
    have hsl : ((s.length : Int) == 0) = false := by rw [beq_eq_false_iff_ne]; omega
    have hemp : s.isEmpty = false := by
      cases s with
      | nil => simp at h2
      | cons _ _ => rfl
    have hdec : decide ((s.length : Int) ≤ most) = false := decide_eq_false h1
    clear ht2 Ht h3
    go_wp2_with fail
    refine Ht2.out.mono ?_
    rintro e w14 ⟨rfl, h14, f14⟩
    have f14' := F13.out.trans' f14 (fun _ _ h => h)
    have hst1 := str_run (c := cp) rfl (H11.out.2.1.fr f14' (fun k hk e => Hrb.out.2.2 k hk e)).bytes
    have hst2 := str_run (c := c10) rfl (H11.out.1.fr f14' (fun k hk e => Hrb.out.2.1 k hk e)).bytes
    have hen : Calls Try.prog 24 #[.pointer (some ⟨rb, 0, none⟩)] w14 fun e w' => e = .returned (.bool false) ∧ w14 = w' := rend_any rb [] true w14 h14
    have hbd := rbad_any rb [] true w14 h14
    have Hen := hide hen
    have Hbd := hide hbd
    have Hfin := hide (H11.out.2.2.trans (f14'.below H11.out.2.2.size (fun k hk => by have := Hrb.out.1; omega)))
    clear h14 f14 f14' hen hbd Ht2 H11 F13
    go_wp2_with (first
      | (go_at_call 24; refine Hen.out.mono ?_; rintro e w' ⟨rfl, rfl⟩)
      | (go_at_call 25; refine Hbd.out.mono ?_; rintro e w' ⟨rfl, rfl⟩))
    go_ret
    exact ⟨rfl, Hb1.out.trans (Hfin.out.mono Hb1.out.size)⟩
end Go.Proofs.Ytonlpgjcmodpnaa
