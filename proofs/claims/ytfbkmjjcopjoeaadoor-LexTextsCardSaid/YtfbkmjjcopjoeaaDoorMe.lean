/- columbaryref05: Tokens. -/
import Derived.Test.YtfbkmjjcopjoeaaDoorMd
import Derived.Test.YtfbkmjjcopjoeaaDoorNa
namespace Go.Proofs.YtfbkmjjcopjoeaaDoor
open Go.RowKit

theorem infoRT : (Tryd.prog.info? 50).map (fun i => (i.zero, i.size, i.bytes)) = some (some (.agg #[.int .u8 0, .string ⟨#[]⟩, .int .i64 0, .int .i64 0]), 4, 40) := by kernel_rfl
theorem buildTA (x : Int) (w : World) : (Instr.build 50 #[(3, .int .i64 x)]).run Tryd.prog w = .ok (.agg #[.int .u8 0, .string ⟨#[]⟩, .int .i64 0, .int .i64 x]) w := run_build w _ _ _ (by kernel_rfl)
/-- How far the reference's loop has come. -/
structure RRel (s : List UInt8) (w wr : World) (A : Option Addr) (c : Nat) (ts : List Lx.Tok) (k : Nat) : Prop where
  row : TokRow 50 wr A c ts
  new : ∀ g, At A g → w.heap.size ≤ g
  below : Below w.heap.size w wr
  rest : Lx.preL ts (Lx.allL (s.drop k) k) = Lx.allL s 0
  len : ts.length ≤ k
  le : k ≤ s.length
set_option maxRecDepth 100000 in
set_option maxHeartbeats 8000000 in
theorem rtoks_any (s : List UInt8) (w : World) (hs : s.length ≤ 2000) :
    Calls Tryd.prog 12 #[.string ⟨s.toArray⟩] w fun e w' => TokOut 50 w w' (Lx.allL s 0) e ∧ Below w.heap.size w w' := by
  have za := zeroT
  have hba := buildTA
  have hsz : (⟨s.toArray⟩ : ByteArray).size = s.length := rfl
  go_enter Tryd.func12, Tryd.ntmps12
  go_wp2_with fail
  go_loopw [5, 6] (fun ov kv wr => ∃ (A : Option Addr) (c : Nat) (ts : List Lx.Tok) (k : Nat), ov = .slice A ts.length c ∧ kv = .int .i64 (k : Int) ∧ RRel s w wr A c ts k) (fun _ kv _ => s.length - (intOf kv).toNat)
  case atStart => exact ⟨none, 0, [], 0, rfl, rfl, TokRow.nil _ _, (fun g hg => (At.none_not hg).elim), Below.refl _ _, Lx.preL_nil _, Nat.le_refl _, Nat.zero_le _⟩
  case round =>
  obtain ⟨A, c, ts, k, rfl, rfl, H0⟩ := hrel
  have H := hide H0
  have hkl := H0.le
  clear H0
  by_cases hlt : k < s.length
  case neg =>
    obtain rfl : k = s.length := by omega
    have Hrow := hide (H.out.row.fr (F := fun _ => False) ((Fr.refl _ _).alloc (.cells (tokC ⟨0, [], 0, s.length⟩).toArray 50)) (fun _ _ h => h))
    have Hb := hide (Blk.new wr 50 (tokC ⟨0, [], 0, s.length⟩).toArray)
    have Hn := hide (show ts.length ≤ 100000 from by have := H.out.len; omega)
    clear hkl hlt
    go_wp2_with (first
      | (refine wpList_build_tok rfl 27 (.tmp 79) rfl ⟨0, [], 0, s.length⟩ rfl 50 (.agg #[.int .u8 0, .string ⟨#[]⟩, .int .i64 0, .int .i64 0]) Tryd.underlying27 infoRT ?_)
      | (refine wpList_append_tok rfl (.tmp 77) (.tmp 80) 27 50 (.agg #[.int .u8 0, .string ⟨#[]⟩, .int .i64 0, .int .i64 0]) rfl Tryd.underlying27 infoRT rfl A c ts rfl Hrow.out wr.heap.size ⟨0, [], 0, s.length⟩ rfl Hb.out Hn.out ?_; intro A2 c2 w2 hr2 hf2 hn2; have Hr2 := hide hr2; have Hf2 := hide hf2; have Hn2 := hide hn2; clear hr2 hf2 hn2))
    have hrest := H.out.rest
    rw [List.drop_length, Lx.allL_end] at hrest
    have hb2 : Below w.heap.size w w2 := (H.out.below.alloc H.out.below.size _).trans (Hf2.out.below (by rw [World.size_alloc]; have := H.out.below.size; omega) H.out.new)
    refine bodyPost_ret (v := .tuple #[.slice A2 (ts.length + 1) c2, .int .i64 0, .int .i64 0]) (by simp [results, Tryd.results12, go_sem]) rfl ⟨?_, hb2⟩
    rw [← hrest]
    refine ⟨A2, c2, ?_, Hr2.out, fun g hg => ?_⟩
    · simp
    · rcases Hn2.out g hg with h | h
      · exact H.out.new g h
      · have := H.out.below.size; rw [World.size_alloc] at h; omega
  obtain ⟨b, hb⟩ : ∃ b, s[k]? = some b := ⟨_, List.getElem?_eq_getElem hlt⟩
  have hg := fun h => ba_get hb h
  have hd := drop_at hb
  have Hb := hide hb
  have Hd := hide hd
  clear hb hd
  by_cases hbl : Lx.isBlank b = true
  case pos =>
    have hrel2 : RRel s w wr A c ts (k + 1) := ⟨H.out.row, H.out.new, H.out.below, by rw [← H.out.rest, Hd.out, Lx.allL_blank hbl], by have := H.out.len; omega, hlt⟩
    have Hrel2 := hide hrel2
    have hblk : ∀ x ∈ [32, 10, 9, 13, 44], (b = x) ∨ ((b.toNat : Int) == (x : UInt8).toNat) = false := fun x _ => by
      by_cases h : b = x
      · exact .inl h
      · exact .inr (by rw [beq_eq_false_iff_ne]; exact fun h2 => h (UInt8.toNat_inj.1 (show b.toNat = x.toNat by omega)))
    have hor : b = 32 ∨ b = 10 ∨ b = 9 ∨ b = 13 ∨ b = 44 := by
      simp only [Lx.isBlank, Bool.or_eq_true, beq_iff_eq] at hbl
      rcases hbl with (((h | h) | h) | h) | h <;> simp [h]
    clear hrel2 hbl
    rcases hor with rfl | rfl | rfl | rfl | rfl
    all_goals
      clear hblk
      go_wp2_with fail
      go_roundw
      case rel => exact ⟨A, c, ts, k + 1, rfl, by go_num, Hrel2.out⟩
      case measure => simp [intOf]; omega
  have hbl' : Lx.isBlank b = false := by simpa using hbl
  have hz : ∀ x : UInt8, Lx.isBlank x = true → ((b.toNat : Int) == (x.toNat : Int)) = false := fun x hx => by
    rw [beq_eq_false_iff_ne]
    intro h
    have : b = x := UInt8.toNat_inj.1 (by omega)
    rw [this, hx] at hbl'
    cases hbl'
  have z32 : ((b.toNat : Int) == 32) = false := hz 32 (by decide)
  have z10 : ((b.toNat : Int) == 10) = false := hz 10 (by decide)
  have z9 : ((b.toNat : Int) == 9) = false := hz 9 (by decide)
  have z13 : ((b.toNat : Int) == 13) = false := hz 13 (by decide)
  have z44 : ((b.toNat : Int) == 44) = false := hz 44 (by decide)
  clear hz hbl
  by_cases h35 : b = 35
  case pos =>
    subst h35
    obtain ⟨m, hm⟩ : ∃ m, ((35 :: s.drop (k + 1)).takeWhile (fun c => c != 10)).length = m := ⟨_, rfl⟩
    have hm2 : ((s.drop k).takeWhile (fun c => c != 10)).length = m := by rw [Hd.out]; exact hm
    have hml : m ≤ s.length - k := by rw [← hm2, ← List.length_drop]; exact Lx.takeWhile_le _ _
    have hm1 : 1 ≤ m := by rw [← hm, List.takeWhile_cons, if_pos (by decide)]; simp
    have hget : ∀ (j : Nat), j ≤ m → (j < m ↔ ∃ c, s[k + j]? = some c ∧ (c != 10) = true) := fun j hj => by
      have h := tw_iff (fun c => c != 10) (s.drop k) j (by rw [hm2]; exact hj)
      rw [hm2, List.getElem?_drop] at h
      exact h
    have hrel2 : RRel s w wr A c ts (k + m) := ⟨H.out.row, H.out.new, H.out.below, by rw [← H.out.rest, Hd.out, Lx.allL_hash _ k m hm, ← Hd.out, List.drop_drop], by have := H.out.len; omega, by omega⟩
    have Hrel2 := hide hrel2
    have Hget := hide hget
    have Hml := hide hml
    have Hm1 := hide hm1
    have Hlt := hide hlt
    clear hm hm2 hml hm1 hget hrel2 hbl' hlt
    go_wp2_with fail
    go_loopw [6] (fun kv wi => ∃ j q : Nat, k + j = q ∧ j ≤ m ∧ kv = .int .i64 (q : Int) ∧ wr = wi) (fun kv _ => s.length - (intOf kv).toNat)
    case atStart => exact ⟨0, k, rfl, Nat.zero_le _, rfl, rfl⟩
    case round =>
    obtain ⟨j, q, hq, hj, rfl, rfl⟩ := hrel
    have Hq := hide hq
    by_cases hjm : j < m
    case pos =>
      obtain ⟨d, hd, hd10⟩ := (Hget.out j hj).1 hjm
      rw [hq] at hd
      have hql : q < s.length := (List.getElem?_eq_some_iff.1 hd).1
      have hgd := fun h => ba_get hd h
      have hne : ((d.toNat : Int) == 10) = false := by
        rw [beq_eq_false_iff_ne]
        intro h
        have : d = 10 := UInt8.toNat_inj.1 (show d.toNat = 10 by omega)
        rw [this] at hd10
        cases hd10
      have Hjm := hide hjm
      clear hd hd10 hjm hq hg z32 z10 z9 z13 z44
      go_wp2_with fail
      go_roundw
      case rel => exact ⟨j + 1, q + 1, by have := Hq.out; omega, by have := Hjm.out; omega, by go_num, by first | rfl | trivial⟩
      case measure => simp [intOf]; omega
    case neg =>
    obtain rfl : j = m := by omega
    have hql : q ≤ s.length := by have := Hml.out; have := Hlt.out; omega
    clear hg z32 z10 z9 z13 z44
    rcases Nat.lt_or_ge q s.length with hq2 | hq2
    · obtain ⟨d, hd⟩ : ∃ d, s[q]? = some d := ⟨_, List.getElem?_eq_getElem hq2⟩
      have hgd := fun h => ba_get hd h
      have hd10 : d = 10 := by
        have h := (not_congr (Hget.out j hj)).1 (by omega)
        apply Classical.byContradiction
        intro hne
        exact h ⟨d, by rw [hq]; exact hd, by simpa using hne⟩
      subst hd10
      clear hd hq hjm
      go_wp2_with fail
      go_roundw
      case rel => exact ⟨A, c, ts, k + j, rfl, by have := Hq.out; subst this; go_num, Hrel2.out⟩
      case measure => have := Hq.out; have := Hm1.out; have := Hlt.out; simp [intOf]; omega
    · clear hq hjm
      go_wp2_with fail
      go_roundw
      case rel => exact ⟨A, c, ts, k + j, rfl, by have := Hq.out; subst this; go_num, Hrel2.out⟩
      case measure => have := Hq.out; have := Hm1.out; have := Hlt.out; simp [intOf]; omega
  have z35 : ((b.toNat : Int) == 35) = false := by rw [beq_eq_false_iff_ne]; exact fun h => h35 (UInt8.toNat_inj.1 (show b.toNat = 35 by omega))
  have Hone := hide (one_any s k b wr Hb.out hs)
  have hrest := H.out.rest
  rw [Hd.out, Lx.allL_tok _ _ hbl' h35, ← Hd.out] at hrest
  obtain ⟨R, hR⟩ : ∃ R, Lx.oneT (s.drop k) = R := ⟨_, rfl⟩
  rw [hR] at hrest Hone
  have HR := hide hR
  have Hlt := hide hlt
  clear hR hbl' h35 hlt
  cases R with
  | bad off e =>
    simp only at hrest
    have hez : ((e : Int) == 0) = false := by have := Lx.oneT_err HR.out; rw [beq_eq_false_iff_ne]; omega
    have Hrest := hide hrest
    clear hrest
    go_wp2_with fail
    refine Hone.out.mono ?_
    rintro e2 w2 ⟨rfl, hb2⟩
    have Hb2 := hide hb2
    clear hb2
    simp only [oneV, tokV]
    obtain ⟨bt, hbt⟩ : ∃ bt, w2.heap.size = bt := ⟨_, rfl⟩
    obtain ⟨w3, hw3⟩ : ∃ w3, w2.alloc (.cells #[.int .u8 0, .string ⟨#[]⟩, .int .i64 0, .int .i64 0] 50) = w3 := ⟨_, rfl⟩
    have HT3 := hide (show Blk w3 bt 50 #[.int .u8 0, .string ⟨#[]⟩, .int .i64 0, .int .i64 0] from by rw [← hw3, ← hbt]; exact Blk.new w2 _ _)
    have q0 := HT3.out
    have y0 := q0.frozen 0
    have x0 := q0.cell 0
    have y1 := q0.frozen 1
    have x1 := q0.cell 1
    have y2 := q0.frozen 2
    have x2 := q0.cell 2
    have y3 := q0.frozen 3
    have x3 := q0.cell 3
    have q1 := q0.set_ 0 (.int .u8 0)
    have q2 := q1.set_ 1 (.string ⟨#[]⟩)
    have q3 := q2.set_ 2 (.int .i64 0)
    have q4 := q3.set_ 3 (.int .i64 0)
    have y9 : ((((w3.setCell ⟨bt, 0, none⟩ (.int .u8 0)).setCell ⟨bt, 1, none⟩ (.string ⟨#[]⟩)).setCell ⟨bt, 2, none⟩ (.int .i64 0)).setCell ⟨bt, 3, none⟩ (.int .i64 0)).frozen? ⟨bt, 3, none⟩ = false := q4.frozen 3
    have x9 : ((((w3.setCell ⟨bt, 0, none⟩ (.int .u8 0)).setCell ⟨bt, 1, none⟩ (.string ⟨#[]⟩)).setCell ⟨bt, 2, none⟩ (.int .i64 0)).setCell ⟨bt, 3, none⟩ (.int .i64 0)).cell? ⟨bt, 3, none⟩ = some (.int .i64 0) := q4.cell 3
    have e0 := Hrest.out
    clear q0 q1 q2 q3 q4
    have Hb9 := hide (show Below w.heap.size w ((((w3.setCell ⟨bt, 0, none⟩ (.int .u8 0)).setCell ⟨bt, 1, none⟩ (.string ⟨#[]⟩)).setCell ⟨bt, 2, none⟩ (.int .i64 0)).setCell ⟨bt, 3, none⟩ (.int .i64 0)) from by
      have h3 : Below w.heap.size w w3 := by rw [← hw3]; exact (H.out.below.trans (Hb2.out.mono H.out.below.size)).alloc (Nat.le_trans H.out.below.size Hb2.out.size) _
      have hge : w.heap.size ≤ bt := by rw [← hbt]; exact Nat.le_trans H.out.below.size Hb2.out.size
      exact (((h3.setCell (p := ⟨bt, 0, none⟩) hge _).setCell (p := ⟨bt, 1, none⟩) hge _).setCell (p := ⟨bt, 2, none⟩) hge _).setCell (p := ⟨bt, 3, none⟩) hge _)
    go_wp2_with fail
    refine bodyPost_ret (v := .tuple #[.slice none 0 0, .int .i64 ((k + off : Nat) : Int), .int .i64 (e : Int)]) (by simp [results, Tryd.results12, go_sem]) rfl ⟨?_, Hb9.out⟩
    rw [← Hrest.out]
    rfl

  | ok kd t n len =>
    simp only at hrest
    rw [Lx.preL_preL, List.drop_drop] at hrest
    have hlen := Lx.oneT_len HR.out
    rw [List.length_drop] at hlen
    have hR2 : ∀ A2 c2 w2, TokRow 50 w2 A2 c2 (ts ++ [⟨kd, t, n, k⟩]) → (∀ g, At A2 g → w.heap.size ≤ g) → Below w.heap.size w w2 → RRel s w w2 A2 c2 (ts ++ [⟨kd, t, n, k⟩]) (k + len) := fun A2 c2 w2 h1 h2 h3 => ⟨h1, h2, h3, hrest, by rw [List.length_append, List.length_singleton]; have := H.out.len; omega, by omega⟩
    have HR2 := hide hR2
    have Hlen := hide hlen
    clear hrest hR2 hlen
    go_wp2_with fail
    refine Hone.out.mono ?_
    rintro e2 w2 ⟨rfl, hb2⟩
    have Hb2 := hide hb2
    clear hb2
    simp only [oneV, tokV]
    obtain ⟨bt, hbt⟩ : ∃ bt, w2.heap.size = bt := ⟨_, rfl⟩
    obtain ⟨w3, hw3⟩ : ∃ w3, w2.alloc (.cells #[.int .u8 0, .string ⟨#[]⟩, .int .i64 0, .int .i64 0] 50) = w3 := ⟨_, rfl⟩
    have HT3 := hide (show Blk w3 bt 50 #[.int .u8 0, .string ⟨#[]⟩, .int .i64 0, .int .i64 0] from by rw [← hw3, ← hbt]; exact Blk.new w2 _ _)
    have F3 := hide (show Fr (fun q => q = bt) wr w3 from by rw [← hw3]; exact ((Fr.of_below Hb2.out).alloc _))
    have Hge := hide (show wr.heap.size ≤ bt from by rw [← hbt]; exact Hb2.out.size)
    have q0 := HT3.out
    have y0 := q0.frozen 0
    have x0 := q0.cell 0
    have y1 := q0.frozen 1
    have x1 := q0.cell 1
    have y2 := q0.frozen 2
    have x2 := q0.cell 2
    have y3 := q0.frozen 3
    have x3 := q0.cell 3
    have q1 := q0.set_ 0 (.int .u8 (kd : Int))
    have q2 := q1.set_ 1 (.string ⟨t.toArray⟩)
    have q3 := q2.set_ 2 (.int .i64 n)
    have q4 := q3.set_ 3 (.int .i64 0)
    have y9 : ((((w3.setCell ⟨bt, 0, none⟩ (.int .u8 (kd : Int))).setCell ⟨bt, 1, none⟩ (.string ⟨t.toArray⟩)).setCell ⟨bt, 2, none⟩ (.int .i64 n)).setCell ⟨bt, 3, none⟩ (.int .i64 0)).frozen? ⟨bt, 3, none⟩ = false := q4.frozen 3
    have x9 : ((((w3.setCell ⟨bt, 0, none⟩ (.int .u8 (kd : Int))).setCell ⟨bt, 1, none⟩ (.string ⟨t.toArray⟩)).setCell ⟨bt, 2, none⟩ (.int .i64 n)).setCell ⟨bt, 3, none⟩ (.int .i64 0)).cell? ⟨bt, 3, none⟩ = some (.int .i64 0) := q4.cell 3
    have q5 := q4.set_ 3 (.int .i64 (k : Int))
    have hq5 : Blk (((((w3.setCell ⟨bt, 0, none⟩ (.int .u8 (kd : Int))).setCell ⟨bt, 1, none⟩ (.string ⟨t.toArray⟩)).setCell ⟨bt, 2, none⟩ (.int .i64 n)).setCell ⟨bt, 3, none⟩ (.int .i64 0)).setCell ⟨bt, 3, none⟩ (.int .i64 (k : Int))) bt 50 (tokC ⟨kd, t, n, k⟩).toArray := q5
    have hf5 : Fr (fun q => q = bt) wr (((((w3.setCell ⟨bt, 0, none⟩ (.int .u8 (kd : Int))).setCell ⟨bt, 1, none⟩ (.string ⟨t.toArray⟩)).setCell ⟨bt, 2, none⟩ (.int .i64 n)).setCell ⟨bt, 3, none⟩ (.int .i64 0)).setCell ⟨bt, 3, none⟩ (.int .i64 (k : Int))) := ((((F3.out.put1 0 _).put1 1 _).put1 2 _).put1 3 _).put1 3 _
    have Q5 := hide hq5
    have F5 := hide hf5
    clear q0 q1 q2 q3 q4 q5 hq5 hf5
    go_upto_region 16 with fail
    clear y0 x0 y1 x1 y2 x2 y3 x3 y9 x9
    obtain ⟨w5, hw5⟩ : ∃ w5, ((((w3.setCell ⟨bt, 0, none⟩ (.int .u8 (kd : Int))).setCell ⟨bt, 1, none⟩ (.string ⟨t.toArray⟩)).setCell ⟨bt, 2, none⟩ (.int .i64 n)).setCell ⟨bt, 3, none⟩ (.int .i64 0)).setCell ⟨bt, 3, none⟩ (.int .i64 (k : Int)) = w5 := ⟨_, rfl⟩
    rw [hw5] at Q5 F5
    rw [hw5]
    clear hw5 hw3
    have r0 := Q5.out.cell 0
    have r1 := Q5.out.cell 1
    have r2 := Q5.out.cell 2
    have r3 := Q5.out.cell 3
    simp only [tokC] at r0 r1 r2 r3
    have Hrow := hide ((H.out.row.fr F5.out (fun g hg e => by have := H.out.row.lt g hg; have := Hge.out; omega)).fr (F := fun _ => False) ((Fr.refl _ _).alloc (.cells (tokC ⟨kd, t, n, k⟩).toArray 50)) (fun _ _ h => h))
    have Hbk := hide (Blk.new w5 50 (tokC ⟨kd, t, n, k⟩).toArray)
    have Hn := hide (show ts.length ≤ 100000 from by have := H.out.len; have := H.out.le; omega)
    go_wp2_with (first
      | (refine wpList_build_tok rfl 27 (.tmp 73) rfl ⟨kd, t, n, k⟩ rfl 50 (.agg #[.int .u8 0, .string ⟨#[]⟩, .int .i64 0, .int .i64 0]) Tryd.underlying27 infoRT ?_)
      | (refine wpList_append_tok rfl (.tmp 72) (.tmp 74) 27 50 (.agg #[.int .u8 0, .string ⟨#[]⟩, .int .i64 0, .int .i64 0]) rfl Tryd.underlying27 infoRT rfl A c ts rfl Hrow.out w5.heap.size ⟨kd, t, n, k⟩ rfl Hbk.out Hn.out ?_; intro A6 c6 w6 hr6 hf6 hn6; have Hr6 := hide hr6; have Hf6 := hide hf6; have Hn6 := hide hn6; clear hr6 hf6 hn6))
    go_roundw
    case rel =>
      have hnew : ∀ g, At A6 g → w.heap.size ≤ g := fun g hg => by
        rcases Hn6.out g hg with h | h
        · exact H.out.new g h
        · have := F5.out.size; have := H.out.below.size; rw [World.size_alloc] at h; omega
      have hb5 : Below w.heap.size w w5 := H.out.below.trans (F5.out.below H.out.below.size (fun q hq => by have := Hge.out; have := H.out.below.size; omega))
      have hb6 : Below w.heap.size w w6 := (hb5.alloc hb5.size _).trans (Hf6.out.below (by rw [World.size_alloc]; have := hb5.size; omega) H.out.new)
      exact ⟨A6, c6, _, k + len, by rw [List.length_append, List.length_singleton], by go_num, HR2.out A6 c6 w6 Hr6.out hnew hb6⟩
    case measure => have := Hlen.out; have := Hlt.out; simp [intOf]; omega

end Go.Proofs.YtfbkmjjcopjoeaaDoor
