/- blanks, ends of lines, commas and remarks ahead of a text change nothing but places: for every input the law LexBlanks answers true, and leaves what came in as it was. -/
import Derived.Test.YtfbkmjjcopjoeaaDoorNq
import Derived.Test.YtfbkmjjcopjoeaaDoorLaw
import Derived.Test.YtfbkmjjcopjoeaaDoorRows
import Derived.Test.YtfbkmjjcopjoeaaDoorCards
import Derived.Test.YtfbkmjjcopjoeaaDoorTie
import Derived.Test.YtfbkmjjcopjoeaaDoorChecked
import Derived.ProofKit
import Derived.OpenShut
import Derived.LaidMore
import Derived.Lay
import Derived.SevenTiedAt
import Derived.Stop.Joined
namespace Go.Proofs.YtfbkmjjcopjoeaaDoor
open Go.RowKit Go.ChangeShapes Go.WideShapes

set_option maxRecDepth 100000 in
set_option maxHeartbeats 8000000 in
theorem lexBlanks_walk (s p : List UInt8) (A : Option Addr) (c : Nat) (w : World) (hp : Bytes w A p) : Calls Tryd.prog 8 #[.string ⟨s.toArray⟩, .slice A p.length c] w fun e w' => e = .returned (.bool true) ∧ Below w.heap.size w w' := by
  have hsz : (⟨s.toArray⟩ : ByteArray).size = s.length := rfl
  obtain ⟨n, hn⟩ : ∃ n, p.length = n := ⟨_, rfl⟩
  have Hn := hide hn
  have Hp := hide hp
  rw [hn]
  clear hn hp
  go_enter Tryd.func8, Tryd.ntmps8
  go_wp2_with fail
  refine (awake_any w).mono ?_
  rintro e w1 ⟨rfl, hb⟩
  have B1 := hide hb
  clear hb
  by_cases h900 : 900 < s.length
  case pos =>
    go_wp2_with fail
    refine (awake_any w1).mono ?_
    rintro e w2 ⟨rfl, hb⟩
    have B2 := hide (B1.out.trans (hb.mono B1.out.size))
    clear hb
    go_wp2_with fail
    go_ret
    exact ⟨rfl, B2.out⟩
  by_cases h300 : 300 < n
  case pos =>
    go_wp2_with fail
    refine (awake_any w1).mono ?_
    rintro e w2 ⟨rfl, hb⟩
    have B2 := hide (B1.out.trans (hb.mono B1.out.size))
    clear hb
    go_wp2_with fail
    go_ret
    exact ⟨rfl, B2.out⟩
  have Hle := hide (show s.length ≤ 900 ∧ n ≤ 300 from ⟨by omega, by omega⟩)
  obtain ⟨g6, hg6⟩ : ∃ g, w1.heap.size = g := ⟨_, rfl⟩
  obtain ⟨w2, hw2⟩ : ∃ w2, w1.alloc (.cells #[.string ⟨#[32]⟩, .string ⟨#[9]⟩, .string ⟨#[10]⟩, .string ⟨#[13]⟩, .string ⟨#[44]⟩, .string ⟨#[35, 32, 120, 32, 123, 32, 34, 10]⟩] 9) = w2 := ⟨_, rfl⟩
  go_wp2_with fail
  have G6 := hide (show Blk w2 g6 9 #[.string ⟨#[32]⟩, .string ⟨#[9]⟩, .string ⟨#[10]⟩, .string ⟨#[13]⟩, .string ⟨#[44]⟩, .string ⟨#[35, 32, 120, 32, 123, 32, 34, 10]⟩] from by rw [← hw2, ← hg6]; exact Blk.new _ _ _)
  have B2 := hide (show Below w.heap.size w w2 from by rw [← hw2]; exact B1.out.alloc B1.out.size _)
  have Hp2 := hide (Hp.out.below B2.out (Nat.le_refl _))
  clear h900 h300
  go_loopw [5, 7] (fun tv iv wr => ∃ i : Nat, iv = .int .i64 (i : Int) ∧ tv = .string ⟨(gapsB (p.take i)).toArray⟩ ∧ i ≤ n ∧ w2 = wr) (fun _ iv _ => n - (intOf iv).toNat)
  case atStart => exact ⟨0, rfl, rfl, Nat.zero_le _, rfl⟩
  case round =>
  obtain ⟨i, rfl, rfl, hi, rfl⟩ := hrel
  by_cases hin : i < n
  case pos =>
    obtain ⟨b, hb⟩ : ∃ b, p[i]? = some b := ⟨_, List.getElem?_eq_getElem (by rw [Hn.out]; exact hin)⟩
    obtain ⟨g, o, rfl, hcell⟩ := bytes_cell Hp2.out hb
    have hgap := gap_cell G6.out b
    obtain ⟨m, hm⟩ : ∃ m, b.toNat % 6 = m := ⟨_, rfl⟩
    have hm6 : m < 6 := by rw [← hm]; exact Nat.mod_lt _ (by decide)
    rw [hm] at hgap
    have hr1 : ((b.toNat : Int)).tmod 6 = (m : Int) := by rw [← hm]; rfl
    have hr2 : ((b.toNat : Int)) % 6 = (m : Int) := by omega
    have hnx := gaps_take hb
    obtain ⟨ga, hga⟩ : ∃ ga, gapB b = ga := ⟨_, rfl⟩
    obtain ⟨fl, hfl⟩ : ∃ fl, gapsB (p.take i) = fl := ⟨_, rfl⟩
    have hgl := gapB_len b
    have hll : fl.length ≤ 300 * 8 := by
      have h := gaps_len (p.take i)
      rw [hfl, List.length_take] at h
      have := Hle.out
      exact Nat.le_trans h (Nat.mul_le_mul_right _ (Nat.le_trans (Nat.min_le_left _ _) (by omega)))
    rw [hga, hfl] at hnx
    rw [hga] at hgap hgl
    rw [hfl]
    have hcat : (⟨fl.toArray⟩ : ByteArray) ++ (⟨ga.toArray⟩ : ByteArray) = ⟨(fl ++ ga).toArray⟩ := ba_cat fl ga
    have hz1 : (⟨fl.toArray⟩ : ByteArray).size = fl.length := rfl
    have hz2 : (⟨ga.toArray⟩ : ByteArray).size = ga.length := rfl
    have hlim : ¬ 9223372036854775807 < fl.length + ga.length := by omega
    have Hnx := hide hnx
    have Hin := hide hin
    have hbl : b.toNat < 256 := b.toNat_lt
    clear hb hm hnx hga hfl hll hgl
    go_wp2_with fail
    go_roundw
    case rel => exact ⟨i + 1, by go_num, by rw [Hnx.out], Hin.out, by first | rfl | trivial⟩
    case measure => simp [intOf]; omega
  case neg =>
  obtain rfl : i = n := by omega
  rw [List.take_of_length_le (show p.length ≤ i by rw [Hn.out]; exact Nat.le_refl _)]
  have hal := gaps_len p
  rw [Hn.out] at hal
  obtain ⟨ah, hah⟩ : ∃ ah, gapsB p = ah := ⟨_, rfl⟩
  have hb0 := blanks_all p s
  rw [hah] at hal hb0 ⊢
  have hal2 : ah.length ≤ 2400 := by have := Hle.out; omega
  obtain ⟨y, hy⟩ : ∃ y, ah ++ s = y := ⟨_, rfl⟩
  have hcat : (⟨ah.toArray⟩ : ByteArray) ++ (⟨s.toArray⟩ : ByteArray) = ⟨y.toArray⟩ := by rw [← hy]; exact ba_cat ah s
  have hza : (⟨ah.toArray⟩ : ByteArray).size = ah.length := rfl
  have hlim : ¬ 9223372036854775807 < ah.length + s.length := by have := Hle.out; omega
  have Hyl := hide (show y.length = ah.length + s.length from by rw [← hy, List.length_append])
  rw [hy] at hb0
  obtain ⟨R, hR⟩ : ∃ R, Lx.lexL s = R := ⟨_, rfl⟩
  have HR := hide hR
  have Hb0 := hide hb0
  have hs9 : s.length ≤ 900 := Hle.out.1
  clear hal hah hb0 hy hR hin hi
  go_wp2_with fail
  refine (toks_all s w2).mono ?_
  rintro e w3 ⟨ho, hb⟩
  rw [HR.out] at ho
  have B3 := hide (B2.out.trans (hb.mono B2.out.size))
  clear hb
  cases R with
  | inr q =>
    obtain rfl : e = _ := ho
    have hez := ez_false (lex_err HR.out).1
    have hez3 : ¬ q.2 = 0 := by have := (lex_err HR.out).1; omega
    have hql := (lex_err HR.out).2
    by_cases h20 : 2000 < ah.length + s.length
    case pos =>
      go_wp2_with fail
      refine (toks_all y w3).mono ?_
      rintro e w4 ⟨ho, hb⟩
      rw [Lx.lexL_eq, if_pos (by rw [Hyl.out]; exact h20)] at ho
      obtain rfl : e = _ := ho
      have B4 := hide (B3.out.trans (hb.mono B3.out.size))
      clear hb
      go_wp2_with fail
      go_ret
      exact ⟨rfl, B4.out⟩
    have HR3 := hide (show Lx.lexL y = .inr (q.1 + ah.length, q.2) from by rw [lexL_all (by rw [Hyl.out]; omega), Hb0.out, ← lexL_all (by omega), HR.out]; rfl)
    go_wp2_with fail
    refine (toks_all y w3).mono ?_
    rintro e w4 ⟨ho, hb⟩
    rw [HR3.out] at ho
    obtain rfl : e = _ := ho
    have B4 := hide (B3.out.trans (hb.mono B3.out.size))
    clear hb
    go_wp2_with fail
    go_loopw [14] (fun jv wr => jv = .int .i64 0 ∧ w4 = wr) (fun _ _ => 0)
    case atStart => exact ⟨rfl, rfl⟩
    case round =>
    obtain ⟨rfl, rfl⟩ := hrel
    go_wp2_with fail
    go_ret
    exact ⟨rfl, B4.out⟩
  | inl ts =>
    obtain ⟨A', c', rfl, hrow, _⟩ := ho
    obtain ⟨m, hm⟩ : ∃ m, ts.length = m := ⟨_, rfl⟩
    have HA3 := hide hrow.at_
    have Hm := hide hm
    have Hat := hide (lex_at HR.out)
    have hml : m ≤ 2001 := by have h := toks_count ts 2000 (lex_at HR.out) (lex_bound HR.out).2.rise; omega
    rw [hm]
    clear hrow hm
    by_cases h20 : 2000 < ah.length + s.length
    case pos =>
      go_wp2_with fail
      refine (toks_all y w3).mono ?_
      rintro e w4 ⟨ho, hb⟩
      rw [Lx.lexL_eq, if_pos (by rw [Hyl.out]; exact h20)] at ho
      obtain rfl : e = _ := ho
      have B4 := hide (B3.out.trans (hb.mono B3.out.size))
      clear hb
      go_wp2_with fail
      go_ret
      exact ⟨rfl, B4.out⟩
    have HR3 := hide (show Lx.lexL y = .inl (ts.map (Lx.shiftT ah.length)) from by rw [lexL_all (by rw [Hyl.out]; omega), Hb0.out, ← lexL_all (by omega), HR.out]; rfl)
    go_wp2_with fail
    refine (toks_all y w3).mono ?_
    rintro e w4 ⟨ho, hb⟩
    rw [HR3.out] at ho
    obtain ⟨A9, c9, rfl, hrow9, _⟩ := ho
    have HA4 := hide (HA3.out.below hb)
    have HC4 := hide hrow9.at_
    have B4 := hide (B3.out.trans (hb.mono B3.out.size))
    rw [List.length_map, Hm.out]
    clear hb hrow9
    go_wp2_with fail
    go_loopw [14] (fun jv wr => ∃ j : Nat, jv = .int .i64 (j : Int) ∧ j ≤ m ∧ ∃ k, w4.drewN k = wr) (fun jv _ => m - (intOf jv).toNat)
    case atStart => exact ⟨0, rfl, Nat.zero_le _, 0, rfl⟩
    case round =>
    obtain ⟨j, rfl, hj, k, rfl⟩ := hrel
    by_cases hjn : j < m
    case pos =>
      obtain ⟨t, ht⟩ : ∃ t, ts[j]? = some t := ⟨_, List.getElem?_eq_getElem (by rw [Hm.out]; exact hjn)⟩
      have hta := Hat.out t (List.mem_of_getElem? ht)
      obtain ⟨g, o, rfl, a0, a1, a2, a3⟩ := HA4.out.get ht
      obtain ⟨g', o', rfl, b0, b1, b2, b3⟩ := HC4.out.get (shift_get ah.length ht)
      obtain ⟨kd, tx, nn, at_⟩ := t
      simp only at a0 a1 a2 a3 b0 b1 b2 b3 hta
      have hwr : IntKind.i64.wrap ((at_ : Int) + (ah.length : Int)) = (at_ : Int) + (ah.length : Int) := IntWalk.i64_in _ (by omega)
      have Hjn := hide hjn
      clear ht
      go_upto_region 18 with fail
      go_quiet (fail)
      clear a0 a1 a2 a3 b0 b1 b2 b3 hwr
      go_wp2_with fail
      refine ⟨⟨j + 1, by go_num, Hjn.out, k + nq, rfl⟩, ?_⟩
      have := Hjn.out
      simp [intOf]
      omega
    case neg =>
      obtain rfl : j = m := by omega
      go_wp2_with fail
      go_ret
      exact ⟨rfl, below_drewN B4.out k⟩
theorem lexBlanks_str (x : ByteArray) (p : List UInt8) (A : Option Addr) (c : Nat) (w : World) (hp : Bytes w A p) : Calls Tryd.prog 8 #[.string x, .slice A p.length c] w fun e w' => e = .returned (.bool true) ∧ Below w.heap.size w w' := by
  obtain ⟨s, rfl⟩ := str_bytes x
  exact lexBlanks_walk s p A c w hp
set_option maxRecDepth 100000 in
theorem lexBlanks_lifted (os : Os) (started : os.Started) (H : Type) (enc : TypeId × Value → H) :
    ReturnsInHanded {} Tryd.checked os 8 .any (fun w args => (Rows.lexBlanksSpec.pre enc Tryd.prog Tryd.f8 Rows.lexBlanksRow.domain false w args ∧ laidMetH Tryd.prog Rows.lexBlanksRow.laid w) ∧ sizedMet enc Tryd.prog Tryd.f8 (OpenSpec.ofChange Rows.lexBlanksSpec) false w args)
      (Rows.lexBlanksSpec.post enc Tryd.prog Tryd.f8 false true false false) := by
  refine returnsInHanded_of_change_and (C := Tryd.checked) (X := fun w _ => laidMetH Tryd.prog Rows.lexBlanksRow.laid w) (fun _ _ _ hh h => h.of_heap hh) own0 started (by kernel_rfl) Tryd.func8
    (ChangeSpec.witness_shaped (enc := enc) (C := Tryd.checked) (os := os) (X := fun w _ => laidMetH Tryd.prog Rows.lexBlanksRow.laid w) false (World.laidAll Tryd.prog os Rows.lexBlanksRow.laid) #[.string ⟨#[]⟩, .slice none 0 0] 8 (World.laidAll_os _ _ _)
      (World.shaped_of_ZipB (by kernel_rfl) (by kernel_rfl)) (by kernel_rfl) (by kernel_rfl) (by kernel_rfl)
      (by rw [MakeChecks.laidMetH_plain _ _ _ (by kernel_rfl)]; exact laidMet_laidAll _ (by kernel_rfl) (by kernel_rfl))) ?_
  intro W base args ds gs before hval0 hW _ hsz0 _ _
  have hsz : (DataW.weightsEach Tryd.prog (Tryd.f8.params.toList ++ Rows.lexBlanksSpec.plain.varTypes Tryd.prog) (ds ++ gs)).all (· ≤ reachBytes) = true := hsz0
  have hval : ∀ (j : Nat) t v, Tryd.f8.params[j]? = some t → args[j]? = some v → Value.okWide Tryd.prog W .any base t v := hval0
  have hW' := hW
  obtain ⟨p, q, hA0, hV, rfl, hfz, hnd⟩ := hW
  have hA : DataW.TrodAll enc Tryd.prog W 0 (fun _ => true) true Tryd.f8.params.toList args.toList ds p := hA0
  rw [Tryd.params8] at hA hval hsz
  obtain ⟨v0, v1, d0, d1, p0, p1, rfl, rfl, rfl, h0, h1⟩ := trodAll_two hA
  obtain ⟨rfl, rfl⟩ := trodVars_none hV
  obtain ⟨x0, rfl, rfl, rfl, w0⟩ := Go.ChangeMaps.open_string Tryd.underlying9 (hval 0 9 v0 rfl rfl) h0
  have r0 : x0.data.toList.length ≤ reachBytes := sized_string hsz (j := 0) (t := 9) rfl rfl
  obtain ⟨A1, c1, l1, rfl, b1, m1⟩ := open_bytes Tryd.underlying35 Tryd.underlying5 (by kernel_rfl) (hval 1 35 v1 rfl rfl) h1
  clear hA0 hval0
  refine (lexBlanks_str x0 l1 A1 c1 W b1).mono fun e W' ⟨he, hb⟩ => ?_
  subst he
  exact ⟨_, rfl, law_close laid0 Tryd.underlying4 rfl rfl (by rw [Tryd.params8]; decide +kernel) hW' (fun gs hg => by subst hg; rfl) hb⟩

theorem lexBlanks_holds : Rows.LexBlanksSaid :=
  OpenClaim.holds_of_wide 8 Tryd.f8 rfl rfl rfl rfl rfl rfl rfl ⟨rfl, rfl, rfl, rfl, rfl⟩ rfl rfl rfl rfl rfl (by kernel_rfl) Tryd.func8 (by kernel_rfl)
    (of_decide_eq_true (by kernel_rfl)) (by unfold Func.isWrapper; first | (rw [if_pos (by decide +kernel)]; kernel_rfl) | (rw [if_neg (by decide +kernel)]; exact ⟨rfl, rfl⟩))
    (fun os started H enc _ => lexBlanks_lifted os started H enc)

theorem lexBlanks_card : Rows.LexBlanksCardSaid :=
  Claim7.holds_tied_plain_at .later [] [.data, .data, .data, .sentinel, .sentinel] true (true, "e4bfb0f06945ad57cbe129f0a800df575de38e037401972ea3686dcdf7ec80d3") true
    lexBlanks_holds (fun _ h => by cases h) (by kernel_rfl) (fun _ h => by cases h) lexBlanks_row_tie rfl ⟨rfl, rfl⟩ (by kernel_rfl) rfl
    (fun f fn hf hfn => by
      obtain rfl : f = 8 := Option.some.inj ((show Tryd.prog.funcNamed "columbary/columbarylaw05.LexBlanks" = some 8 by kernel_rfl).symm.trans hf) |>.symm
      obtain rfl : fn = Tryd.f8 := (Option.some.inj (Tryd.func8.symm.trans hfn)).symm
      exact ⟨by kernel_rfl, fun j t ht => by
        rw [Tryd.params8] at ht
        have hm : t ∈ [9,35] := by
          have h := Array.mem_of_getElem? ht
          simp only [List.mem_toArray, List.mem_cons, List.not_mem_nil, or_false] at h ⊢
          simpa using h
        have hall : ([9,35].all fun u => !Tryd.prog.wantsStandIn u) = true := by kernel_rfl
        exact (show Tryd.prog.wantsStandIn t = false by simpa using List.all_eq_true.1 hall t hm)⟩)
    (by kernel_rfl)
end Go.Proofs.YtfbkmjjcopjoeaaDoor
