/- the tokens of a text, texts in quotes apart, written with blanks between, are the same tokens: for every input the law LexAgain answers true, and leaves what came in as it was. -/
import Derived.Test.YtfbkmjjcopjoeaaDoorNq
import Derived.Test.YtfbkmjjcopjoeaaDoorLaw
import Derived.Test.YtfbkmjjcopjoeaaDoorRows
import Derived.Test.YtfbkmjjcopjoeaaDoorCards
import Derived.Test.YtfbkmjjcopjoeaaDoorTie
import Derived.Test.YtfbkmjjcopjoeaaDoorChecked
import Derived.ProofKit
import Derived.OpenShut
import Derived.LaidMore
import Derived.Lay
import Derived.SevenTiedAt
import Derived.Stop.Joined
namespace Go.Proofs.YtfbkmjjcopjoeaaDoor
open Go.RowKit Go.ChangeShapes Go.WideShapes

set_option maxRecDepth 100000 in
set_option maxHeartbeats 8000000 in
theorem lexAgain_walk (s : List UInt8) (w : World) : Calls Tryd.prog 9 #[.string ⟨s.toArray⟩] w fun e w' => e = .returned (.bool true) ∧ Below w.heap.size w w' := by
  have hsz : (⟨s.toArray⟩ : ByteArray).size = s.length := rfl
  go_enter Tryd.func9, Tryd.ntmps9
  go_wp2_with fail
  refine (awake_any w).mono ?_
  rintro e w1 ⟨rfl, hb⟩
  have B1 := hide hb
  clear hb
  by_cases h600 : 600 < s.length
  case pos =>
    go_wp2_with fail
    refine (awake_any w1).mono ?_
    rintro e w2 ⟨rfl, hb⟩
    have B2 := hide (B1.out.trans (hb.mono B1.out.size))
    clear hb
    go_wp2_with fail
    go_ret
    exact ⟨rfl, B2.out⟩
  have hle : s.length ≤ 600 := by omega
  obtain ⟨R, hR⟩ : ∃ R, Lx.lexL s = R := ⟨_, rfl⟩
  have HR := hide hR
  have Hle := hide hle
  clear hR hle
  go_wp2_with fail
  refine (toks_all s w1).mono ?_
  rintro e w2 ⟨ho, hb⟩
  rw [HR.out] at ho
  have B2 := hide (B1.out.trans (hb.mono B1.out.size))
  clear hb h600
  cases R with
  | inr p =>
    obtain rfl : e = _ := ho
    have hez := ez_false (lex_err HR.out).1
    go_wp2_with fail
    go_ret
    exact ⟨rfl, B2.out⟩
  | inl ts =>
    obtain ⟨A, c, rfl, hrow, _⟩ := ho
    obtain ⟨n, hn⟩ : ∃ n, ts.length = n := ⟨_, rfl⟩
    have HA2 := hide hrow.at_
    have Hn := hide hn
    have hcov := (lex_bound HR.out).2
    have Hcov := hide hcov
    have hnl : n ≤ 2001 := by
      have h2 := toks_count ts 2000 (lex_at HR.out) hcov.rise
      omega
    have Hnl := hide hnl
    rw [hn]
    clear hrow hn hcov hsz
    go_wp2_with fail
    go_loopw [6, 7] (fun tv iv wr => ∃ i : Nat, iv = .int .i64 (i : Int) ∧ tv = .string ⟨(Lx.flatB (ts.take i)).toArray⟩ ∧ i ≤ n ∧ (∀ t ∈ ts.take i, t.kind ≠ 3) ∧ w2 = wr) (fun _ iv _ => n - (intOf iv).toNat)
    case atStart => exact ⟨0, rfl, rfl, Nat.zero_le _, by simp, rfl⟩
    case round =>
    obtain ⟨i, rfl, rfl, hi, hk3, rfl⟩ := hrel
    by_cases hin : i < n
    case pos =>
      obtain ⟨t, ht⟩ : ∃ t, ts[i]? = some t := ⟨_, List.getElem?_eq_getElem (by rw [Hn.out]; exact hin)⟩
      obtain ⟨g, o, rfl, a0, a1, _, _⟩ := HA2.out.get ht
      by_cases hk : t.kind = 3
      case pos =>
        have hz : ((t.kind : Int) == 3) = true := by rw [hk]; rfl
        clear hk ht hk3 a1
        go_wp2_with fail
        go_ret
        exact ⟨rfl, B2.out⟩
      have hz : ((t.kind : Int) == 3) = false := by rw [beq_eq_false_iff_ne]; omega
      have hk4 : ∀ u ∈ ts.take (i + 1), u.kind ≠ 3 := by
        rw [List.take_add_one, ht]
        intro u hu
        rcases List.mem_append.1 hu with h | h
        · exact hk3 u h
        · simp only [Option.toList_some, List.mem_singleton] at h
          rw [h]; exact hk
      have htl := text_le Hcov.out t (List.mem_of_getElem? ht) hk
      have hfl : (Lx.flatB (ts.take i)).length ≤ i * (600 + 1) := by
        have h := flat_len 600 (ts.take i) (fun u hu => Nat.le_trans (text_le Hcov.out u (List.mem_of_mem_take hu) (hk3 u hu)) Hle.out)
        rw [List.length_take] at h
        exact Nat.le_trans h (Nat.mul_le_mul_right _ (Nat.min_le_left _ _))
      have hnx := flat_take ht
      obtain ⟨fl, hfl0⟩ : ∃ fl, Lx.flatB (ts.take i) = fl := ⟨_, rfl⟩
      rw [hfl0] at hfl hnx
      obtain ⟨tx, htx⟩ : ∃ tx, t.text = tx := ⟨_, rfl⟩
      rw [htx] at a1 htl hnx
      have Hnx := hide hnx
      have hf9 : fl.length ≤ 2001 * 601 := Nat.le_trans hfl (Nat.mul_le_mul_right _ (by have := Hnl.out; omega))
      have ht9 : tx.length ≤ 600 := Nat.le_trans htl Hle.out
      have hcat1 : (⟨tx.toArray⟩ : ByteArray) ++ (⟨#[32]⟩ : ByteArray) = ⟨(tx ++ [32]).toArray⟩ := ba_cat tx [32]
      have hcat2 : (⟨fl.toArray⟩ : ByteArray) ++ (⟨(tx ++ [32]).toArray⟩ : ByteArray) = ⟨(fl ++ (tx ++ [32])).toArray⟩ := ba_cat fl (tx ++ [32])
      have hz1 : (⟨tx.toArray⟩ : ByteArray).size = tx.length := rfl
      have hz2 : (⟨fl.toArray⟩ : ByteArray).size = fl.length := rfl
      have hz3 : (⟨(tx ++ [32]).toArray⟩ : ByteArray).size = tx.length + 1 := by show (tx ++ [32]).length = _; simp
      have hz4 : (⟨#[32]⟩ : ByteArray).size = 1 := rfl
      have hl1 : ¬ 9223372036854775807 < tx.length + 1 := by omega
      have hl2 : ¬ 9223372036854775807 < fl.length + (tx.length + 1) := by omega
      have Hk4 := hide hk4
      have Hin := hide hin
      rw [hfl0]
      clear hk ht hk3 hk4 htl hfl hnx hfl0 htx hf9 ht9
      go_wp2_with fail
      go_roundw
      case rel => exact ⟨i + 1, by go_num, by rw [Hnx.out], Hin.out, Hk4.out, by first | rfl | trivial⟩
      case measure => simp [intOf]; omega
    case neg =>
    obtain rfl : i = n := by omega
    have hall : ts.take i = ts := List.take_of_length_le (by rw [Hn.out]; exact Nat.le_refl _)
    rw [hall] at hk3 ⊢
    have hag := Lx.again (s.length + 1) s 0 ts (by omega) (by rw [← lexL_all (by have := Hle.out; omega)]; exact HR.out) hk3
    obtain ⟨fl, hfl0⟩ : ∃ fl, Lx.flatB ts = fl := ⟨_, rfl⟩
    rw [hfl0] at hag ⊢
    obtain ⟨hfl, hag⟩ := hag
    obtain ⟨us, hus, hmap⟩ := hag 0
    have hR2 : Lx.lexL fl = .inl us := by rw [lexL_all (by have := Hle.out; omega)]; exact hus
    have HR2 := hide hR2
    have Hmap := hide hmap
    have Hnu := hide (show us.length = i from by have := congrArg List.length hmap; simp only [List.length_map] at this; rw [this]; exact Hn.out)
    clear hall hk3 hfl0 hfl hag hus hmap hR2 hin hi
    go_wp2_with fail
    refine (toks_all fl w2).mono ?_
    rintro e w3 ⟨ho, hb⟩
    rw [HR2.out] at ho
    obtain ⟨A', c', rfl, hrow, _⟩ := ho
    rw [Hnu.out]
    have HB3 := hide hrow.at_
    have HA3 := hide (HA2.out.below hb)
    have B3 := hide (B2.out.trans (hb.mono B2.out.size))
    clear hrow hb
    go_wp2_with fail
    go_loopw [11] (fun jv wr => ∃ j : Nat, jv = .int .i64 (j : Int) ∧ j ≤ i ∧ ∃ k, w3.drewN k = wr) (fun jv _ => i - (intOf jv).toNat)
    case atStart => exact ⟨0, rfl, Nat.zero_le _, 0, rfl⟩
    case round =>
    obtain ⟨j, rfl, hj, k, rfl⟩ := hrel
    by_cases hjn : j < i
    case pos =>
      obtain ⟨t, ht⟩ : ∃ t, ts[j]? = some t := ⟨_, List.getElem?_eq_getElem (by rw [Hn.out]; exact hjn)⟩
      obtain ⟨u, hu, e1, e2, e3⟩ := map_get Hmap.out ht
      obtain ⟨g, o, rfl, a0, a1, a2, _⟩ := HA3.out.get ht
      obtain ⟨g', o', rfl, b0, b1, b2, _⟩ := HB3.out.get hu
      rw [e1] at b0
      rw [e2] at b1
      rw [e3] at b2
      obtain ⟨kd, tx, nn, at_⟩ := t
      simp only at a0 a1 a2 b0 b1 b2
      have Hjn := hide hjn
      clear ht hu e1 e2 e3
      go_upto_region 19 with fail
      go_quiet (fail)
      clear a0 a1 a2 b0 b1 b2
      go_wp2_with fail
      refine ⟨⟨j + 1, by go_num, Hjn.out, k + nq, rfl⟩, ?_⟩
      have := Hjn.out
      simp [intOf]
      omega
    case neg =>
      obtain rfl : j = i := by omega
      go_wp2_with fail
      go_ret
      exact ⟨rfl, below_drewN B3.out k⟩
theorem lexAgain_str (x : ByteArray) (w : World) : Calls Tryd.prog 9 #[.string x] w fun e w' => e = .returned (.bool true) ∧ Below w.heap.size w w' := by
  obtain ⟨s, rfl⟩ := str_bytes x
  exact lexAgain_walk s w
set_option maxRecDepth 100000 in
theorem lexAgain_lifted (os : Os) (started : os.Started) (H : Type) (enc : TypeId × Value → H) :
    ReturnsInHanded {} Tryd.checked os 9 .any (fun w args => (Rows.lexAgainSpec.pre enc Tryd.prog Tryd.f9 Rows.lexAgainRow.domain false w args ∧ laidMetH Tryd.prog Rows.lexAgainRow.laid w) ∧ sizedMet enc Tryd.prog Tryd.f9 (OpenSpec.ofChange Rows.lexAgainSpec) false w args)
      (Rows.lexAgainSpec.post enc Tryd.prog Tryd.f9 false true false false) := by
  refine returnsInHanded_of_change_and (C := Tryd.checked) (X := fun w _ => laidMetH Tryd.prog Rows.lexAgainRow.laid w) (fun _ _ _ hh h => h.of_heap hh) own0 started (by kernel_rfl) Tryd.func9
    (ChangeSpec.witness_shaped (enc := enc) (C := Tryd.checked) (os := os) (X := fun w _ => laidMetH Tryd.prog Rows.lexAgainRow.laid w) false (World.laidAll Tryd.prog os Rows.lexAgainRow.laid) #[.string ⟨#[]⟩] 8 (World.laidAll_os _ _ _)
      (World.shaped_of_ZipB (by kernel_rfl) (by kernel_rfl)) (by kernel_rfl) (by kernel_rfl) (by kernel_rfl)
      (by rw [MakeChecks.laidMetH_plain _ _ _ (by kernel_rfl)]; exact laidMet_laidAll _ (by kernel_rfl) (by kernel_rfl))) ?_
  intro W base args ds gs before hval0 hW _ hsz0 _ _
  have hsz : (DataW.weightsEach Tryd.prog (Tryd.f9.params.toList ++ Rows.lexAgainSpec.plain.varTypes Tryd.prog) (ds ++ gs)).all (· ≤ reachBytes) = true := hsz0
  have hval : ∀ (j : Nat) t v, Tryd.f9.params[j]? = some t → args[j]? = some v → Value.okWide Tryd.prog W .any base t v := hval0
  have hW' := hW
  obtain ⟨p, q, hA0, hV, rfl, hfz, hnd⟩ := hW
  have hA : DataW.TrodAll enc Tryd.prog W 0 (fun _ => true) true Tryd.f9.params.toList args.toList ds p := hA0
  rw [Tryd.params9] at hA hval hsz
  obtain ⟨v0, d0, rfl, rfl, h0⟩ := trodAll_one hA
  obtain ⟨rfl, rfl⟩ := trodVars_none hV
  obtain ⟨x0, rfl, rfl, rfl, w0⟩ := Go.ChangeMaps.open_string Tryd.underlying9 (hval 0 9 v0 rfl rfl) h0
  have r0 : x0.data.toList.length ≤ reachBytes := sized_string hsz (j := 0) (t := 9) rfl rfl
  clear hA0 hval0
  refine (lexAgain_str x0 W).mono fun e W' ⟨he, hb⟩ => ?_
  subst he
  exact ⟨_, rfl, law_close laid0 Tryd.underlying4 rfl rfl (by rw [Tryd.params9]; decide +kernel) hW' (fun gs hg => by subst hg; rfl) hb⟩

theorem lexAgain_holds : Rows.LexAgainSaid :=
  OpenClaim.holds_of_wide 9 Tryd.f9 rfl rfl rfl rfl rfl rfl rfl ⟨rfl, rfl, rfl, rfl, rfl⟩ rfl rfl rfl rfl rfl (by kernel_rfl) Tryd.func9 (by kernel_rfl)
    (of_decide_eq_true (by kernel_rfl)) (by unfold Func.isWrapper; first | (rw [if_pos (by decide +kernel)]; kernel_rfl) | (rw [if_neg (by decide +kernel)]; exact ⟨rfl, rfl⟩))
    (fun os started H enc _ => lexAgain_lifted os started H enc)

theorem lexAgain_card : Rows.LexAgainCardSaid :=
  Claim7.holds_tied_plain_at .later [] [.data, .data, .data, .sentinel, .sentinel] true (true, "e4bfb0f06945ad57cbe129f0a800df575de38e037401972ea3686dcdf7ec80d3") true
    lexAgain_holds (fun _ h => by cases h) (by kernel_rfl) (fun _ h => by cases h) lexAgain_row_tie rfl ⟨rfl, rfl⟩ (by kernel_rfl) rfl
    (fun f fn hf hfn => by
      obtain rfl : f = 9 := Option.some.inj ((show Tryd.prog.funcNamed "columbary/columbarylaw05.LexAgain" = some 9 by kernel_rfl).symm.trans hf) |>.symm
      obtain rfl : fn = Tryd.f9 := (Option.some.inj (Tryd.func9.symm.trans hfn)).symm
      exact ⟨by kernel_rfl, fun j t ht => by
        rw [Tryd.params9] at ht
        have hm : t ∈ [9] := by
          have h := Array.mem_of_getElem? ht
          simp only [List.mem_toArray, List.mem_cons, List.not_mem_nil, or_false] at h ⊢
          simpa using h
        have hall : ([9].all fun u => !Tryd.prog.wantsStandIn u) = true := by kernel_rfl
        exact (show Tryd.prog.wantsStandIn t = false by simpa using List.all_eq_true.1 hall t hm)⟩)
    (by kernel_rfl)
end Go.Proofs.YtfbkmjjcopjoeaaDoor
