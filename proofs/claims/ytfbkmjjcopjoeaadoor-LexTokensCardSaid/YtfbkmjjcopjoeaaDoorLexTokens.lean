/- any text as tokens, or the first place at fault, as the document's own lexer has it: for every input the law LexTokens answers true, and leaves what came in as it was. -/
import Derived.Test.YtfbkmjjcopjoeaaDoorNp
import Derived.Test.YtfbkmjjcopjoeaaDoorLaw
import Derived.Test.YtfbkmjjcopjoeaaDoorRows
import Derived.Test.YtfbkmjjcopjoeaaDoorCards
import Derived.Test.YtfbkmjjcopjoeaaDoorTie
import Derived.Test.YtfbkmjjcopjoeaaDoorChecked
import Derived.ProofKit
import Derived.OpenShut
import Derived.LaidMore
import Derived.Lay
import Derived.SevenTiedAt
import Derived.Stop.Joined
namespace Go.Proofs.YtfbkmjjcopjoeaaDoor
open Go.RowKit Go.ChangeShapes Go.WideShapes

set_option maxRecDepth 100000 in
set_option maxHeartbeats 4000000 in
theorem lexTokens_walk (s : List UInt8) (w : World) : Calls Tryd.prog 3 #[.string ⟨s.toArray⟩] w fun e w' => e = .returned (.bool true) ∧ Below w.heap.size w w' := by
  obtain ⟨R, hR⟩ : ∃ R, Lx.lexL s = R := ⟨_, rfl⟩
  have HR := hide hR
  clear hR
  go_enter Tryd.func3, Tryd.ntmps3
  go_wp2_with fail
  refine (awake_any w).mono ?_
  rintro e w1 ⟨rfl, hb⟩
  have B1 := hide hb
  clear hb
  go_wp2_with fail
  refine (toks_all s w1).mono ?_
  rintro e w2 ⟨ho, hb⟩
  rw [HR.out] at ho
  have B2 := hide (B1.out.trans (hb.mono B1.out.size))
  clear hb
  cases R with
  | inl ts =>
    obtain ⟨A, c, rfl, hrow, _⟩ := ho
    obtain ⟨n, hn⟩ : ∃ n, ts.length = n := ⟨_, rfl⟩
    have HA2 := hide hrow.at_
    have Hn := hide hn
    rw [hn]
    clear hrow hn
    go_wp2_with fail
    refine (rtoks_all s w2).mono ?_
    rintro e w3 ⟨ho, hb⟩
    rw [HR.out] at ho
    obtain ⟨A', c', rfl, hrow, _⟩ := ho
    rw [Hn.out]
    have HB3 := hide hrow.at_
    have HA3 := hide (HA2.out.below hb)
    have B3 := hide (B2.out.trans (hb.mono B2.out.size))
    have hat := lex_at HR.out
    have hnl : n ≤ 100000 := by
      have h1 := (lex_bound HR.out).2.rise
      have h2 := toks_count ts 2000 (lex_at HR.out) h1
      rw [Hn.out] at h2
      omega
    have Hs := hide (same_any ts 0 A A' n c c' w3 Hn.out (by rw [shift_zero]; exact HA3.out) HB3.out (fun t ht => Nat.le_trans (hat t ht) (by omega)) (by omega) hnl)
    clear hrow hb hat hnl
    go_wp2_with fail
    refine Hs.out.mono ?_
    rintro e w4 ⟨rfl, k, rfl⟩
    go_wp2_with fail
    go_ret
    exact ⟨rfl, below_drewN B3.out k⟩
  | inr p =>
    obtain rfl : e = _ := ho
    go_wp2_with fail
    refine (rtoks_all s w2).mono ?_
    rintro e w3 ⟨ho, hb⟩
    rw [HR.out] at ho
    obtain rfl : e = _ := ho
    have B3 := hide (B2.out.trans (hb.mono B2.out.size))
    have Hs := hide (same_any [] 0 none none 0 0 0 w3 rfl (.inl rfl) (.inl rfl) (by simp) (by omega) (by omega))
    clear hb
    go_wp2_with fail
    refine Hs.out.mono ?_
    rintro e w4 ⟨rfl, k, rfl⟩
    go_wp2_with fail
    go_ret
    exact ⟨rfl, below_drewN B3.out k⟩
theorem lexTokens_str (x : ByteArray) (w : World) : Calls Tryd.prog 3 #[.string x] w fun e w' => e = .returned (.bool true) ∧ Below w.heap.size w w' := by
  obtain ⟨s, rfl⟩ := str_bytes x
  exact lexTokens_walk s w
set_option maxRecDepth 100000 in
theorem lexTokens_lifted (os : Os) (started : os.Started) (H : Type) (enc : TypeId × Value → H) :
    ReturnsInHanded {} Tryd.checked os 3 .any (fun w args => (Rows.lexTokensSpec.pre enc Tryd.prog Tryd.f3 Rows.lexTokensRow.domain false w args ∧ laidMetH Tryd.prog Rows.lexTokensRow.laid w) ∧ sizedMet enc Tryd.prog Tryd.f3 (OpenSpec.ofChange Rows.lexTokensSpec) false w args)
      (Rows.lexTokensSpec.post enc Tryd.prog Tryd.f3 false true false false) := by
  refine returnsInHanded_of_change_and (C := Tryd.checked) (X := fun w _ => laidMetH Tryd.prog Rows.lexTokensRow.laid w) (fun _ _ _ hh h => h.of_heap hh) own0 started (by kernel_rfl) Tryd.func3
    (ChangeSpec.witness_shaped (enc := enc) (C := Tryd.checked) (os := os) (X := fun w _ => laidMetH Tryd.prog Rows.lexTokensRow.laid w) false (World.laidAll Tryd.prog os Rows.lexTokensRow.laid) #[.string ⟨#[]⟩] 8 (World.laidAll_os _ _ _)
      (World.shaped_of_ZipB (by kernel_rfl) (by kernel_rfl)) (by kernel_rfl) (by kernel_rfl) (by kernel_rfl)
      (by rw [MakeChecks.laidMetH_plain _ _ _ (by kernel_rfl)]; exact laidMet_laidAll _ (by kernel_rfl) (by kernel_rfl))) ?_
  intro W base args ds gs before hval0 hW _ hsz0 _ _
  have hsz : (DataW.weightsEach Tryd.prog (Tryd.f3.params.toList ++ Rows.lexTokensSpec.plain.varTypes Tryd.prog) (ds ++ gs)).all (· ≤ reachBytes) = true := hsz0
  have hval : ∀ (j : Nat) t v, Tryd.f3.params[j]? = some t → args[j]? = some v → Value.okWide Tryd.prog W .any base t v := hval0
  have hW' := hW
  obtain ⟨p, q, hA0, hV, rfl, hfz, hnd⟩ := hW
  have hA : DataW.TrodAll enc Tryd.prog W 0 (fun _ => true) true Tryd.f3.params.toList args.toList ds p := hA0
  rw [Tryd.params3] at hA hval hsz
  obtain ⟨v0, d0, rfl, rfl, h0⟩ := trodAll_one hA
  obtain ⟨rfl, rfl⟩ := trodVars_none hV
  obtain ⟨x0, rfl, rfl, rfl, w0⟩ := Go.ChangeMaps.open_string Tryd.underlying9 (hval 0 9 v0 rfl rfl) h0
  have r0 : x0.data.toList.length ≤ reachBytes := sized_string hsz (j := 0) (t := 9) rfl rfl
  clear hA0 hval0
  refine (lexTokens_str x0 W).mono fun e W' ⟨he, hb⟩ => ?_
  subst he
  exact ⟨_, rfl, law_close laid0 Tryd.underlying4 rfl rfl (by rw [Tryd.params3]; decide +kernel) hW' (fun gs hg => by subst hg; rfl) hb⟩

theorem lexTokens_holds : Rows.LexTokensSaid :=
  OpenClaim.holds_of_wide 3 Tryd.f3 rfl rfl rfl rfl rfl rfl rfl ⟨rfl, rfl, rfl, rfl, rfl⟩ rfl rfl rfl rfl rfl (by kernel_rfl) Tryd.func3 (by kernel_rfl)
    (of_decide_eq_true (by kernel_rfl)) (by unfold Func.isWrapper; first | (rw [if_pos (by decide +kernel)]; kernel_rfl) | (rw [if_neg (by decide +kernel)]; exact ⟨rfl, rfl⟩))
    (fun os started H enc _ => lexTokens_lifted os started H enc)

theorem lexTokens_card : Rows.LexTokensCardSaid :=
  Claim7.holds_tied_plain_at .later [] [.data, .data, .data, .sentinel, .sentinel] true (true, "e4bfb0f06945ad57cbe129f0a800df575de38e037401972ea3686dcdf7ec80d3") true
    lexTokens_holds (fun _ h => by cases h) (by kernel_rfl) (fun _ h => by cases h) lexTokens_row_tie rfl ⟨rfl, rfl⟩ (by kernel_rfl) rfl
    (fun f fn hf hfn => by
      obtain rfl : f = 3 := Option.some.inj ((show Tryd.prog.funcNamed "columbary/columbarylaw05.LexTokens" = some 3 by kernel_rfl).symm.trans hf) |>.symm
      obtain rfl : fn = Tryd.f3 := (Option.some.inj (Tryd.func3.symm.trans hfn)).symm
      exact ⟨by kernel_rfl, fun j t ht => by
        rw [Tryd.params3] at ht
        have hm : t ∈ [9] := by
          have h := Array.mem_of_getElem? ht
          simp only [List.mem_toArray, List.mem_cons, List.not_mem_nil, or_false] at h ⊢
          simpa using h
        have hall : ([9].all fun u => !Tryd.prog.wantsStandIn u) = true := by kernel_rfl
        exact (show Tryd.prog.wantsStandIn t = false by simpa using List.all_eq_true.1 hall t hm)⟩)
    (by kernel_rfl)
end Go.Proofs.YtfbkmjjcopjoeaaDoor
