/- two texts with an end of line between them have the tokens of both: for every input the law LexJoins answers true, and leaves what came in as it was. -/
import Derived.Test.YtfbkmjjcopjoeaaDoorNq
import Derived.Test.YtfbkmjjcopjoeaaDoorLaw
import Derived.Test.YtfbkmjjcopjoeaaDoorRows
import Derived.Test.YtfbkmjjcopjoeaaDoorCards
import Derived.Test.YtfbkmjjcopjoeaaDoorTie
import Derived.Test.YtfbkmjjcopjoeaaDoorChecked
import Derived.ProofKit
import Derived.OpenShut
import Derived.LaidMore
import Derived.Lay
import Derived.SevenTiedAt
import Derived.Stop.Joined
namespace Go.Proofs.YtfbkmjjcopjoeaaDoor
open Go.RowKit Go.ChangeShapes Go.WideShapes

/-- A slice of tokens, from one on. -/
theorem wpList_slice_tok {P : Program} {w : World} {A : Option Addr} {n c m : Nat} {ops : Array Oper} {rest : List Oper} {o : Oper} {a : Act} {Q : Exit → Act → World → Prop} (hgd : o.guard = none) (s x : Operand) (t : TypeId)
    (ho : o.op = .slice t s (some x) none none) (ht : P.underlying t = some (.slice (P.elem t))) (hi : (P.info? (P.elem t)).map (·.size) = some 4)
    (hs : a.eval s = .slice A n c) (hx : a.eval x = .int .i64 (m : Int)) (hm : m < n) (hc : n ≤ c)
    (h : wpList P ops Q rest (a.put o.dst (.slice (A.map (·.add (m * 4))) (n - m) (c - m))) w) : wpList P ops Q (o :: rest) a w := by
  obtain ⟨i, hi', hz⟩ := Option.map_eq_some_iff.1 hi
  have hr : (Instr.sliceAt t (.slice A n c) (some (.int .i64 (m : Int))) none none).run P w = .ok (.slice (A.map (·.add (m * 4))) (n - m) (c - m)) w := by
    rw [run_sliceAt_slice (h := ht), run_slice_l (ht := ht) (h0 := by omega) (h1 := by omega)]
    have hne : ¬ c = m := by omega
    simp [sizeOf, typeInfo, hi', hz, sliced, Result.andThen, hne]
  refine wpList_plain hgd fun K hK => ?_
  unfold Oper.wp execOp
  simp only [ho, Option.map_some, Option.map_none, hs, hx, Sem.run_bind, Sem.run_pure, Result.andThen_ok, hr]
  exact hK _ _ h
theorem RowAt.from_ {w : World} {A : Option Addr} {ts : List Lx.Tok} (h : RowAt w A ts) (m : Nat) : RowAt w (A.map (·.add (m * 4))) (ts.drop m) := by
  rcases h with rfl | ⟨g, o, rfl, hg, h⟩
  · exact .inl (by simp)
  · refine .inr ⟨g, o + m * 4, by simp [Addr.add], hg, fun j t i v h1 h2 => ?_⟩
    rw [List.getElem?_drop] at h1
    have := h (m + j) t i v h1 h2
    rw [show o + m * 4 + j * 4 + i = o + (m + j) * 4 + i by omega]
    exact this
theorem TokRow.cap {T : TypeId} {w : World} {A : Option Addr} {c : Nat} {ts : List Lx.Tok} (h : TokRow T w A c ts) (h0 : 0 < ts.length) : ts.length ≤ c := by
  rcases h.2 with ⟨_, hn⟩ | ⟨g, cap, cur, he, _, _, hc, _, _, _⟩
  · omega
  · injection he with h1 h2 h3
    omega
set_option maxRecDepth 100000 in
set_option maxHeartbeats 8000000 in
theorem lexJoins_walk (a b : List UInt8) (w : World) (ha : a.length ≤ 140737488351232) (hb : b.length ≤ 140737488351232) : Calls Tryd.prog 4 #[.string ⟨a.toArray⟩, .string ⟨b.toArray⟩] w fun e w' => e = .returned (.bool true) ∧ Below w.heap.size w w' := by
  have hza : (⟨a.toArray⟩ : ByteArray).size = a.length := rfl
  have hzb : (⟨b.toArray⟩ : ByteArray).size = b.length := rfl
  go_enter Tryd.func4, Tryd.ntmps4
  go_wp2_with fail
  refine (awake_any w).mono ?_
  rintro e w1 ⟨rfl, hb1⟩
  have B1 := hide hb1
  clear hb1
  by_cases hl : 1999 < a.length + b.length
  case pos =>
    go_wp2_with fail
    refine (awake_any w1).mono ?_
    rintro e w2 ⟨rfl, hb⟩
    have B2 := hide (B1.out.trans (hb.mono B1.out.size))
    clear hb
    go_wp2_with fail
    go_ret
    exact ⟨rfl, B2.out⟩
  have Hl := hide (show a.length + b.length ≤ 1999 from by omega)
  obtain ⟨y, hy⟩ : ∃ y, a ++ [10] ++ b = y := ⟨_, rfl⟩
  have hyl : y.length = a.length + 1 + b.length := by rw [← hy]; simp; omega
  have hc1 : (⟨a.toArray⟩ : ByteArray) ++ (⟨#[10]⟩ : ByteArray) = ⟨(a ++ [10]).toArray⟩ := ba_cat a [10]
  have hc2 : (⟨(a ++ [10]).toArray⟩ : ByteArray) ++ (⟨b.toArray⟩ : ByteArray) = ⟨y.toArray⟩ := by rw [← hy]; exact ba_cat (a ++ [10]) b
  have hz1 : (⟨(a ++ [10]).toArray⟩ : ByteArray).size = a.length + 1 := by show (a ++ [10]).length = _; simp
  have hz2 : (⟨#[10]⟩ : ByteArray).size = 1 := rfl
  have hk1 : ¬ 9223372036854775807 < a.length + 1 := by omega
  have hk2 : ¬ 9223372036854775807 < a.length + 1 + b.length := by omega
  have Hy := hide (show Lx.lexL y = Lx.allL (a ++ 10 :: b) 0 from by
    rw [lexL_all (by omega), ← hy, List.append_assoc]
    rfl)
  obtain ⟨R1, hR1⟩ : ∃ R, Lx.lexL a = R := ⟨_, rfl⟩
  obtain ⟨R2, hR2⟩ : ∃ R, Lx.lexL b = R := ⟨_, rfl⟩
  have HR1 := hide hR1
  have HR2 := hide hR2
  clear hR1 hR2 hy hyl
  go_wp2_with fail
  refine (toks_all a w1).mono ?_
  rintro e w2 ⟨ho, hb⟩
  rw [HR1.out] at ho
  have B2 := hide (B1.out.trans (hb.mono B1.out.size))
  clear hb
  cases R1 with
  | inr p =>
    obtain rfl : e = _ := ho
    have hez := ez_false (lex_err HR1.out).1
    cases R2 with
    | inr q =>
      go_wp2_with fail
      refine (rtoks_all b w2).mono ?_
      rintro e w3 ⟨ho, hb⟩
      have B3 := hide (B2.out.trans (hb.mono B2.out.size))
      clear hb
      rw [HR2.out] at ho
      obtain rfl : e = _ := ho
      cases hR3 : Lx.lexL y with
      | inr r =>
        go_wp2_with fail
        refine (toks_all y w3).mono ?_
        rintro e w4 ⟨ho, hb⟩
        rw [hR3] at ho
        obtain rfl : e = _ := ho
        have B4 := hide (B3.out.trans (hb.mono B3.out.size))
        clear hb hR3
        go_wp2_with fail
        go_ret
        exact ⟨rfl, B4.out⟩
      | inl us =>
        go_wp2_with fail
        refine (toks_all y w3).mono ?_
        rintro e w4 ⟨ho, hb⟩
        rw [hR3] at ho
        obtain ⟨A9, c9, rfl, _, _⟩ := ho
        have B4 := hide (B3.out.trans (hb.mono B3.out.size))
        clear hb hR3
        go_wp2_with fail
        go_ret
        exact ⟨rfl, B4.out⟩
    | inl vs =>
      go_wp2_with fail
      refine (rtoks_all b w2).mono ?_
      rintro e w3 ⟨ho, hb⟩
      have B3 := hide (B2.out.trans (hb.mono B2.out.size))
      clear hb
      rw [HR2.out] at ho
      obtain ⟨A8, c8, rfl, _, _⟩ := ho
      cases hR3 : Lx.lexL y with
      | inr r =>
        go_wp2_with fail
        refine (toks_all y w3).mono ?_
        rintro e w4 ⟨ho, hb⟩
        rw [hR3] at ho
        obtain rfl : e = _ := ho
        have B4 := hide (B3.out.trans (hb.mono B3.out.size))
        clear hb hR3
        go_wp2_with fail
        go_ret
        exact ⟨rfl, B4.out⟩
      | inl us =>
        go_wp2_with fail
        refine (toks_all y w3).mono ?_
        rintro e w4 ⟨ho, hb⟩
        rw [hR3] at ho
        obtain ⟨A9, c9, rfl, _, _⟩ := ho
        have B4 := hide (B3.out.trans (hb.mono B3.out.size))
        clear hb hR3
        go_wp2_with fail
        go_ret
        exact ⟨rfl, B4.out⟩
  | inl ts =>
    obtain ⟨ks, hts, hjoin⟩ := Lx.allL_join (a.length + 1) a b 0 ts (by omega) (by rw [← lexL_all (by have := Hl.out; omega)]; exact HR1.out)
    have hb0 : Lx.allL b 0 = R2 := by rw [← lexL_all (by have := Hl.out; omega)]; exact HR2.out
    rw [Nat.zero_add, show a.length + 1 = 0 + (a.length + 1) by omega, Lx.allL_shift, hb0, ← Hy.out] at hjoin
    clear hb0
    obtain ⟨A, c, rfl, hrow, _⟩ := ho
    have HA2 := hide hrow.at_
    obtain ⟨N1, hN1⟩ : ∃ n, ts.length = n := ⟨_, rfl⟩
    obtain ⟨n1, hn1⟩ : ∃ n, ks.length = n := ⟨_, rfl⟩
    have hNn : N1 = n1 + 1 := by rw [← hN1, ← hn1, hts, List.length_append]; rfl
    have Hks := hide hts
    have Hn1 := hide hn1
    have HNn := hide hNn
    rw [hN1]
    clear hrow hN1 hn1 hts hNn
    go_wp2_with fail
    refine (rtoks_all b w2).mono ?_
    rintro e w3 ⟨ho, hb⟩
    rw [HR2.out] at ho
    have B3 := hide (B2.out.trans (hb.mono B2.out.size))
    have HA3 := hide (HA2.out.below hb)
    clear hb
    cases R2 with
    | inr q =>
      obtain rfl : e = _ := ho
      have hez := ez_false (lex_err HR2.out).1
      have hql := (lex_err HR2.out).2
      have HR3 := hide (show Lx.lexL y = .inr (q.1 + (a.length + 1), q.2) from hjoin)
      clear hjoin
      go_wp2_with fail
      refine (toks_all y w3).mono ?_
      rintro e w4 ⟨ho, hb⟩
      rw [HR3.out] at ho
      obtain rfl : e = _ := ho
      have B4 := hide (B3.out.trans (hb.mono B3.out.size))
      obtain ⟨P, hP⟩ : ∃ P, q.1 + (a.length + 1) = P := ⟨_, rfl⟩
      rw [hP]
      have hP2 : (a.length : Int) + 1 + (q.1 : Int) = (P : Int) := by rw [← hP]; omega
      have hP3 : a.length + 1 + q.1 = P := by omega
      clear hb hP
      go_wp2_with fail
      go_ret
      exact ⟨rfl, B4.out⟩
    | inl us =>
      obtain ⟨A', c', rfl, hrow', _⟩ := ho
      have HB3 := hide hrow'.at_
      have HR3 := hide (show Lx.lexL y = .inl (ks ++ us.map (Lx.shiftT (a.length + 1))) from hjoin)
      obtain ⟨m, hm⟩ : ∃ m, us.length = m := ⟨_, rfl⟩
      have hm1 : 0 < m := by
        obtain ⟨kk, hkk, _⟩ := (lex_bound HR2.out).2.last
        rw [← hm, hkk]; simp
      have hml : m ≤ 2001 := by have := toks_count us 2000 (lex_at HR2.out) (lex_bound HR2.out).2.rise; omega
      have hNl : N1 ≤ 2001 := by
        have h := toks_count ts 2000 (lex_at HR1.out) (lex_bound HR1.out).2.rise
        rw [Hks.out, List.length_append, Hn1.out] at h
        have := HNn.out
        simp at h
        omega
      have Hm := hide hm
      have Hml := hide (show 0 < m ∧ m ≤ 2001 ∧ N1 ≤ 2001 from ⟨hm1, hml, hNl⟩)
      rw [hm]
      clear hrow' hjoin hm
      go_wp2_with fail
      refine (toks_all y w3).mono ?_
      rintro e w4 ⟨ho, hb⟩
      rw [HR3.out] at ho
      obtain ⟨A9, c9, rfl, hrow9, _⟩ := ho
      have HA4 := hide (HA3.out.below hb)
      have HB4 := hide (HB3.out.below hb)
      have HC4 := hide hrow9.at_
      have B4 := hide (B3.out.trans (hb.mono B3.out.size))
      obtain ⟨K, hK⟩ : ∃ K, (ks ++ us.map (Lx.shiftT (a.length + 1))).length = K := ⟨_, rfl⟩
      have hcap := hrow9.cap (by rw [List.length_append, List.length_map, Hm.out]; omega)
      rw [hK] at hcap
      have hKn : K = n1 + m := by rw [← hK, List.length_append, List.length_map, Hm.out, Hn1.out]
      rw [hK]
      have Hcap := hide hcap
      have HKn := hide hKn
      have hs1 : (N1 : Int) - 1 = (n1 : Int) := by have := HNn.out; omega
      have hs2 : (n1 : Int) + (m : Int) = (K : Int) := by omega
      have hs3 : n1 + m = K := by omega
      have hn9 : n1 ≤ 2001 := by have := HNn.out; omega
      clear hb hrow9 hK hKn hcap
      go_wp2_with fail
      have hN1 : N1 ≤ n1 + 1 := by have := HNn.out; omega
      go_loopw [14] (fun iv wr => ∃ i : Nat, iv = .int .i64 (i : Int) ∧ i ≤ n1 ∧ ∃ k, w4.drewN k = wr) (fun iv _ => n1 - (intOf iv).toNat)
      case atStart => exact ⟨0, rfl, Nat.zero_le _, 0, rfl⟩
      case round =>
      obtain ⟨i, rfl, hi, k, rfl⟩ := hrel
      by_cases hin : i < n1
      case pos =>
        obtain ⟨t, ht⟩ : ∃ t, ks[i]? = some t := ⟨_, List.getElem?_eq_getElem (by rw [Hn1.out]; exact hin)⟩
        have ht1 : ts[i]? = some t := by rw [Hks.out, List.getElem?_append_left (by rw [Hn1.out]; exact hin)]; exact ht
        have ht2 : (ks ++ us.map (Lx.shiftT (a.length + 1)))[i]? = some t := by rw [List.getElem?_append_left (by rw [Hn1.out]; exact hin)]; exact ht
        obtain ⟨g, o, rfl, a0, a1, a2, a3⟩ := HA4.out.get ht1
        obtain ⟨g', o', rfl, b0, b1, b2, b3⟩ := HC4.out.get ht2
        obtain ⟨kd, tx, nn, at_⟩ := t
        simp only at a0 a1 a2 a3 b0 b1 b2 b3
        have hlt : i + 1 < N1 := by have := HNn.out; omega
        have hik : i < K := by omega
        have hin1 : i < N1 := by omega
        have Hin := hide hin
        clear ht ht1 ht2
        go_upto_region 15 with fail
        go_quiet (fail)
        clear a0 a1 a2 a3 b0 b1 b2 b3 hlt hik hin1
        go_wp2_with fail
        refine ⟨⟨i + 1, by go_num, Hin.out, k + nq, rfl⟩, ?_⟩
        have := Hin.out
        simp [intOf]
        omega
      case neg =>
        obtain rfl : i = n1 := by omega
        have hmm : i < K := by have := Hml.out; omega
        have hKm : K - i = m := by omega
        have hA9 : RowAt (w4.drewN k) (A9.map (·.add (i * 4))) (us.map (Lx.shiftT (a.length + 1))) := by
          have h := HC4.out.from_ i
          rw [List.drop_append_of_le_length (by rw [Hn1.out]; exact Nat.le_refl _), List.drop_eq_nil_of_le (by rw [Hn1.out]; exact Nat.le_refl _), List.nil_append] at h
          exact h
        have hlb := Hl.out
        have Hs := hide (show Calls Tryd.prog 13 #[.slice (A9.map (·.add (i * 4))) m (c9 - i), .slice A' m c', .int .i64 ((a.length : Int) + 1)] (w4.drewN k) (fun e w' => e = .returned (.bool true) ∧ ∃ q, w' = (w4.drewN k).drewN q) from
          same_any us (a.length + 1) (A9.map (·.add (i * 4))) A' m (c9 - i) c' (w4.drewN k) Hm.out hA9 (HB4.out.drewN k) (fun t ht => Nat.le_trans (lex_at HR2.out t ht) (by omega)) (by omega) (by have := Hml.out; omega))
        have Hcap2 := hide (show i < K ∧ K ≤ c9 from ⟨hmm, Hcap.out⟩)
        have HKm := hide hKm
        have hnlt : ¬ i + 1 < N1 := by omega
        clear hA9 hlb hmm hKm
        go_wp2_with (refine wpList_slice_tok rfl (.tmp 92) (.tmp 95) 23 rfl Tryd.underlying23 (by kernel_rfl) rfl rfl Hcap2.out.1 Hcap2.out.2 ?_; rw [HKm.out])
        refine Hs.out.mono ?_
        rintro e w5 ⟨rfl, q, rfl⟩
        go_wp2_with fail
        go_ret
        exact ⟨rfl, below_drewN B4.out (k + q)⟩
theorem lexJoins_str (x y : ByteArray) (w : World) (hx : x.data.toList.length ≤ 140737488351232) (hy : y.data.toList.length ≤ 140737488351232) : Calls Tryd.prog 4 #[.string x, .string y] w fun e w' => e = .returned (.bool true) ∧ Below w.heap.size w w' := by
  obtain ⟨a, rfl⟩ := str_bytes x
  obtain ⟨b, rfl⟩ := str_bytes y
  exact lexJoins_walk a b w hx hy
set_option maxRecDepth 100000 in
theorem lexJoins_lifted (os : Os) (started : os.Started) (H : Type) (enc : TypeId × Value → H) :
    ReturnsInHanded {} Tryd.checked os 4 .any (fun w args => (Rows.lexJoinsSpec.pre enc Tryd.prog Tryd.f4 Rows.lexJoinsRow.domain false w args ∧ laidMetH Tryd.prog Rows.lexJoinsRow.laid w) ∧ sizedMet enc Tryd.prog Tryd.f4 (OpenSpec.ofChange Rows.lexJoinsSpec) false w args)
      (Rows.lexJoinsSpec.post enc Tryd.prog Tryd.f4 false true false false) := by
  refine returnsInHanded_of_change_and (C := Tryd.checked) (X := fun w _ => laidMetH Tryd.prog Rows.lexJoinsRow.laid w) (fun _ _ _ hh h => h.of_heap hh) own0 started (by kernel_rfl) Tryd.func4
    (ChangeSpec.witness_shaped (enc := enc) (C := Tryd.checked) (os := os) (X := fun w _ => laidMetH Tryd.prog Rows.lexJoinsRow.laid w) false (World.laidAll Tryd.prog os Rows.lexJoinsRow.laid) #[.string ⟨#[]⟩, .string ⟨#[]⟩] 8 (World.laidAll_os _ _ _)
      (World.shaped_of_ZipB (by kernel_rfl) (by kernel_rfl)) (by kernel_rfl) (by kernel_rfl) (by kernel_rfl)
      (by rw [MakeChecks.laidMetH_plain _ _ _ (by kernel_rfl)]; exact laidMet_laidAll _ (by kernel_rfl) (by kernel_rfl))) ?_
  intro W base args ds gs before hval0 hW _ hsz0 _ _
  have hsz : (DataW.weightsEach Tryd.prog (Tryd.f4.params.toList ++ Rows.lexJoinsSpec.plain.varTypes Tryd.prog) (ds ++ gs)).all (· ≤ reachBytes) = true := hsz0
  have hval : ∀ (j : Nat) t v, Tryd.f4.params[j]? = some t → args[j]? = some v → Value.okWide Tryd.prog W .any base t v := hval0
  have hW' := hW
  obtain ⟨p, q, hA0, hV, rfl, hfz, hnd⟩ := hW
  have hA : DataW.TrodAll enc Tryd.prog W 0 (fun _ => true) true Tryd.f4.params.toList args.toList ds p := hA0
  rw [Tryd.params4] at hA hval hsz
  obtain ⟨v0, v1, d0, d1, p0, p1, rfl, rfl, rfl, h0, h1⟩ := trodAll_two hA
  obtain ⟨rfl, rfl⟩ := trodVars_none hV
  obtain ⟨x0, rfl, rfl, rfl, w0⟩ := Go.ChangeMaps.open_string Tryd.underlying9 (hval 0 9 v0 rfl rfl) h0
  have r0 : x0.data.toList.length ≤ reachBytes := sized_string hsz (j := 0) (t := 9) rfl rfl
  obtain ⟨x1, rfl, rfl, rfl, w1⟩ := Go.ChangeMaps.open_string Tryd.underlying9 (hval 1 9 v1 rfl rfl) h1
  have r1 : x1.data.toList.length ≤ reachBytes := sized_string hsz (j := 1) (t := 9) rfl rfl
  clear hA0 hval0
  refine (lexJoins_str x0 x1 W (Nat.le_trans r0 (by decide)) (Nat.le_trans r1 (by decide))).mono fun e W' ⟨he, hb⟩ => ?_
  subst he
  exact ⟨_, rfl, law_close laid0 Tryd.underlying4 rfl rfl (by rw [Tryd.params4]; decide +kernel) hW' (fun gs hg => by subst hg; rfl) hb⟩

theorem lexJoins_holds : Rows.LexJoinsSaid :=
  OpenClaim.holds_of_wide 4 Tryd.f4 rfl rfl rfl rfl rfl rfl rfl ⟨rfl, rfl, rfl, rfl, rfl⟩ rfl rfl rfl rfl rfl (by kernel_rfl) Tryd.func4 (by kernel_rfl)
    (of_decide_eq_true (by kernel_rfl)) (by unfold Func.isWrapper; first | (rw [if_pos (by decide +kernel)]; kernel_rfl) | (rw [if_neg (by decide +kernel)]; exact ⟨rfl, rfl⟩))
    (fun os started H enc _ => lexJoins_lifted os started H enc)

theorem lexJoins_card : Rows.LexJoinsCardSaid :=
  Claim7.holds_tied_plain_at .later [] [.data, .data, .data, .sentinel, .sentinel] true (true, "e4bfb0f06945ad57cbe129f0a800df575de38e037401972ea3686dcdf7ec80d3") true
    lexJoins_holds (fun _ h => by cases h) (by kernel_rfl) (fun _ h => by cases h) lexJoins_row_tie rfl ⟨rfl, rfl⟩ (by kernel_rfl) rfl
    (fun f fn hf hfn => by
      obtain rfl : f = 4 := Option.some.inj ((show Tryd.prog.funcNamed "columbary/columbarylaw05.LexJoins" = some 4 by kernel_rfl).symm.trans hf) |>.symm
      obtain rfl : fn = Tryd.f4 := (Option.some.inj (Tryd.func4.symm.trans hfn)).symm
      exact ⟨by kernel_rfl, fun j t ht => by
        rw [Tryd.params4] at ht
        have hm : t ∈ [9] := by
          have h := Array.mem_of_getElem? ht
          simp only [List.mem_toArray, List.mem_cons, List.not_mem_nil, or_false] at h ⊢
          simpa using h
        have hall : ([9].all fun u => !Tryd.prog.wantsStandIn u) = true := by kernel_rfl
        exact (show Tryd.prog.wantsStandIn t = false by simpa using List.all_eq_true.1 hall t hm)⟩)
    (by kernel_rfl)
end Go.Proofs.YtfbkmjjcopjoeaaDoor
