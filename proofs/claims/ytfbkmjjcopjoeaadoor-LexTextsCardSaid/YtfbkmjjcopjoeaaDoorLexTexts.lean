/- any bytes but ends of lines, written in quotes, are the text that they were, if they are not too many: for every input the law LexTexts answers true, and leaves what came in as it was. -/
import Derived.Test.YtfbkmjjcopjoeaaDoorNq
import Derived.Test.YtfbkmjjcopjoeaaDoorLaw
import Derived.Test.YtfbkmjjcopjoeaaDoorRows
import Derived.Test.YtfbkmjjcopjoeaaDoorCards
import Derived.Test.YtfbkmjjcopjoeaaDoorTie
import Derived.Test.YtfbkmjjcopjoeaaDoorChecked
import Derived.ProofKit
import Derived.OpenShut
import Derived.LaidMore
import Derived.Lay
import Derived.SevenTiedAt
import Derived.Stop.Joined
namespace Go.Proofs.YtfbkmjjcopjoeaaDoor
open Go.RowKit Go.ChangeShapes Go.WideShapes

theorem str_run5 {w : World} {A : Option Addr} {n c : Nat} {l : List UInt8} (hn : l.length = n) (h : Bytes w A l) : (convert 35 9 (.slice A n c)).run Tryd.prog w = .ok (.string ⟨l.toArray⟩) w :=
  run_str_bytes (P := Tryd.prog) _ 35 9 5 Tryd.underlying35 Tryd.underlying5 Tryd.underlying9 A n c l hn h
theorem conv2 (a : UInt8) (va : Int) (ha : va = (a.toNat : Int)) (x : UInt8) (w : World) : (convert 35 9 (.slice (some ⟨w.heap.size, 0, none⟩) 2 2)).run Tryd.prog (w.alloc (.cells #[.int .u8 va, .int .u8 (x.toNat : Int)] 5)) = .ok (.string ⟨#[a, x]⟩) (w.alloc (.cells #[.int .u8 va, .int .u8 (x.toNat : Int)] 5)) := by
  subst ha
  exact str_run5 (l := [a, x]) rfl (bytes_new w 5 [a, x] (0, 0))
theorem quote_take {p : List UInt8} {i : Nat} {b : UInt8} (h : p[i]? = some b) : Lx.quoteB (p.take (i + 1)) = Lx.quoteB (p.take i) ++ Lx.q1 b := by
  rw [List.take_add_one, h]
  simp [Lx.quoteB]
theorem buildL6 (a : ByteArray) (w : World) : (Instr.build 33 #[(0, .int .u8 3), (1, .string a)]).run Tryd.prog w = .ok (.agg #[.int .u8 3, .string a, .int .i64 0, .int .i64 0]) w := run_build w _ _ _ (by kernel_rfl)
theorem bytes_cap {H : Type} {enc : TypeId × Value → H} {P : Program} {base : Nat} {spare : Nat → Bool} {held : Bool} {w : World} {t e : TypeId} {A : Option Addr} {n c : Nat} {d : DataW H} {ps : List MemPlace} (ht : P.underlying t = some (.slice e)) (he : P.underlying e = some (.int .u8)) (hc : P.cellsOf e = 1)
    (h : DataW.Trod enc P w base spare held t (.slice A n c) d ps) : n ≤ c := by
  obtain ⟨fuel, hf⟩ := h
  rcases open_ints ht he hc hf with ⟨h1, _⟩ | ⟨a, len, cap, zs, h1, h2, h3, _⟩
  · simp [Value.cells] at h1
    omega
  · simp [Value.cells] at h1
    omega
set_option maxRecDepth 100000 in
set_option maxHeartbeats 8000000 in
theorem lexTexts_walk (p : List UInt8) (A : Option Addr) (c : Nat) (w : World) (hp : Bytes w A p) (hcap : p.length ≤ c) : Calls Tryd.prog 6 #[.slice A p.length c] w fun e w' => e = .returned (.bool true) ∧ Below w.heap.size w w' := by
  have hb6 := buildL6
  obtain ⟨n, hn⟩ : ∃ n, p.length = n := ⟨_, rfl⟩
  rw [hn] at hcap ⊢
  have Hn := hide hn
  have Hp := hide hp
  clear hn hp
  go_enter Tryd.func6, Tryd.ntmps6
  go_wp2_with fail
  refine (awake_any w).mono ?_
  rintro e w1 ⟨rfl, hb⟩
  have B1 := hide hb
  clear hb
  by_cases h600 : 600 < n
  case pos =>
    go_wp2_with fail
    refine (awake_any w1).mono ?_
    rintro e w2 ⟨rfl, hb⟩
    have B2 := hide (B1.out.trans (hb.mono B1.out.size))
    clear hb
    go_wp2_with fail
    go_ret
    exact ⟨rfl, B2.out⟩
  have hle : n ≤ 600 := by omega
  go_wp2_with fail
  clear h600
  go_loopw [3, 4] (fun tv iv wr => ∃ i : Nat, iv = .int .i64 (i : Int) ∧ tv = .string ⟨(34 :: Lx.quoteB (p.take i)).toArray⟩ ∧ i ≤ n ∧ Below w.heap.size w wr) (fun _ iv _ => n - (intOf iv).toNat)
  case atStart => exact ⟨0, rfl, rfl, Nat.zero_le _, B1.out⟩
  case round =>
  obtain ⟨i, rfl, rfl, hi, hB⟩ := hrel
  have BR := hide hB
  clear hB
  by_cases hin : i < n
  case pos =>
    obtain ⟨b, hb⟩ : ∃ b, p[i]? = some b := ⟨_, List.getElem?_eq_getElem (by rw [Hn.out]; exact hin)⟩
    obtain ⟨g, o, rfl, hcell⟩ := bytes_cell (Hp.out.below BR.out (Nat.le_refl _)) hb
    have hnx := quote_take hb
    obtain ⟨fl, hfl⟩ : ∃ fl, 34 :: Lx.quoteB (p.take i) = fl := ⟨_, rfl⟩
    have hll : fl.length ≤ 1201 := by
      have h := Lx.quoteB_len (p.take i)
      rw [← hfl, List.length_cons]
      rw [List.length_take] at h
      have := Nat.min_le_left i p.length
      omega
    have Hnx := hide (show 34 :: Lx.quoteB (p.take (i + 1)) = fl ++ Lx.q1 b from by rw [hnx, ← hfl]; rfl)
    rw [hfl]
    have hz1 : (⟨fl.toArray⟩ : ByteArray).size = fl.length := rfl
    have hbd : b.toNat < 256 := b.toNat_lt
    have Hin := hide hin
    clear hb hnx hfl
    by_cases h10 : b = 10
    case pos =>
      have hx10 : ((b.toNat : Int) == 10) = true := by rw [h10]; rfl
      have hq : Lx.q1 b = [92, 110] := by rw [h10]; rfl
      have hcat : (⟨fl.toArray⟩ : ByteArray) ++ (⟨#[92, 110]⟩ : ByteArray) = ⟨(fl ++ [92, 110]).toArray⟩ := ba_cat fl [92, 110]
      have hz2 : (⟨#[92, 110]⟩ : ByteArray).size = 2 := rfl
      have hlim : ¬ 9223372036854775807 < fl.length + 2 := by omega
      have Hq := hide hq
      clear h10 hq
      go_wp2_with fail
      go_roundw
      case rel => exact ⟨i + 1, by go_num, by rw [Hnx.out, Hq.out], Hin.out, BR.out⟩
      case measure => simp [intOf]; omega
    have hx10 : ((b.toNat : Int) == 10) = false := by rw [beq_eq_false_iff_ne]; exact fun h => h10 (UInt8.toNat_inj.1 (show b.toNat = 10 by omega))
    by_cases h34 : b = 34 ∨ b = 92
    case pos =>
      have hq : Lx.q1 b = [92, b] := by rw [Lx.q1, if_neg h10, if_pos h34]
      have hcat : (⟨fl.toArray⟩ : ByteArray) ++ (⟨#[92, b]⟩ : ByteArray) = ⟨(fl ++ [92, b]).toArray⟩ := ba_cat fl [92, b]
      have hz2 : (⟨#[92, b]⟩ : ByteArray).size = 2 := rfl
      have hlim : ¬ 9223372036854775807 < fl.length + 2 := by omega
      have hconv := conv2 92 92 rfl b wr
      have Hq := hide hq
      clear hq h10
      rcases h34 with h34 | h34
      · have hx34 : ((b.toNat : Int) == 34) = true := by rw [h34]; rfl
        clear h34
        go_wp2_with fail
        go_roundw
        case rel => exact ⟨i + 1, by go_num, by rw [Hnx.out, Hq.out], Hin.out, BR.out.alloc BR.out.size _⟩
        case measure => simp [intOf]; omega
      · have hx34 : ((b.toNat : Int) == 34) = false := by rw [h34]; rfl
        have hx92 : ((b.toNat : Int) == 92) = true := by rw [h34]; rfl
        clear h34
        go_wp2_with fail
        go_roundw
        case rel => exact ⟨i + 1, by go_num, by rw [Hnx.out, Hq.out], Hin.out, BR.out.alloc BR.out.size _⟩
        case measure => simp [intOf]; omega
    have hx34 : ((b.toNat : Int) == 34) = false := by rw [beq_eq_false_iff_ne]; exact fun h => h34 (.inl (UInt8.toNat_inj.1 (show b.toNat = 34 by omega)))
    have hx92 : ((b.toNat : Int) == 92) = false := by rw [beq_eq_false_iff_ne]; exact fun h => h34 (.inr (UInt8.toNat_inj.1 (show b.toNat = 92 by omega)))
    have hq : Lx.q1 b = [b] := by rw [Lx.q1, if_neg h10, if_neg h34]
    have hcat : (⟨fl.toArray⟩ : ByteArray) ++ (⟨#[b]⟩ : ByteArray) = ⟨(fl ++ [b]).toArray⟩ := ba_cat fl [b]
    have hz2 : (⟨#[b]⟩ : ByteArray).size = 1 := rfl
    have hlim : ¬ 9223372036854775807 < fl.length + 1 := by omega
    have hci : i + 1 ≤ c := by omega
    have hconv : ∀ k, (convert 35 9 (.slice (some ⟨g, o + i, none⟩) 1 k)).run Tryd.prog wr = .ok (.string ⟨#[b]⟩) wr := fun k => str_run5 (l := [b]) rfl (.inr ⟨g, o + i, rfl, fun j v hv => by
      match j, hv with
      | 0, hv => simp only [B8s, List.map_cons, List.map_nil, List.getElem?_cons_zero, Option.some.injEq] at hv; rw [← hv]; exact hcell⟩)
    have Hq := hide hq
    clear hq h10 h34
    go_wp2_with fail
    go_roundw
    case rel => exact ⟨i + 1, by go_num, by rw [Hnx.out, Hq.out], Hin.out, BR.out⟩
    case measure => simp [intOf]; omega
  case neg =>
  obtain rfl : i = n := by omega
  rw [List.take_of_length_le (show p.length ≤ i by rw [Hn.out]; exact Nat.le_refl _)]
  have hql := Lx.quoteB_len p
  rw [Hn.out] at hql
  have hlong := fun h => Lx.texts_long p (by rw [Hn.out]; exact hle) h
  have hok := fun h => Lx.texts_ok p h
  have hopen := fun h => Lx.texts_open p h
  rw [Hn.out] at hlong hok hopen
  obtain ⟨y, hy⟩ : ∃ y, 34 :: Lx.quoteB p = y := ⟨_, rfl⟩
  obtain ⟨Y, hY⟩ : ∃ Y, y.length = Y := ⟨_, rfl⟩
  have hYQ : (Lx.quoteB p).length + 1 = Y := by rw [← hY, ← hy, List.length_cons]
  have hyy : 34 :: (Lx.quoteB p ++ [34]) = y ++ [34] := by rw [← hy]; rfl
  rw [hyy] at hlong hok
  rw [hy, hYQ] at hopen
  have Hlong := hide hlong
  have Hok := hide hok
  have Hopen := hide hopen
  rw [hy]
  have hyz : (⟨y.toArray⟩ : ByteArray).size = Y := hY
  have hY9 : Y ≤ 1201 := by omega
  have hcatq : (⟨y.toArray⟩ : ByteArray) ++ (⟨#[34]⟩ : ByteArray) = ⟨(y ++ [34]).toArray⟩ := ba_cat y [34]
  have hz2 : (⟨#[34]⟩ : ByteArray).size = 1 := rfl
  have hlim : ¬ 9223372036854775807 < Y + 1 := by omega
  clear hql hlong hok hopen hy hY hYQ hyy hin hi
  go_wp2_with fail
  refine (toks_all (y ++ [34]) wr).mono ?_
  rintro e w3 ⟨ho, hb⟩
  have B3 := hide (BR.out.trans (hb.mono BR.out.size))
  by_cases h200 : 200 < i
  case pos =>
    rw [Hlong.out h200] at ho
    obtain rfl : e = _ := ho
    clear hb
    go_wp2_with fail
    go_ret
    exact ⟨rfl, B3.out⟩
  rw [Hok.out (by omega)] at ho
  obtain ⟨A', c', rfl, hrow, _⟩ := ho
  have HA3 := hide hrow.at_
  have hl2 : ([⟨3, p, 0, 0⟩, ⟨0, [], 0, (Lx.quoteB p).length + 2⟩] : List Lx.Tok).length = 2 := rfl
  clear hrow hb hcatq hz2 hlim
  go_wp2_with fail
  refine (toks_all y w3).mono ?_
  rintro e w4 ⟨ho, hb⟩
  rw [Hopen.out (by omega)] at ho
  obtain rfl : e = _ := ho
  have B4 := hide (B3.out.trans (hb.mono B3.out.size))
  have HA4 := hide (HA3.out.below hb)
  obtain ⟨g, o, rfl, a0, a1, a2, a3⟩ := HA4.out.get (j := 0) (t := ⟨3, p, 0, 0⟩) rfl
  simp only [Nat.zero_mul, Nat.add_zero] at a0 a1 a2 a3
  have hp4 := Hp.out.below B4.out (Nat.le_refl _)
  have hconvp : ∀ q, (convert 35 9 (.slice A i c)).run Tryd.prog (w4.drewN q) = .ok (.string ⟨p.toArray⟩) (w4.drewN q) := fun q => str_run5 Hn.out (hp4.keep (fun _ _ _ _ => rfl))
  clear hb hp4
  go_upto_region 18 with fail
  go_quiet (fail)
  clear a0 a1 a2 a3 hconvp
  go_wp2_with fail
  go_ret
  exact ⟨rfl, below_drewN B4.out _⟩
set_option maxRecDepth 100000 in
theorem lexTexts_lifted (os : Os) (started : os.Started) (H : Type) (enc : TypeId × Value → H) :
    ReturnsInHanded {} Tryd.checked os 6 .any (fun w args => (Rows.lexTextsSpec.pre enc Tryd.prog Tryd.f6 Rows.lexTextsRow.domain false w args ∧ laidMetH Tryd.prog Rows.lexTextsRow.laid w) ∧ sizedMet enc Tryd.prog Tryd.f6 (OpenSpec.ofChange Rows.lexTextsSpec) false w args)
      (Rows.lexTextsSpec.post enc Tryd.prog Tryd.f6 false true false false) := by
  refine returnsInHanded_of_change_and (C := Tryd.checked) (X := fun w _ => laidMetH Tryd.prog Rows.lexTextsRow.laid w) (fun _ _ _ hh h => h.of_heap hh) own0 started (by kernel_rfl) Tryd.func6
    (ChangeSpec.witness_shaped (enc := enc) (C := Tryd.checked) (os := os) (X := fun w _ => laidMetH Tryd.prog Rows.lexTextsRow.laid w) false (World.laidAll Tryd.prog os Rows.lexTextsRow.laid) #[.slice none 0 0] 8 (World.laidAll_os _ _ _)
      (World.shaped_of_ZipB (by kernel_rfl) (by kernel_rfl)) (by kernel_rfl) (by kernel_rfl) (by kernel_rfl)
      (by rw [MakeChecks.laidMetH_plain _ _ _ (by kernel_rfl)]; exact laidMet_laidAll _ (by kernel_rfl) (by kernel_rfl))) ?_
  intro W base args ds gs before hval0 hW _ hsz0 _ _
  have hsz : (DataW.weightsEach Tryd.prog (Tryd.f6.params.toList ++ Rows.lexTextsSpec.plain.varTypes Tryd.prog) (ds ++ gs)).all (· ≤ reachBytes) = true := hsz0
  have hval : ∀ (j : Nat) t v, Tryd.f6.params[j]? = some t → args[j]? = some v → Value.okWide Tryd.prog W .any base t v := hval0
  have hW' := hW
  obtain ⟨p, q, hA0, hV, rfl, hfz, hnd⟩ := hW
  have hA : DataW.TrodAll enc Tryd.prog W 0 (fun _ => true) true Tryd.f6.params.toList args.toList ds p := hA0
  rw [Tryd.params6] at hA hval hsz
  obtain ⟨v0, d0, rfl, rfl, h0⟩ := trodAll_one hA
  obtain ⟨rfl, rfl⟩ := trodVars_none hV
  obtain ⟨A0, c0, l0, rfl, b0, m0⟩ := open_bytes Tryd.underlying35 Tryd.underlying5 (by kernel_rfl) (hval 0 35 v0 rfl rfl) h0
  have cap0 := bytes_cap Tryd.underlying35 Tryd.underlying5 (by kernel_rfl) h0
  clear hA0 hval0
  refine (lexTexts_walk l0 A0 c0 W b0 cap0).mono fun e W' ⟨he, hb⟩ => ?_
  subst he
  exact ⟨_, rfl, law_close laid0 Tryd.underlying4 rfl rfl (by rw [Tryd.params6]; decide +kernel) hW' (fun gs hg => by subst hg; rfl) hb⟩

theorem lexTexts_holds : Rows.LexTextsSaid :=
  OpenClaim.holds_of_wide 6 Tryd.f6 rfl rfl rfl rfl rfl rfl rfl ⟨rfl, rfl, rfl, rfl, rfl⟩ rfl rfl rfl rfl rfl (by kernel_rfl) Tryd.func6 (by kernel_rfl)
    (of_decide_eq_true (by kernel_rfl)) (by unfold Func.isWrapper; first | (rw [if_pos (by decide +kernel)]; kernel_rfl) | (rw [if_neg (by decide +kernel)]; exact ⟨rfl, rfl⟩))
    (fun os started H enc _ => lexTexts_lifted os started H enc)

theorem lexTexts_card : Rows.LexTextsCardSaid :=
  Claim7.holds_tied_plain_at .later [] [.data, .data, .data, .sentinel, .sentinel] true (true, "e4bfb0f06945ad57cbe129f0a800df575de38e037401972ea3686dcdf7ec80d3") true
    lexTexts_holds (fun _ h => by cases h) (by kernel_rfl) (fun _ h => by cases h) lexTexts_row_tie rfl ⟨rfl, rfl⟩ (by kernel_rfl) rfl
    (fun f fn hf hfn => by
      obtain rfl : f = 6 := Option.some.inj ((show Tryd.prog.funcNamed "columbary/columbarylaw05.LexTexts" = some 6 by kernel_rfl).symm.trans hf) |>.symm
      obtain rfl : fn = Tryd.f6 := (Option.some.inj (Tryd.func6.symm.trans hfn)).symm
      exact ⟨by kernel_rfl, fun j t ht => by
        rw [Tryd.params6] at ht
        have hm : t ∈ [35] := by
          have h := Array.mem_of_getElem? ht
          simp only [List.mem_toArray, List.mem_cons, List.not_mem_nil, or_false] at h ⊢
          simpa using h
        have hall : ([35].all fun u => !Tryd.prog.wantsStandIn u) = true := by kernel_rfl
        exact (show Tryd.prog.wantsStandIn t = false by simpa using List.all_eq_true.1 hall t hm)⟩)
    (by kernel_rfl)
end Go.Proofs.YtfbkmjjcopjoeaaDoor
