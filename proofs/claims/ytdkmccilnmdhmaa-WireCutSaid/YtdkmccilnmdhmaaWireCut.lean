/-
  A value's bytes that are cut short are none: WireCut answers true for any value and any cut; no condition.
-/
import Derived.Test.YtdkmccilnmdhmaaVs
import Derived.Test.YtdkmccilnmdhmaaVe
import Derived.Test.YtdkmccilnmdhmaaVt
import Derived.Test.YtdkmccilnmdhmaaWf
import Derived.Test.YtdkmccilnmdhmaaRf
namespace Go.Proofs.Ytdkmccilnmdhmaa
open Go.RowKit Go.ChangeShapes Go.WideShapes Go.ChangeAt

theorem blk5 {w0 W : World} {g : Nat} {x0 x1 x2 x3 x4 : Value} (hb : Blk w0 g 25 #[x0, x1, x2, x3, x4]) (h : Below w0.heap.size w0 W) : W.cell? ⟨g, 0, none⟩ = some x0 ∧ W.cell? ⟨g, 1, none⟩ = some x1 ∧ W.cell? ⟨g, 2, none⟩ = some x2 ∧ W.cell? ⟨g, 3, none⟩ = some x3 ∧ W.cell? ⟨g, 4, none⟩ = some x4 := by
  have hb' := hb.below h hb.lt
  exact ⟨hb'.cell 0, hb'.cell 1, hb'.cell 2, hb'.cell 3, hb'.cell 4⟩

theorem u16_of_wf {x : Int} (h : (Lit.int .u16 x).wf = true) : 0 ≤ x ∧ x ≤ 65535 := by
  simp [Lit.wf, IntKind.min, IntKind.max, IntKind.signed, IntKind.bits] at h
  omega
theorem enc_pos (v : V) : 1 ≤ (encV v).length := by
  have h : ∀ n : Nat, 1 ≤ (Lib.uvarint n).length := fun n => by rw [Lib.uvarint]; split <;> simp
  have := h v.kind
  rw [encV_eq, beginB]
  split
  · simp only [List.length_append]; omega
  · split
    · simp only [List.length_append]; omega
    · split <;> simp only [List.length_append] <;> omega

set_option maxRecDepth 100000 in
set_option maxHeartbeats 8000000 in
theorem wcut_any (X : V) (cs : List Value) (cut : Int) (w : World) (hX : VC w (Old w) X cs) (hc0 : 0 ≤ cut) (hc1 : cut ≤ 65535) :
    Calls Try.prog 6 #[.agg cs.toArray, .int .u16 cut] w fun e w' => e = .returned (.bool true) ∧ Below w.heap.size w w' := by
  have hcs : ∃ x0 x1 x2 x3 x4, cs = [x0, x1, x2, x3, x4] := by cases hX; exact ⟨_, _, _, _, _, rfl⟩
  obtain ⟨x0, x1, x2, x3, x4, rfl⟩ := hcs
  have hb1 := (Below.refl w.heap.size w).alloc (Nat.le_refl _) (.cells #[x0, x1, x2, x3, x4] 25)
  have hA1 := Blk.new w 25 #[x0, x1, x2, x3, x4]
  obtain ⟨w0, hw0⟩ : ∃ w0, w.alloc (.cells #[x0, x1, x2, x3, x4] 25) = w0 := ⟨_, rfl⟩
  rw [hw0] at hA1 hb1
  have Hb0 := hide hb1
  have Hle := hide (show w.heap.size ≤ w0.heap.size from hb1.size)
  have HA := hide (fun W h => blk5 (W := W) hA1 h)
  have HVX := hide (fun (W : World) (h : Below w0.heap.size w0 W) => (hX.later hb1).later h)
  clear hX hb1 hA1
  go_enter Try.func6, Try.ntmps6
  go_wp2_with fail
  refine (awake_any w0).mono ?_
  rintro e w1 ⟨rfl, hb1⟩
  have B1 := hide hb1
  clear hb1 hw0
  obtain ⟨qa0, qa1, qa2, qa3, qa4⟩ := HA.out w1 B1.out
  have hc0 := great_any X _ w1 (HVX.out w1 B1.out)
  go_wp2_with fail
  refine hc0.mono ?_
  rintro e w2 ⟨b0, rfl, h0, hb2⟩
  have B2 := hide (B1.out.trans (hb2.mono B1.out.size))
  have H0 := hide h0
  clear hb2 h0 hc0 qa0 qa1 qa2 qa3 qa4
  cases b0 with
  | true =>
    go_wp2_with fail
    refine (awake_any w2).mono ?_
    rintro e wx ⟨rfl, hbx⟩
    have Hfx := hide (Hb0.out.trans ((B2.out.trans (hbx.mono B2.out.size)).mono Hle.out))
    clear hbx
    go_wp2
    go_ret
    exact ⟨rfl, Hfx.out⟩
  | false =>
    obtain ⟨qa0, qa1, qa2, qa3, qa4⟩ := HA.out w2 B2.out
    have hc1 : Calls Try.prog 10 #[.agg [x0, x1, x2, x3, x4].toArray, .int .i64 0] w2 (FPost 24 X w2) := form_any 24 0 X [x0, x1, x2, x3, x4] w2 (by omega) (HVX.out w2 B2.out)
    go_wp2_with fail
    refine hc1.mono ?_
    rintro e w3 ⟨b1, rfl, h1, hb3⟩
    have B3 := hide (B2.out.trans (hb3.mono B2.out.size))
    have H1 := hide h1
    clear hb3 h1 hc1 qa0 qa1 qa2 qa3 qa4
    cases b1 with
    | false =>
      go_wp2_with fail
      refine (awake_any w3).mono ?_
      rintro e wx ⟨rfl, hbx⟩
      have Hfx := hide (Hb0.out.trans ((B3.out.trans (hbx.mono B3.out.size)).mono Hle.out))
      clear hbx
      go_wp2
      go_ret
      exact ⟨rfl, Hfx.out⟩
    | true =>
      have HFX := hide (H1.out (by simp))
      have Hnx := hide (H0.out (by simp))
      obtain ⟨LX, hLX⟩ : ∃ LX, encV X = LX := ⟨_, rfl⟩
      have hlx : LX.length ≤ 1000000 := by rw [← hLX]; have h1 := enc_len 24 X HFX.out ⟨_, HVX.out _ B3.out⟩; have := Hnx.out; omega
      have hlx1 : 1 ≤ LX.length := by rw [← hLX]; exact enc_pos X
      have Hlx := hide hlx
      have Hlx1 := hide hlx1
      have HLX := hide hLX
      clear hLX hlx hlx1
      go_upto_region 4 with fail
      obtain ⟨w4, hw4⟩ : ∃ w4, w3.alloc (.cells #[.slice none 0 0] 32) = w4 := ⟨_, rfl⟩
      have hwt : Wt w4 w3.heap.size (fun k => k = w3.heap.size ∨ At none k) [] := by rw [← hw4]; exact wt_new w3
      have hb4 : Below w3.heap.size w3 w4 := by rw [← hw4]; exact (Below.refl _ _).alloc (Nat.le_refl _) _
      have hsz4 : w4.heap.size = w3.heap.size + 1 := by rw [← hw4]; simp
      rw [hw4]
      have hB4 := B3.out.trans (hb4.mono B3.out.size)
      obtain ⟨qa0, qa1, qa2, qa3, qa4⟩ := HA.out w4 hB4
      have hwv := wvalue_any w3.heap.size (fun k => k = w3.heap.size ∨ At none k) (Old w3) [] X [x0, x1, x2, x3, x4] w4 hwt (((HVX.out w3 B3.out).fr (F := fun _ => False) (by rw [← hw4]; exact (Fr.refl _ _).alloc _) (fun _ _ h => h))) (fun k hk => ⟨fun h => h.elim (fun e => by have : k < w3.heap.size := hk; omega) (fun h => absurd h At.none_not), by have : k < w3.heap.size := hk; omega⟩) (by rw [List.nil_append, HLX.out]; have := Hlx.out; omega)
      rw [List.nil_append, HLX.out] at hwv
      have Hwv := hide hwv
      have HB4 := hide hB4
      have Hs4 := hide (show w3.heap.size ≤ w4.heap.size by omega)
      clear hwv hB4 hb4 hwt hw4 hsz4
      go_wp2_with fail
      refine Hwv.out.mono ?_
      rintro e w5 ⟨F5, rfl, hwt5, hf5, hn5⟩
      have hB5 : Below w0.heap.size w0 w5 := HB4.out.trans (hf5.below HB4.out.size (fun k hk => hk.elim (fun e => by have := B3.out.size; omega) (fun h => absurd h At.none_not)))
      have Hd := hide (done_any w3.heap.size F5 LX w5 hwt5 (by have := Hlx.out; omega))
      have HB5 := hide hB5
      clear hwt5 hf5 hn5 hB5 Hwv qa0 qa1 qa2 qa3 qa4
      go_wp2_with fail
      refine Hd.out.mono ?_
      rintro e w6 ⟨Ap, cp, rfl, hop, hAp, hb6⟩
      have HOp := hide hop
      have HB6 := hide (HB5.out.trans (hb6.mono HB5.out.size))
      clear hop hAp hb6 Hd
      go_upto_region 5 with fail
      obtain ⟨q, hq⟩ : ∃ q : Nat, (cut % (LX.length : Int)) = (q : Int) ∧ q < LX.length := by
        have h1 := Int.emod_nonneg cut (b := (LX.length : Int)) (by have := Hlx1.out; omega)
        have h2 := Int.emod_lt_of_pos cut (b := (LX.length : Int)) (by have := Hlx1.out; omega)
        exact ⟨(cut % (LX.length : Int)).toNat, by omega, by omega⟩
      obtain ⟨hq, hql⟩ := hq
      have hcp : LX.length ≤ cp := by
        rcases HOp.out.form with ⟨_, h, _⟩ | ⟨_, _, _, _, h, _⟩
        · have := Hlx1.out; omega
        · exact h
      have hqcp : q ≤ cp := by omega
      have Hql := hide hql
      have hby := HOp.out.bytes.take q
      obtain ⟨m, hm⟩ : ∃ m, LX.length = m := ⟨_, rfl⟩
      have hm1 : 1 ≤ m := by rw [← hm]; exact Hlx1.out
      have hm0 : ((m : Int) == 0) = false := by rw [beq_eq_false_iff_ne]; omega
      rw [hm] at hq
      have Hby := hide hby
      have Hm := hide hm
      rw [hm]
      clear hm hby hcp hql
      go_wp2_with fail
      refine (read_any Ap q cp (LX.take q) w6 (by have := Hql.out; rw [List.length_take]; omega) Hby.out (by have := Hql.out; have := Hlx.out; omega)).mono ?_
      rintro e w7 ⟨rb, rfl, hr7, hb7, hrb⟩
      have Hv := hide (rvalueM_any rb _ false w7 hr7)
      have HB7 := hide (HB6.out.trans (hb7.mono HB6.out.size))
      have Hrb := hide (show w0.heap.size ≤ rb from Nat.le_trans HB6.out.size hrb)
      clear hr7 hb7 hrb hq hqcp hm0
      go_wp2_with fail
      refine Hv.out.mono ?_
      rintro e w8 ⟨cs8, rfl, h18, hf8, hcase⟩
      have hcut : rdV 24 (LX.take q) = none := rdV_cut 24 X (LX.take q) (LX.drop q) HFX.out ⟨_, HVX.out _ B3.out⟩ (by rw [HLX.out, List.take_append_drop]) (fun h => by have h1 := congrArg List.length h; rw [List.length_drop, List.length_nil] at h1; have := Hql.out; omega)
      rcases hcase with ⟨v, r, hq8, _⟩ | ⟨_, rfl, hr8⟩
      · exact absurd (hcut.symm.trans hq8) (by simp)
      rw [show zeroC.toArray = #[.int .u8 0, .int .i64 0, .string ⟨#[]⟩, .slice none 0 0, .slice none 0 0] from rfl]
      have Hsm := hide (show Calls Try.prog 17 #[.agg #[.int .u8 0, .int .i64 0, .string ⟨#[]⟩, .slice none 0 0, .slice none 0 0], .agg #[.int .u8 0, .int .i64 0, .string ⟨#[]⟩, .slice none 0 0, .slice none 0 0]] w8 (SamePost (.mk 0 0 [] [] []) (.mk 0 0 [] [] []) w8) from r3same_any 1 _ _ zeroC zeroC w8 (by simp [nodes, nodesL]) (zero_vc _ _) (zero_vc _ _))
      have HB8 := hide (HB7.out.trans (hf8.below HB7.out.size (fun k hk => by rw [show k = rb from hk]; exact Hrb.out)))
      have HR8 := hide hr8
      have ba := buildV0
      clear hr8 hf8 h18 hcut Hv
      go_wp2_with fail
      refine Hsm.out.mono ?_
      rintro e w9 ⟨b9, rfl, hb9, hbel9⟩
      obtain rfl : b9 = true := hb9.2 rfl
      have Hbd := hide (rbad_any rb [] true w9 (HR8.out.fr (F := fun _ => False) (Fr.of_below hbel9) (fun _ h => h.elim)))
      have HB9 := hide (HB8.out.trans (hbel9.mono HB8.out.size))
      clear hbel9 hb9 Hsm
      go_wp2_with (go_at_call 23; refine Hbd.out.mono ?_; rintro e w' ⟨rfl, rfl⟩)
      go_ret
      exact ⟨rfl, Hb0.out.trans (HB9.out.mono Hle.out)⟩

set_option maxRecDepth 100000 in
theorem wireCut_lifted (os : Os) (started : os.Started) (H : Type) (enc : TypeId × Value → H) :
    ReturnsInHanded {} Try.checked os 6 .any (Rows.wireCutSpec.pre6 enc Try.prog Try.f6 Rows.wireCutRow.domain false) (Rows.wireCutSpec.post enc Try.prog Try.f6 false true false false) := by
  refine returnsInHanded_of_change (C := Try.checked) own0 started (by kernel_rfl) Try.func6
    (ChangeSpec.witness6 (enc := enc) (C := Try.checked) false ⟨#[], #[.agg #[.int .u8 0, .int .i64 0, .string ⟨#[]⟩, .slice none 0 0, .slice none 0 0], .int .u16 0], []⟩ 8 (by kernel_rfl) (by kernel_rfl) (by kernel_rfl) (by kernel_rfl)) ?_
  intro W base args ds gs before hval0 hW _ _
  have hval : ∀ (j : Nat) t v, Try.f6.params[j]? = some t → args[j]? = some v → Value.okWide Try.prog W .any base t v := hval0
  have hW' := hW
  obtain ⟨p, q, hA0, hV, rfl, hfz, hnd⟩ := hW
  have hA : DataW.TrodAll enc Try.prog W 0 (fun _ => true) true Try.f6.params.toList args.toList ds p := hA0
  rw [Try.params6] at hA hval
  obtain ⟨v0, v1, d0, d1, p0, p1, rfl, rfl, rfl, h0, h1⟩ := trodAll_two hA
  obtain ⟨rfl, rfl⟩ := trodVars_none hV
  obtain ⟨X0, cs0, rfl, V0⟩ := open_val (hval 0 25 v0 rfl rfl) h0
  obtain ⟨x1, rfl, rfl, rfl, w1⟩ := open_int Try.underlying48 (hval 1 48 v1 rfl rfl) h1
  clear hA0 hval0
  refine (wcut_any X0 cs0 x1 W V0 (u16_of_wf w1).1 (u16_of_wf w1).2).mono fun e W' ⟨he, hb⟩ => ?_
  subst he
  exact ⟨_, rfl, law_close laid0 Try.underlying4 rfl rfl (by rw [Try.params6]; decide +kernel) hW' (fun gs hg => by subst hg; rfl) hb⟩

theorem wireCut_holds : Rows.WireCutSaid :=
  OpenClaim.holds_of_wide 6 Try.f6 rfl rfl rfl rfl rfl rfl rfl ⟨rfl, rfl, rfl, rfl, rfl⟩ rfl rfl rfl rfl rfl (by kernel_rfl) Try.func6 (by kernel_rfl)
    (of_decide_eq_true (by kernel_rfl)) (by unfold Func.isWrapper; first | (rw [if_pos (by decide +kernel)]; kernel_rfl) | (rw [if_neg (by decide +kernel)]; exact ⟨rfl, rfl⟩))
    (fun os started H enc _ => wireCut_lifted os started H enc)
end Go.Proofs.Ytdkmccilnmdhmaa
