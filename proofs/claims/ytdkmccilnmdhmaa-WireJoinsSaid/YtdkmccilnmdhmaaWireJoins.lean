/-
  Values that are laid one behind the other are read one behind the other: WireJoins answers true for any values; no condition.
-/
import Derived.Test.YtdkmccilnmdhmaaWj
import Derived.Test.YtdkmccilnmdhmaaVs
import Derived.Test.YtdkmccilnmdhmaaVe
import Derived.Test.YtdkmccilnmdhmaaVt
import Derived.Test.YtdkmccilnmdhmaaWf
import Derived.Test.YtdkmccilnmdhmaaRf
namespace Go.Proofs.Ytdkmccilnmdhmaa
open Go.RowKit Go.ChangeShapes Go.WideShapes Go.ChangeAt

theorem encL_append (a b : List V) : encL (a ++ b) = encL a ++ encL b := by
  induction a with
  | nil => simp [encL]
  | cons x r ih => simp only [List.cons_append, encL, ih, List.append_assoc]
theorem encL_take {xs : List V} {i : Nat} {x : V} (h : xs[i]? = some x) : encL (xs.take (i + 1)) = encL (xs.take i) ++ encV x := by
  rw [List.take_add_one, h, encL_append]; simp [encL]
theorem encL_drop {xs : List V} {i : Nat} {x : V} (h : xs[i]? = some x) : encL (xs.drop i) = encV x ++ encL (xs.drop (i + 1)) := by
  obtain ⟨hi, rfl⟩ := List.getElem?_eq_some_iff.1 h
  rw [List.drop_eq_getElem_cons hi, encL]
theorem encL_len {l : List V} (h : ∀ x ∈ l, (encV x).length ≤ 1000000) : (encL l).length ≤ l.length * 1000000 := by
  induction l with
  | nil => simp [encL]
  | cons x r ih =>
    have h1 := h x List.mem_cons_self
    have h2 := ih (fun y hy => h y (List.mem_cons_of_mem _ hy))
    rw [encL, List.length_append, List.length_cons]
    omega
theorem enc_pos (v : V) : 1 ≤ (encV v).length := by
  have h : ∀ n : Nat, 1 ≤ (Lib.uvarint n).length := fun n => by rw [Lib.uvarint]; split <;> simp
  have := h v.kind
  rw [encV_eq, beginB]
  split
  · simp only [List.length_append]; omega
  · split
    · simp only [List.length_append]; omega
    · split <;> simp only [List.length_append] <;> omega
/-- An element of a list that came in: its cells, later on. -/
theorem val_at {w : World} {S : Option Addr} {c : Nat} {xs : List V} (h : VC w (Old w) (.mk 5 0 [] [] xs) [.int .u8 5, .int .i64 0, sv [], .slice none 0 0, .slice S xs.length c]) {j : Nat} {x : V} (hx : xs[j]? = some x) :
    ∃ g o x0 x1 x2 x3 x4, S = some ⟨g, o, none⟩ ∧ VC w (Old w) x [x0, x1, x2, x3, x4] ∧ ∀ W, Below w.heap.size w W → W.cell? ⟨g, o + j * 5, none⟩ = some x0 ∧ W.cell? ⟨g, o + j * 5 + 1, none⟩ = some x1 ∧ W.cell? ⟨g, o + j * 5 + 2, none⟩ = some x2 ∧ W.cell? ⟨g, o + j * 5 + 3, none⟩ = some x3 ∧ W.cell? ⟨g, o + j * 5 + 4, none⟩ = some x4 := by
  cases h with
  | mk hk hn hs hks hkl hll hK hA hL =>
    rename_i cs
    rcases hA with h0 | ⟨g, o, h1, h2, h3⟩
    · rw [h0] at hx; simp at hx
    have hr := h3 j x hx
    have hv := hL j x hx
    generalize cs j = cs' at hr hv
    obtain ⟨x0, x1, x2, x3, x4, rfl⟩ : ∃ x0 x1 x2 x3 x4, cs' = [x0, x1, x2, x3, x4] := by cases hv; exact ⟨_, _, _, _, _, rfl⟩
    refine ⟨g, o, x0, x1, x2, x3, x4, h1, hv, fun W hW => ?_⟩
    rw [Nat.mul_comm 5 j] at hr
    exact ⟨(hW.cell (p := ⟨g, o + j * 5, none⟩) h2).trans (hr 0 _ rfl), (hW.cell (p := ⟨g, o + j * 5 + 1, none⟩) h2).trans (hr 1 _ rfl), (hW.cell (p := ⟨g, o + j * 5 + 2, none⟩) h2).trans (hr 2 _ rfl), (hW.cell (p := ⟨g, o + j * 5 + 3, none⟩) h2).trans (hr 3 _ rfl), (hW.cell (p := ⟨g, o + j * 5 + 4, none⟩) h2).trans (hr 4 _ rfl)⟩

set_option maxRecDepth 100000 in
set_option maxHeartbeats 8000000 in
theorem wjoins_any (S : Option Addr) (c : Nat) (xs : List V) (w : World) (h : VC w (Old w) (.mk 5 0 [] [] xs) [.int .u8 5, .int .i64 0, sv [], .slice none 0 0, .slice S xs.length c]) :
    Calls Try.prog 5 #[.slice S xs.length c] w fun e w' => e = .returned (.bool true) ∧ Below w.heap.size w w' := by
  have HV := hide h
  clear h
  obtain ⟨n, hn⟩ : ∃ n, xs.length = n := ⟨_, rfl⟩
  rw [hn]
  have Hn := hide hn
  clear hn
  go_enter Try.func5, Try.ntmps5
  go_wp2_with fail
  refine (awake_any w).mono ?_
  rintro e w1 ⟨rfl, hb1⟩
  have B1 := hide hb1
  clear hb1
  by_cases hlong : 10 < n
  · go_wp2_with fail
    refine (awake_any w1).mono ?_
    rintro e wx ⟨rfl, hbx⟩
    have Hfx := hide (B1.out.trans (hbx.mono B1.out.size))
    clear hbx
    go_wp2
    go_ret
    exact ⟨rfl, Hfx.out⟩
  go_wp2_with fail
  obtain ⟨w2, hw2⟩ : ∃ w2, w1.alloc (.cells #[.slice none 0 0] 32) = w2 := ⟨_, rfl⟩
  have hwt : Wt w2 w1.heap.size (fun k => k = w1.heap.size ∨ At none k) [] := by rw [← hw2]; exact wt_new w1
  have hb2 : Below w.heap.size w w2 := by rw [← hw2]; exact B1.out.alloc B1.out.size _
  rw [hw2]
  obtain ⟨wb, hwb⟩ : ∃ wb, w1.heap.size = wb := ⟨_, rfl⟩
  rw [hwb] at hwt ⊢
  have Hwt := hide hwt
  have B2 := hide hb2
  have Hwb := hide (show w.heap.size ≤ wb from by rw [← hwb]; exact B1.out.size)
  have Hlong := hide hlong
  clear hwt hb2 hw2 hwb B1 hlong
  go_loopw [4] (fun iv wr => ∃ i : Nat, i ≤ n ∧ iv = .int .i64 (i : Int) ∧ (∃ F, Wt wr wb F (encL (xs.take i)) ∧ ∀ k, F k → w.heap.size ≤ k) ∧ Below w.heap.size w wr ∧ (∀ x ∈ xs.take i, formP 24 x ∧ nodes x ≤ 3000)) (fun iv _ => n - (intOf iv).toNat)
  case atStart => exact ⟨0, Nat.zero_le _, rfl, ⟨_, Hwt.out, fun k hk => hk.elim (fun e => by rw [e]; exact Hwb.out) (fun h => absurd h At.none_not)⟩, B2.out, by simp⟩
  case round =>
  obtain ⟨i, hi, rfl, ⟨F, hwt, hF⟩, hb, hall⟩ := hrel
  clear Hwt B2
  have hlen : ∀ m, (∀ x ∈ xs.take m, formP 24 x ∧ nodes x ≤ 3000) → (encL (xs.take m)).length ≤ 10000000 := by
    intro m hm
    have h1 := encL_len (l := xs.take m) (fun x hx => by
      obtain ⟨j, hj⟩ := List.mem_iff_getElem?.1 (List.mem_of_mem_take hx)
      obtain ⟨_, _, _, _, _, _, _, _, hv, _⟩ := val_at HV.out hj
      have := enc_len 24 x (hm x hx).1 ⟨_, hv⟩
      have := (hm x hx).2
      omega)
    have h2 : (xs.take m).length ≤ 10 := by rw [List.length_take]; have := Hn.out; have := Hlong.out; omega
    omega
  have Hlen := hide hlen
  have Hwt := hide hwt
  have HF := hide hF
  have Hall := hide hall
  have B3 := hide hb
  clear hlen hwt hF hall hb
  by_cases hin : i < n
  case pos =>
    obtain ⟨x, hx⟩ : ∃ x, xs[i]? = some x := ⟨_, List.getElem?_eq_getElem (by rw [Hn.out]; exact hin)⟩
    obtain ⟨g, o, x0, x1, x2, x3, x4, rfl, hv, hcell⟩ := val_at HV.out hx
    have Hx := hide hx
    have Hv := hide (fun (W : World) (hW : Below w.heap.size w W) => hv.later hW)
    have Hv0 := hide hv
    have HC := hide hcell
    have Hin := hide hin
    clear hx hv hcell
    obtain ⟨q0, q1, q2, q3, q4⟩ := HC.out wr B3.out
    go_wp2_with fail
    refine (great_any x [x0, x1, x2, x3, x4] wr (Hv.out wr B3.out)).mono ?_
    rintro e w4 ⟨b0, rfl, h0, hb4⟩
    have B4 := hide (B3.out.trans (hb4.mono B3.out.size))
    have hwt4 : Wt w4 wb F (encL (xs.take i)) := Hwt.out.nofr (Fr.of_below hb4)
    have Hwt4 := hide hwt4
    have H0 := hide h0
    clear hb4 hwt4 h0 q0 q1 q2 q3 q4 Hwt
    cases b0 with
    | true =>
      go_wp2
      go_ret
      exact ⟨rfl, B4.out⟩
    | false =>
      obtain ⟨q0, q1, q2, q3, q4⟩ := HC.out w4 B4.out
      have hfm : Calls Try.prog 10 #[.agg [x0, x1, x2, x3, x4].toArray, .int .i64 0] w4 (FPost 24 x w4) := form_any 24 0 x [x0, x1, x2, x3, x4] w4 (by omega) (Hv.out w4 B4.out)
      have Hfm := hide hfm
      clear hfm
      go_wp2_with fail
      refine Hfm.out.mono ?_
      rintro e w5 ⟨b1, rfl, h1, hb5⟩
      have B5 := hide (B4.out.trans (hb5.mono B4.out.size))
      have hwt5 : Wt w5 wb F (encL (xs.take i)) := Hwt4.out.nofr (Fr.of_below hb5)
      have Hwt5 := hide hwt5
      have H1 := hide h1
      clear hb5 hwt5 h1 q0 q1 q2 q3 q4 Hwt4 Hfm
      cases b1 with
      | false =>
        go_wp2
        go_ret
        exact ⟨rfl, B5.out⟩
      | true =>
        obtain ⟨q0, q1, q2, q3, q4⟩ := HC.out w5 B5.out
        have hall' : ∀ y ∈ xs.take (i + 1), formP 24 y ∧ nodes y ≤ 3000 := by
          intro y hy
          rw [List.take_add_one, Hx.out] at hy
          rcases List.mem_append.1 hy with h | h
          · exact Hall.out y h
          · simp only [Option.toList_some, List.mem_singleton] at h
            subst h
            exact ⟨H1.out (by simp), by have := H0.out (by simp); omega⟩
        have hl' := Hlen.out (i + 1) hall'
        rw [encL_take Hx.out] at hl'
        have hwv := wvalue_any wb F (Old w) (encL (xs.take i)) x [x0, x1, x2, x3, x4] w5 Hwt5.out (Hv0.out.fr (F := fun _ => False) (Fr.of_below B5.out) (fun _ _ h => h)) (fun k hk => ⟨fun h => by have := HF.out k h; have h2 : k < w.heap.size := hk; omega, by have h2 : k < w.heap.size := hk; have := B5.out.size; omega⟩) (by omega)
        have Hwv := hide hwv
        have Hall' := hide hall'
        clear hwv hall' hl'
        go_wp2_with fail
        refine Hwv.out.mono ?_
        rintro e w6 ⟨F6, rfl, hwt6, hf6, hn6⟩
        have B6 := hide (B5.out.trans (hf6.below B5.out.size HF.out))
        have Hwt6 := hide hwt6
        have HF6 := hide (show ∀ k, F6 k → w.heap.size ≤ k from fun k hk => (hn6 k hk).elim (HF.out k) (fun h => Nat.le_trans B5.out.size h))
        clear hwt6 hf6 hn6 q0 q1 q2 q3 q4 Hwv
        go_wp2
        go_roundw
        case rel => exact ⟨i + 1, by have := Hin.out; omega, by go_num, ⟨F6, by rw [encL_take Hx.out]; exact Hwt6.out, HF6.out⟩, B6.out, Hall'.out⟩
        case measure => have := Hin.out; simp [intOf]; omega
  case neg =>
    obtain rfl : i = n := by omega
    have htk : xs.take i = xs := by rw [← Hn.out, List.take_length]
    rw [htk] at Hwt Hall
    have hll : (encL xs).length ≤ 10000000 := by have := Hlen.out i (by rw [htk]; exact Hall.out); rwa [htk] at this
    have Hll := hide hll
    clear htk hll hi hin
    have Hd := hide (done_any wb F (encL xs) wr Hwt.out (by have := Hll.out; omega))
    go_wp2_with fail
    refine Hd.out.mono ?_
    rintro e w7 ⟨Ap, cp, rfl, hop, hAp, hb7⟩
    have B7 := hide (B3.out.trans (hb7.mono B3.out.size))
    have Hop := hide hop
    clear hop hAp hb7 Hd Hwt
    go_wp2_with fail
    refine (read_any Ap _ cp (encL xs) w7 rfl Hop.out.bytes (by have := Hll.out; omega)).mono ?_
    rintro e w8 ⟨rb, rfl, hr8, hb8, hrb⟩
    have B8 := hide (B7.out.trans (hb8.mono B7.out.size))
    have Hr8 := hide hr8
    have Hrb := hide (show w.heap.size ≤ rb from Nat.le_trans B7.out.size hrb)
    clear hr8 hb8 hrb Hop
    go_wp2_with fail
    go_loopw [6] (fun iv wr => ∃ j : Nat, j ≤ i ∧ iv = .int .i64 (j : Int) ∧ Rd wr rb (encL (xs.drop j)) false ∧ Below w.heap.size w wr) (fun iv _ => i - (intOf iv).toNat)
    case atStart => exact ⟨0, Nat.zero_le _, rfl, Hr8.out, B8.out⟩
    case round =>
    obtain ⟨j, hj, rfl, hr, hb⟩ := hrel
    have HR := hide hr
    have B9 := hide hb
    clear hr hb Hr8
    by_cases hji : j < i
    case pos =>
      obtain ⟨x, hx⟩ : ∃ x, xs[j]? = some x := ⟨_, List.getElem?_eq_getElem (by rw [Hn.out]; exact hji)⟩
      obtain ⟨g, o, x0, x1, x2, x3, x4, rfl, hv, hcell⟩ := val_at HV.out hx
      have hfx := Hall.out x (List.mem_of_getElem? hx)
      have hr := HR.out
      rw [encL_drop hx] at hr
      have hq : rdV 24 (encV x ++ encL (xs.drop (j + 1))) = some (x, encL (xs.drop (j + 1))) := rdV_enc 24 x _ hfx.1 ⟨_, hv⟩
      have hne : ¬ encV x ++ encL (xs.drop (j + 1)) = [] := fun h => by have h1 := congrArg List.length h; rw [List.length_append, List.length_nil] at h1; have := enc_pos x; omega
      have hrd : Rd wr.drew rb (encV x ++ encL (xs.drop (j + 1))) false := hr.fr (F := fun _ => False) (Fr.refl _ _).drew (fun _ h => h.elim)
      have hend : Calls Try.prog 16 #[.pointer (some ⟨rb, 0, none⟩)] wr.drew fun e w' => e = .returned (.bool false) ∧ wr.drew = w' := (rend_any rb _ false wr.drew hrd).mono (fun e w' h => ⟨by rw [h.1, decide_eq_false hne]; rfl, h.2⟩)
      have Hend := hide hend
      have Hrd := hide hrd
      have Hq := hide hq
      have Hv := hide (fun (W : World) (hW : Below w.heap.size w W) => hv.later hW)
      have HC := hide hcell
      have Hji := hide hji
      have Hfx := hide hfx
      clear hx hv hcell hfx hr hq hne hrd hend hji HR
      go_upto_region 14 with fail
      refine wp_region_tree (fun W => Below w.heap.size w W) 11 (.read 0 (.eff 1 (.read 2 (.read 3 (.read 5 (.read 6 (.read 7 (.read 8 (.eff 4 (.eff 9 (.read 10 .nil))))))))))) (by kernel_rfl) (by kernel_rfl) (fun _ _ d _ _ h => by cases d <;> exact h) B9.out.drew ?_
      simp only [Plan.ops, List.getElem?_toArray, List.getElem?_cons_zero, List.getElem?_cons_succ, Option.elim, List.drop_succ_cons, List.drop_zero]
      refine wpTree_read rfl (fun W hW => (by clear hW; go_simp; try with_reducible rfl)) ?_
      refine wpTree_eff (wpEff_does rfl (fun K hK => ?_))
      refine wp_call_by 16 #[.pointer (some ⟨rb, 0, none⟩)] (by kernel_rfl) Hend.out ?_
      rintro e w10 ⟨rfl, rfl⟩
      refine ⟨_, rfl, hK _ _ B9.out.drew ?_⟩
      clear hK
      simp only [Act.put, List.setIfInBounds_toArray, List.set_cons_zero, List.set_cons_succ]
      refine wpTree_read rfl (fun W hW => (by clear hW; go_simp; try with_reducible rfl)) ?_
      simp only [Act.put, List.setIfInBounds_toArray, List.set_cons_zero, List.set_cons_succ]
      refine wpTree_read rfl (fun W hW => (by clear hW; go_simp; try with_reducible rfl)) ?_
      refine wpTree_read rfl (fun W hW => (by clear hW; go_simp; try with_reducible rfl)) ?_
      refine wpTree_read rfl (fun W hW => (by clear hW; go_simp; try with_reducible rfl)) ?_
      simp only [Act.put, List.setIfInBounds_toArray, List.set_cons_zero, List.set_cons_succ]
      refine wpTree_read (v := .pointer (some ⟨g, o + j * 5, none⟩)) rfl (fun W hW => (by have hji := Hji.out; have hi0 := Hn.out; clear hW; go_simp; try with_reducible rfl)) ?_
      simp only [Act.put, List.setIfInBounds_toArray, List.set_cons_zero, List.set_cons_succ]
      refine wpTree_read (v := .agg #[x0, x1, x2, x3, x4]) rfl (fun W hW => (by obtain ⟨p0, p1, p2, p3, p4⟩ := HC.out W hW; clear hW; go_simp; try with_reducible rfl)) ?_
      simp only [Act.put, List.setIfInBounds_toArray, List.set_cons_zero, List.set_cons_succ]
      refine wpTree_eff (wpEff_does rfl (fun K hK => ?_))
      refine wp_call_by 14 #[.pointer (some ⟨rb, 0, none⟩)] (by kernel_rfl) (rvalueM_any rb _ false wr.drew Hrd.out) ?_
      rintro e w11 ⟨cs11, rfl, h11, hf11, hcase⟩
      rcases hcase with ⟨v, r, hq11, hv11, hr11⟩ | ⟨hq11, _⟩
      case inr => exact absurd (Hq.out.symm.trans hq11) (by simp)
      have he11 := Hq.out.symm.trans hq11
      injection he11 with he11
      injection he11 with he1 he2
      subst he1 he2
      have hcs11 : ∃ y0 y1 y2 y3 y4, cs11 = [y0, y1, y2, y3, y4] := by cases hv11; exact ⟨_, _, _, _, _, rfl⟩
      obtain ⟨y0, y1, y2, y3, y4, rfl⟩ := hcs11
      have hb11 : Below w.heap.size w w11 := B9.out.drew.trans (hf11.below B9.out.size (fun k hk => by rw [show k = rb from hk]; exact Hrb.out))
      refine ⟨_, rfl, hK _ _ hb11 ?_⟩
      clear hK
      simp only [Act.put, List.setIfInBounds_toArray, List.set_cons_zero, List.set_cons_succ]
      refine wpTree_eff (wpEff_does rfl (fun K hK => ?_))
      refine wp_call_by 17 #[.agg #[y0, y1, y2, y3, y4], .agg #[x0, x1, x2, x3, x4]] (by kernel_rfl) (r3same_any 3000 x x [y0, y1, y2, y3, y4] [x0, x1, x2, x3, x4] w11 Hfx.out.2 (hv11.mono (fun k hk => hk.2)) (Hv.out _ hb11)) ?_
      rintro e w12 ⟨b12, rfl, hb12, hbel12⟩
      obtain rfl : b12 = true := hb12.2 rfl
      have hb13 : Below w.heap.size w w12 := hb11.trans (hbel12.mono hb11.size)
      refine ⟨_, rfl, hK _ _ hb13 ?_⟩
      clear hK
      simp only [Act.put, List.setIfInBounds_toArray, List.set_cons_zero, List.set_cons_succ]
      refine wpTree_read rfl (fun W hW => (by clear hW; go_simp; try with_reducible rfl)) ?_
      simp only [Act.put, List.setIfInBounds_toArray, List.set_cons_zero, List.set_cons_succ]
      refine wpTree_nil ?_
      have HR12 := hide (hr11.fr (F := fun _ => False) (Fr.of_below hbel12) (fun _ h => h.elim))
      have B12 := hide hb13
      clear hb13 hb11 hbel12 hr11 hv11 hf11 h11 hq11 hb12
      go_wp2
      go_roundw
      case rel => exact ⟨j + 1, by have := Hji.out; omega, by go_num, HR12.out, B12.out⟩
      case measure => have := Hji.out; simp [intOf]; omega
    case neg =>
      obtain rfl : j = i := by omega
      have hnil : xs.drop j = [] := by rw [← Hn.out, List.drop_length]
      have hend := rend_any rb _ false wr HR.out
      rw [hnil] at hend
      have Hend := hide (show Calls Try.prog 16 #[.pointer (some ⟨rb, 0, none⟩)] wr fun e w' => e = .returned (.bool true) ∧ wr = w' from hend)
      clear hend hnil hj hji
      go_wp2_with (go_at_call 16; refine Hend.out.mono ?_; rintro e w' ⟨rfl, rfl⟩)
      go_ret
      exact ⟨rfl, B9.out⟩

set_option maxRecDepth 100000 in
theorem wireJoins_lifted (os : Os) (started : os.Started) (H : Type) (enc : TypeId × Value → H) :
    ReturnsInHanded {} Try.checked os 5 .any (Rows.wireJoinsSpec.pre6 enc Try.prog Try.f5 Rows.wireJoinsRow.domain false) (Rows.wireJoinsSpec.post enc Try.prog Try.f5 false true false false) := by
  refine returnsInHanded_of_change (C := Try.checked) own0 started (by kernel_rfl) Try.func5
    (ChangeSpec.witness6 (enc := enc) (C := Try.checked) false ⟨#[], #[.slice none 0 0], []⟩ 8 (by kernel_rfl) (by kernel_rfl) (by kernel_rfl) (by kernel_rfl)) ?_
  intro W base args ds gs before hval0 hW _ _
  have hval : ∀ (j : Nat) t v, Try.f5.params[j]? = some t → args[j]? = some v → Value.okWide Try.prog W .any base t v := hval0
  have hW' := hW
  obtain ⟨p, q, hA0, hV, rfl, hfz, hnd⟩ := hW
  have hA : DataW.TrodAll enc Try.prog W 0 (fun _ => true) true Try.f5.params.toList args.toList ds p := hA0
  rw [Try.params5] at hA hval
  obtain ⟨v0, d0, rfl, rfl, h0⟩ := trodAll_one hA
  obtain ⟨rfl, rfl⟩ := trodVars_none hV
  obtain ⟨A0, c0, l0, rfl, V0⟩ := open_vals (hval 0 23 v0 rfl rfl) h0
  clear hA0 hval0
  refine (wjoins_any A0 c0 l0 W V0).mono fun e W' ⟨he, hb⟩ => ?_
  subst he
  exact ⟨_, rfl, law_close laid0 Try.underlying4 rfl rfl (by rw [Try.params5]; decide +kernel) hW' (fun gs hg => by subst hg; rfl) hb⟩

theorem wireJoins_holds : Rows.WireJoinsSaid :=
  OpenClaim.holds_of_wide 5 Try.f5 rfl rfl rfl rfl rfl rfl rfl ⟨rfl, rfl, rfl, rfl, rfl⟩ rfl rfl rfl rfl rfl (by kernel_rfl) Try.func5 (by kernel_rfl)
    (of_decide_eq_true (by kernel_rfl)) (by unfold Func.isWrapper; first | (rw [if_pos (by decide +kernel)]; kernel_rfl) | (rw [if_neg (by decide +kernel)]; exact ⟨rfl, rfl⟩))
    (fun os started H enc _ => wireJoins_lifted os started H enc)
end Go.Proofs.Ytdkmccilnmdhmaa
