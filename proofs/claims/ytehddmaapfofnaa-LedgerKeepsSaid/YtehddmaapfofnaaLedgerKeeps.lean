/-
  What is handed in may be written over behind the call: LedgerKeeps answers true for any bytes; no condition.
-/
import Derived.Test.YtehddmaapfofnaaLwB
import Derived.Test.YtehddmaapfofnaaLaw
namespace Go.Proofs.Ytehddmaapfofnaa
open Go.RowKit Go.ChangeShapes Go.WideShapes Go.ChangeAt

set_option maxHeartbeats 1000000 in
theorem lkeeps_short (A : Option Addr) (l c : Nat) (w : World) (h : l = 0 ∨ 500 < l) :
    Calls Try.prog 10 #[.slice A l c] w fun e w' => e = .returned (.bool true) ∧ Below w.heap.size w w' := by
  rcases h with rfl | h
  all_goals
    go_enter Try.func10, Try.ntmps10
    go_wp2_with fail
    refine (awake_any w).mono ?_
    rintro e w1 ⟨rfl, hb1⟩
    have Hb1 := hide hb1
    clear hb1
    go_wp2_with fail
    refine (awake_any w1).mono ?_
    rintro e w2 ⟨rfl, hb2⟩
    have Hb2 := hide (Hb1.out.trans (hb2.mono Hb1.out.size))
    clear hb2
    go_wp2
    go_ret
    exact ⟨rfl, Hb2.out⟩

set_option maxHeartbeats 8000000 in
theorem lkeeps_any (A : Option Addr) (c : Nat) (x : UInt8) (r : List UInt8) (l : Nat) (w : World) (hl : (x :: r).length = l) (h500 : l ≤ 500) (hb : Bytes w A (x :: r)) :
    Calls Try.prog 10 #[.slice A l c] w fun e w' => e = .returned (.bool true) ∧ Below w.heap.size w w' := by
  have hl0 : 0 < l := by rw [← hl]; simp
  have hz : ((l : Int) == 0) = false := by rw [beq_eq_false_iff_ne]; omega
  have Hl := hide hl
  have Hb := hide hb
  clear hl hb
  go_enter Try.func10, Try.ntmps10
  go_wp2_with fail
  refine (awake_any w).mono ?_
  rintro e w1 ⟨rfl, hb1⟩
  have Hb1 := hide hb1
  clear hb1
  go_wp2_with fail
  refine (lopen_any 20 w w1 Hb1.out (by omega) (by omega)).mono ?_
  rintro e w2 ⟨lb, b, F0, rfl, h0, hb2, _⟩
  have s0 := (lies_new 41 1 20 (by omega) (by omega) (by omega)).opened
  obtain ⟨L0, hL0⟩ : ∃ L, L = Lg.opened 1 20 0 ⟨[], []⟩ := ⟨_, rfl⟩
  obtain ⟨D0, hD0⟩ : ∃ D, D = Dk.new 41 := ⟨_, rfl⟩
  rw [show 2 * 20 + 1 = 41 from rfl, ← hL0, ← hD0] at h0
  rw [← hL0, ← hD0] at s0
  have r0 : L0.room = 1216 := by rw [hL0]; rfl
  have f0 : D0.fuse = 0 := by rw [hD0]; rfl
  have o0 : D0.ops = 0 := by rw [hD0]; rfl
  have a0 : L0.at_ = 1 := by rw [hL0]; rfl
  have l0 : L0.bl = 20 := by rw [hL0]; rfl
  have hbw := h0.bytes Hb.out
  have H0 := hide h0
  have S0 := hide s0
  have Hbw := hide hbw
  clear h0 s0 hb2 hL0 hD0 Hb1 hbw
  go_upto_region 5 with (refine wpList_append_bytes rfl (.const (.slice none 0 0)) (.tmp 28) 22 rfl Try.underlying22 infoU8 none 0 0 [] rfl (OwnB.nil _) A l c (x :: r) rfl Hl.out Hbw.out (by omega) ?_; intro A' c' w3 ho3 hf3 hn3 hA3)
  rw [List.nil_append, Nat.zero_add] at ho3
  obtain ⟨g, rfl⟩ := hA3 (by omega)
  have hg : w2.heap.size ≤ g := (hn3 g (At.some_iff.2 rfl)).elim (fun h => absurd h At.none_not) id
  have hg0 : w.heap.size ≤ g := Nat.le_trans H0.out.below.size hg
  have h3 := H0.out.fr hf3 (fun k _ hk => absurd hk At.none_not)
  have H3 := hide h3
  have O3 := hide ho3
  clear ho3 hf3 hn3 hA3 h3 H0
  go_wp2_with fail
  refine (H3.out.snapshot_ok S0.out (by omega) f0 (some ⟨g, 0, none⟩) l c' (x :: r) Hl.out O3.out.bytes (by omega) (by
    rw [r0]; show (x :: r).length + 8 + 0 ≤ 1216; rw [Hl.out]; omega)).mono ?_
  rintro e w4 ⟨L1, D1, hd1, F1, rfl, h1, hf4, _⟩
  have o4 := H3.out.ownb hf4 O3.out
  have r1 := hd1.room_eq
  have f1 := hd1.fuse0 f0
  have p1 := hd1.ops
  have a1 := hd1.at_
  have l1 := hd1.bl
  have c4 := own_cons o4
  have z4 := o4.frozen 0
  have H4 := hide h1
  have O4 := hide o4
  have K4 := hide hd1
  clear h1 o4 hd1 hf4 H3 O3 S0
  go_wp2_with fail
  obtain ⟨y, hy⟩ : ∃ y : UInt8, y = x ^^^ 1 := ⟨_, rfl⟩
  have hx1 : Value.int .u8 (bits .xor .u8 (x.toNat : Int) 1) = Value.int .u8 (y.toNat : Int) := by rw [hy]; exact xor_u8 x 1 (by omega)
  rw [hx1]
  have h5 := H4.out.setCell O4.out hg0 0 (.int .u8 (y.toNat : Int))
  have o5 : OwnB _ _ _ _ (y :: r) := O4.out.set 0 y
  have H5 := hide h5
  have O5 := hide o5
  have hly : (y :: r).length = l := Hl.out
  have Hly := hide hly
  clear h5 o5 H4 O4 c4 z4 hly hy
  refine (H5.out.append_ok K4.out.st (by omega) f1 (some ⟨g, 0, none⟩) l c' (y :: r) Hly.out O5.out.bytes (fun k hk hF => H5.out.own_ne O5.out k hk (.inl hF)) (by omega) (by
    rw [r1, r0, Kp.need_with, Hly.out]; show (x :: r).length + 8 + 0 + 8 + l ≤ 1216; rw [Hl.out]; omega)).mono ?_
  rintro e w5 ⟨L2, D2, hd2, F2, rfl, h6, hf6, _⟩
  have o6 := H5.out.ownb hf6 O5.out
  have hl6 := hd2.st.lies
  rw [hd2.at_, a1, a0, hd2.bl, l1, l0] at hl6
  have c6 := own_cons o6
  have z6 := o6.frozen 0
  have hst6 := str_run (c := c') Hly.out o6.bytes
  have H6 := hide h6
  have O6 := hide o6
  have K6 := hide hl6
  clear h6 o6 hd2 hf6 H5 O5 K4 hl6 hx1
  go_wp2_with fail
  generalize hu7 : (Value.int .u8 (bits .xor .u8 (y.toNat : Int) 2)) = u7 at *
  have h7 := H6.out.setCell O6.out hg0 0 u7
  have H7 := hide h7
  clear h7 H6 O6 c6 z6 hu7
  refine (open_lies (w0 := w) K6.out H7.out.disk H7.out.below H7.out.own).mono ?_
  rintro e w8 ⟨lb2, A8, c8, R, d, rfl, hA, hR, h8, _, hb8, _⟩
  obtain ⟨gR, P, pc, rfl, _, hRc, hRo⟩ := recs_one hR
  have e8 : (Kp.with_ ⟨x :: r, []⟩ (y :: r)).snap.length = l := Hl.out
  rw [Hly.out] at hRc
  rw [e8]
  have hbw := h8.bytes Hb.out
  have hA8 : (convert 22 9 (.slice A8 l c8)).run Try.prog w8 = .ok (.string ⟨(x :: r).toArray⟩) w8 := str_run Hl.out hA
  have hA9 : (convert 22 9 (.slice A l c)).run Try.prog w8 = .ok (.string ⟨(x :: r).toArray⟩) w8 := str_run Hl.out hbw
  have hA10 : (convert 22 9 (.slice P l pc)).run Try.prog w8 = .ok (.string ⟨(y :: r).toArray⟩) w8 := str_run Hly.out hRo.bytes
  have H8 := hide h8.below
  clear h8 hA hR hRo hbw H7 K6
  go_wp2
  go_ret
  exact ⟨rfl, H8.out⟩

theorem lkeeps_walk (A : Option Addr) (c : Nat) (l : List UInt8) (w : World) (hb : Bytes w A l) :
    Calls Try.prog 10 #[.slice A l.length c] w fun e w' => e = .returned (.bool true) ∧ Below w.heap.size w w' := by
  by_cases h : l.length = 0 ∨ 500 < l.length
  · exact lkeeps_short A l.length c w h
  · match l, hb, h with
    | [], _, h => exact absurd (.inl rfl) h
    | x :: r, hb, h => exact lkeeps_any A c x r _ w rfl (by omega) hb

set_option maxRecDepth 100000 in
theorem ledgerKeeps_lifted (os : Os) (started : os.Started) (H : Type) (enc : TypeId × Value → H) :
    ReturnsInHanded {} Try.checked os 10 .any (Rows.ledgerKeepsSpec.pre6 enc Try.prog Try.f10 Rows.ledgerKeepsRow.domain false) (Rows.ledgerKeepsSpec.post enc Try.prog Try.f10 false true false false) := by
  refine returnsInHanded_of_change (C := Try.checked) own0 started (by kernel_rfl) Try.func10
    (ChangeSpec.witness6 (enc := enc) (C := Try.checked) false ⟨#[], #[.slice none 0 0], []⟩ 8 (by kernel_rfl) (by kernel_rfl) (by kernel_rfl) (by kernel_rfl)) ?_
  intro W base args ds gs before hval0 hW _ _
  have hval : ∀ (j : Nat) t v, Try.f10.params[j]? = some t → args[j]? = some v → Value.okWide Try.prog W .any base t v := hval0
  have hW' := hW
  obtain ⟨p, q, hA0, hV, rfl, hfz, hnd⟩ := hW
  have hA : DataW.TrodAll enc Try.prog W 0 (fun _ => true) true Try.f10.params.toList args.toList ds p := hA0
  rw [Try.params10] at hA hval
  obtain ⟨v0, d0, rfl, rfl, h0⟩ := trodAll_one hA
  obtain ⟨rfl, rfl⟩ := trodVars_none hV
  obtain ⟨A0, c0, l0, rfl, b0, m0⟩ := open_bytes Try.underlying22 Try.underlying5 (by kernel_rfl) (hval 0 22 v0 rfl rfl) h0
  clear hA0 hval0
  refine (lkeeps_walk A0 c0 l0 W b0).mono fun e W' ⟨he, hb⟩ => ?_
  subst he
  exact ⟨_, rfl, law_close laid0 Try.underlying4 rfl rfl (by rw [Try.params10]; decide +kernel) hW' (fun gs hg => by subst hg; rfl) hb⟩

theorem ledgerKeeps_holds : Rows.LedgerKeepsSaid :=
  OpenClaim.holds_of_wide 10 Try.f10 rfl rfl rfl rfl rfl rfl rfl ⟨rfl, rfl, rfl, rfl, rfl⟩ rfl rfl rfl rfl rfl (by kernel_rfl) Try.func10 (by kernel_rfl)
    (of_decide_eq_true (by kernel_rfl)) (by unfold Func.isWrapper; first | (rw [if_pos (by decide +kernel)]; kernel_rfl) | (rw [if_neg (by decide +kernel)]; exact ⟨rfl, rfl⟩))
    (fun os started H enc _ => ledgerKeeps_lifted os started H enc)

end Go.Proofs.Ytehddmaapfofnaa
