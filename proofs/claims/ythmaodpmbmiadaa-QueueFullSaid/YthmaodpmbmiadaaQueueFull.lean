/-
  As many as may be wait, and no more; what goes makes room for just as many: QueueFull answers true for any numbers; no condition.
-/
import Derived.Test.YthmaodpmbmiadaaQaw
import Derived.Test.YthmaodpmbmiadaaQop
namespace Go.Proofs.Ythmaodpmbmiadaa
open Go.RowKit Go.ChangeShapes Go.WideShapes Go.ChangeAt

/-- Some queue of the law's, of n at most, of which so many wait and so many are gone. -/
def FQ (w0 w : World) (q c n m g : Nat) : Prop := ∃ S, S.q = q ∧ S.c = c ∧ S.cap = n ∧ S.l.length = m ∧ S.gone = g ∧ OnQ w0 w 82 S
theorem FQ.put {w0 w : World} {q c n m g : Nat} (x : Value) (h : FQ w0 w q c n m g) (hm : m < n) (hg : g ≤ 100) :
    Calls Try.prog 20 #[.pointer (some ⟨q, 0, none⟩), x] w fun e w' => (∃ y, e = .returned (.tuple #[y, .int .i64 0])) ∧ FQ w0 w' q c n (m + 1) g := by
  obtain ⟨S, rfl, rfl, rfl, rfl, rfl, h⟩ := h
  refine (putInt S x w h.at_ hm (by omega)).mono ?_
  rintro e w' ⟨rfl, hq, hf⟩
  exact ⟨⟨_, rfl⟩, S.put x, rfl, rfl, rfl, by simp [QS.put], rfl, h.step hq hf rfl rfl⟩
theorem FQ.full {w0 w : World} {q c n g : Nat} (x : Value) (h : FQ w0 w q c n n g) :
    Calls Try.prog 20 #[.pointer (some ⟨q, 0, none⟩), x] w fun e w' => e = .returned (.tuple #[.int .u64 0, .int .i64 17]) ∧ w' = w := by
  obtain ⟨S, rfl, rfl, hc, hl, rfl, h⟩ := h
  exact putFullInt S x w h.at_ (by omega)
theorem FQ.take {w0 w : World} {q c n m g : Nat} (h : FQ w0 w q c n (m + 1) g) (hg : g ≤ 100) :
    Calls Try.prog 22 #[.pointer (some ⟨q, 0, none⟩)] w fun e w' => (∃ y, e = .returned (.tuple #[y, .int .i64 0])) ∧ FQ w0 w' q c n m (g + 1) := by
  obtain ⟨S, rfl, rfl, rfl, hl, rfl, h⟩ := h
  obtain ⟨x, l, hx⟩ : ∃ x l, S.l = x :: l := by
    cases hs : S.l with
    | nil => rw [hs] at hl; simp at hl
    | cons x l => exact ⟨x, l, rfl⟩
  refine (takeInt S x l w h.at_ hx (by omega)).mono ?_
  rintro e w' ⟨rfl, hq, hf⟩
  exact ⟨⟨_, rfl⟩, S.drop 1, rfl, rfl, rfl, by simp [QS.drop, hl], rfl, h.step hq hf rfl rfl⟩

set_option maxHeartbeats 2000000 in
theorem qfull_any (x0 x1 : Int) (w : World) (h0 : 0 ≤ x0) (h0' : x0 ≤ 255) (h1 : 0 ≤ x1) (h1' : x1 ≤ 255) : Calls Try.prog 8 #[.int .u8 x0, .int .u8 x1] w fun e w' => e = .returned (.bool true) ∧ Below w.heap.size w w' := by
  go_enter Try.func8, Try.ntmps8
  go_wp2_with fail
  refine (awake_any w).mono ?_
  rintro e w1 ⟨rfl, hb1⟩
  have Hb1 := hide hb1
  clear hb1
  go_wp2_with fail
  obtain ⟨n, hn⟩ : ∃ n : Nat, 1 + x0 % 64 = (n : Int) := ⟨(1 + x0 % 64).toNat, by omega⟩
  obtain ⟨k, hk⟩ : ∃ k : Nat, x1 % ((n : Int) + 1) = (k : Int) := ⟨(x1 % ((n : Int) + 1)).toNat, by
    have := Int.emod_nonneg x1 (show ((n : Int) + 1) ≠ 0 by omega)
    omega⟩
  have hn1 : 1 ≤ n := by omega
  have hn2 : n ≤ 64 := by omega
  have hkn : k ≤ n := by
    have := Int.emod_lt_of_pos x1 (show 0 < ((n : Int) + 1) by omega)
    omega
  simp only [hn, hk]
  clear hn hk h0 h0' h1 h1'
  refine (newInt n 0 w1 hn1 hn2).mono ?_
  rintro e w2 ⟨S, rfl, hq, hcap, hgone, hl, hb, hF⟩
  obtain ⟨q, hq0⟩ : ∃ q, S.q = q := ⟨_, rfl⟩
  obtain ⟨c, hc0⟩ : ∃ c, S.c = c := ⟨_, rfl⟩
  have F0 := hide (show FQ w w2 q c n 0 0 from ⟨S, hq0, hc0, hcap, by rw [hl]; rfl, hgone, OnQ.new Hb1.out hq hb hF⟩)
  rw [hq0]
  clear hq hcap hgone hl hb hF hq0 hc0
  go_wp2_with fail
  go_loopw [9] (fun iv wr => ∃ j : Nat, j ≤ n ∧ iv = .int .i64 (j : Int) ∧ FQ w wr q c n j 0) (fun iv _ => n - (intOf iv).toNat)
  case atStart => exact ⟨0, Nat.zero_le _, rfl, F0.out⟩
  case round =>
    obtain ⟨j, hj, rfl, hq⟩ := hrel
    have Hq := hide hq
    clear hq
    by_cases hlt : j < n
    · go_wp2_with fail
      refine (Hq.out.put _ hlt (by omega)).mono ?_
      rintro e w3 ⟨⟨y, rfl⟩, hq3⟩
      have Hq3 := hide hq3
      clear hq3
      go_wp2
      go_roundw
      case rel => exact ⟨j + 1, by omega, by go_num, Hq3.out⟩
      case measure => simp [intOf]; omega
    · obtain rfl : j = n := by omega
      go_wp2_with fail
      refine (Hq.out.full _).mono ?_
      rintro e w3 ⟨rfl, rfl⟩
      go_wp2_with fail
      go_loopw [14] (fun iv wr => ∃ i : Nat, i ≤ k ∧ iv = .int .i64 (i : Int) ∧ FQ w wr q c j (j - i) i) (fun iv _ => k - (intOf iv).toNat)
      case atStart => exact ⟨0, Nat.zero_le _, rfl, Hq.out⟩
      case round =>
        obtain ⟨i, hi, rfl, hq⟩ := hrel
        by_cases hlt : i < k
        · rw [show j - i = (j - (i + 1)) + 1 from by omega] at hq
          have Hq := hide hq
          clear hq
          go_wp2_with fail
          refine (Hq.out.take (by omega)).mono ?_
          rintro e w4 ⟨⟨y, rfl⟩, hq4⟩
          have Hq4 := hide hq4
          clear hq4
          go_wp2
          go_roundw
          case rel => exact ⟨i + 1, by omega, by go_num, Hq4.out⟩
          case measure => simp [intOf]; omega
        · obtain rfl : i = k := by omega
          have Hq := hide hq
          clear hq
          go_wp2_with fail
          go_loopw [15] (fun iv wr => ∃ m : Nat, m ≤ i ∧ iv = .int .i64 (m : Int) ∧ FQ w wr q c j (j - i + m) i) (fun iv _ => i - (intOf iv).toNat)
          case atStart => exact ⟨0, Nat.zero_le _, rfl, Hq.out⟩
          case round =>
            obtain ⟨m, hm, rfl, hq⟩ := hrel
            by_cases hlt : m < i
            · have Hq := hide hq
              clear hq
              go_wp2_with fail
              refine (Hq.out.put _ (by omega) (by omega)).mono ?_
              rintro e w4 ⟨⟨y, rfl⟩, hq4⟩
              have Hq4 := hide hq4
              clear hq4
              go_wp2
              go_roundw
              case rel => exact ⟨m + 1, by omega, by go_num, Hq4.out⟩
              case measure => simp [intOf]; omega
            · obtain rfl : m = i := by omega
              rw [show j - m + m = j from by omega] at hq
              have Hq := hide hq
              clear hq
              go_wp2_with fail
              refine (Hq.out.full _).mono ?_
              rintro e w5 ⟨rfl, rfl⟩
              obtain ⟨S', hSq, hSc, hScap, hSl, hSg, hS⟩ := Hq.out
              go_wp2_with fail
              rw [← hSq]
              refine (lenInt S' w5 hS.at_).mono ?_
              rintro e w6 ⟨rfl, rfl⟩
              rw [hSl, hSq]
              go_wp2_with fail
              rw [← hSq]
              refine (goneInt S' w6 hS.at_).mono ?_
              rintro e w7 ⟨rfl, rfl⟩
              rw [hSg]
              go_wp2
              go_ret
              exact ⟨rfl, hS.below⟩

set_option maxRecDepth 100000 in
theorem queueFull_lifted (os : Os) (started : os.Started) (H : Type) (enc : TypeId × Value → H) :
    ReturnsInHanded {} Try.checked os 8 .any (Rows.queueFullSpec.pre6 enc Try.prog Try.f8 Rows.queueFullRow.domain false) (Rows.queueFullSpec.post enc Try.prog Try.f8 false true false false) := by
  refine returnsInHanded_of_change (C := Try.checked) own0 started (by kernel_rfl) Try.func8
    (ChangeSpec.witness6 (enc := enc) (C := Try.checked) false ⟨#[], #[.int .u8 0, .int .u8 0], []⟩ 8 (by kernel_rfl) (by kernel_rfl) (by kernel_rfl) (by kernel_rfl)) ?_
  intro W base args ds gs before hval0 hW _ _
  have hval : ∀ (j : Nat) t v, Try.f8.params[j]? = some t → args[j]? = some v → Value.okWide Try.prog W .any base t v := hval0
  have hW' := hW
  obtain ⟨p, q, hA0, hV, rfl, hfz, hnd⟩ := hW
  have hA : DataW.TrodAll enc Try.prog W 0 (fun _ => true) true Try.f8.params.toList args.toList ds p := hA0
  rw [Try.params8] at hA hval
  obtain ⟨v0, v1, d0, d1, p0, p1, rfl, rfl, rfl, h0, h1⟩ := trodAll_two hA
  obtain ⟨rfl, rfl⟩ := trodVars_none hV
  obtain ⟨x0, rfl, rfl, rfl, w0⟩ := open_int Try.underlying5 (hval 0 5 v0 rfl rfl) h0
  obtain ⟨x1, rfl, rfl, rfl, w1⟩ := open_int Try.underlying5 (hval 1 5 v1 rfl rfl) h1
  clear hA0 hval0
  refine (qfull_any x0 x1 W (u8_of_wf w0).1 (u8_of_wf w0).2 (u8_of_wf w1).1 (u8_of_wf w1).2).mono fun e W' ⟨he, hb⟩ => ?_
  subst he
  exact ⟨_, rfl, law_close laid0 Try.underlying4 rfl rfl (by rw [Try.params8]; decide +kernel) hW' (fun gs hg => by subst hg; rfl) hb⟩

theorem queueFull_holds : Rows.QueueFullSaid :=
  OpenClaim.holds_of_wide 8 Try.f8 rfl rfl rfl rfl rfl rfl rfl ⟨rfl, rfl, rfl, rfl, rfl⟩ rfl rfl rfl rfl rfl (by kernel_rfl) Try.func8 (by kernel_rfl)
    (of_decide_eq_true (by kernel_rfl)) (by unfold Func.isWrapper; first | (rw [if_pos (by decide +kernel)]; kernel_rfl) | (rw [if_neg (by decide +kernel)]; exact ⟨rfl, rfl⟩))
    (fun os started H enc _ => queueFull_lifted os started H enc)
end Go.Proofs.Ythmaodpmbmiadaa
