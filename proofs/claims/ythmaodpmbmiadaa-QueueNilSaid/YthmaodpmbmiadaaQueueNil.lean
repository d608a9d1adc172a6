/-
  A nil queue has nothing: QueueNil answers true for any number; no condition.
-/
import Derived.Test.YthmaodpmbmiadaaQaw
import Derived.Test.YthmaodpmbmiadaaLaw
namespace Go.Proofs.Ythmaodpmbmiadaa
open Go.RowKit Go.ChangeShapes Go.WideShapes Go.ChangeAt

set_option maxHeartbeats 2000000 in
theorem qnil_any (x0 : Int) (w : World) : Calls Try.prog 6 #[.int .u64 x0] w fun e w' => e = .returned (.bool true) ∧ Below w.heap.size w w' := by
  go_enter Try.func6, Try.ntmps6
  go_wp2_with (first
    | (go_at_call 20; refine (putNil _ _).mono ?_; rintro e w7 ⟨rfl, rfl⟩)
    | (go_at_call 22; refine (takeNil _).mono ?_; rintro e w7 ⟨rfl, rfl⟩)
    | (go_at_call 25; refine (dropNil _ _).mono ?_; rintro e w7 ⟨rfl, rfl⟩)
    | (go_at_call 24; refine (lenNilInt _).mono ?_; rintro e w7 ⟨rfl, rfl⟩)
    | (go_at_call 26; refine (goneNil _).mono ?_; rintro e w7 ⟨rfl, rfl⟩)
    | (go_at_call 27; refine (allNil _).mono ?_; rintro e w7 ⟨rfl, rfl⟩)
    | (go_at_call 9; refine (awake_any _).mono ?_; rintro e w7 ⟨rfl, hb7⟩; have Hb7 := hide hb7; clear hb7))
  go_ret
  exact ⟨rfl, Hb7.out⟩

set_option maxRecDepth 100000 in
theorem queueNil_lifted (os : Os) (started : os.Started) (H : Type) (enc : TypeId × Value → H) :
    ReturnsInHanded {} Try.checked os 6 .any (Rows.queueNilSpec.pre6 enc Try.prog Try.f6 Rows.queueNilRow.domain false) (Rows.queueNilSpec.post enc Try.prog Try.f6 false true false false) := by
  refine returnsInHanded_of_change (C := Try.checked) own0 started (by kernel_rfl) Try.func6
    (ChangeSpec.witness6 (enc := enc) (C := Try.checked) false ⟨#[], #[.int .u64 0], []⟩ 8 (by kernel_rfl) (by kernel_rfl) (by kernel_rfl) (by kernel_rfl)) ?_
  intro W base args ds gs before hval0 hW _ _
  have hval : ∀ (j : Nat) t v, Try.f6.params[j]? = some t → args[j]? = some v → Value.okWide Try.prog W .any base t v := hval0
  have hW' := hW
  obtain ⟨p, q, hA0, hV, rfl, hfz, hnd⟩ := hW
  have hA : DataW.TrodAll enc Try.prog W 0 (fun _ => true) true Try.f6.params.toList args.toList ds p := hA0
  rw [Try.params6] at hA hval
  obtain ⟨v0, d0, rfl, rfl, h0⟩ := trodAll_one hA
  obtain ⟨rfl, rfl⟩ := trodVars_none hV
  obtain ⟨x0, rfl, rfl, rfl, w0⟩ := open_int Try.underlying29 (hval 0 29 v0 rfl rfl) h0
  clear hA0 hval0
  refine (qnil_any x0 W).mono fun e W' ⟨he, hb⟩ => ?_
  subst he
  exact ⟨_, rfl, law_close laid0 Try.underlying4 rfl rfl (by rw [Try.params6]; decide +kernel) hW' (fun gs hg => by subst hg; rfl) hb⟩

theorem queueNil_holds : Rows.QueueNilSaid :=
  OpenClaim.holds_of_wide 6 Try.f6 rfl rfl rfl rfl rfl rfl rfl ⟨rfl, rfl, rfl, rfl, rfl⟩ rfl rfl rfl rfl rfl (by kernel_rfl) Try.func6 (by kernel_rfl)
    (of_decide_eq_true (by kernel_rfl)) (by unfold Func.isWrapper; first | (rw [if_pos (by decide +kernel)]; kernel_rfl) | (rw [if_neg (by decide +kernel)]; exact ⟨rfl, rfl⟩))
    (fun os started H enc _ => queueNil_lifted os started H enc)
end Go.Proofs.Ythmaodpmbmiadaa
