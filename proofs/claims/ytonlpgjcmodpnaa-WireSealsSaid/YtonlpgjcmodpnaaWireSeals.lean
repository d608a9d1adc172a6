/-
  Sealed bytes, and back; bytes of which bits within 32 that follow one another are turned are refused: WireSeals answers true for any text, place, pattern and bytes; no condition.
-/
import Derived.Test.YtonlpgjcmodpnaaSg
import Derived.Test.YtonlpgjcmodpnaaLaw
import Derived.ChangeMaps5
namespace Go.Proofs.Ytonlpgjcmodpnaa
open Go.RowKit Go.ChangeShapes Go.WideShapes Go.ChangeAt

theorem open_cap {H : Type} {enc : TypeId × Value → H} {P : Program} {base : Nat} {spare : Nat → Bool} {held : Bool} {w : World} {t e : TypeId} {A : Option Addr} {n c : Nat} {d : DataW H} {ps : List MemPlace} (ht : P.underlying t = some (.slice e)) (he : P.underlying e = some (.int .u8)) (hc : P.cellsOf e = 1)
    (h : DataW.Trod enc P w base spare held t (.slice A n c) d ps) : n ≤ c := by
  obtain ⟨fuel, hf⟩ := h
  rcases open_ints ht he hc hf with ⟨h1, _⟩ | ⟨a, len, cap, zs, h1, _, h3, _⟩
  · simp [Value.cells] at h1
    omega
  · simp [Value.cells] at h1
    omega
theorem u16_of_wf {x : Int} (h : (Lit.int .u16 x).wf = true) : ∃ n : Nat, x = n ∧ n < 65536 := by
  simp [Lit.wf, IntKind.min, IntKind.max, IntKind.signed, IntKind.bits] at h
  exact ⟨x.toNat, by omega, by omega⟩
theorem u32_of_wf {x : Int} (h : (Lit.int .u32 x).wf = true) : ∃ n : Nat, x = n ∧ n < 4294967296 := by
  simp [Lit.wf, IntKind.min, IntKind.max, IntKind.signed, IntKind.bits] at h
  exact ⟨x.toNat, by omega, by omega⟩
theorem seals_walk (s : ByteArray) (x y : Int) (A : Option Addr) (c : Nat) (l : List UInt8) (w : World) (hs : s.size ≤ maxLen) (hx : (Lit.int .u16 x).wf = true) (hy : (Lit.int .u32 y).wf = true) (hb : Bytes w A l) (hm : l.length ≤ maxLen) (hc : l.length ≤ c) :
    Calls Try.prog 5 #[.string s, .int .u16 x, .int .u32 y, .slice A l.length c] w fun e w' => e = .returned (.bool true) ∧ Below w.heap.size w w' := by
  obtain ⟨n, rfl, hn⟩ := u16_of_wf hx
  obtain ⟨m, rfl, hm2⟩ := u32_of_wf hy
  have h := wseals_any s.data.toList n m A c l w (by have : s.data.toList.length = s.size := rfl; simp only [maxLen] at hs; omega) hn hm2 hb hc (by simp only [maxLen] at hm; omega)
  simpa [sv] using h

set_option maxRecDepth 100000 in
theorem wireSeals_lifted (os : Os) (started : os.Started) (H : Type) (enc : TypeId × Value → H) :
    ReturnsInHanded {} Try.checked os 5 .any (Rows.wireSealsSpec.pre6 enc Try.prog Try.f5 Rows.wireSealsRow.domain false) (Rows.wireSealsSpec.post enc Try.prog Try.f5 false true false false) := by
  refine returnsInHanded_of_change (C := Try.checked) own0 started (by kernel_rfl) Try.func5
    (ChangeSpec.witness6 (enc := enc) (C := Try.checked) false ⟨#[], #[.string ⟨#[]⟩, .int .u16 0, .int .u32 0, .slice none 0 0], []⟩ 8 (by kernel_rfl) (by kernel_rfl) (by kernel_rfl) (by kernel_rfl)) ?_
  intro W base args ds gs before hval0 hW _ _
  have hval : ∀ (j : Nat) t v, Try.f5.params[j]? = some t → args[j]? = some v → Value.okWide Try.prog W .any base t v := hval0
  have hW' := hW
  obtain ⟨p, q, hA0, hV, rfl, hfz, hnd⟩ := hW
  have hA : DataW.TrodAll enc Try.prog W 0 (fun _ => true) true Try.f5.params.toList args.toList ds p := hA0
  rw [Try.params5] at hA hval
  obtain ⟨v0, v1, v2, v3, d0, d1, d2, d3, p0, p1, p2, p3, rfl, rfl, rfl, h0, h1, h2, h3⟩ := trodAll_four hA
  obtain ⟨rfl, rfl⟩ := trodVars_none hV
  obtain ⟨x0, rfl, rfl, rfl, w0⟩ := Go.ChangeMaps.open_string Try.underlying9 (hval 0 9 v0 rfl rfl) h0
  obtain ⟨x1, rfl, rfl, rfl, w1⟩ := open_int Try.underlying51 (hval 1 51 v1 rfl rfl) h1
  obtain ⟨x2, rfl, rfl, rfl, w2⟩ := open_int Try.underlying52 (hval 2 52 v2 rfl rfl) h2
  obtain ⟨A3, c3, l3, rfl, b3, m3⟩ := open_bytes Try.underlying25 Try.underlying5 (by kernel_rfl) (hval 3 25 v3 rfl rfl) h3
  have k3 := open_cap Try.underlying25 Try.underlying5 (by kernel_rfl) h3
  clear hA0 hval0
  refine (seals_walk x0 x1 x2 A3 c3 l3 W w0 w1 w2 b3 m3 k3).mono fun e W' ⟨he, hb⟩ => ?_
  subst he
  exact ⟨_, rfl, law_close laid0 Try.underlying4 rfl rfl (by rw [Try.params5]; decide +kernel) hW' (fun gs hg => by subst hg; rfl) hb⟩

theorem wireSeals_holds : Rows.WireSealsSaid :=
  OpenClaim.holds_of_wide 5 Try.f5 rfl rfl rfl rfl rfl rfl rfl ⟨rfl, rfl, rfl, rfl, rfl⟩ rfl rfl rfl rfl rfl (by kernel_rfl) Try.func5 (by kernel_rfl)
    (of_decide_eq_true (by kernel_rfl)) (by unfold Func.isWrapper; first | (rw [if_pos (by decide +kernel)]; kernel_rfl) | (rw [if_neg (by decide +kernel)]; exact ⟨rfl, rfl⟩))
    (fun os started H enc _ => wireSeals_lifted os started H enc)
end Go.Proofs.Ytonlpgjcmodpnaa
