/- Package wire: increasing. -/
import Derived.Test.YteoimkjocijcjaaVi
import Derived.Laws.Cover1
namespace Go.Proofs.Yteoimkjocijcjaa
open Go.RowKit

/-- The first i names rise. -/
def IncP (ks : List (List UInt8)) (i : Nat) : Prop := ∀ j x y, j + 1 < i → ks[j]? = some x → ks[j + 1]? = some y → Op.bytesLess x y = true
theorem IncP.one (ks : List (List UInt8)) {i : Nat} (h : i ≤ 1) : IncP ks i := fun j _ _ hj => by omega
theorem IncP.succ {ks : List (List UInt8)} {m : Nat} {x y : List UInt8} (hx : ks[m]? = some x) (hy : ks[m + 1]? = some y) : IncP ks (m + 2) ↔ IncP ks (m + 1) ∧ Op.bytesLess x y = true := by
  constructor
  · exact fun h => ⟨fun j a b hj => h j a b (by omega), h m x y (by omega) hx hy⟩
  · rintro ⟨h1, h2⟩ j a b hj ha hb
    by_cases hjm : j = m
    · subst hjm
      rw [hx] at ha
      rw [hy] at hb
      injection ha with ha
      injection hb with hb
      rw [← ha, ← hb]
      exact h2
    · exact h1 j a b (by omega) ha hb
set_option maxRecDepth 100000 in
set_option maxHeartbeats 4000000 in
theorem incr_any (G : Nat → Prop) (A : Option Addr) (ks : List (List UInt8)) (c : Nat) (w : World) (hA : SRow w G A ks) (hk : ks.length ≤ 9223372036854775807) :
    Calls Try.prog 21 #[.slice A ks.length c] w (BoolP (IncP ks ks.length) w) := by
  obtain ⟨n, hn⟩ : ∃ n, ks.length = n := ⟨_, rfl⟩
  rw [hn] at hk
  rw [hn]
  have HA := hide hA
  have Hn := hide hn
  clear hA hn
  go_enter Try.func21, Try.ntmps21
  go_wp2_with fail
  go_loopw [6] (fun iv wr => ∃ i : Nat, i ≤ n ∧ iv = .int .i64 (i : Int) ∧ IncP ks i ∧ ∃ q, w.drewN q = wr) (fun iv _ => n - (intOf iv).toNat)
  case atStart => exact ⟨0, Nat.zero_le _, rfl, IncP.one ks (by omega), 0, rfl⟩
  case round =>
    obtain ⟨i, hi, rfl, hinc, q, rfl⟩ := hrel
    have Hinc := hide hinc
    clear hinc
    by_cases hil : i < n
    case pos =>
      by_cases hi0 : i = 0
      · subst hi0
        go_upto_region 4 with fail
        go_quiet (fail)
        go_wp2
        go_roundw
        case rel => exact ⟨1, by omega, by go_num, IncP.one ks (by omega), _, rfl⟩
        case measure => simp [intOf]; omega
      · obtain ⟨m, hm⟩ : ∃ m, i = m + 1 := ⟨i - 1, by omega⟩
        obtain ⟨x, hx⟩ : ∃ x, ks[m]? = some x := ⟨_, List.getElem?_eq_getElem (by rw [Hn.out]; omega)⟩
        obtain ⟨y, hy⟩ : ∃ y, ks[i]? = some y := ⟨_, List.getElem?_eq_getElem (by rw [Hn.out]; omega)⟩
        obtain ⟨g1, o1, rfl, h1⟩ := HA.out.get hx
        obtain ⟨g2, o2, he, h2⟩ := HA.out.get hy
        injection he with he
        injection he with he1 he2 he3
        subst he1 he2
        have h1' : (w.drewN q).cell? ⟨g1, o1 + m, none⟩ = some (sv x) := h1
        have h2' : (w.drewN q).cell? ⟨g1, o1 + i, none⟩ = some (sv y) := h2
        have Hx := hide hx
        rw [hm] at hy
        have Hy := hide hy
        have hi1 : 0 < i := by omega
        have hsub : (i : Int) - 1 = (m : Int) := by omega
        have Hm := hide hm
        clear hx hy he3 hi0
        have hmn : m < n := by omega
        have hwr : IntKind.i64.wrap (m : Int) = (m : Int) := by simp [IntKind.wrap, IntKind.bits, IntKind.signed]; omega
        clear hm
        cases hlt : Op.bytesLess x y with
        | true =>
          go_upto_region 4 with fail
          go_quiet (fail)
          go_wp2
          go_roundw
          case rel => exact ⟨i + 1, by omega, by go_num, by have h := Hinc.out; rw [Hm.out] at h ⊢; exact (IncP.succ Hx.out Hy.out).2 ⟨h, hlt⟩, _, rfl⟩
          case measure => simp [intOf]; omega
        | false =>
          go_upto_region 4 with fail
          go_quiet (fail)
          go_wp2
          go_ret
          refine ⟨false, rfl, ⟨fun h => by simp at h, fun h => ?_⟩, _, World.drewN_drewN ..⟩
          have := h m x y (by have := Hm.out; omega) Hx.out Hy.out
          rw [hlt] at this
          exact this
    case neg =>
      obtain rfl : i = n := by omega
      go_wp2
      go_ret
      exact ⟨true, rfl, ⟨fun _ => Hinc.out, fun _ => rfl⟩, _, rfl⟩
end Go.Proofs.Yteoimkjocijcjaa
