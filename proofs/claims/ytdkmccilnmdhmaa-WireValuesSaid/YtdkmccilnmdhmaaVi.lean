/- slices.Equal of strings; package wire: alike. -/
import Derived.Test.YtdkmccilnmdhmaaVb
import Derived.Deep.QuietTactic
namespace Go.Proofs.Ytdkmccilnmdhmaa
open Go.RowKit

/-- A call that only drew, and told whether p. -/
def BoolP (p : Prop) (w : World) (e : Ending) (w' : World) : Prop := ∃ b, e = .returned (.bool b) ∧ (b = true ↔ p) ∧ ∃ n, w' = w.drewN n

theorem sv_inj (a b : List UInt8) : (⟨a.toArray⟩ : ByteArray) = ⟨b.toArray⟩ ↔ a = b := by
  constructor
  · intro h
    simpa using congrArg (fun x : ByteArray => x.data.toList) h
  · rintro rfl; rfl
theorem SRow.get {w : World} {G : Nat → Prop} {A : Option Addr} {ks : List (List UInt8)} (h : SRow w G A ks) {i : Nat} {y : List UInt8} (hy : ks[i]? = some y) : ∃ g o, A = some ⟨g, o, none⟩ ∧ w.cell? ⟨g, o + i, none⟩ = some (sv y) := by
  rcases h with h | ⟨g, o, h1, _, h3⟩
  · rw [h] at hy; simp at hy
  · exact ⟨g, o, h1, h3 i (sv y) (by rw [List.getElem?_map, hy]; rfl)⟩
theorem SRow.drewN {w : World} {G : Nat → Prop} {A : Option Addr} {ks : List (List UInt8)} (h : SRow w G A ks) (n : Nat) : SRow (w.drewN n) G A ks := h

set_option maxRecDepth 100000 in
set_option maxHeartbeats 2000000 in
theorem seq_any (G : Nat → Prop) (A B : Option Addr) (ks js : List (List UInt8)) (c d : Nat) (w : World) (hA : SRow w G A ks) (hB : SRow w G B js) (hk : ks.length ≤ 9223372036854775807) (hj : js.length ≤ 9223372036854775807) :
    Calls Try.prog 44 #[.slice A ks.length c, .slice B js.length d] w (BoolP (ks = js) w) := by
  obtain ⟨n, hn⟩ : ∃ n, ks.length = n := ⟨_, rfl⟩
  obtain ⟨m, hm⟩ : ∃ m, js.length = m := ⟨_, rfl⟩
  rw [hn] at hk
  rw [hm] at hj
  rw [hn, hm]
  have HA := hide hA
  have HB := hide hB
  have Hn := hide hn
  have Hm := hide hm
  clear hA hB hn hm
  go_enter Try.func44, Try.ntmps44
  by_cases hnm : n = m
  case neg =>
    have hnm' : ¬ ((n : Int) = (m : Int)) := by omega
    go_wp2
    go_ret
    exact ⟨false, rfl, ⟨fun h => by simp at h, fun h => by rw [h] at Hn; exact absurd (Hn.out.symm.trans Hm.out) hnm⟩, 0, rfl⟩
  obtain rfl : m = n := hnm.symm
  go_wp2_with fail
  go_loopw [13] (fun iv wr => ∃ i : Nat, i ≤ m ∧ iv = .int .i64 (i : Int) ∧ ks.take i = js.take i ∧ ∃ q, wr = w.drewN q) (fun iv _ => m - (intOf iv).toNat)
  case atStart => exact ⟨0, Nat.zero_le _, rfl, by simp, 0, rfl⟩
  case round =>
    obtain ⟨i, hi, rfl, htk, q, rfl⟩ := hrel
    have Htk := hide htk
    clear htk
    by_cases hil : i < m
    case pos =>
      obtain ⟨x, hx⟩ : ∃ x, ks[i]? = some x := ⟨_, List.getElem?_eq_getElem (by rw [Hn.out]; exact hil)⟩
      obtain ⟨y, hy⟩ : ∃ y, js[i]? = some y := ⟨_, List.getElem?_eq_getElem (by rw [Hm.out]; exact hil)⟩
      obtain ⟨g1, o1, rfl, h1⟩ := HA.out.get hx
      obtain ⟨g2, o2, rfl, h2⟩ := HB.out.get hy
      have h1' : (w.drewN q).cell? ⟨g1, o1 + i, none⟩ = some (sv x) := h1
      have h2' : (w.drewN q).cell? ⟨g2, o2 + i, none⟩ = some (sv y) := h2
      have Hx := hide hx
      have Hy := hide hy
      clear hx hy
      by_cases hxy : x = y
      · subst hxy
        go_upto_region 6 with fail
        go_quiet (fail)
        go_wp2
        go_roundw
        case rel =>
          refine ⟨i + 1, by omega, by go_num, ?_, _, rfl⟩
          rw [List.take_add_one, List.take_add_one, Hx.out, Hy.out, Htk.out]
        case measure => simp [intOf]; omega
      · have hb1 : (x == y) = false := by rw [beq_eq_false_iff_ne]; exact hxy
        have hb2 : decide (x = y) = false := decide_eq_false hxy
        have Hxy := hide hxy
        clear hxy
        go_upto_region 6 with fail
        go_quiet (fail)
        go_wp2
        go_ret
        refine ⟨false, rfl, ⟨fun h => by simp at h, fun h => ?_⟩, _, World.drewN_drewN ..⟩
        have := Hx.out
        rw [h, Hy.out] at this
        injection this with this
        exact absurd this.symm Hxy.out
    case neg =>
      obtain rfl : i = m := by omega
      go_wp2
      go_ret
      refine ⟨true, rfl, ⟨fun _ => ?_, fun _ => rfl⟩, _, rfl⟩
      have := Htk.out
      rwa [show ks.take i = ks by rw [← Hn.out, List.take_length], show js.take i = js by rw [← Hm.out, List.take_length]] at this

/-- Alike: all but the elements. -/
def Alike0 (x y : V) : Prop := x.kind = y.kind ∧ x.n = y.n ∧ x.s = y.s ∧ x.ks = y.ks ∧ x.ls.length = y.ls.length

set_option maxRecDepth 100000 in
set_option maxHeartbeats 4000000 in
theorem alike_any (G : Nat → Prop) (g1 o1 g2 o2 : Nat) (x y : V) (w : World) (hx : PV w G g1 o1 x) (hy : PV w G g2 o2 y) :
    Calls Try.prog 35 #[.pointer (some ⟨g1, o1, none⟩), .pointer (some ⟨g2, o2, none⟩)] w (BoolP (Alike0 x y) w) := by
  obtain ⟨KA, LA, kc, lc, h1⟩ := hx.at_
  obtain ⟨KB, LB, kd, ld, h2⟩ := hy.at_
  have a0 := h1.c0
  have a1 := h1.c1
  have a2 := h1.c2
  have a3 := h1.c3
  have a4 := h1.c4
  have b0 := h2.c0
  have b1 := h2.c1
  have b2 := h2.c2
  have b3 := h2.c3
  have b4 := h2.c4
  have hk1 := h1.k
  have hk2 := h2.k
  have hl1 := h1.ll
  have hl2 := h2.ll
  have Hs := hide (fun q => seq_any G KA KB x.ks y.ks kc kd (w.drewN q) (h1.K.drewN q) (h2.K.drewN q) h1.kl h2.kl)
  clear hx hy h1 h2
  obtain ⟨k1, hk1e⟩ : ∃ k, x.kind = k := ⟨_, rfl⟩
  obtain ⟨k2, hk2e⟩ : ∃ k, y.kind = k := ⟨_, rfl⟩
  obtain ⟨n1, hn1e⟩ : ∃ k, x.n = k := ⟨_, rfl⟩
  obtain ⟨n2, hn2e⟩ : ∃ k, y.n = k := ⟨_, rfl⟩
  obtain ⟨s1, hs1e⟩ : ∃ k, x.s = k := ⟨_, rfl⟩
  obtain ⟨s2, hs2e⟩ : ∃ k, y.s = k := ⟨_, rfl⟩
  obtain ⟨ks1, hks1⟩ : ∃ k, x.ks = k := ⟨_, rfl⟩
  obtain ⟨ks2, hks2⟩ : ∃ k, y.ks = k := ⟨_, rfl⟩
  obtain ⟨m1, hm1⟩ : ∃ k, x.ls.length = k := ⟨_, rfl⟩
  obtain ⟨m2, hm2⟩ : ∃ k, y.ls.length = k := ⟨_, rfl⟩
  rw [hk1e] at a0 hk1
  rw [hk2e] at b0 hk2
  rw [hn1e] at a1
  rw [hn2e] at b1
  rw [hs1e] at a2
  rw [hs2e] at b2
  rw [hks1] at a3
  rw [hks2] at b3
  rw [hks1, hks2] at Hs
  rw [hm1] at a4 hl1
  rw [hm2] at b4 hl2
  have Hp := hide (show Alike0 x y ↔ (k1 = k2 ∧ n1 = n2 ∧ s1 = s2 ∧ ks1 = ks2 ∧ m1 = m2) by unfold Alike0; rw [hk1e, hk2e, hn1e, hn2e, hs1e, hs2e, hks1, hks2, hm1, hm2])
  clear hk1e hk2e hn1e hn2e hs1e hs2e hks1 hks2 hm1 hm2
  go_enter Try.func35, Try.ntmps35
  by_cases hx1 : k1 = k2
  case neg =>
    have hb1 : ((k1 : Int) == (k2 : Int)) = false := by rw [beq_eq_false_iff_ne]; omega
    have Hx1 := hide hx1
    clear hx1
    go_upto_region 1 with fail
    go_quiet (fail)
    go_wp2
    go_ret
    exact ⟨false, rfl, ⟨fun h => by simp at h, fun h => absurd (Hp.out.1 h).1 Hx1.out⟩, _, rfl⟩
  subst hx1
  by_cases hx2 : n1 = n2
  case neg =>
    have hb1 : (n1 == n2) = false := by rw [beq_eq_false_iff_ne]; exact hx2
    have Hx2 := hide hx2
    clear hx2
    go_upto_region 1 with fail
    go_quiet (fail)
    go_wp2
    go_ret
    exact ⟨false, rfl, ⟨fun h => by simp at h, fun h => absurd (Hp.out.1 h).2.1 Hx2.out⟩, _, rfl⟩
  subst hx2
  by_cases hx3 : s1 = s2
  case neg =>
    have hb1 : (s1 == s2) = false := by rw [beq_eq_false_iff_ne]; exact hx3
    have hb2 : decide (s1 = s2) = false := decide_eq_false hx3
    have Hx3 := hide hx3
    clear hx3
    go_upto_region 1 with fail
    go_quiet (fail)
    go_wp2
    go_ret
    exact ⟨false, rfl, ⟨fun h => by simp at h, fun h => absurd (Hp.out.1 h).2.2.1 Hx3.out⟩, _, rfl⟩
  subst hx3
  have hse : ∀ q, ∃ b, (b = true ↔ ks1 = ks2) ∧ Calls Try.prog 44 #[.slice KA ks1.length kc, .slice KB ks2.length kd] (w.drewN q) (fun e w' => e = .returned (.bool b) ∧ ∃ n, w' = (w.drewN q).drewN n) := by
    intro q
    by_cases h : ks1 = ks2
    · refine ⟨true, ⟨fun _ => h, fun _ => rfl⟩, (Hs.out q).mono ?_⟩
      rintro e w' ⟨b, rfl, hb, hn⟩
      obtain rfl : b = true := hb.2 h
      exact ⟨rfl, hn⟩
    · refine ⟨false, ⟨fun h' => by simp at h', fun h' => absurd h' h⟩, (Hs.out q).mono ?_⟩
      rintro e w' ⟨b, rfl, hb, hn⟩
      obtain rfl : b = false := by
        cases b with
        | true => exact absurd (hb.1 rfl) h
        | false => rfl
      exact ⟨rfl, hn⟩
  by_cases hx4 : ks1 = ks2
  case neg =>
    have Hc := hide (fun q => show Calls Try.prog 44 #[.slice KA ks1.length kc, .slice KB ks2.length kd] (w.drewN q) (fun e w' => e = .returned (.bool false) ∧ ∃ n, w' = (w.drewN q).drewN n) from by
      obtain ⟨b, hb, hc⟩ := hse q
      cases b with
      | true => exact absurd (hb.1 rfl) hx4
      | false => exact hc)
    clear hse
    have Hx4 := hide hx4
    clear hx4
    go_upto_region 1 with fail
    go_quiet ((go_at_call 44; exact Calls.quiet_of (Hc.out _)))
    go_wp2
    go_ret
    exact ⟨false, rfl, ⟨fun h => by simp at h, fun h => absurd (Hp.out.1 h).2.2.2.1 Hx4.out⟩, _, rfl⟩
  have Hc := hide (fun q => show Calls Try.prog 44 #[.slice KA ks1.length kc, .slice KB ks2.length kd] (w.drewN q) (fun e w' => e = .returned (.bool true) ∧ ∃ n, w' = (w.drewN q).drewN n) from by
    obtain ⟨b, hb, hc⟩ := hse q
    cases b with
    | true => exact hc
    | false => exact absurd (hb.2 hx4) (by simp))
  clear hse
  have Hx4 := hide hx4
  clear hx4
  by_cases hx5 : m1 = m2
  · subst hx5
    go_upto_region 1 with fail
    go_quiet ((go_at_call 44; exact Calls.quiet_of (Hc.out _)))
    go_wp2
    go_ret
    exact ⟨true, rfl, ⟨fun _ => Hp.out.2 (by simp [Hx4.out]), fun _ => rfl⟩, _, rfl⟩
  · have hbm : ((m1 : Int) == (m2 : Int)) = false := by rw [beq_eq_false_iff_ne]; omega
    have Hx5 := hide hx5
    clear hx5
    go_upto_region 1 with fail
    go_quiet ((go_at_call 44; exact Calls.quiet_of (Hc.out _)))
    go_wp2
    go_ret
    exact ⟨false, rfl, ⟨fun h => by simp at h, fun h => absurd (Hp.out.1 h).2.2.2.2 Hx5.out⟩, _, rfl⟩
end Go.Proofs.Ytdkmccilnmdhmaa
