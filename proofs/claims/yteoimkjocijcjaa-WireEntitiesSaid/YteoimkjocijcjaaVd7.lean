/- Package columbaryref03: Form, for each kind of value apart. -/
import Derived.Test.YteoimkjocijcjaaVc
namespace Go.Proofs.Yteoimkjocijcjaa
open Go.RowKit

set_option maxRecDepth 100000 in
set_option maxHeartbeats 4000000 in
theorem form_k7 (d deep : Nat) (v : V) (cs : List Value) (w : World) (hd : deep + (d + 1) = 24) (hv : VC w (Old w) v cs) (hk : v.kind = 7)
    (ih : ∀ (x : V) (cs' : List Value) (w' : World), VC w' (Old w') x cs' → Calls Try.prog 6 #[.agg cs'.toArray, .int .i64 ((deep : Int) + 1)] w' (FPostI d x w')) :
    Calls Try.prog 6 #[.agg cs.toArray, .int .i64 (deep : Int)] w (FPostI (d + 1) v w) := by
  have hcs : ∃ x0 x1 x2 x3 x4, cs = [x0, x1, x2, x3, x4] := by cases hv; exact ⟨_, _, _, _, _, rfl⟩
  obtain ⟨x0, x1, x2, x3, x4, rfl⟩ := hcs
  have hpv := hv.boxed
  obtain ⟨w0, hw0⟩ : ∃ w0, w.alloc (.cells [x0, x1, x2, x3, x4].toArray 27) = w0 := ⟨_, rfl⟩
  have Hb0 := hide (show Below w.heap.size w w0 by rw [← hw0]; exact (Below.refl w.heap.size w).alloc (Nat.le_refl _) _)
  rw [hw0] at hpv
  have hw0' : w.alloc (.cells #[x0, x1, x2, x3, x4] 27) = w0 := hw0
  have Hpv := hide hpv
  obtain ⟨KA, LA, kc, lc, hat⟩ := hpv.at_
  have c0 : w0.cell? ⟨w.heap.size, 0, none⟩ = some (.int .u8 7) := by have := hat.c0; rw [hk] at this; simpa using this
  have c1 : w0.cell? ⟨w.heap.size, 1, none⟩ = some (.int .i64 v.n) := by have := hat.c1; simpa using this
  have c2 : w0.cell? ⟨w.heap.size, 2, none⟩ = some (.string ⟨v.s.toArray⟩) := by have := hat.c2; simpa using this
  have c3 : w0.cell? ⟨w.heap.size, 3, none⟩ = some (.slice KA v.ks.length kc) := by have := hat.c3; simpa using this
  have c4 : w0.cell? ⟨w.heap.size, 4, none⟩ = some (.slice LA v.ls.length lc) := by have := hat.c4; simpa using this
  have hkl := hat.kl
  have hll := hat.ll
  have hsl := hat.s
  obtain ⟨nk, hnk⟩ : ∃ nk, v.ks.length = nk := ⟨_, rfl⟩
  obtain ⟨nl, hnl⟩ : ∃ nl, v.ls.length = nl := ⟨_, rfl⟩
  obtain ⟨nn, hnn⟩ : ∃ nn, v.n = nn := ⟨_, rfl⟩
  obtain ⟨ss, hss⟩ : ∃ ss, v.s = ss := ⟨_, rfl⟩
  rw [hnn] at c1
  rw [hss] at c2 hsl
  rw [hnk] at c3 hkl
  rw [hnl] at c4 hll
  have Hnk := hide hnk
  have Hnl := hide hnl
  have Hnn := hide hnn
  have Hss := hide hss
  have Hk := hide hk
  have Hat := hide hat
  have hd24 : deep < 24 := by omega
  have Ih := hide ih
  have Hwlt := hide (show w.heap.size < w0.heap.size from Hpv.out.lt)
  clear hv hpv hnk hnl hnn hss hat hw0 hk ih
  go_enter Try.func6, Try.ntmps6
  by_cases e1 : 200 < nl
  case pos =>
    go_wp2
    go_ret
    exact ⟨false, rfl, ⟨fun h => by simp at h, fun hf => absurd rfl (show ¬ (0 : Nat) = 0 from (by exfalso; have hl := loc_facts hf.1 Hnk.out Hnl.out Hnn.out Hss.out Hk.out; first | omega | (rcases hl.2.2.2.1 with h | h; omega; rw [h] at e4'; simp at e4')))⟩, Hb0.out⟩
  by_cases e2 : 200 < ss.length
  case pos =>
    go_wp2
    go_ret
    exact ⟨false, rfl, ⟨fun h => by simp at h, fun hf => absurd rfl (show ¬ (0 : Nat) = 0 from (by exfalso; have hl := loc_facts hf.1 Hnk.out Hnl.out Hnn.out Hss.out Hk.out; first | omega | (rcases hl.2.2.2.1 with h | h; omega; rw [h] at e4'; simp at e4')))⟩, Hb0.out⟩
  by_cases e3 : ¬ nn = 0
  case pos =>
    go_wp2
    go_ret
    exact ⟨false, rfl, ⟨fun h => by simp at h, fun hf => absurd rfl (show ¬ (0 : Nat) = 0 from (by exfalso; have hl := loc_facts hf.1 Hnk.out Hnl.out Hnn.out Hss.out Hk.out; first | omega | (rcases hl.2.2.2.1 with h | h; omega; rw [h] at e4'; simp at e4')))⟩, Hb0.out⟩
  by_cases e5 : 0 < nl
  case pos =>
    go_wp2
    go_ret
    exact ⟨false, rfl, ⟨fun h => by simp at h, fun hf => absurd rfl (show ¬ (0 : Nat) = 0 from (by exfalso; have hl := loc_facts hf.1 Hnk.out Hnl.out Hnn.out Hss.out Hk.out; first | omega | (rcases hl.2.2.2.1 with h | h; omega; rw [h] at e4'; simp at e4')))⟩, Hb0.out⟩
  by_cases e6 : 0 < nk
  case pos =>
    go_wp2
    go_ret
    exact ⟨false, rfl, ⟨fun h => by simp at h, fun hf => absurd rfl (show ¬ (0 : Nat) = 0 from (by exfalso; have hl := loc_facts hf.1 Hnk.out Hnl.out Hnn.out Hss.out Hk.out; first | omega | (rcases hl.2.2.2.1 with h | h; omega; rw [h] at e4'; simp at e4')))⟩, Hb0.out⟩
  obtain rfl : nn = 0 := by omega
  obtain rfl : nk = 0 := by omega
  obtain rfl : nl = 0 := by omega
  go_wp2_with fail
  go_loopw [7] (fun iv wr => iv = .int .i64 0 ∧ wr = w0) (fun _ _ => 0)
  case atStart => exact ⟨rfl, rfl⟩
  case round =>
    obtain ⟨rfl, rfl⟩ := hrel
    go_wp2
    go_ret
    refine ⟨true, rfl, ⟨fun _ => ⟨⟨by rw [Hk.out]; omega, by rw [Hnl.out]; omega, by rw [Hss.out]; first | omega | simp, .inr (.inr Hnn.out), .inl (by rw [Hk.out]; omega), .inr (.inr (List.eq_nil_of_length_eq_zero Hnl.out)), fun h => absurd (h.symm.trans Hk.out) (by decide), .inr (List.eq_nil_of_length_eq_zero Hnk.out), by rw [List.eq_nil_of_length_eq_zero Hnk.out]; simp⟩, ?_⟩, fun _ => rfl⟩, Hb0.out⟩
    rw [List.eq_nil_of_length_eq_zero Hnl.out]
    simp
end Go.Proofs.Yteoimkjocijcjaa
