/- Package columbaryref03: Form, for each kind of value apart. -/
import Derived.Test.YtdkmccilnmdhmaaVc
namespace Go.Proofs.Ytdkmccilnmdhmaa
open Go.RowKit

set_option maxRecDepth 100000 in
set_option maxHeartbeats 4000000 in
theorem form_k5 (d deep : Nat) (v : V) (cs : List Value) (w : World) (hd : deep + (d + 1) = 24) (hv : VC w (Old w) v cs) (hk : v.kind = 5)
    (ih : ∀ (x : V) (cs' : List Value) (w' : World), VC w' (Old w') x cs' → Calls Try.prog 10 #[.agg cs'.toArray, .int .i64 ((deep : Int) + 1)] w' (FPostI d x w')) :
    Calls Try.prog 10 #[.agg cs.toArray, .int .i64 (deep : Int)] w (FPostI (d + 1) v w) := by
  have hcs : ∃ x0 x1 x2 x3 x4, cs = [x0, x1, x2, x3, x4] := by cases hv; exact ⟨_, _, _, _, _, rfl⟩
  obtain ⟨x0, x1, x2, x3, x4, rfl⟩ := hcs
  have hpv := hv.boxed
  obtain ⟨w0, hw0⟩ : ∃ w0, w.alloc (.cells [x0, x1, x2, x3, x4].toArray 25) = w0 := ⟨_, rfl⟩
  have Hb0 := hide (show Below w.heap.size w w0 by rw [← hw0]; exact (Below.refl w.heap.size w).alloc (Nat.le_refl _) _)
  rw [hw0] at hpv
  have hw0' : w.alloc (.cells #[x0, x1, x2, x3, x4] 25) = w0 := hw0
  have Hpv := hide hpv
  obtain ⟨KA, LA, kc, lc, hat⟩ := hpv.at_
  have c0 : w0.cell? ⟨w.heap.size, 0, none⟩ = some (.int .u8 5) := by have := hat.c0; rw [hk] at this; simpa using this
  have c1 : w0.cell? ⟨w.heap.size, 1, none⟩ = some (.int .i64 v.n) := by have := hat.c1; simpa using this
  have c2 : w0.cell? ⟨w.heap.size, 2, none⟩ = some (.string ⟨v.s.toArray⟩) := by have := hat.c2; simpa using this
  have c3 : w0.cell? ⟨w.heap.size, 3, none⟩ = some (.slice KA v.ks.length kc) := by have := hat.c3; simpa using this
  have c4 : w0.cell? ⟨w.heap.size, 4, none⟩ = some (.slice LA v.ls.length lc) := by have := hat.c4; simpa using this
  have hkl := hat.kl
  have hll := hat.ll
  have hsl := hat.s
  obtain ⟨nk, hnk⟩ : ∃ nk, v.ks.length = nk := ⟨_, rfl⟩
  obtain ⟨nl, hnl⟩ : ∃ nl, v.ls.length = nl := ⟨_, rfl⟩
  obtain ⟨nn, hnn⟩ : ∃ nn, v.n = nn := ⟨_, rfl⟩
  obtain ⟨ss, hss⟩ : ∃ ss, v.s = ss := ⟨_, rfl⟩
  rw [hnn] at c1
  rw [hss] at c2 hsl
  rw [hnk] at c3 hkl
  rw [hnl] at c4 hll
  have Hnk := hide hnk
  have Hnl := hide hnl
  have Hnn := hide hnn
  have Hss := hide hss
  have Hk := hide hk
  have Hat := hide hat
  have hd24 : deep < 24 := by omega
  have Ih := hide ih
  have Hwlt := hide (show w.heap.size < w0.heap.size from Hpv.out.lt)
  clear hv hpv hnk hnl hnn hss hat hw0 hk ih
  go_enter Try.func10, Try.ntmps10
  by_cases e1 : 200 < nl
  case pos =>
    go_wp2
    go_ret
    exact ⟨false, rfl, ⟨fun h => by simp at h, fun hf => absurd rfl (show ¬ (0 : Nat) = 0 from (by exfalso; have hl := loc_facts hf.1 Hnk.out Hnl.out Hnn.out Hss.out Hk.out; first | omega | (rcases hl.2.2.2.1 with h | h; omega; rw [h] at e4'; simp at e4')))⟩, Hb0.out⟩
  by_cases e2 : 200 < ss.length
  case pos =>
    go_wp2
    go_ret
    exact ⟨false, rfl, ⟨fun h => by simp at h, fun hf => absurd rfl (show ¬ (0 : Nat) = 0 from (by exfalso; have hl := loc_facts hf.1 Hnk.out Hnl.out Hnn.out Hss.out Hk.out; first | omega | (rcases hl.2.2.2.1 with h | h; omega; rw [h] at e4'; simp at e4')))⟩, Hb0.out⟩
  by_cases e3 : ¬ nn = 0
  case pos =>
    go_wp2
    go_ret
    exact ⟨false, rfl, ⟨fun h => by simp at h, fun hf => absurd rfl (show ¬ (0 : Nat) = 0 from (by exfalso; have hl := loc_facts hf.1 Hnk.out Hnl.out Hnn.out Hss.out Hk.out; first | omega | (rcases hl.2.2.2.1 with h | h; omega; rw [h] at e4'; simp at e4')))⟩, Hb0.out⟩
  by_cases e4 : ss = []
  case neg =>
    have e4' : ss.isEmpty = false := by
      cases ss with
      | nil => exact absurd rfl e4
      | cons a r => rfl
    clear e4
    go_wp2
    go_ret
    exact ⟨false, rfl, ⟨fun h => by simp at h, fun hf => absurd rfl (show ¬ (0 : Nat) = 0 from (by exfalso; have hl := loc_facts hf.1 Hnk.out Hnl.out Hnn.out Hss.out Hk.out; first | omega | (rcases hl.2.2.2.1 with h | h; omega; rw [h] at e4'; simp at e4')))⟩, Hb0.out⟩
  by_cases e6 : 0 < nk
  case pos =>
    go_wp2
    go_ret
    exact ⟨false, rfl, ⟨fun h => by simp at h, fun hf => absurd rfl (show ¬ (0 : Nat) = 0 from (by exfalso; have hl := loc_facts hf.1 Hnk.out Hnl.out Hnn.out Hss.out Hk.out; first | omega | (rcases hl.2.2.2.1 with h | h; omega; rw [h] at e4'; simp at e4')))⟩, Hb0.out⟩
  obtain rfl : nn = 0 := by omega
  subst e4
  obtain rfl : nk = 0 := by omega
  go_wp2_with fail
  clear hw0'
  go_loopw [7] (fun iv wr => ∃ i : Nat, i ≤ nl ∧ iv = .int .i64 (i : Int) ∧ (∀ j, j < i → (∀ x, v.ls[j]? = some x → formP d x)) ∧ Below w0.heap.size w0 wr) (fun iv _ => nl - (intOf iv).toNat)
  case atStart => exact ⟨0, Nat.zero_le _, rfl, fun j hj => absurd hj (Nat.not_lt_zero j), Below.refl _ _⟩
  case round =>
    obtain ⟨i, hi, rfl, hall, hb⟩ := hrel
    have hat := Hat.out.below hb Hwlt.out
    have c0 : wr.cell? ⟨w.heap.size, 0, none⟩ = some (.int .u8 5) := by have := hat.c0; rw [Hk.out] at this; simpa using this
    have c3 : wr.cell? ⟨w.heap.size, 3, none⟩ = some (.slice KA 0 kc) := by have := hat.c3; rw [Hnk.out] at this; simpa using this
    have c4 : wr.cell? ⟨w.heap.size, 4, none⟩ = some (.slice LA nl lc) := by have := hat.c4; rw [Hnl.out] at this; simpa using this
    have Hb := hide hb
    have Hall := hide hall
    clear hb hall
    by_cases hil : i < nl
    case pos =>
      obtain ⟨x, hx⟩ : ∃ x, v.ls[i]? = some x := ⟨_, List.getElem?_eq_getElem (by rw [Hnl.out]; exact hil)⟩
      obtain ⟨g', o', rfl, hL⟩ : ∃ g' o', LA = some ⟨g', o', none⟩ ∧ ∀ j x, v.ls[j]? = some x → PV wr (Old wr) g' (o' + 5 * j) x := by
        rcases hat.L with h | h
        · rw [h] at hx; simp at hx
        · exact h
      obtain ⟨cs', hg', hr', hv'⟩ := hL i x hx
      rw [Nat.mul_comm 5 i] at hr'
      have hcs' : ∃ y0 y1 y2 y3 y4, cs' = [y0, y1, y2, y3, y4] := by cases hv'; exact ⟨_, _, _, _, _, rfl⟩
      obtain ⟨y0, y1, y2, y3, y4, rfl⟩ := hcs'
      have q0 : wr.cell? ⟨g', o' + i * 5, none⟩ = some y0 := hr' 0 _ rfl
      have q1 : wr.cell? ⟨g', o' + i * 5 + 1, none⟩ = some y1 := hr' 1 _ rfl
      have q2 : wr.cell? ⟨g', o' + i * 5 + 2, none⟩ = some y2 := hr' 2 _ rfl
      have q3 : wr.cell? ⟨g', o' + i * 5 + 3, none⟩ = some y3 := hr' 3 _ rfl
      have q4 : wr.cell? ⟨g', o' + i * 5 + 4, none⟩ = some y4 := hr' 4 _ rfl
      have Hx := hide hx
      have Hih := hide (Ih.out x _ wr hv')
      clear hL hg' hr' hv' hx
      clear hat
      go_wp2_with ((go_at_call 10; refine Hih.out.mono ?_; rintro e w2 ⟨b2, rfl, h22, hb2⟩; have Hb2 := hide hb2; have H22 := hide h22; clear hb2 h22; cases b2))
      all_goals first
        | (go_ret; exact ⟨false, rfl, ⟨fun h => by simp at h, fun hf => H22.out.2 (hf.2 x (List.mem_of_getElem? Hx.out))⟩, Hb0.out.trans ((Hb.out.trans (Hb2.out.mono Hb.out.size)).mono (Nat.le_of_lt Hwlt.out))⟩)
        | skip
      go_roundw
      case rel =>
        refine ⟨i + 1, by omega, by go_num, ?_, Hb.out.trans (Hb2.out.mono Hb.out.size)⟩
        intro j hj
        rcases Nat.lt_or_ge j i with h | h
        · exact Hall.out j h
        · obtain rfl : j = i := by omega
          exact fun x' hx' => by rw [Hx.out] at hx'; injection hx' with hx'; subst hx'; exact H22.out.1 (by simp)
      case measure => simp [intOf]; omega
    case neg =>
      obtain rfl : i = nl := by omega
      clear hat
      go_wp2
      go_ret
      have hall := Hall.out
      refine ⟨true, rfl, ⟨fun _ => ⟨⟨by rw [Hk.out]; omega, by rw [Hnl.out]; omega, by rw [Hss.out]; first | omega | simp, .inr (.inr Hnn.out), .inr Hss.out, .inl Hk.out, fun h => absurd (h.symm.trans Hk.out) (by decide), .inr (List.eq_nil_of_length_eq_zero Hnk.out), by rw [List.eq_nil_of_length_eq_zero Hnk.out]; simp⟩, ?_⟩, fun _ => rfl⟩, Hb0.out.trans (Hb.out.mono (Nat.le_of_lt Hwlt.out))⟩
      intro y hy
      obtain ⟨j, hj⟩ := List.mem_iff_getElem?.1 hy
      have hjl : j < i := by have := (List.getElem?_eq_some_iff.1 hj).1; rw [Hnl.out] at this; exact this
      exact hall j hjl y hj
end Go.Proofs.Ytdkmccilnmdhmaa
