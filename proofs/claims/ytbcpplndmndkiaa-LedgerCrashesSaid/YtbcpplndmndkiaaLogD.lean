/- Package ledger, as plain data: a snapshot, whole or not at all. -/
import Derived.Test.YtbcpplndmndkiaaLogC
namespace Go.Proofs.Ytbcpplndmndkiaa
open Go.RowKit

def Lg.oth (L : Lg) : Nat := L.at_ + (1 - L.half) * L.bl
def Lg.snW (L : Lg) (f : Nat → List UInt8) (p : List UInt8) : List (Nat × List UInt8) := opW (L.oth + 1) (L.snapText p) L.oth (flip (f L.oth))

theorem snapText_getD (L : Lg) (p : List UInt8) (y : Nat) : (L.snapText p).getD y 0 = (hd 0 p.length ++ p).getD y 0 := by
  unfold Lg.snapText term
  split
  · rfl
  · rw [List.getD_eq_getElem?_getD, List.getD_eq_getElem?_getD]
    by_cases h : y < (hd 0 p.length ++ p).length
    · rw [List.getElem?_append_left h]
    · rw [List.getElem?_append_right (by omega), List.getElem?_eq_none (l := hd 0 p.length ++ p) (by omega)]
      cases y - (hd 0 p.length ++ p).length with
      | zero => rfl
      | succ m => rfl
theorem Lg.snap_nch (L : Lg) (p : List UInt8) (_ : 2 ≤ L.bl) (h : 8 + p.length ≤ L.room) : nch (L.snapText p).length ≤ L.bl - 1 ∧ 8 + p.length ≤ 64 * nch (L.snapText p).length ∧ (8 + p.length < L.room → 8 + p.length < 64 * nch (L.snapText p).length) := by
  have h1 := L.snapText_len p h
  have h3 : (L.snapText p).length = (if 8 + p.length = L.room then 0 else 1) + (8 + p.length) := by
    unfold Lg.snapText term
    split
    · rw [List.length_append, hd_len]; omega
    · rw [List.length_append, List.length_append, hd_len]; simp only [List.length_cons, List.length_nil]; omega
  unfold nch
  unfold Lg.room at h h1 h3 ⊢
  refine ⟨by omega, by omega, fun h5 => ?_⟩
  rw [if_neg (by omega)] at h3
  omega
theorem halves (L : Lg) (h : L.half ≤ 1) : (L.half = 0 ∧ L.half * L.bl = 0 ∧ (1 - L.half) * L.bl = L.bl) ∨ (L.half = 1 ∧ L.half * L.bl = L.bl ∧ (1 - L.half) * L.bl = 0) := by
  obtain h0 | h0 : L.half = 0 ∨ L.half = 1 := by omega
  · rw [h0]; exact .inl ⟨rfl, by omega, by omega⟩
  · rw [h0]; exact .inr ⟨rfl, by omega, by omega⟩

section
variable {f f' : Nat → List UInt8} {L : Lg} {k : Kp} {p : List UInt8}

/-- What leaves the half in use, and the switches, as they were, leaves what is kept. -/
theorem lays_out {at_ bl half : Nat} (hf : W64 f) (hf' : W64 f') (h2 : 2 ≤ bl) (hk : Lays f at_ bl half k) (hu : used f' at_ bl = used f at_ bl) (hout : ∀ b, at_ + half * bl + 1 ≤ b → b < at_ + half * bl + bl → f' b = f b) : Lays f' at_ bl half k := by
  have key : ∀ x, x < 64 * (bl - 1) → bt f' (at_ + half * bl + 1) x = bt f (at_ + half * bl + 1) x := by
    intro x hx
    unfold bt
    rw [hout _ (by omega) (by omega)]
  refine lays_of hf' (hu.trans hk.sw) (hk.len hf) (fun x hx => ?_) (fun hx => ?_)
  · rw [key x (by have := hk.len hf; omega), hk.byte hf x hx]
  · rw [key _ hx, hk.zero hf hx]

theorem sn_mix (hf : W64 f) (hk : Lays f L.at_ L.bl L.half k) (h2 : 2 ≤ L.bl) (hfit : 8 + p.length ≤ L.room) (hm : Mix f f' (L.oth + 1) (L.snapText p)) : Lays f' L.at_ L.bl L.half k := by
  have hn := L.snap_nch p h2 hfit
  have hh := halves L hk.le1
  have ho : L.oth = L.at_ + (1 - L.half) * L.bl := rfl
  refine lays_out hf hm.w h2 hk ?_ (fun b h1 h3 => hm.out b (by omega))
  unfold used sw
  rw [hm.out L.at_ (by omega), hm.out (L.at_ + L.bl) (by omega)]

theorem flip_len (c : List UInt8) : (flip c).length = c.length := by unfold flip; rw [List.length_set]
theorem xor1_mod (x : UInt8) : (x ^^^ 1).toNat % 2 = (x.toNat + 1) % 2 := by
  rw [UInt8.toNat_xor]
  have h := Nat.xor_mod_two_pow (a := x.toNat) (b := (1 : UInt8).toNat) (n := 1)
  simp only [Nat.pow_one] at h
  rw [h]
  have h2 : (1 : UInt8).toNat % 2 = 1 := rfl
  rw [h2]
  obtain h0 | h0 : x.toNat % 2 = 0 ∨ x.toNat % 2 = 1 := by omega
  · rw [h0]; show 1 = _; omega
  · rw [h0]; show 0 = _; omega
theorem sw_flip (hf : W64 f) (i : Nat) : ((flip (f i)).headD 0).toNat % 2 = (sw f i + 1) % 2 := by
  have h := hf i
  unfold flip sw
  cases hc : f i with
  | nil => rw [hc] at h; cases h
  | cons x r =>
    show (x ^^^ 1).toNat % 2 = (x.toNat % 2 + 1) % 2
    rw [xor1_mod]
    omega

theorem sn_full (hf : W64 f) (hk : Lays f L.at_ L.bl L.half k) (h2 : 2 ≤ L.bl) (hfit : 8 + p.length ≤ L.room) (hm : Full f f' (L.oth + 1) (L.snapText p)) : Lays (upd f' L.oth (flip (f L.oth))) L.at_ L.bl (1 - L.half) ⟨p, []⟩ := by
  have hn := L.snap_nch p h2 hfit
  have hh := halves L hk.le1
  have ho : L.oth = L.at_ + (1 - L.half) * L.bl := rfl
  have hr : L.room = 64 * (L.bl - 1) := rfl
  have hw : W64 (upd f' L.oth (flip (f L.oth))) := upd_len hm.w _ _ (by rw [flip_len]; exact hf _)
  have henc : (⟨p, []⟩ : Kp).enc = hd 0 p.length ++ p := by
    show hd 0 p.length ++ p ++ encR [] = _
    rw [show encR [] = [] from rfl, List.append_nil]
  have hel : (⟨p, []⟩ : Kp).enc.length = 8 + p.length := by rw [henc, List.length_append, hd_len]
  have key : ∀ x, x < 64 * nch (L.snapText p).length → bt (upd f' L.oth (flip (f L.oth))) (L.at_ + (1 - L.half) * L.bl + 1) x = (hd 0 p.length ++ p).getD x 0 := by
    intro x hx
    unfold bt upd
    rw [if_neg (by omega)]
    have hby := hm.byte (L.oth + 1 + x / 64) (x % 64) (by omega) (by omega) (by omega)
    rw [show 64 * (L.oth + 1 + x / 64 - (L.oth + 1)) + x % 64 = x from by omega, snapText_getD] at hby
    rw [← hby, ho]
  refine lays_of hw ?_ (by rw [hel]; omega) (fun x hx => ?_) (fun hx => ?_)
  · have hu := hk.sw
    have hs := sw_flip hf L.oth
    have ha := sw_lt f L.at_
    have hb := sw_lt f (L.at_ + L.bl)
    unfold used at hu ⊢
    rcases hh with ⟨h0, _, h1⟩ | ⟨h0, _, h1⟩
    · have e1 : sw (upd f' L.oth (flip (f L.oth))) L.at_ = sw f L.at_ := by
        unfold sw upd
        rw [if_neg (by omega), hm.out _ (by omega)]
      have e2 : sw (upd f' L.oth (flip (f L.oth))) (L.at_ + L.bl) = (sw f (L.at_ + L.bl) + 1) % 2 := by
        have he : L.at_ + L.bl = L.oth := by omega
        rw [he]
        unfold sw upd
        rw [if_pos rfl]
        exact hs
      rw [e1, e2]
      omega
    · have e1 : sw (upd f' L.oth (flip (f L.oth))) L.at_ = (sw f L.at_ + 1) % 2 := by
        have he : L.at_ = L.oth := by omega
        rw [show sw (upd f' L.oth (flip (f L.oth))) L.at_ = sw (upd f' L.oth (flip (f L.oth))) L.oth from by rw [← he], show sw f L.at_ = sw f L.oth from by rw [← he]]
        unfold sw upd
        rw [if_pos rfl]
        exact hs
      have e2 : sw (upd f' L.oth (flip (f L.oth))) (L.at_ + L.bl) = sw f (L.at_ + L.bl) := by
        unfold sw upd
        rw [if_neg (by omega), hm.out _ (by omega)]
      rw [e1, e2]
      omega
  · rw [hel] at hx
    rw [key x (by omega), henc]
  · rw [hel] at hx ⊢
    rw [key _ (hn.2.2 (by omega)), List.getD_eq_getElem?_getD, List.getElem?_eq_none (by rw [List.length_append, hd_len]; omega)]
    rfl

theorem pad_full (c : List UInt8) (h : c.length = 64) : pad c = c := by
  unfold pad
  exact over_all _ _ (by rw [h]; rfl)

/-- WHOLE OR NOT AT ALL: a snapshot. -/
theorem sn_cr (hf : W64 f) (hk : Lays f L.at_ L.bl L.half k) (h2 : 2 ≤ L.bl) (hfit : 8 + p.length ≤ L.room) (hc : Cr f (L.snW f p) f') :
    (Lays f' L.at_ L.bl L.half k ∨ Lays f' L.at_ L.bl (1 - L.half) ⟨p, []⟩) ∧ Own f f' L.at_ (L.at_ + 2 * L.bl) := by
  have hn := L.snap_nch p h2 hfit
  have hh := halves L hk.le1
  have ho : L.oth = L.at_ + (1 - L.half) * L.bl := rfl
  have hfull := full_view hf (L.oth + 1) (L.snapText p)
  have hlen : (tw (L.oth + 1) (chunksOf (L.snapText p))).length = nch (L.snapText p).length := by rw [tw_len, chunksOf_len]
  have hwl : (L.snW f p).length = nch (L.snapText p).length + 1 := by rw [Lg.snW, opW, List.length_append, hlen]; rfl
  have hpad : pad (flip (f L.oth)) = flip (f L.oth) := pad_full _ (by rw [flip_len]; exact hf _)
  have hq : view f (tw (L.oth + 1) (chunksOf (L.snapText p))) L.oth = f L.oth := hfull.out _ (by omega)
  obtain ⟨j, t, hj, ht, rfl⟩ := hc
  rcases Nat.lt_or_ge j (nch (L.snapText p).length) with h | h
  · have hm := mix_tear hf (L.oth + 1) (L.snapText p) [(L.oth, pad (flip (f L.oth)))] j t h ht
    exact ⟨.inl (sn_mix hf hk h2 hfit hm), hm.w, fun b hb => hm.out b (by omega)⟩
  have hview : view f (L.snW f p) = upd (view f (tw (L.oth + 1) (chunksOf (L.snapText p)))) L.oth (flip (f L.oth)) := by
    rw [Lg.snW, opW, view_append, hpad]
    rfl
  have hwhole : Lays (view f (L.snW f p)) L.at_ L.bl (1 - L.half) ⟨p, []⟩ ∧ Own f (view f (L.snW f p)) L.at_ (L.at_ + 2 * L.bl) := by
    rw [hview]
    refine ⟨sn_full hf hk h2 hfit hfull, upd_len hfull.w _ _ (by rw [flip_len]; exact hf _), fun b hb => ?_⟩
    unfold upd
    rw [if_neg (by omega), hfull.out b (by omega)]
  rcases Nat.lt_or_ge j (nch (L.snapText p).length + 1) with h1 | h1
  · obtain rfl : j = nch (L.snapText p).length := by omega
    have hget : (L.snW f p)[nch (L.snapText p).length]? = some (L.oth, pad (flip (f L.oth))) := by
      rw [Lg.snW, opW, List.getElem?_append_right (by omega), hlen, Nat.sub_self]
      rfl
    have htake : (L.snW f p).take (nch (L.snapText p).length) = tw (L.oth + 1) (chunksOf (L.snapText p)) := by
      rw [Lg.snW, opW, ← hlen, List.take_left]
    have he : tear f (L.snW f p) (nch (L.snapText p).length) t = upd (view f (tw (L.oth + 1) (chunksOf (L.snapText p)))) L.oth (over (f L.oth) ((flip (f L.oth)).take t)) := by
      unfold tear
      rw [hget, htake]
      simp only
      rw [hq, hpad]
    rw [he]
    unfold flip
    rw [over_set _ _ _ _ (hf _) ht]
    split
    · have : upd (view f (tw (L.oth + 1) (chunksOf (L.snapText p)))) L.oth ((f L.oth).set 0 ((f L.oth).headD 0 ^^^ 1)) = view f (L.snW f p) := hview.symm
      rw [this]
      exact ⟨.inr hwhole.1, hwhole.2⟩
    · rw [← hq, upd_same]
      exact ⟨.inl (sn_mix hf hk h2 hfit hfull.mix), hfull.w, fun b hb => hfull.out b (by omega)⟩
  · obtain rfl : j = (L.snW f p).length := by omega
    rw [view_all]
    exact ⟨.inr hwhole.1, hwhole.2⟩
theorem sn_whole (hf : W64 f) (hk : Lays f L.at_ L.bl L.half k) (h2 : 2 ≤ L.bl) (hfit : 8 + p.length ≤ L.room) : Lays (view f (L.snW f p)) L.at_ L.bl (1 - L.half) ⟨p, []⟩ := by
  have hpad : pad (flip (f L.oth)) = flip (f L.oth) := pad_full _ (by rw [flip_len]; exact hf _)
  have hview : view f (L.snW f p) = upd (view f (tw (L.oth + 1) (chunksOf (L.snapText p)))) L.oth (flip (f L.oth)) := by
    rw [Lg.snW, opW, view_append, hpad]
    rfl
  rw [hview]
  exact sn_full hf hk h2 hfit (full_view hf _ _)
end

/-! ### The program's own way of saying it -/
theorem repE_op {D : Dk} (hw : W64 D.dur) (hp : D.pend = []) (i : Nat) (text : List UInt8) : D.repE i text = D.opE (i + 1) text i (flip (D.dur i)) ∧ D.repD i text = D.opD (i + 1) text i (flip (D.dur i)) := by
  have h1 : ∀ cs, view (D.putL (i + 1) cs).dur (D.putL (i + 1) cs).pend i = D.dur i := fun cs => by
    rw [putL_dur, putL_pend, hp, List.nil_append, view_tw, if_neg (by omega)]
  have h2 : view (D.writeD' (i + 1) text).dur (D.writeD' (i + 1) text).pend i = D.dur i := by
    unfold Dk.writeD'
    split
    · exact h1 _
    · exact h1 _
  have h3 : (flip (D.dur i)).length = 64 := by rw [flip_len]; exact hw i
  unfold Dk.repE Dk.repD Dk.opE Dk.opD
  rw [h2, h3]
  exact ⟨rfl, rfl⟩
end Go.Proofs.Ytbcpplndmndkiaa
