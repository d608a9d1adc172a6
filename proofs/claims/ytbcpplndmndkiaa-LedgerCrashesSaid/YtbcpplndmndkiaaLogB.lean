/- Package ledger, as plain data: what a record leaves, whole or not at all. -/
import Derived.Test.YtbcpplndmndkiaaLogA
namespace Go.Proofs.Ytbcpplndmndkiaa
open Go.RowKit

def Kp.with_ (k : Kp) (p : List UInt8) : Kp := ⟨k.snap, k.recs ++ [p]⟩
theorem Kp.with_enc (k : Kp) (p : List UInt8) : (k.with_ p).enc = k.enc ++ (hd 1 p.length ++ p) := by
  show hd 0 k.snap.length ++ k.snap ++ encR (k.recs ++ [p]) = _
  rw [encR_append, Kp.enc]
  simp only [List.append_assoc]
  congr 3
  simp [encR, recB]

theorem over_set (c : List UInt8) (i : Nat) (x : UInt8) (t : Nat) (hc : c.length = 64) (ht : t ≤ 64) : over c ((c.set i x).take t) = if i < t then c.set i x else c := by
  apply List.ext_getElem?
  intro y
  unfold over
  have h1 : ((c.set i x).take t).length = t := by rw [List.length_take, List.length_set]; omega
  rw [h1]
  by_cases h : y < t
  · rw [List.getElem?_append_left (by omega), List.getElem?_take, if_pos h]
    split
    · rfl
    · rw [List.getElem?_set, if_neg (by omega)]
  · rw [List.getElem?_append_right (by omega), List.getElem?_drop, h1, show t + (y - t) = y from by omega]
    split
    · rw [List.getElem?_set, if_neg (by omega)]
    · rfl
theorem pad_set (c : List UInt8) (i : Nat) (x : UInt8) (hi : i < c.length) : pad (c.set i x) = (pad c).set i x := by
  unfold pad over
  rw [List.length_set, List.set_append, if_pos hi]
theorem getD_set (c : List UInt8) (i y : Nat) (x : UInt8) (hi : i < c.length) : (c.set i x).getD y 0 = if y = i then x else c.getD y 0 := by
  rw [List.getD_eq_getElem?_getD, List.getElem?_set]
  by_cases h : i = y
  · rw [if_pos h, if_pos (by omega), if_pos h.symm]; rfl
  · rw [if_neg h, if_neg (fun e => h e.symm), List.getD_eq_getElem?_getD]

section
variable {f f' : Nat → List UInt8} {L : Lg} {n : Nat} {k : Kp} {p : List UInt8}

/-- The text, byte by byte. -/
theorem text_getD (L : Lg) (hf : W64 f) (p : List UInt8) (y : Nat) :
    (L.text f p).getD y 0 = if y < L.ed % 64 then (f L.blk).getD y 0 else (hd 0 p.length ++ p).getD (y - L.ed % 64) 0 := by
  have h1 : ((f L.blk).take (L.ed % 64)).length = L.ed % 64 := by rw [List.length_take, hf]; omega
  have key : ((f L.blk).take (L.ed % 64) ++ (hd 0 p.length ++ p)).getD y 0 = if y < L.ed % 64 then (f L.blk).getD y 0 else (hd 0 p.length ++ p).getD (y - L.ed % 64) 0 := by
    rw [List.getD_eq_getElem?_getD]
    by_cases h : y < L.ed % 64
    · rw [if_pos h, List.getElem?_append_left (by omega), List.getElem?_take, if_pos h, List.getD_eq_getElem?_getD]
    · rw [if_neg h, List.getElem?_append_right (by omega), h1, List.getD_eq_getElem?_getD]
  unfold Lg.text term
  split
  · exact key
  · rw [← key, List.getD_eq_getElem?_getD, List.getD_eq_getElem?_getD]
    by_cases h : y < ((f L.blk).take (L.ed % 64) ++ (hd 0 p.length ++ p)).length
    · rw [List.getElem?_append_left h]
    · rw [List.getElem?_append_right (by omega), List.getElem?_eq_none (l := (f L.blk).take (L.ed % 64) ++ (hd 0 p.length ++ p)) (by omega)]
      cases y - ((f L.blk).take (L.ed % 64) ++ (hd 0 p.length ++ p)).length with
      | zero => rfl
      | succ m => rfl
theorem Lg.blk_lo (L : Lg) : L.at_ + L.half * L.bl + 1 ≤ L.blk := by unfold Lg.blk; omega
theorem Lg.text_nch (L : Lg) (hf : W64 f) (p : List UInt8) (h : L.ed + 8 + p.length ≤ L.room) : L.blk + nch (L.text f p).length ≤ L.at_ + L.half * L.bl + L.bl ∧ L.ed + 8 + p.length ≤ 64 * (L.ed / 64) + 64 * nch (L.text f p).length ∧
    (L.ed + 8 + p.length < L.room → L.ed + 8 + p.length < 64 * (L.ed / 64) + 64 * nch (L.text f p).length) := by
  have h1 := L.text_len f p hf h
  have h3 : (L.text f p).length = (if L.ed + 8 + p.length = L.room then 0 else 1) + (L.ed % 64 + 8 + p.length) := by
    have h4 : ((f L.blk).take (L.ed % 64) ++ (hd 0 p.length ++ p)).length = L.ed % 64 + 8 + p.length := by
      rw [List.length_append, List.length_append, List.length_take, hf, hd_len]
      omega
    unfold Lg.text term
    split
    · rw [h4]; omega
    · rw [List.length_append, h4]; simp only [List.length_cons, List.length_nil]; omega
  unfold nch Lg.blk
  unfold Lg.room at h h1 h3 ⊢
  refine ⟨by omega, by omega, fun h5 => ?_⟩
  rw [if_neg (by omega)] at h3
  omega

/-- The byte of the area at x, in the writes' block. -/
theorem bt_blk (L : Lg) (x : Nat) : bt f' (L.at_ + L.half * L.bl + 1) x = (f' (L.blk + x / 64 - L.ed / 64)).getD (x % 64) 0 := by
  unfold bt Lg.blk
  rw [show L.at_ + L.half * L.bl + 1 + L.ed / 64 + x / 64 - L.ed / 64 = L.at_ + L.half * L.bl + 1 + x / 64 from by omega]

theorem used_same (hat : L.half ≤ 1) (h2 : 2 ≤ L.bl) (hout : ∀ b, b < L.blk ∨ L.at_ + L.half * L.bl + L.bl ≤ b → f' b = f b) : used f' L.at_ L.bl = used f L.at_ L.bl := by
  have hb := L.blk_lo
  have h3 : L.half * L.bl = 0 ∨ L.half * L.bl = L.bl := by
    obtain h0 | h0 : L.half = 0 ∨ L.half = 1 := by omega
    · rw [h0]; omega
    · rw [h0]; omega
  have e1 : f' L.at_ = f L.at_ := hout _ (by omega)
  have e2 : f' (L.at_ + L.bl) = f (L.at_ + L.bl) := hout _ (by omega)
  unfold used sw
  rw [e1, e2]

/-- NOT AT ALL. -/
theorem app_mix (hf : W64 f) (hk : Lays f L.at_ L.bl L.half k) (hed : L.ed = k.enc.length) (h2 : 2 ≤ L.bl) (hfit : L.ed + 8 + p.length ≤ L.room) (hm : Mix f f' L.blk (L.text f p)) : Lays f' L.at_ L.bl L.half k := by
  have hn := L.text_nch hf p hfit
  have hhalf := hk.le1
  have hr : L.room = 64 * (L.bl - 1) := rfl
  have key : ∀ x, x ≤ L.ed → x < 64 * (L.bl - 1) → bt f' (L.at_ + L.half * L.bl + 1) x = bt f (L.at_ + L.half * L.bl + 1) x := by
    intro x hx hxr
    rw [bt_blk, bt_blk]
    rcases hm.byte (L.blk + x / 64 - L.ed / 64) (x % 64) (by omega) with h | ⟨h1, h⟩
    · exact h
    · rw [h, text_getD L hf]
      have hb0 : L.blk + x / 64 - L.ed / 64 - L.blk = 0 := by omega
      have hbe : x / 64 = L.ed / 64 := by
        have := L.blk_lo
        unfold Lg.blk at h1
        omega
      rw [hb0]
      by_cases hlt : x < L.ed
      · rw [if_pos (by omega), show L.blk + x / 64 - L.ed / 64 = L.blk from by omega, Nat.mul_zero, Nat.zero_add]
      · obtain rfl : x = L.ed := by omega
        rw [if_neg (by omega), show 64 * 0 + L.ed % 64 - L.ed % 64 = 0 from by omega]
        have hz := hk.zero hf (by omega)
        rw [← hed, bt_blk] at hz
        rw [hz]
        rfl
  refine lays_of hm.w ((used_same hhalf h2 (fun b hb => hm.out b (by omega))).trans hk.sw) (hk.len hf) (fun x hx => ?_) (fun hx => ?_)
  · rw [key x (by omega) (by have := hk.len hf; omega), hk.byte hf x hx]
  · rw [key _ (by omega) hx, hk.zero hf hx]

/-- WHOLE. -/
theorem app_full (hf : W64 f) (hk : Lays f L.at_ L.bl L.half k) (hed : L.ed = k.enc.length) (h2 : 2 ≤ L.bl) (hfit : L.ed + 8 + p.length ≤ L.room) (hm : Full f f' L.blk (L.text f p)) : Lays (upd f' L.blk ((f' L.blk).set (L.ed % 64) 1)) L.at_ L.bl L.half (k.with_ p) := by
  have hn := L.text_nch hf p hfit
  have hhalf := hk.le1
  have hr : L.room = 64 * (L.bl - 1) := rfl
  have hbl := L.blk_lo
  have hw : W64 (upd f' L.blk ((f' L.blk).set (L.ed % 64) 1)) := upd_len hm.w _ _ (by rw [List.length_set]; exact hm.w _)
  have hel : (k.with_ p).enc.length = L.ed + 8 + p.length := by rw [Kp.with_enc, List.length_append, List.length_append, hd_len, hed]; omega
  -- a byte at or behind the block of the mark
  have key : ∀ x, L.ed / 64 ≤ x / 64 → x < 64 * (L.ed / 64) + 64 * nch (L.text f p).length → bt (upd f' L.blk ((f' L.blk).set (L.ed % 64) 1)) (L.at_ + L.half * L.bl + 1) x = if x = L.ed then 1 else (L.text f p).getD (x - 64 * (L.ed / 64)) 0 := by
    intro x h1 h3
    rw [bt_blk]
    have hb : L.blk ≤ L.blk + x / 64 - L.ed / 64 := by omega
    have hby := hm.byte (L.blk + x / 64 - L.ed / 64) (x % 64) (by omega) hb (by omega)
    rw [show 64 * (L.blk + x / 64 - L.ed / 64 - L.blk) + x % 64 = x - 64 * (L.ed / 64) from by omega] at hby
    unfold upd
    by_cases hbb : L.blk + x / 64 - L.ed / 64 = L.blk
    · rw [if_pos hbb, getD_set _ _ _ _ (by rw [hm.w]; omega)]
      rw [hbb] at hby
      by_cases hxe : x = L.ed
      · rw [if_pos (by omega), if_pos hxe]
      · rw [if_neg (by omega), if_neg hxe, hby]
    · rw [if_neg hbb, if_neg (by omega), hby]
  -- a byte ahead of that block
  have kex : ∀ x, x / 64 < L.ed / 64 → bt (upd f' L.blk ((f' L.blk).set (L.ed % 64) 1)) (L.at_ + L.half * L.bl + 1) x = bt f (L.at_ + L.half * L.bl + 1) x := by
    intro x h1
    rw [bt_blk, bt_blk]
    unfold upd
    have hlb : L.blk = L.at_ + L.half * L.bl + 1 + L.ed / 64 := rfl
    rw [if_neg (by omega), hm.out _ (by omega)]
  refine lays_of hw ?_ (by rw [hel]; omega) (fun x hx => ?_) (fun hx => ?_)
  · refine (used_same hhalf h2 (fun b hb => ?_)).trans hk.sw
    unfold upd
    rw [if_neg (by omega), hm.out b (by omega)]
  · rw [hel] at hx
    rw [Kp.with_enc]
    by_cases h1 : x / 64 < L.ed / 64
    · rw [kex x h1, hk.byte hf x (by omega), List.getD_eq_getElem?_getD, List.getD_eq_getElem?_getD, List.getElem?_append_left (by omega)]
    · rw [key x (by omega) (by omega)]
      by_cases h4 : x < L.ed
      · rw [if_neg (by omega), text_getD L hf, if_pos (by omega), List.getD_eq_getElem?_getD (l := k.enc ++ _), List.getElem?_append_left (by omega), ← List.getD_eq_getElem?_getD, ← hk.byte hf x (by omega), bt_blk, show L.blk + x / 64 - L.ed / 64 = L.blk from by omega, show x - 64 * (L.ed / 64) = x % 64 from by omega]
      · rw [List.getD_eq_getElem?_getD (l := k.enc ++ _), List.getElem?_append_right (by omega), ← List.getD_eq_getElem?_getD, ← hed]
        by_cases h5 : x = L.ed
        · rw [if_pos h5, h5, Nat.sub_self]
          rfl
        · rw [if_neg h5, text_getD L hf, if_neg (by omega), show x - 64 * (L.ed / 64) - L.ed % 64 = x - L.ed from by omega]
          obtain ⟨m, hm'⟩ : ∃ m, x - L.ed = m + 1 := ⟨x - L.ed - 1, by omega⟩
          rw [hm']
          rfl
  · rw [hel] at hx ⊢
    rw [key _ (by omega) (hn.2.2 (by omega)), if_neg (by omega), text_getD L hf, if_neg (by omega), List.getD_eq_getElem?_getD, List.getElem?_eq_none (by rw [List.length_append, hd_len]; omega)]
    rfl
end
end Go.Proofs.Ytbcpplndmndkiaa
