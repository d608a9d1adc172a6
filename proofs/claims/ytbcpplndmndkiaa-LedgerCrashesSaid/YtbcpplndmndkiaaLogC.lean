/- Package ledger, as plain data: a text, then one block, then Sync: what is left wherever the power fails. -/
import Derived.Test.YtbcpplndmndkiaaLogB
namespace Go.Proofs.Ytbcpplndmndkiaa
open Go.RowKit

def Dk.opE (D : Dk) (i : Nat) (text : List UInt8) (i2 : Nat) (c2 : List UInt8) : Int :=
  if D.writeE' text ≠ 0 then D.writeE' text
  else if (D.writeD' i text).writeE (i2 : Int) c2.length ≠ 0 then (D.writeD' i text).writeE (i2 : Int) c2.length
  else ((D.writeD' i text).writeD (i2 : Int) c2).syncE
def Dk.opD (D : Dk) (i : Nat) (text : List UInt8) (i2 : Nat) (c2 : List UInt8) : Dk :=
  if D.writeE' text ≠ 0 then D.writeD' i text
  else if (D.writeD' i text).writeE (i2 : Int) c2.length ≠ 0 then (D.writeD' i text).writeD (i2 : Int) c2
  else ((D.writeD' i text).writeD (i2 : Int) c2).syncD
def opW (i : Nat) (text : List UInt8) (i2 : Nat) (c2 : List UInt8) : List (Nat × List UInt8) := tw i (chunksOf text) ++ [(i2, pad c2)]

/-- What became of a disk by writes ws and a Sync, or by a part of them. -/
structure OpOk (D D' : Dk) (e : Int) (ws : List (Nat × List UInt8)) : Prop where
  n : D'.n = D.n
  ops : D'.ops ≤ D.ops + ws.length + 2
  fuse : D'.fuse ≤ D.fuse
  pend : D'.pend.length ≤ ws.length
  ok : e = 0 → D'.pend = [] ∧ D'.off = false ∧ D'.dur = view D.dur ws
  bad : e ≠ 0 → e = 12 ∧ D'.dur = D.dur ∧ (∃ q, D'.pend = ws.take q) ∧ D'.off = true
  zero : D.fuse = 0 → e = 0

theorem putL_off_hit (cs : List (List UInt8)) : ∀ (D : Dk) (i : Nat), D.off = false → 1 ≤ D.fuse → D.fuse = cs.length → (D.putL i cs).off = true := by
  induction cs with
  | nil => intro D i _ h1 h2; rw [List.length_nil] at h2; omega
  | cons c r ih =>
    intro D i h0 h1 h2
    rw [List.length_cons] at h2
    rcases Nat.eq_or_lt_of_le h1 with h3 | h3
    · have hr : r = [] := List.eq_nil_of_length_eq_zero (by omega)
      subst hr
      show (D.off || D.fuse == 1) = true
      rw [← h3, h0]
      rfl
    · refine ih _ _ ?_ ?_ ?_
      · show (D.off || D.fuse == 1) = false
        rw [h0, Bool.false_or, beq_eq_false_iff_ne]
        omega
      · show 1 ≤ D.fuse - 1; omega
      · show D.fuse - 1 = r.length; omega

theorem op_step (D : Dk) (i : Nat) (text : List UInt8) (i2 : Nat) (c2 : List UInt8) (hp : D.pend = []) (hoff : D.off = false) (hi2 : i2 < D.n) (hc2 : c2.length ≤ 64) : OpOk D (D.opD i text i2 c2) (D.opE i text i2 c2) (opW i text i2 c2) := by
  have hwl : (opW i text i2 c2).length = nch text.length + 1 := by rw [opW, List.length_append, tw_len, chunksOf_len]; rfl
  have htl : (tw i (chunksOf text)).length = nch text.length := by rw [tw_len, chunksOf_len]
  by_cases hA : 1 ≤ D.fuse ∧ D.fuse ≤ nch text.length
  · have e0 : D.writeE' text = 12 := if_pos hA
    have d0 : D.writeD' i text = D.putL i ((chunksOf text).take D.fuse) := if_pos hA
    have e1 : D.opE i text i2 c2 = 12 := by unfold Dk.opE; rw [e0]; rfl
    have d1 : D.opD i text i2 c2 = D.putL i ((chunksOf text).take D.fuse) := by unfold Dk.opD; rw [e0, d0]; rfl
    have hcl : ((chunksOf text).take D.fuse).length = D.fuse := by rw [List.length_take, chunksOf_len]; omega
    rw [e1, d1]
    refine ⟨putL_n _ _ _, by rw [putL_ops, hcl, hwl]; omega, by rw [putL_fuse]; omega, by rw [putL_pend_len, hcl, hp, hwl]; simp only [List.length_nil]; omega, (fun h => by cases h), fun _ => ⟨rfl, putL_dur _ _ _, ⟨D.fuse, ?_⟩, ?_⟩, fun h => by omega⟩
    · rw [putL_pend, hp, List.nil_append, ← tw_take, opW, List.take_append_of_le_length (by omega)]
    · exact putL_off_hit _ _ _ hoff hA.1 hcl.symm
  have e0 : D.writeE' text = 0 := if_neg hA
  have d0 : D.writeD' i text = D.putL i (chunksOf text) := if_neg hA
  have hn1 : (D.putL i (chunksOf text)).n = D.n := putL_n _ _ _
  have ho1 : (D.putL i (chunksOf text)).off = false := putL_off _ _ _ hoff (by rw [chunksOf_len]; omega)
  have hf1 : (D.putL i (chunksOf text)).fuse = D.fuse - nch text.length := by rw [putL_fuse, chunksOf_len]
  have hp1 : (D.putL i (chunksOf text)).pend = tw i (chunksOf text) := by rw [putL_pend, hp, List.nil_append]
  have hd1 : (D.putL i (chunksOf text)).dur = D.dur := putL_dur _ _ _
  have hops1 : (D.putL i (chunksOf text)).ops = D.ops + nch text.length := by rw [putL_ops, chunksOf_len]
  obtain ⟨D1, hD1⟩ : ∃ D1, D1 = D.putL i (chunksOf text) := ⟨_, rfl⟩
  rw [← hD1] at d0 hn1 ho1 hf1 hp1 hd1 hops1
  have hr1 : refuse D1 (i2 : Int) = 0 := by
    unfold refuse
    rw [if_neg (by rw [hn1]; omega), ho1]
    rfl
  have hwe : D1.writeE (i2 : Int) c2.length = begunE D1 := by
    unfold Dk.writeE
    rw [if_neg (by rw [hr1]; simp), if_neg (by omega)]
  have hwd : D1.writeD (i2 : Int) c2 = (D1.wrote i2 c2).begun := by
    unfold Dk.writeD
    rw [if_neg (by rw [hr1]; simp), if_neg (by omega), Int.toNat_natCast]
  have hE : D.opE i text i2 c2 = if begunE D1 ≠ 0 then begunE D1 else (D1.wrote i2 c2).begun.syncE := by
    unfold Dk.opE
    rw [if_neg (by rw [e0]; simp), d0, hwe, hwd]
  have hDD : D.opD i text i2 c2 = if begunE D1 ≠ 0 then (D1.wrote i2 c2).begun else (D1.wrote i2 c2).begun.syncD := by
    unfold Dk.opD
    rw [if_neg (by rw [e0]; simp), d0, hwe, hwd]
  have hp2 : ((D1.wrote i2 c2).begun).pend = opW i text i2 c2 := by
    show D1.pend ++ [(i2, pad c2)] = _
    rw [hp1]
    rfl
  by_cases hB : D1.fuse = 1
  · have hb : begunE D1 = 12 := if_pos hB
    rw [hb] at hE hDD
    rw [hE, hDD, if_pos (by simp), if_pos (by simp)]
    refine ⟨hn1, ?_, ?_, by rw [hp2]; exact Nat.le_refl _, (fun h => by cases h), fun _ => ⟨rfl, hd1, ⟨(opW i text i2 c2).length, by rw [hp2, List.take_length]⟩, ?_⟩, fun h => by omega⟩
    · show D1.ops + 1 ≤ _; omega
    · show D1.fuse - 1 ≤ _; omega
    · show (D1.off || D1.fuse == 1) = true
      rw [hB]; simp
  have hb : begunE D1 = 0 := if_neg hB
  rw [hb] at hE hDD
  rw [hE, hDD, if_neg (by simp), if_neg (by simp)]
  have ho2 : ((D1.wrote i2 c2).begun).off = false := by
    show (D1.off || D1.fuse == 1) = false
    rw [ho1, Bool.false_or, beq_eq_false_iff_ne]; exact hB
  have hf2 : ((D1.wrote i2 c2).begun).fuse = D1.fuse - 1 := rfl
  obtain ⟨D2, hD2⟩ : ∃ D2, D2 = (D1.wrote i2 c2).begun := ⟨_, rfl⟩
  have hn2 : D2.n = D.n := by rw [hD2]; exact hn1
  have hd2 : D2.dur = D.dur := by rw [hD2]; exact hd1
  have hops2 : D2.ops = D1.ops + 1 := by rw [hD2]; rfl
  rw [← hD2] at hp2 ho2 hf2 ⊢
  have hse : D2.syncE = begunE D2 := if_neg (by rw [ho2]; simp)
  have hsd : D2.syncD = if D2.fuse = 1 then D2.begun else D2.begun.synced := if_neg (by rw [ho2]; simp)
  rw [hse, hsd]
  by_cases hC : D2.fuse = 1
  · have hb2 : begunE D2 = 12 := if_pos hC
    rw [hb2, if_pos hC]
    refine ⟨hn2, ?_, ?_, by show D2.pend.length ≤ _; rw [hp2]; exact Nat.le_refl _, (fun h => by cases h), fun _ => ⟨rfl, hd2, ⟨(opW i text i2 c2).length, by show D2.pend = _; rw [hp2, List.take_length]⟩, ?_⟩, fun h => by omega⟩
    · show D2.ops + 1 ≤ _; omega
    · show D2.fuse - 1 ≤ _; omega
    · show (D2.off || D2.fuse == 1) = true
      rw [hC]; simp
  · have hb2 : begunE D2 = 0 := if_neg hC
    rw [hb2, if_neg hC]
    refine ⟨hn2, ?_, ?_, Nat.zero_le _, fun _ => ⟨rfl, ?_, ?_⟩, fun h => absurd rfl h, fun _ => rfl⟩
    · show D2.ops + 1 ≤ _; omega
    · show D2.fuse - 1 ≤ _; omega
    · show (D2.off || D2.fuse == 1) = false
      rw [ho2, Bool.false_or, beq_eq_false_iff_ne]; exact hC
    · show view D2.dur D2.pend = _
      rw [hd2, hp2]

/-! ### A record -/
def Lg.appW (L : Lg) (f : Nat → List UInt8) (p : List UInt8) : List (Nat × List UInt8) := opW L.blk (L.text f p) L.blk (((L.text f p).set (L.ed % 64) 1).take 64)
/-- Only the ledger's own blocks may be others than they were. -/
structure Own (f f' : Nat → List UInt8) (lo hi : Nat) : Prop where
  w : W64 f'
  out : ∀ b, b < lo ∨ hi ≤ b → f' b = f b

theorem view_all (f : Nat → List UInt8) (ws : List (Nat × List UInt8)) (t : Nat) : tear f ws ws.length t = view f ws := by
  unfold tear
  rw [List.getElem?_eq_none (Nat.le_refl _), List.take_length]

theorem app_last {f : Nat → List UInt8} (hf : W64 f) (L : Lg) (p : List UInt8) (hfit : L.ed + 8 + p.length ≤ L.room) :
    pad (((L.text f p).set (L.ed % 64) 1).take 64) = (view f (tw L.blk (chunksOf (L.text f p))) L.blk).set (L.ed % 64) 1 := by
  have h1 := L.text_len f p hf hfit
  have hn : 1 ≤ nch (L.text f p).length := by unfold nch; omega
  have e1 : ((L.text f p).set (L.ed % 64) 1).take 64 = (chunk (L.text f p) 0).set (L.ed % 64) 1 := by
    unfold chunk
    rw [Nat.mul_zero, List.drop_zero, List.take_set]
  have e2 : view f (tw L.blk (chunksOf (L.text f p))) L.blk = pad (chunk (L.text f p) 0) := by
    rw [view_tw, chunksOf_len, if_pos (by omega), Nat.sub_self, chunksOf_getD _ _ (by omega)]
  rw [e1, e2, pad_set _ _ _ (by rw [chunk_len]; omega)]

/-- WHOLE OR NOT AT ALL: a record. -/
theorem app_cr {f f' : Nat → List UInt8} {L : Lg} {k : Kp} {p : List UInt8} (hf : W64 f) (hk : Lays f L.at_ L.bl L.half k) (hed : L.ed = k.enc.length) (h2 : 2 ≤ L.bl) (hfit : L.ed + 8 + p.length ≤ L.room) (hc : Cr f (L.appW f p) f') :
    (Lays f' L.at_ L.bl L.half k ∨ Lays f' L.at_ L.bl L.half (k.with_ p)) ∧ Own f f' L.at_ (L.at_ + 2 * L.bl) := by
  have hn := L.text_nch hf p hfit
  have hhalf := hk.le1
  have hblo := L.blk_lo
  have hhb : L.half * L.bl = 0 ∨ L.half * L.bl = L.bl := by
    obtain h0 | h0 : L.half = 0 ∨ L.half = 1 := by omega
    · rw [h0]; omega
    · rw [h0]; omega
  have hfull := full_view hf L.blk (L.text f p)
  have hlast := app_last hf L p hfit
  have hlen : (tw L.blk (chunksOf (L.text f p))).length = nch (L.text f p).length := by rw [tw_len, chunksOf_len]
  have hwl : (L.appW f p).length = nch (L.text f p).length + 1 := by rw [Lg.appW, opW, List.length_append, hlen]; rfl
  have hpl : (pad (((L.text f p).set (L.ed % 64) 1).take 64)).length = 64 := pad_len _ (by rw [List.length_take]; omega)
  obtain ⟨j, t, hj, ht, rfl⟩ := hc
  rcases Nat.lt_or_ge j (nch (L.text f p).length) with h | h
  · have hm := mix_tear hf L.blk (L.text f p) [(L.blk, pad (((L.text f p).set (L.ed % 64) 1).take 64))] j t h ht
    exact ⟨.inl (app_mix hf hk hed h2 hfit hm), hm.w, fun b hb => hm.out b (by omega)⟩
  have hview : view f (L.appW f p) = upd (view f (tw L.blk (chunksOf (L.text f p)))) L.blk ((view f (tw L.blk (chunksOf (L.text f p))) L.blk).set (L.ed % 64) 1) := by
    rw [Lg.appW, opW, view_append, hlast]
    rfl
  have hwhole : Lays (view f (L.appW f p)) L.at_ L.bl L.half (k.with_ p) ∧ Own f (view f (L.appW f p)) L.at_ (L.at_ + 2 * L.bl) := by
    rw [hview]
    refine ⟨app_full hf hk hed h2 hfit hfull, upd_len hfull.w _ _ (by rw [List.length_set]; exact hfull.w _), fun b hb => ?_⟩
    unfold upd
    rw [if_neg (by omega), hfull.out b (by omega)]
  rcases Nat.lt_or_ge j (nch (L.text f p).length + 1) with h1 | h1
  · obtain rfl : j = nch (L.text f p).length := by omega
    have hget : (L.appW f p)[nch (L.text f p).length]? = some (L.blk, pad (((L.text f p).set (L.ed % 64) 1).take 64)) := by
      rw [Lg.appW, opW, List.getElem?_append_right (by omega), hlen, Nat.sub_self]
      rfl
    have htake : (L.appW f p).take (nch (L.text f p).length) = tw L.blk (chunksOf (L.text f p)) := by
      rw [Lg.appW, opW, ← hlen, List.take_left]
    have he : tear f (L.appW f p) (nch (L.text f p).length) t = upd (view f (tw L.blk (chunksOf (L.text f p)))) L.blk (over (view f (tw L.blk (chunksOf (L.text f p))) L.blk) ((pad (((L.text f p).set (L.ed % 64) 1).take 64)).take t)) := by
      unfold tear
      rw [hget, htake]
    rw [he, hlast, over_set _ _ _ _ (hfull.w _) ht]
    split
    · rw [← hview]
      exact ⟨.inr hwhole.1, hwhole.2⟩
    · rw [upd_same]
      exact ⟨.inl (app_mix hf hk hed h2 hfit hfull.mix), hfull.w, fun b hb => hfull.out b (by omega)⟩
  · obtain rfl : j = (L.appW f p).length := by omega
    rw [view_all]
    exact ⟨.inr hwhole.1, hwhole.2⟩
theorem app_whole {f : Nat → List UInt8} {L : Lg} {k : Kp} {p : List UInt8} (hf : W64 f) (hk : Lays f L.at_ L.bl L.half k) (hed : L.ed = k.enc.length) (h2 : 2 ≤ L.bl) (hfit : L.ed + 8 + p.length ≤ L.room) : Lays (view f (L.appW f p)) L.at_ L.bl L.half (k.with_ p) := by
  have hview : view f (L.appW f p) = upd (view f (tw L.blk (chunksOf (L.text f p)))) L.blk ((view f (tw L.blk (chunksOf (L.text f p))) L.blk).set (L.ed % 64) 1) := by
    rw [Lg.appW, opW, view_append, app_last hf L p hfit]
    rfl
  rw [hview]
  exact app_full hf hk hed h2 hfit (full_view hf L.blk (L.text f p))
end Go.Proofs.Ytbcpplndmndkiaa
