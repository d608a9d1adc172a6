/- Package ledger: a ledger in order, and what each call makes of it, as plain data. -/
import Derived.Test.YtbcpplndmndkiaaKeptC
namespace Go.Proofs.Ytbcpplndmndkiaa
open Go.RowKit

def Kp.need (k : Kp) : Nat := needOf k.snap k.recs
theorem Kp.need_enc (k : Kp) : k.enc.length = k.need := by
  have h : (encR k.recs).length = (k.recs.map fun r => r.length + 8).sum := by
    induction k.recs with
    | nil => rfl
    | cons r l ih => rw [encR_cons, List.length_append, recB_len, ih, List.map_cons, List.sum_cons]; omega
  rw [Kp.enc, List.length_append, List.length_append, hd_len, h, Kp.need, needOf]
  omega
theorem Kp.need_with (k : Kp) (p : List UInt8) : (k.with_ p).need = k.need + 8 + p.length := by
  rw [← Kp.need_enc, ← Kp.need_enc, Kp.with_enc, List.length_append, List.length_append, hd_len]
  omega
theorem Kp.cnt_le (k : Kp) : 8 * k.recs.length ≤ k.need := by unfold Kp.need; exact needOf_len _ _

/-- A ledger in order: nothing waits; on the disk lies k, and the ledger knows where it ends. -/
structure St (D : Dk) (L : Lg) (k : Kp) : Prop where
  two : 2 ≤ L.bl
  room : L.at_ + 2 * L.bl ≤ D.n
  n : D.n ≤ 4096
  pend : D.pend = []
  off : D.off = false
  w : W64 D.dur
  lays : Lays D.dur L.at_ L.bl L.half k
  ed : L.ed = k.enc.length
  cnt : L.cnt = k.recs.length
  sure : L.unsure = false
theorem St.ok {D : Dk} {L : Lg} {k : Kp} (h : St D L k) : L.Ok D.n := by
  have h1 := h.lays.len h.w
  have h2 := k.cnt_le
  rw [← k.need_enc] at h2
  exact ⟨h.two, h.room, h.n, h.lays.le1, by rw [h.ed]; exact h1, by rw [h.ed, h.cnt]; exact h2⟩
theorem St.view {D : Dk} {L : Lg} {k : Kp} (h : St D L k) : Go.Proofs.Ytbcpplndmndkiaa.view D.dur D.pend = D.dur := by rw [h.pend]; rfl
theorem St.need_le {D : Dk} {L : Lg} {k : Kp} (h : St D L k) : k.need ≤ L.room := by
  rw [← k.need_enc]
  exact h.lays.len h.w

/-- What may lie on a disk when the power has failed in a call that would have made k' of k. -/
structure Fell (D : Dk) (L : Lg) (k k' : Kp) (D' : Dk) : Prop where
  n : D'.n = D.n
  ops : D'.ops ≤ D.ops + 5000
  fuse : D'.fuse ≤ D.fuse
  wait : D'.pend.length ≤ 5000
  left : ∀ keep torn, ((∃ h, Lays (D'.left keep torn) L.at_ L.bl h k) ∨ (∃ h, Lays (D'.left keep torn) L.at_ L.bl h k')) ∧ Own D.dur (D'.left keep torn) L.at_ (L.at_ + 2 * L.bl)
/-- A call that did well. -/
structure Did (D : Dk) (L : Lg) (k' : Kp) (D' : Dk) (L' : Lg) : Prop where
  st : St D' L' k'
  at_ : L'.at_ = L.at_
  bl : L'.bl = L.bl
  n : D'.n = D.n
  ops : D'.ops ≤ D.ops + 5000
  fuse : D'.fuse ≤ D.fuse
  own : Own D.dur D'.dur L.at_ (L.at_ + 2 * L.bl)

theorem lg_room_le {D : Dk} {L : Lg} {k : Kp} (h : St D L k) : L.room ≤ 131072 := by
  have := h.room; have := h.n; have := h.two
  unfold Lg.room; omega

/-- Append. -/
theorem St.append {D : Dk} {L : Lg} {k : Kp} (h : St D L k) (p : List UInt8) :
    (4000 < p.length ∧ L.appE D p = 2 ∧ L.appD D p = D ∧ L.appL D p = L) ∨
    (p.length ≤ 4000 ∧ L.room < (k.with_ p).need ∧ L.appE D p = 13 ∧ L.appD D p = D ∧ L.appL D p = L) ∨
    (p.length ≤ 4000 ∧ (k.with_ p).need ≤ L.room ∧ L.appE D p = 0 ∧ Did D L (k.with_ p) (L.appD D p) (L.appL D p)) ∨
    (p.length ≤ 4000 ∧ (k.with_ p).need ≤ L.room ∧ L.appE D p = 12 ∧ Fell D L k (k.with_ p) (L.appD D p) ∧ D.fuse ≠ 0) := by
  have hed : L.ed = k.need := by rw [h.ed, k.need_enc]
  have hw := k.need_with p
  have hrb := lg_room_le h
  by_cases h4 : 4000 < p.length
  · refine .inl ⟨h4, ?_, ?_, ?_⟩
    · unfold Lg.appE; rw [if_pos h4]
    · unfold Lg.appD; rw [if_pos (.inl h4)]
    · unfold Lg.appL; rw [if_pos (.inl h4)]
  by_cases hf : L.room < L.ed + 8 + p.length
  · refine .inr (.inl ⟨by omega, by omega, ?_, ?_, ?_⟩)
    · unfold Lg.appE; rw [if_neg h4, if_pos hf]
    · unfold Lg.appD; rw [if_pos (.inr hf)]
    · unfold Lg.appL; rw [if_pos (.inr hf)]
  have hno : ¬ (4000 < p.length ∨ L.room < L.ed + 8 + p.length) := fun h => h.elim h4 hf
  have hfit : L.ed + 8 + p.length ≤ L.room := by omega
  have hE : L.appE D p = D.storeE L.blk (L.ed % 64) (L.text D.dur p) := by unfold Lg.appE; rw [if_neg h4, if_neg hf, h.view]
  have hD : L.appD D p = D.storeD L.blk (L.ed % 64) (L.text D.dur p) := by unfold Lg.appD; rw [if_neg hno, h.view]
  have hL : L.appL D p = if D.storeE L.blk (L.ed % 64) (L.text D.dur p) = 0 then { L with ed := L.ed + 8 + p.length, cnt := L.cnt + 1 } else { L with unsure := true } := by unfold Lg.appL; rw [if_neg hno, h.view]
  have htl := L.text_len D.dur p h.w hfit
  have hfits := L.fits D.n h.ok D.dur p h.w hfit
  have hnch : 1 ≤ nch (L.text D.dur p).length := by unfold nch; omega
  have hnle : nch (L.text D.dur p).length ≤ 4096 := by have := h.n; omega
  have hop := op_step D L.blk (L.text D.dur p) L.blk (((L.text D.dur p).set (L.ed % 64) 1).take 64) h.pend h.off (by omega) (by rw [List.length_take]; omega)
  have hEo : D.storeE L.blk (L.ed % 64) (L.text D.dur p) = D.opE L.blk (L.text D.dur p) L.blk (((L.text D.dur p).set (L.ed % 64) 1).take 64) := rfl
  have hDo : D.storeD L.blk (L.ed % 64) (L.text D.dur p) = D.opD L.blk (L.text D.dur p) L.blk (((L.text D.dur p).set (L.ed % 64) 1).take 64) := rfl
  rw [← hEo, ← hDo] at hop
  have hWl : (opW L.blk (L.text D.dur p) L.blk (((L.text D.dur p).set (L.ed % 64) 1).take 64)).length = nch (L.text D.dur p).length + 1 := by rw [opW, List.length_append, tw_len, chunksOf_len]; rfl
  have hops := hop.ops
  rw [hWl] at hops
  have hcr : ∀ f', Cr D.dur (L.appW D.dur p) f' → _ := fun f' hc => app_cr h.w h.lays h.ed h.two hfit hc
  by_cases hz : D.storeE L.blk (L.ed % 64) (L.text D.dur p) = 0
  · refine .inr (.inr (.inl ⟨by omega, by omega, by rw [hE, hz], ?_⟩))
    rw [hD, hL, if_pos hz]
    obtain ⟨hp', ho', hd'⟩ := hop.ok hz
    have hwh := app_whole h.w h.lays h.ed h.two hfit (p := p)
    have hown := (hcr _ ⟨(L.appW D.dur p).length, 0, Nat.le_refl _, by omega, (view_all _ _ _).symm⟩).2
    refine ⟨⟨h.two, by rw [hop.n]; exact h.room, by rw [hop.n]; exact h.n, hp', ho', ?_, ?_, ?_, ?_, h.sure⟩, rfl, rfl, hop.n, by omega, hop.fuse, ?_⟩
    · rw [hd']; exact hown.w
    · rw [hd']; exact hwh
    · show L.ed + 8 + p.length = _
      rw [Kp.with_enc, List.length_append, List.length_append, hd_len, h.ed]
      omega
    · show L.cnt + 1 = _
      rw [h.cnt]
      show k.recs.length + 1 = (k.recs ++ [p]).length
      rw [List.length_append]; rfl
    · rw [hd']; exact hown
  · obtain ⟨h12, hd', ⟨q, hq⟩, _⟩ := hop.bad hz
    refine .inr (.inr (.inr ⟨by omega, by omega, by rw [hE, h12], ?_, fun h0 => hz (hop.zero h0)⟩))
    rw [hD]
    refine ⟨hop.n, by omega, hop.fuse, by have := hop.pend; omega, fun keep torn => ?_⟩
    have hc := left_cr _ _ q hq keep torn
    rw [hd'] at hc
    obtain ⟨h1, h2⟩ := hcr _ hc
    exact ⟨h1.imp (fun h => ⟨_, h⟩) (fun h => ⟨_, h⟩), h2⟩

/-- Snapshot. -/
theorem St.snapshot {D : Dk} {L : Lg} {k : Kp} (h : St D L k) (p : List UInt8) :
    (L.room < (⟨p, []⟩ : Kp).need ∧ L.snE D p = 13 ∧ L.snD D p = D ∧ L.snL D p = L) ∨
    ((⟨p, []⟩ : Kp).need ≤ L.room ∧ L.snE D p = 0 ∧ Did D L ⟨p, []⟩ (L.snD D p) (L.snL D p)) ∨
    ((⟨p, []⟩ : Kp).need ≤ L.room ∧ L.snE D p = 12 ∧ Fell D L k ⟨p, []⟩ (L.snD D p) ∧ D.fuse ≠ 0) := by
  have hnd : (⟨p, []⟩ : Kp).need = 8 + p.length := by
    show p.length + 8 + 0 = _
    omega
  have hrb := lg_room_le h
  by_cases hf : L.room < 8 + p.length
  · refine .inl ⟨by omega, ?_, ?_, ?_⟩
    · unfold Lg.snE; rw [if_pos hf]
    · unfold Lg.snD; rw [if_pos hf]
    · unfold Lg.snL; rw [if_pos hf]
  have hfit : 8 + p.length ≤ L.room := by omega
  have hh := halves L h.lays.le1
  have ho : L.at_ + (1 - L.half) * L.bl = L.oth := rfl
  have hr := repE_op h.w h.pend L.oth (L.snapText p)
  have hE : L.snE D p = D.opE (L.oth + 1) (L.snapText p) L.oth (flip (D.dur L.oth)) := by unfold Lg.snE; rw [if_neg hf, ho, hr.1]
  have hD : L.snD D p = D.opD (L.oth + 1) (L.snapText p) L.oth (flip (D.dur L.oth)) := by unfold Lg.snD; rw [if_neg hf, ho, hr.2]
  have hL : L.snL D p = if D.opE (L.oth + 1) (L.snapText p) L.oth (flip (D.dur L.oth)) = 0 then { L with half := 1 - L.half, ed := 8 + p.length, cnt := 0 } else { L with unsure := true } := by unfold Lg.snL; rw [if_neg hf, ho, hr.1]
  have hnc := L.snap_nch p h.two hfit
  have hroom := h.room
  have hn4 := h.n
  have hop := op_step D (L.oth + 1) (L.snapText p) L.oth (flip (D.dur L.oth)) h.pend h.off (by unfold Lg.oth; omega) (by rw [flip_len, h.w]; omega)
  have hWl : (opW (L.oth + 1) (L.snapText p) L.oth (flip (D.dur L.oth))).length = nch (L.snapText p).length + 1 := by rw [opW, List.length_append, tw_len, chunksOf_len]; rfl
  have hops := hop.ops
  rw [hWl] at hops
  have hcr : ∀ f', Cr D.dur (L.snW D.dur p) f' → _ := fun f' hc => sn_cr h.w h.lays h.two hfit hc
  by_cases hz : D.opE (L.oth + 1) (L.snapText p) L.oth (flip (D.dur L.oth)) = 0
  · refine .inr (.inl ⟨by omega, by rw [hE, hz], ?_⟩)
    rw [hD, hL, if_pos hz]
    obtain ⟨hp', ho', hd'⟩ := hop.ok hz
    have hwh := sn_whole h.w h.lays h.two hfit (p := p)
    have hown := (hcr _ ⟨(L.snW D.dur p).length, 0, Nat.le_refl _, by omega, (view_all _ _ _).symm⟩).2
    refine ⟨⟨h.two, by rw [hop.n]; exact h.room, by rw [hop.n]; exact h.n, hp', ho', ?_, ?_, ?_, rfl, h.sure⟩, rfl, rfl, hop.n, by omega, hop.fuse, ?_⟩
    · rw [hd']; exact hown.w
    · rw [hd']; exact hwh
    · show 8 + p.length = _
      rw [Kp.need_enc, hnd]
    · rw [hd']; exact hown
  · obtain ⟨h12, hd', ⟨q, hq⟩, _⟩ := hop.bad hz
    refine .inr (.inr ⟨by omega, by rw [hE, h12], ?_, fun h0 => hz (hop.zero h0)⟩)
    rw [hD]
    refine ⟨hop.n, by omega, hop.fuse, by have := hop.pend; omega, fun keep torn => ?_⟩
    have hc := left_cr _ _ q hq keep torn
    rw [hd'] at hc
    obtain ⟨h1, h2⟩ := hcr _ hc
    exact ⟨h1.imp (fun h => ⟨_, h⟩) (fun h => ⟨_, h⟩), h2⟩

/-! ### A new disk; a restart; opened -/
theorem zero_w64 : W64 (fun _ => zero64) := fun _ => List.length_replicate
theorem lays_new (at_ bl : Nat) (h2 : 2 ≤ bl) : Lays (fun _ => zero64) at_ bl 0 ⟨[], []⟩ := by
  have hb : ∀ a x, bt (fun _ => zero64) a x = 0 := by
    intro a x
    unfold bt zero64
    rw [List.getD_eq_getElem?_getD, List.getElem?_replicate]
    split <;> rfl
  have he : (⟨[], []⟩ : Kp).enc = [0, 0, 0, 0, 0, 0, 0, 0] := by decide
  refine lays_of zero_w64 rfl (by rw [he]; simp only [List.length_cons, List.length_nil]; omega) (fun x hx => ?_) (fun _ => hb _ _)
  rw [hb, he]
  rw [he] at hx
  simp only [List.length_cons, List.length_nil] at hx
  obtain h | h | h | h | h | h | h | h : x = 0 ∨ x = 1 ∨ x = 2 ∨ x = 3 ∨ x = 4 ∨ x = 5 ∨ x = 6 ∨ x = 7 := by omega
  all_goals (rw [h]; rfl)
theorem dleft_none (D : Dk) (h : D.pend = []) (keep torn : Int) : D.left keep torn = D.dur := by
  unfold Dk.left
  rw [h]
  simp [view]
/-- On a disk lies k, nothing waits, the power is on. -/
structure Lies (D : Dk) (at_ bl half : Nat) (k : Kp) : Prop where
  two : 2 ≤ bl
  room : at_ + 2 * bl ≤ D.n
  n : D.n ≤ 4096
  pend : D.pend = []
  off : D.off = false
  w : W64 D.dur
  lays : Lays D.dur at_ bl half k
theorem Lies.opened {D : Dk} {at_ bl half : Nat} {k : Kp} (h : Lies D at_ bl half k) : St D (Lg.opened at_ bl half k) k := ⟨h.two, h.room, h.n, h.pend, h.off, h.w, h.lays, rfl, rfl, rfl⟩
theorem St.lies {D : Dk} {L : Lg} {k : Kp} (h : St D L k) : Lies D L.at_ L.bl L.half k := ⟨h.two, h.room, h.n, h.pend, h.off, h.w, h.lays⟩
theorem lies_new (n at_ bl : Nat) (h2 : 2 ≤ bl) (hr : at_ + 2 * bl ≤ n) (hn : n ≤ 4096) : Lies (Dk.new n) at_ bl 0 ⟨[], []⟩ := ⟨h2, hr, hn, rfl, rfl, zero_w64, lays_new at_ bl h2⟩
theorem Lies.restarted {D : Dk} {at_ bl half : Nat} {k : Kp} (h : Lies D at_ bl half k) (keep torn : Int) : Lies (D.restarted keep torn) at_ bl half k := by
  have e : (D.restarted keep torn).dur = D.dur := dleft_none D h.pend keep torn
  exact ⟨h.two, h.room, h.n, rfl, rfl, by rw [e]; exact h.w, by rw [e]; exact h.lays⟩
theorem Fell.restarted {D D' : Dk} {L : Lg} {k k' : Kp} (h : Fell D L k k' D') (hs : St D L k) (keep torn : Int) :
    (∃ half, Lies (D'.restarted keep torn) L.at_ L.bl half k) ∨ (∃ half, Lies (D'.restarted keep torn) L.at_ L.bl half k') := by
  obtain ⟨h1, h2⟩ := h.left keep torn
  refine h1.imp (fun ⟨half, hl⟩ => ⟨half, hs.two, ?_, ?_, rfl, rfl, h2.w, hl⟩) (fun ⟨half, hl⟩ => ⟨half, hs.two, ?_, ?_, rfl, rfl, h2.w, hl⟩)
  · show L.at_ + 2 * L.bl ≤ D'.n; rw [h.n]; exact hs.room
  · show D'.n ≤ 4096; rw [h.n]; exact hs.n
  · show L.at_ + 2 * L.bl ≤ D'.n; rw [h.n]; exact hs.room
  · show D'.n ≤ 4096; rw [h.n]; exact hs.n
theorem Lies.armed {D : Dk} {at_ bl half : Nat} {k : Kp} (h : Lies D at_ bl half k) (m : Int) : Lies (D.armD m) at_ bl half k := by
  unfold Dk.armD
  split
  · exact h
  · exact ⟨h.two, h.room, h.n, h.pend, h.off, h.w, h.lays⟩
theorem St.armed {D : Dk} {L : Lg} {k : Kp} (h : St D L k) (m : Int) : St (D.armD m) L k := by
  unfold Dk.armD
  split
  · exact h
  · exact ⟨h.two, h.room, h.n, h.pend, h.off, h.w, h.lays, h.ed, h.cnt, h.sure⟩
end Go.Proofs.Ytbcpplndmndkiaa
