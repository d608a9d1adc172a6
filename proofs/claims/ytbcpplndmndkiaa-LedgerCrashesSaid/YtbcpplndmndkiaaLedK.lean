/- Package ledger: replace. -/
import Derived.Test.YtbcpplndmndkiaaLedJ
namespace Go.Proofs.Ytbcpplndmndkiaa
open Go.RowKit

def flip (c : List UInt8) : List UInt8 := c.set 0 (c.headD 0 ^^^ 1)
def Lg.snapText (L : Lg) (p : List UInt8) : List UInt8 := term L.room (hd 0 p.length ++ p) (8 + p.length)
/-- A text is written behind block i, then block i with its switch turned; then Sync. -/
def Dk.repE (D : Dk) (i : Nat) (text : List UInt8) : Int :=
  if D.writeE' text ≠ 0 then D.writeE' text
  else if (D.writeD' (i + 1) text).writeE (i : Int) 64 ≠ 0 then (D.writeD' (i + 1) text).writeE (i : Int) 64
  else ((D.writeD' (i + 1) text).writeD (i : Int) (flip (view (D.writeD' (i + 1) text).dur (D.writeD' (i + 1) text).pend i))).syncE
def Dk.repD (D : Dk) (i : Nat) (text : List UInt8) : Dk :=
  if D.writeE' text ≠ 0 then D.writeD' (i + 1) text
  else if (D.writeD' (i + 1) text).writeE (i : Int) 64 ≠ 0 then (D.writeD' (i + 1) text).writeD (i : Int) (flip (view (D.writeD' (i + 1) text).dur (D.writeD' (i + 1) text).pend i))
  else ((D.writeD' (i + 1) text).writeD (i : Int) (flip (view (D.writeD' (i + 1) text).dur (D.writeD' (i + 1) text).pend i))).syncD

theorem Lg.snapText_len (L : Lg) (p : List UInt8) (h : 8 + p.length ≤ L.room) : (L.snapText p).length ≤ L.room ∧ 8 + p.length ≤ (L.snapText p).length := by
  unfold Lg.snapText term
  split
  · rw [List.length_append, hd_len]; omega
  · rw [List.length_append, List.length_append, hd_len]
    simp only [List.length_cons, List.length_nil]
    omega

set_option maxRecDepth 100000 in
set_option maxHeartbeats 4000000 in
theorem replace_on (lb b : Nat) (F : Nat → Prop) (L : Lg) (D : Dk) (h : Nat) (A : Option Addr) (n c : Nat) (p : List UInt8) (w : World) (hl : Led w lb b L) (hdk : DiskAt w b F D) (ok : L.Ok D.n) (hoff : D.off = false) (hF : ¬ F lb) (hh : h ≤ 1) (hn : p.length = n) (hb : Bytes w A p)
    (hfit : 8 + n ≤ L.room) (hs : D.Calm) :
    Calls Try.prog 34 #[.pointer (some ⟨lb, 0, none⟩), .int .i64 (h : Int), .slice A n c] w (Leaves (D.repE (L.at_ + h * L.bl) (L.snapText p)) b F (D.repD (L.at_ + h * L.bl) (L.snapText p)) w) := by
  subst hn
  have hf1 := first_any lb b L D.n h w hl ok hh
  have htl := L.snapText_len p hfit
  have hn4 : D.n ≤ 4096 := ok.n
  have hroom : L.room ≤ 300000 := by have := ok.room; have := ok.two; unfold Lg.room; omega
  obtain ⟨q, hq⟩ : ∃ q, q = L.at_ + h * L.bl := ⟨_, rfl⟩
  have hqb : q + L.bl ≤ D.n := by
    have h1 := ok.room
    rw [hq]
    obtain rfl | rfl : h = 0 ∨ h = 1 := by omega
    all_goals omega
  have hft : q + 1 + nch (L.snapText p).length ≤ D.n := by
    have := ok.two
    unfold nch
    unfold Lg.room at htl
    omega
  obtain ⟨text, htext⟩ : ∃ text, text = L.snapText p := ⟨_, rfl⟩
  have ht2 : text = term L.room (hd 0 p.length ++ p) (p.length + 8) := by rw [Nat.add_comm]; exact htext
  rw [← hq] at hf1 ⊢
  rw [← htext] at htl hft ⊢
  have hqn : q < D.n := by have := ok.two; omega
  have Hf1 := hide hf1
  have Hl := hide hl
  have Hd := hide hdk
  have Hoff := hide hoff
  have HF := hide hF
  have Hb := hide hb
  have Ok := hide ok
  have Ht2 := hide ht2
  have Hs := hide hs
  have Htl := hide htl
  have Hft := hide hft
  clear hl hdk ok hoff hf1 hq htext hF hb ht2 hs htl hft
  go_enter Try.func34, Try.ntmps34
  go_wp2_with fail
  refine Hf1.out.mono ?_
  rintro e w1 ⟨rfl, n1, hw1⟩
  have hfw1 : Fr (fun _ => False) w w1 := by rw [hw1]; exact (Fr.refl _ _).drewN n1
  have l1 : Led w1 lb b L := Blk.fr Hl.out hfw1 (fun h => h)
  have b1 : Bytes w1 A p := Hb.out.fr hfw1 (fun _ _ h => h)
  have c2 := framed_any A p.length c p w1 rfl b1 (by omega)
  have C2 := hide c2
  have L1 := hide l1
  have Hfw1 := hide hfw1
  clear hw1 hfw1 l1 b1 c2 Hf1
  go_wp2_with fail
  refine C2.out.mono ?_
  rintro e w2 ⟨gf, cf, rfl, hof, hgf, hb2⟩
  have hfw2 : Fr (fun _ => False) w w2 := Hfw1.out.trans' (Fr.of_below hb2) (fun _ _ h => h)
  have l2 : Led w2 lb b L := Blk.fr Hl.out hfw2 (fun h => h)
  have c3 := terminated_any lb b L D.n (some ⟨gf, 0, none⟩) (8 + p.length) cf (hd 0 p.length ++ p) (p.length + 8) w2 l2 Ok.out hof (by omega) (by omega)
  rw [show ((p.length + 8 : Nat) : Int) = (p.length : Int) + 8 from rfl] at c3
  rw [← Ht2.out] at c3
  have C3 := hide c3
  have L2 := hide l2
  have Hfw2 := hide hfw2
  have hgf0 : w.heap.size ≤ gf := Nat.le_trans Hfw1.out.size hgf
  clear hfw2 l2 c3 hof hgf hb2 L1 Hfw1 C2
  go_wp2_with (go_at_call 30; refine (need_any _ _ (by omega) (by omega)).mono ?_; rintro e w3 ⟨rfl, rfl⟩)
  refine C3.out.mono ?_
  rintro e w4 ⟨gt, ct, rfl, hot, hgt, hf4⟩
  have hgt0 : w.heap.size ≤ gt := by
    rcases hgt with h | h
    · rw [At.some_iff] at h; simp only at h; omega
    · exact Nat.le_trans Hfw2.out.size h
  have hfw4 : Fr (fun k => w.heap.size ≤ k) w w4 := (Hfw2.out.mono (fun _ _ h => False.elim h)).trans' hf4 (fun k _ hk => by rw [At.some_iff] at hk; simp only at hk; omega)
  have l4 : Led w4 lb b L := Blk.fr L2.out hf4 (fun h => by rw [At.some_iff] at h; simp only at h; have := Blk.lt Hl.out; omega)
  have d4 : DiskAt w4 b F D := Hd.out.fr hfw4 (fun k hk h => by have := Hd.out.lt k hk; omega)
  have hgF : ¬ F gt := fun h => by have := Hd.out.lt gt h; omega
  have hgl : gt < w4.heap.size := by
    rcases hot.form with ⟨h, _⟩ | ⟨g', cur, h, hb, _⟩
    · cases h
    · cases h; exact hb.lt
  have htl := Htl.out
  have hft := Hft.out
  have hwt := write_text lb b F L D (q + 1) gt 0 text.length ct text w4 l4 d4 Hoff.out HF.out rfl hot.bytes hgF hgl (by omega) hot.cap hft (by have := Hs.out.ops; unfold nch; omega) Hs.out.fuse (by have := Hs.out.pend; unfold nch; omega)
  rw [show ((q + 1 : Nat) : Int) = (q : Int) + 1 from rfl] at hwt
  obtain ⟨tl, htl0⟩ : ∃ tl, tl = text.length := ⟨_, rfl⟩
  rw [← htl0] at hwt hot ⊢
  have Hwt := hide hwt
  have L4 := hide l4
  have Hfw4 := hide hfw4
  have Htl0 := hide htl0
  have htlb : tl ≤ 300000 := by omega
  clear hwt hot l4 d4 hfw4 htl0 htl hft hf4 hgt C3 L2 Hfw2
  go_wp2_with fail
  refine Hwt.out.mono ?_
  rintro e w7 ⟨F7, rfl, d7, f7, n7⟩
  have hf07 : Fr F w w7 := (Hfw4.out.mono (fun k hk h => by omega)).trans' f7 (fun _ _ h => h)
  have hn07 : ∀ k, F7 k → F k ∨ w.heap.size ≤ k := fun k hk => (n7 k hk).imp id (fun h => Nat.le_trans Hfw4.out.size h)
  by_cases he1 : D.writeE' text = 0
  case neg =>
    have hfin : Leaves (D.repE q text) b F (D.repD q text) w (.returned (.int .i64 (D.writeE' text))) w7 := by
      rw [show D.repE q text = D.writeE' text from if_pos he1, show D.repD q text = D.writeD' (q + 1) text from if_pos he1]
      exact ⟨F7, rfl, d7, hf07, hn07⟩
    have Hfin := hide hfin
    obtain ⟨x, hx⟩ : ∃ x, x = D.writeE' text := ⟨_, rfl⟩
    rw [← hx] at Hfin he1 ⊢
    have hbn : (x != 0) = true := by rw [bne_iff_ne]; exact he1
    clear hfin hf07 hn07 d7 f7 n7 Hwt he1 hx
    go_wp2
    go_ret
    exact Hfin.out
  have hnf : ¬ (1 ≤ D.fuse ∧ D.fuse ≤ nch text.length) := fun h => by
    unfold Dk.writeE' at he1
    rw [if_pos h] at he1
    cases he1
  have hD7 : D.writeD' (q + 1) text = D.putL (q + 1) (chunksOf text) := if_neg hnf
  obtain ⟨D7, hD7'⟩ : ∃ D7, D7 = D.writeD' (q + 1) text := ⟨_, rfl⟩
  have hnch : nch text.length ≤ 10000 := by rw [← Htl0.out]; unfold nch; omega
  have p7 : D7.pend.length < 600000 ∧ D7.ops < 4000000000000100000 ∧ D7.fuse ≤ 9223372036854775807 ∧ D7.n = D.n ∧ D7.off = false := by
    rw [hD7', hD7]
    refine ⟨by rw [putL_pend_len, chunksOf_len]; have := Hs.out.pend; omega, by rw [putL_ops, chunksOf_len]; have := Hs.out.ops; omega, by rw [putL_fuse]; have := Hs.out.fuse; omega, putL_n _ _ _, ?_⟩
    exact putL_off _ _ _ Hoff.out (by rw [chunksOf_len]; omega)
  have e1 : D.repE q text = if D7.writeE (q : Int) 64 ≠ 0 then D7.writeE (q : Int) 64 else (D7.writeD (q : Int) (flip (view D7.dur D7.pend q))).syncE := by rw [hD7']; exact if_neg (fun h => h he1)
  have e2 : D.repD q text = if D7.writeE (q : Int) 64 ≠ 0 then D7.writeD (q : Int) (flip (view D7.dur D7.pend q)) else (D7.writeD (q : Int) (flip (view D7.dur D7.pend q))).syncD := by rw [hD7']; exact if_neg (fun h => h he1)
  rw [← hD7'] at d7
  rw [he1]
  have l7 : Led w7 lb b L := Blk.fr L4.out f7 HF.out
  have c7 : w7.cell? ⟨lb, 0, none⟩ = some (.pointer (some ⟨b, 0, none⟩)) := l7.cell 0
  have hrd := read_any b F7 D7 q w7 d7 p7.2.2.2.2 (by rw [p7.2.2.2.1]; exact hqn)
  have hvl : (view D7.dur D7.pend q).length = 64 := d7.wf.vlen q
  have E1 := hide e1
  have E2 := hide e2
  have L7 := hide l7
  have Dk7 := hide d7
  have P7 := hide p7
  have Hf07 := hide hf07
  have Hn07 := hide hn07
  have Hrd := hide hrd
  have Hvl := hide hvl
  clear e1 e2 l7 d7 p7 hf07 hn07 hD7 hD7' hnf hnch he1 f7 n7 Hwt hrd hvl L4 Hfw4
  go_wp2_with fail
  refine Hrd.out.mono ?_
  rintro e w8 ⟨rfl, rfl⟩
  obtain ⟨x, r, hxr⟩ : ∃ x r, view D7.dur D7.pend q = x :: r := by
    have hv := Hvl.out
    cases h : view D7.dur D7.pend q with
    | nil => rw [h] at hv; cases hv
    | cons x r => exact ⟨x, r, rfl⟩
  obtain ⟨y, hy⟩ : ∃ y : UInt8, y = x ^^^ 1 := ⟨_, rfl⟩
  have hfl : flip (view D7.dur D7.pend q) = y :: r := by rw [hxr, hy]; rfl
  have hrl : r.length = 63 := by have hv := Hvl.out; rw [hxr, List.length_cons] at hv; omega
  have hb8 : Blk (w7.alloc (.cells (B8s (view D7.dur D7.pend q)).toArray 5)) w7.heap.size 5 (B8s (x :: r)).toArray := by rw [hxr]; exact Blk.new _ _ _
  obtain ⟨w8, hw8⟩ : ∃ w8, w8 = w7.alloc (.cells (B8s (view D7.dur D7.pend q)).toArray 5) := ⟨_, rfl⟩
  rw [← hw8] at hb8 ⊢
  have hf8 : Fr (fun _ => False) w7 w8 := by rw [hw8]; exact (Fr.refl _ _).alloc _
  have c8 : w8.cell? ⟨w7.heap.size, 0, none⟩ = some (.int .u8 (x.toNat : Int)) := hb8.cell 0
  have z8 : w8.frozen? ⟨w7.heap.size, 0, none⟩ = false := hb8.frozen 0
  have d8 : w8.cell? ⟨lb, 0, none⟩ = some (.pointer (some ⟨b, 0, none⟩)) := (Blk.fr L7.out hf8 (fun h => h)).cell 0
  have hxor : bits .xor .u8 (x.toNat : Int) 1 = (y.toNat : Int) := by
    have h := x.toNat_lt
    rw [hy, u8_xor _ 1 (by omega) (by omega) (by omega) (by omega), UInt8.toNat_xor]
    rfl
  obtain ⟨w9, hw9⟩ : ∃ w9, w9 = w8.setCell ⟨w7.heap.size, 0, none⟩ (.int .u8 (y.toNat : Int)) := ⟨_, rfl⟩
  have hb9 : Blk w9 w7.heap.size 5 (B8s (y :: r)).toArray := by
    rw [hw9]
    have h := hb8.set_ 0 (B8 y)
    rw [B8s_set] at h
    exact h
  have hf9 : Fr (fun k => w7.heap.size ≤ k) w7 w9 := by
    rw [hw9]
    exact (hf8.mono (fun _ _ h => False.elim h)).setCell (p := ⟨w7.heap.size, 0, none⟩) (.inl (Nat.le_refl _)) _
  have l9 : Led w9 lb b L := Blk.fr L7.out hf9 (fun h => by have := Blk.lt L7.out; omega)
  have d9 : DiskAt w9 b F7 D7 := Dk7.out.fr hf9 (fun k hk h => by have := Dk7.out.lt k hk; omega)
  have hby : Bytes w9 (some ⟨w7.heap.size, 0, none⟩) (y :: r) := hb9.bytes
  have p7 := P7.out
  have hwr := write_all b F7 D7 (q : Int) (some ⟨w7.heap.size, 0, none⟩) 64 64 (y :: r) w9 d9 (by rw [List.length_cons, hrl]) hby ⟨by omega, p7.2.2.1, by omega⟩
  rw [show ((y :: r)).length = 64 from by rw [List.length_cons, hrl], ← hfl] at hwr
  have c9 : w9.cell? ⟨lb, 0, none⟩ = some (.pointer (some ⟨b, 0, none⟩)) := l9.cell 0
  rw [hw9] at c9
  have hf09 : Fr F w w9 := Hf07.out.trans' hf9 (fun k hk h => by have := Hf07.out.size; omega)
  have Hwr := hide hwr
  have Hw9 := hide hw9
  have L9 := hide l9
  have Hf09 := hide hf09
  clear hwr hw9 hy l9 d9 hby hb9 hf9 hf8 hb8 hw8 hfl hrl hxr hf09 L7 Dk7 Hf07 Hvl p7
  go_wp2_with fail
  rw [← Hw9.out]
  refine Hwr.out.mono ?_
  rintro e w10 ⟨F10, rfl, d10, f10, n10⟩
  have hn010 : ∀ k, F10 k → F k ∨ w.heap.size ≤ k := fun k hk => (n10 k hk).elim (Hn07.out k) (fun h => .inr (Nat.le_trans Hf09.out.size h))
  have hf010 : Fr F w w10 := Hf09.out.trans' f10 (fun k hk h => (Hn07.out k h).elim id (fun h => by omega))
  have l10 : Led w10 lb b L := Blk.fr L9.out f10 (fun h => (Hn07.out lb h).elim HF.out (fun h => by have := Blk.lt Hl.out; omega))
  have c10 : w10.cell? ⟨lb, 0, none⟩ = some (.pointer (some ⟨b, 0, none⟩)) := l10.cell 0
  by_cases he2 : D7.writeE (q : Int) 64 = 0
  case neg =>
    have hfin : Leaves (D.repE q text) b F (D.repD q text) w (.returned (.int .i64 (D7.writeE (q : Int) 64))) w10 := by
      rw [E1.out, E2.out, if_pos he2, if_pos he2]
      exact ⟨F10, rfl, d10, hf010, hn010⟩
    have Hfin := hide hfin
    obtain ⟨z, hz⟩ : ∃ z, z = D7.writeE (q : Int) 64 := ⟨_, rfl⟩
    rw [← hz] at Hfin he2 ⊢
    have hbn : (z != 0) = true := by rw [bne_iff_ne]; exact he2
    clear hfin hf010 hn010 d10 f10 n10 Hwr he2 hz l10 c9 d8 c8 z8
    go_wp2
    go_ret
    exact Hfin.out
  have s10 : (D7.writeD (q : Int) (flip (view D7.dur D7.pend q))).Small := by
    have h1 := P7.out
    unfold Dk.writeD
    split
    · exact ⟨by omega, h1.2.2.1, by omega⟩
    · split
      · exact ⟨by omega, h1.2.2.1, by omega⟩
      · refine ⟨?_, ?_, ?_⟩
        · show D7.ops + 1 < _; omega
        · show D7.fuse - 1 ≤ _; omega
        · show (D7.pend ++ [_]).length < _; rw [List.length_append]; simp only [List.length_cons, List.length_nil]; omega
  have hsy := sync_all b F10 _ w10 d10 s10
  have Hsy := hide hsy
  have Hf010 := hide hf010
  have Hn010 := hide hn010
  rw [he2]
  have He2 := hide he2
  clear hsy hf010 hn010 d10 f10 n10 Hwr he2 l10 s10 c9 d8 c8 z8
  go_wp2_with fail
  refine Hsy.out.mono ?_
  rintro e w11 ⟨F11, rfl, d11, f11, n11⟩
  have hfin : Leaves (D.repE q text) b F (D.repD q text) w (.returned (.int .i64 ((D7.writeD (q : Int) (flip (view D7.dur D7.pend q))).syncE))) w11 := by
    have hno : ¬ (D7.writeE (q : Int) 64 ≠ 0) := fun h => h He2.out
    rw [E1.out, E2.out, if_neg hno, if_neg hno]
    exact ⟨F11, rfl, d11, Hf010.out.trans' f11 (fun k hk h => (Hn010.out k h).elim id (fun h => by omega)), fun k hk => (n11 k hk).elim (Hn010.out k) (fun h => .inr (Nat.le_trans Hf010.out.size h))⟩
  have Hfin := hide hfin
  clear hfin d11 f11 n11 Hsy E1 E2
  go_wp2
  go_ret
  exact Hfin.out
end Go.Proofs.Ytbcpplndmndkiaa
