/- Package ledger: store. -/
import Derived.Test.YtbcpplndmndkiaaLedI
namespace Go.Proofs.Ytbcpplndmndkiaa
open Go.RowKit

/-- Where a record goes; the text that is written. -/
def Lg.blk (L : Lg) : Nat := L.at_ + L.half * L.bl + 1 + L.ed / 64
def Lg.text (L : Lg) (f : Nat → List UInt8) (p : List UInt8) : List UInt8 := term L.room ((f L.blk).take (L.ed % 64) ++ (hd 0 p.length ++ p)) (L.ed + 8 + p.length)
/-- A text is written, then its first block once more with the mark; then Sync. -/
def Dk.storeE (D : Dk) (i bf : Nat) (text : List UInt8) : Int :=
  if D.writeE' text ≠ 0 then D.writeE' text
  else if (D.writeD' i text).writeE (i : Int) (((text.set bf 1).take 64).length) ≠ 0 then (D.writeD' i text).writeE (i : Int) (((text.set bf 1).take 64).length)
  else ((D.writeD' i text).writeD (i : Int) ((text.set bf 1).take 64)).syncE
def Dk.storeD (D : Dk) (i bf : Nat) (text : List UInt8) : Dk :=
  if D.writeE' text ≠ 0 then D.writeD' i text
  else if (D.writeD' i text).writeE (i : Int) (((text.set bf 1).take 64).length) ≠ 0 then (D.writeD' i text).writeD (i : Int) ((text.set bf 1).take 64)
  else ((D.writeD' i text).writeD (i : Int) ((text.set bf 1).take 64)).syncD

theorem Lg.text_len (L : Lg) (f : Nat → List UInt8) (p : List UInt8) (hf : ∀ i, (f i).length = 64) (h : L.ed + 8 + p.length ≤ L.room) : (L.text f p).length ≤ L.room - 64 * (L.ed / 64) ∧ L.ed % 64 + 8 + p.length ≤ (L.text f p).length := by
  have h1 : ((f L.blk).take (L.ed % 64) ++ (hd 0 p.length ++ p)).length = L.ed % 64 + 8 + p.length := by
    rw [List.length_append, List.length_append, List.length_take, hf, hd_len]
    omega
  unfold Lg.text term
  split
  · rw [h1]; omega
  · rw [List.length_append, h1]
    simp only [List.length_cons, List.length_nil]
    omega
theorem Lg.fits (L : Lg) (n : Nat) (ok : L.Ok n) (f : Nat → List UInt8) (p : List UInt8) (hf : ∀ i, (f i).length = 64) (h : L.ed + 8 + p.length ≤ L.room) : L.blk + nch (L.text f p).length ≤ n := by
  have h1 := L.text_len f p hf h
  have h2 := ok.room
  have h3 := ok.two
  have h4 := ok.half
  have h5 : L.half * L.bl ≤ L.bl := by
    obtain h0 | h0 : L.half = 0 ∨ L.half = 1 := by omega
    · rw [h0]; omega
    · rw [h0]; omega
  unfold nch Lg.blk
  unfold Lg.room at h1 h
  omega

set_option maxHeartbeats 2000000 in
theorem store_off (lb b : Nat) (F : Nat → Prop) (L : Lg) (D : Dk) (A : Option Addr) (n c : Nat) (w : World) (hl : Led w lb b L) (hd : DiskAt w b F D) (ok : L.Ok D.n) (hoff : D.off = true) (hed : L.ed < L.room) :
    Calls Try.prog 31 #[.pointer (some ⟨lb, 0, none⟩), .slice A n c] w (fun e w' => e = .returned (.int .i64 12) ∧ ∃ q, w' = w.drewN q) := by
  have c0 : w.cell? ⟨lb, 0, none⟩ = some (.pointer (some ⟨b, 0, none⟩)) := hl.cell 0
  have c3 : w.cell? ⟨lb, 3, none⟩ = some (.int .i64 (L.half : Int)) := hl.cell 3
  have c4 : w.cell? ⟨lb, 4, none⟩ = some (.int .i64 (L.ed : Int)) := hl.cell 4
  have hf1 := fun W hW => first_any lb b L D.n L.half W hW ok ok.half
  obtain ⟨q, hq⟩ : ∃ q, q = L.at_ + L.half * L.bl := ⟨_, rfl⟩
  have hqb : q + L.bl ≤ D.n ∧ D.n ≤ 4096 := by
    have h1 := ok.room
    have h2 := ok.half
    have h3 := ok.n
    rw [hq]
    obtain h0 | h0 : L.half = 0 ∨ L.half = 1 := by omega
    all_goals (rw [h0]; omega)
  have he1 : L.ed ≤ 64 * (L.bl - 1) := ok.ed
  rw [← hq] at hf1
  have hr : refuse D ((q : Int) + 1 + (L.ed : Int) / 64) = 12 := by
    unfold refuse
    unfold Lg.room at hed
    rw [if_neg (by omega), hoff]
    rfl
  have Hf1 := hide hf1
  have Hl := hide hl
  have Hd := hide hd
  have Hr := hide hr
  have hq4 : q ≤ 4096 := by omega
  have he4 : L.ed ≤ 1000000 := by omega
  clear hl hd ok hoff hf1 hq hr
  go_enter Try.func31, Try.ntmps31
  go_upto_region 1 with fail
  go_quiet ((go_at_call 41; exact Calls.quiet_of (Hf1.out _ (Blk.drewN Hl.out _))))
  have d0 : (w.drewN nq).cell? ⟨lb, 0, none⟩ = some (.pointer (some ⟨b, 0, none⟩)) := c0
  have d4 : (w.drewN nq).cell? ⟨lb, 4, none⟩ = some (.int .i64 (L.ed : Int)) := c4
  have c1 := read_refused b F D ((q : Int) + 1 + (L.ed : Int) / 64) (w.drewN nq) (Hd.out.fr (G := fun _ => False) ((Fr.refl _ _).drewN nq) (fun _ _ h => h)) (by rw [Hr.out]; decide)
  rw [Hr.out] at c1
  have C1 := hide c1
  clear c1 c3 Hf1 Hr
  go_wp2_with (go_at_call 28; refine C1.out.mono ?_; rintro e w1 ⟨rfl, rfl⟩)
  go_ret
  exact ⟨rfl, _, rfl⟩

theorem OwnB.set {w : World} {g n c : Nat} {l : List UInt8} (h : OwnB w (some ⟨g, 0, none⟩) n c l) (i : Nat) (x : UInt8) : OwnB (w.setCell ⟨g, i, none⟩ (B8 x)) (some ⟨g, 0, none⟩) n c (l.set i x) := by
  rcases h.form with ⟨h0, _⟩ | ⟨g', cur, hA, hb, hnc, hm, hs, ht⟩
  · cases h0
  · cases hA
    refine ⟨by rw [List.length_set]; exact h.1, by rw [B8s_length, List.length_set, h.1, Nat.mul_one], .inr ⟨g, c, _, rfl, Nat.zero_le _, hb.set_ i _, hnc, hm, by rw [Array.size_setIfInBounds, hs, Nat.mul_one], ?_⟩⟩
    rw [Array.toList_setIfInBounds, Nat.mul_one, List.take_set, ht, B8s, B8s, List.map_set]
theorem OwnB.frozen {w : World} {g n c : Nat} {l : List UInt8} (h : OwnB w (some ⟨g, 0, none⟩) n c l) (i : Nat) : w.frozen? ⟨g, i, none⟩ = false := by
  rcases h.form with ⟨h0, _⟩ | ⟨g', cur, hA, hb, _⟩
  · cases h0
  · cases hA; exact hb.frozen i
theorem OwnB.cap {w : World} {A : Option Addr} {n c : Nat} {l : List UInt8} (h : OwnB w A n c l) : n ≤ c := by
  rcases h.form with ⟨_, h0, _⟩ | ⟨_, _, _, _, h, _⟩
  · omega
  · exact h

/-- Numbers that can't run over in a record's writes. -/
structure Dk.Calm (D : Dk) : Prop where
  ops : D.ops < 4000000000000000000
  fuse : D.fuse ≤ 9223372036854775807
  pend : D.pend.length < 500000

set_option maxRecDepth 100000 in
set_option maxHeartbeats 4000000 in
theorem store_on (lb b : Nat) (F : Nat → Prop) (L : Lg) (D : Dk) (A : Option Addr) (n c : Nat) (p : List UInt8) (w : World) (hl : Led w lb b L) (hdk : DiskAt w b F D) (ok : L.Ok D.n) (hoff : D.off = false) (hF : ¬ F lb) (hn : p.length = n) (hb : Bytes w A p)
    (hfit : L.ed + 8 + n ≤ L.room) (hs : D.Calm) :
    Calls Try.prog 31 #[.pointer (some ⟨lb, 0, none⟩), .slice A n c] w (Leaves (D.storeE L.blk (L.ed % 64) (L.text (view D.dur D.pend) p)) b F (D.storeD L.blk (L.ed % 64) (L.text (view D.dur D.pend) p)) w) := by
  subst hn
  have c0 : w.cell? ⟨lb, 0, none⟩ = some (.pointer (some ⟨b, 0, none⟩)) := hl.cell 0
  have c3 : w.cell? ⟨lb, 3, none⟩ = some (.int .i64 (L.half : Int)) := hl.cell 3
  have c4 : w.cell? ⟨lb, 4, none⟩ = some (.int .i64 (L.ed : Int)) := hl.cell 4
  have hf1 := fun W hW => first_any lb b L D.n L.half W hW ok ok.half
  have htl := L.text_len (view D.dur D.pend) p hdk.wf.vlen hfit
  have hft := L.fits D.n ok (view D.dur D.pend) p hdk.wf.vlen hfit
  obtain ⟨q, hq⟩ : ∃ q, q = L.at_ + L.half * L.bl := ⟨_, rfl⟩
  obtain ⟨fi, hfi⟩ : ∃ fi, fi = L.blk := ⟨_, rfl⟩
  obtain ⟨bf, hbf⟩ : ∃ bf, bf = L.ed % 64 := ⟨_, rfl⟩
  obtain ⟨text, htext⟩ : ∃ text, text = L.text (view D.dur D.pend) p := ⟨_, rfl⟩
  have hqf : (fi : Int) = (q : Int) + 1 + (L.ed : Int) / 64 := by rw [hfi, Lg.blk, hq]; omega
  have hbm : (L.ed : Int) % 64 = (bf : Int) := by omega
  have hb64 : bf < 64 := by omega
  have hn4 : D.n ≤ 4096 := ok.n
  have hroom : L.room ≤ 300000 := by have := ok.room; have := ok.two; unfold Lg.room; omega
  have hfn : fi < D.n := by
    have : 1 ≤ nch (L.text (view D.dur D.pend) p).length := by unfold nch; omega
    omega
  have hq4 : q ≤ 4096 := by omega
  have he4 : L.ed ≤ 300000 := by omega
  have hp4 : p.length ≤ 300000 := by omega
  rw [← hq] at hf1
  have ht2 : text = term L.room ((view D.dur D.pend fi).take bf ++ (hd 0 p.length ++ p)) (L.ed + 8 + p.length) := by rw [htext, hfi, hbf]; rfl
  rw [← htext] at htl hft ⊢
  rw [← hfi] at hft ⊢
  rw [← hbf] at htl ⊢
  have Hf1 := hide hf1
  have Hl := hide hl
  have Hd := hide hdk
  have Hoff := hide hoff
  have HF := hide hF
  have Hb := hide hb
  have Ok := hide ok
  have Ht2 := hide ht2
  have Hs := hide hs
  have Hqf := hide hqf
  have Htl := hide htl
  have Hft := hide hft
  clear hl hdk ok hoff hf1 hq hfi hbf htext hF hb ht2 hs hqf htl hft
  go_enter Try.func31, Try.ntmps31
  go_upto_region 1 with fail
  go_quiet ((go_at_call 41; exact Calls.quiet_of (Hf1.out _ (Blk.drewN Hl.out _))))
  rw [← Hqf.out]
  obtain ⟨w1, hw1⟩ : ∃ w1, w1 = w.drewN nq := ⟨_, rfl⟩
  rw [← hw1]
  have hfw1 : Fr (fun _ => False) w w1 := by rw [hw1]; exact (Fr.refl _ _).drewN nq
  have l1 : Led w1 lb b L := Blk.fr Hl.out hfw1 (fun h => h)
  have d1 : DiskAt w1 b F D := Hd.out.fr hfw1 (fun _ _ h => h)
  have k0 : w1.cell? ⟨lb, 0, none⟩ = some (.pointer (some ⟨b, 0, none⟩)) := l1.cell 0
  have k4 : w1.cell? ⟨lb, 4, none⟩ = some (.int .i64 (L.ed : Int)) := l1.cell 4
  have hrd := read_any b F D fi w1 d1 Hoff.out hfn
  have Hrd := hide hrd
  have L1 := hide l1
  have D1 := hide d1
  have Hfw1 := hide hfw1
  clear hw1 hfw1 l1 d1 hrd c0 c3 c4 Hf1
  go_upto_region 6 with (go_at_call 28; refine Hrd.out.mono ?_; rintro e w2 ⟨rfl, rfl⟩)
  have hvl : (view D.dur D.pend fi).length = 64 := Hd.out.wf.vlen fi
  obtain ⟨old, hold⟩ : ∃ old, old = view D.dur D.pend fi := ⟨_, rfl⟩
  have ht2 := Ht2.out
  rw [← hold] at hvl ht2 ⊢
  obtain ⟨w2, hw2⟩ : ∃ w2, w2 = w1.alloc (.cells (B8s old).toArray 5) := ⟨_, rfl⟩
  have hfw2 : Fr (fun _ => False) w1 w2 := by rw [hw2]; exact (Fr.refl _ _).alloc _
  have hob : OwnB w2 (some ⟨w1.heap.size, 0, none⟩) bf 64 (old.take bf) := by
    have h := OwnB.of_blk (Blk.new w1 5 (B8s old).toArray) bf (by omega) (by rw [hvl]; simp only [maxLen]; omega)
    rw [hvl] at h
    rw [hw2]
    exact h
  rw [← hw2]
  have l2 : Led w2 lb b L := Blk.fr L1.out hfw2 (fun h => h)
  have d2 : DiskAt w2 b F D := D1.out.fr hfw2 (fun _ _ h => h)
  have k42 : w2.cell? ⟨lb, 4, none⟩ = some (.int .i64 (L.ed : Int)) := l2.cell 4
  have hfw : Fr (fun _ => False) w w2 := Hfw1.out.trans' hfw2 (fun _ _ h => h)
  have hsz1 : w.heap.size ≤ w1.heap.size := Hfw1.out.size
  have hsz2 : w1.heap.size < w2.heap.size := by rw [hw2]; simp
  have hb2 : Bytes w2 A p := Hb.out.fr hfw (fun _ _ h => h)
  have Hob := hide hob
  have L2 := hide l2
  have D2 := hide d2
  have Hfw := hide hfw
  have Hb2 := hide hb2
  have Ht2' := hide ht2
  have Hvl := hide hvl
  clear hob l2 d2 hfw hfw2 hb2 ht2 hvl hold hw2 Hrd L1 D1 Hfw1 k0 k4 Ht2
  have hs1 : IntKind.i64.wrap ((L.ed : Int) + ((p.length : Int) + 8)) = (L.ed : Int) + ((p.length : Int) + 8) := IntWalk.i64_in _ (by omega)
  refine wp_region_planned (fun W => W.cell? ⟨lb, 4, none⟩ = some (.int .i64 (L.ed : Int))) 16 [(false, 0), (false, 1), (false, 2), (false, 3), (false, 4), (false, 7), (false, 8), (false, 9), (false, 10), (false, 11), (false, 12), (true, 5), (true, 6), (true, 13), (false, 14), (true, 15)] (by kernel_rfl) (by kernel_rfl) (fun _ _ d _ _ h => by cases d <;> exact h) k42 ?_
  simp only [steps, List.getElem?_toArray, List.filterMap_cons, List.filterMap_nil, Option.map_some, List.getElem?_cons_zero, List.getElem?_cons_succ, List.drop_succ_cons, List.drop_zero]
  iterate 3 (refine wpPlan_read rfl (fun W hW => (by go_simp; try with_reducible rfl)) ?_)
  refine wpPlan_read (v := .slice (some ⟨w1.heap.size, 0, none⟩) bf 64) rfl (fun W hW => (by go_simp; intro h; omega)) ?_
  iterate 7 (refine wpPlan_read rfl (fun W hW => (by go_simp; try with_reducible rfl)) ?_)
  simp only [Act.put, List.setIfInBounds_toArray, List.set_cons_zero, List.set_cons_succ]
  refine wpPlan_does rfl (fun K hK => ?_)
  refine wp_call_by 43 #[.slice A p.length c] (by kernel_rfl) (framed_any A p.length c p w2.drew rfl (Hb2.out.fr (F := fun _ => False) (Fr.refl _ _).drew (fun _ _ h => h)) (by omega)) ?_
  rintro e w3 ⟨gf, cf, rfl, hof, hgf, hbf3⟩
  have hsz3 : w2.heap.size ≤ w3.heap.size := hbf3.size
  have hfw3 : Fr (fun _ => False) w2 w3 := ((Fr.refl (fun _ => False) w2).drew).trans' (Fr.of_below hbf3) (fun _ _ h => h)
  have l3 : Led w3 lb b L := Blk.fr L2.out hfw3 (fun h => h)
  have o3 : OwnB w3 (some ⟨w1.heap.size, 0, none⟩) bf 64 (old.take bf) := Hob.out.fr hfw3 (fun _ _ h => h)
  refine ⟨_, rfl, hK _ _ (l3.cell 4) ?_⟩
  clear hK
  simp only [Act.put, List.setIfInBounds_toArray, List.set_cons_zero, List.set_cons_succ]
  refine wpPlan_does rfl (fun K hK => ?_)
  refine wp_append_bytes (.tmp 45) (.tmp 47) 22 rfl Try.underlying22 infoU8 (some ⟨w1.heap.size, 0, none⟩) bf 64 _ rfl o3 (some ⟨gf, 0, none⟩) (8 + p.length) cf _ rfl hof.1 hof.bytes (by omega) ?_
  intro A4 c4 w4 o4 hf4 hn4' hA4
  have l4 : Led w4 lb b L := Blk.fr l3 hf4 (fun h => by rw [At.some_iff] at h; simp only at h; have := Blk.lt Hl.out; omega)
  refine hK _ _ (l4.cell 4) ?_
  clear hK
  simp only [Act.put, List.setIfInBounds_toArray, List.set_cons_zero, List.set_cons_succ]
  refine wpPlan_does rfl (fun K hK => ?_)
  refine wp_call_by 30 #[.int .i64 (p.length : Int)] (by kernel_rfl) (need_any (p.length : Int) w4 (by omega) (by omega)) ?_
  rintro e w5 ⟨rfl, rfl⟩
  refine ⟨_, rfl, hK _ _ (l4.cell 4) ?_⟩
  clear hK
  simp only [Act.put, List.setIfInBounds_toArray, List.set_cons_zero, List.set_cons_succ]
  refine wpPlan_read (v := .int .i64 ((L.ed + 8 + p.length : Nat) : Int)) rfl (fun W hW => (by go_simp; omega)) ?_
  simp only [Act.put, List.setIfInBounds_toArray, List.set_cons_zero, List.set_cons_succ]
  refine wpPlan_does rfl (fun K hK => ?_)
  refine wp_call_by 42 #[.pointer (some ⟨lb, 0, none⟩), .slice A4 (bf + (8 + p.length)) c4, .int .i64 ((L.ed + 8 + p.length : Nat) : Int)] (by kernel_rfl) (terminated_any lb b L D.n A4 (bf + (8 + p.length)) c4 _ (L.ed + 8 + p.length) w4 l4 Ok.out o4 (by omega) (by omega)) ?_
  rw [← Ht2'.out]
  rintro e w6 ⟨gt, ct, rfl, hot, hgt, hft6⟩
  have l6 : Led w6 lb b L := Blk.fr l4 hft6 (fun h => by
    rcases hn4' lb h with h | h
    · rw [At.some_iff] at h; simp only at h; have := Blk.lt Hl.out; omega
    · have := Blk.lt l3; omega)
  refine ⟨_, rfl, hK _ _ (l6.cell 4) ?_⟩
  clear hK
  refine wpPlan_nil ?_
  simp only [Act.put, List.setIfInBounds_toArray, List.set_cons_zero, List.set_cons_succ]
  have hfw3' : Fr (fun _ => False) w w3 := Hfw.out.trans' hfw3 (fun _ _ h => h)
  have hnew4 : ∀ k, At A4 k → w.heap.size ≤ k := fun k hk => by
    rcases hn4' k hk with h | h
    · rw [At.some_iff] at h; simp only at h; omega
    · omega
  have hgt0 : w.heap.size ≤ gt := by
    rcases hgt with h | h
    · exact hnew4 gt h
    · have := hf4.size; omega
  have hfw6 : Fr (fun k => w.heap.size ≤ k) w w6 := ((hfw3'.mono (fun _ _ h => False.elim h)).trans' hf4 (fun k _ hk => by rw [At.some_iff] at hk; simp only at hk; omega)).trans' hft6 (fun k _ hk => hnew4 k hk)
  have d6 : DiskAt w6 b F D := Hd.out.fr hfw6 (fun k hk h => by have := Hd.out.lt k hk; omega)
  have hgF : ¬ F gt := fun h => by have := Hd.out.lt gt h; omega
  have hgl : gt < w6.heap.size := by
    rcases hot.form with ⟨h, _⟩ | ⟨g', cur, h, hb, _⟩
    · cases h
    · cases h; exact hb.lt
  have htl := Htl.out
  have hft := Hft.out
  have hwt := write_text lb b F L D fi gt 0 text.length ct text w6 l6 d6 Hoff.out HF.out rfl hot.bytes hgF hgl (by omega) hot.cap hft (by have := Hs.out.ops; unfold nch; omega) Hs.out.fuse (by have := Hs.out.pend; unfold nch; omega)
  obtain ⟨tl, htl0⟩ : ∃ tl, tl = text.length := ⟨_, rfl⟩
  rw [← htl0] at hwt hot ⊢
  have Hwt := hide hwt
  have Hot := hide hot
  have L6 := hide l6
  have D6 := hide d6
  have Hfw6 := hide hfw6
  have Htl0 := hide htl0
  have htlb : tl ≤ 300000 := by omega
  have htlp : bf < tl := by omega
  clear hwt hot l6 d6 hfw6 htl0 htl hft hft6 hf4 hn4' hA4 o4 l4 hnew4 hfw3' hfw3 l3 o3 hof hgf hbf3 hgt hs1 Hob L2 D2 Hb2 Hvl Ht2' k42 hsz3 hsz2 hsz1
  go_wp2_with fail
  refine Hwt.out.mono ?_
  rintro e w7 ⟨F7, rfl, d7, f7, n7⟩
  have hf07 : Fr F w w7 := (Hfw6.out.mono (fun k hk h => by omega)).trans' f7 (fun _ _ h => h)
  have hn07 : ∀ k, F7 k → F k ∨ w.heap.size ≤ k := fun k hk => (n7 k hk).imp id (fun h => Nat.le_trans Hfw6.out.size h)
  by_cases he1 : D.writeE' text = 0
  case neg =>
    have e1 : D.storeE fi bf text = D.writeE' text := if_pos he1
    have e2 : D.storeD fi bf text = D.writeD' fi text := if_pos he1
    have hfin : Leaves (D.storeE fi bf text) b F (D.storeD fi bf text) w (.returned (.int .i64 (D.writeE' text))) w7 := by
      rw [e1, e2]
      exact ⟨F7, rfl, d7, hf07, hn07⟩
    have Hfin := hide hfin
    obtain ⟨x, hx⟩ : ∃ x, x = D.writeE' text := ⟨_, rfl⟩
    rw [← hx] at Hfin he1 ⊢
    have hbn : (x != 0) = true := by rw [bne_iff_ne]; exact he1
    clear hfin e1 e2 hf07 hn07 d7 f7 n7 Hwt he1 hx
    go_wp2
    go_ret
    exact Hfin.out
  have e1 : D.storeE fi bf text = (if (D.writeD' fi text).writeE (fi : Int) (((text.set bf 1).take 64).length) ≠ 0 then (D.writeD' fi text).writeE (fi : Int) (((text.set bf 1).take 64).length) else ((D.writeD' fi text).writeD (fi : Int) ((text.set bf 1).take 64)).syncE) := if_neg (fun h => h he1)
  have e2 : D.storeD fi bf text = (if (D.writeD' fi text).writeE (fi : Int) (((text.set bf 1).take 64).length) ≠ 0 then (D.writeD' fi text).writeD (fi : Int) ((text.set bf 1).take 64) else ((D.writeD' fi text).writeD (fi : Int) ((text.set bf 1).take 64)).syncD) := if_neg (fun h => h he1)
  have hnf : ¬ (1 ≤ D.fuse ∧ D.fuse ≤ nch text.length) := fun h => by
    unfold Dk.writeE' at he1
    rw [if_pos h] at he1
    cases he1
  have hD7 : D.writeD' fi text = D.putL fi (chunksOf text) := if_neg hnf
  obtain ⟨D7, hD7'⟩ : ∃ D7, D7 = D.writeD' fi text := ⟨_, rfl⟩
  have hnch : nch text.length ≤ 10000 := by rw [← Htl0.out]; unfold nch; omega
  have s7 : D7.Small := by
    rw [hD7', hD7]
    exact ⟨by rw [putL_ops, chunksOf_len]; have := Hs.out.ops; omega, by rw [putL_fuse]; have := Hs.out.fuse; omega, by rw [putL_pend_len, chunksOf_len]; have := Hs.out.pend; omega⟩
  have p7 : D7.pend.length < 600000 ∧ D7.ops < 4000000000000100000 := by
    rw [hD7', hD7]
    exact ⟨by rw [putL_pend_len, chunksOf_len]; have := Hs.out.pend; omega, by rw [putL_ops, chunksOf_len]; have := Hs.out.ops; omega⟩
  rw [← hD7'] at e1 e2 d7
  rw [he1]
  have o7 : OwnB w7 (some ⟨gt, 0, none⟩) tl ct text := Hot.out.fr f7 (fun k hk => by rw [At.some_iff] at hk; simp only at hk; subst hk; exact hgF)
  have l7 : Led w7 lb b L := Blk.fr L6.out f7 HF.out
  have cb7 : ∃ u, w7.cell? ⟨gt, bf, none⟩ = some (.int .u8 u) := by
    rcases o7.bytes with h | ⟨g', o', he, hr⟩
    · have := Htl0.out; rw [h] at this; simp at this; omega
    · cases he
      have hlt : bf < text.length := by have := Htl0.out; omega
      exact ⟨_, by
        have := hr bf (B8 text[bf]) (by rw [B8s_get, List.getElem?_eq_getElem hlt]; rfl)
        rwa [Nat.zero_add] at this⟩
  obtain ⟨u7, cb7⟩ := cb7
  have zb7 : w7.frozen? ⟨gt, bf, none⟩ = false := o7.frozen bf
  have hgF7 : ¬ F7 gt := fun h => (n7 gt h).elim hgF (fun h => by omega)
  have E1 := hide e1
  have E2 := hide e2
  have O7 := hide o7
  have L7 := hide l7
  have Dk7 := hide d7
  have S7 := hide s7
  have P7 := hide p7
  have Hf07 := hide hf07
  have Hn07 := hide hn07
  clear e1 e2 o7 l7 d7 s7 p7 hf07 hn07 hD7 hD7' hnf hnch he1 f7 n7 Hwt
  go_upto_region 11 with fail
  obtain ⟨w8, hw8⟩ : ∃ w8, w8 = w7.setCell ⟨gt, bf, none⟩ (.int .u8 1) := ⟨_, rfl⟩
  rw [← hw8]
  have f8 : Fr (fun k => k = gt) w7 w8 := by rw [hw8]; exact (Fr.refl _ _).put1 bf _
  have d8 : DiskAt w8 b F7 D7 := Dk7.out.fr f8 (fun k hk e => hgF7 (e ▸ hk))
  have l8 : Led w8 lb b L := Blk.fr L7.out f8 (fun e => by have := Blk.lt Hl.out; omega)
  have o8 : OwnB w8 (some ⟨gt, 0, none⟩) tl ct (text.set bf 1) := by rw [hw8]; exact O7.out.set bf 1
  have c8 : w8.cell? ⟨lb, 0, none⟩ = some (.pointer (some ⟨b, 0, none⟩)) := l8.cell 0
  have ht8 : ((text.set bf 1).take 64).length = min tl 64 := by rw [List.length_take, List.length_set, Htl0.out, Nat.min_comm]
  have b8 : Bytes w8 (some ⟨gt, 0, none⟩) ((text.set bf 1).take 64) := o8.bytes.take 64
  have hw9 := write_all b F7 D7 (fi : Int) (some ⟨gt, 0, none⟩) ct (min tl 64) ((text.set bf 1).take 64) w8.drew (d8.fr (G := fun _ => False) (Fr.refl _ _).drew (fun _ _ h => h)) ht8 (b8.fr (F := fun _ => False) (Fr.refl _ _).drew (fun _ _ h => h)) S7.out
  have hmn : min tl 64 ≤ ct := by have := o8.cap; omega
  have hf08 : Fr F w w8 := Hf07.out.trans' (f8.mono (fun k _ e => e)) (fun k hk e => by omega)
  have Hw9 := hide hw9
  have L8 := hide l8
  have Hf08 := hide hf08
  clear hw8 f8 d8 l8 o8 ht8 b8 hw9 hf08 O7 L7 Dk7 cb7 zb7 Hf07
  refine wp_region_planned (fun W => W.cell? ⟨lb, 0, none⟩ = some (.pointer (some ⟨b, 0, none⟩))) 11 [(false, 0), (false, 1), (false, 2), (false, 3), (false, 4), (false, 5), (false, 6), (false, 7), (false, 8), (false, 9), (true, 10)] (by kernel_rfl) (by kernel_rfl) (fun _ _ d _ _ h => by cases d <;> exact h) c8 ?_
  simp only [steps, List.getElem?_toArray, List.filterMap_cons, List.filterMap_nil, Option.map_some, List.getElem?_cons_zero, List.getElem?_cons_succ, List.drop_succ_cons, List.drop_zero]
  iterate 8 (refine wpPlan_read rfl (fun W hW => (by go_simp; try with_reducible rfl)) ?_)
  refine wpPlan_read (v := .int .i64 ((min tl 64 : Nat) : Int)) rfl (fun W hW => (by go_simp; split <;> omega)) ?_
  refine wpPlan_read (v := .slice (some ⟨gt, 0, none⟩) (min tl 64) ct) rfl (fun W hW => (by go_simp)) ?_
  simp only [Act.put, List.setIfInBounds_toArray, List.set_cons_zero, List.set_cons_succ]
  refine wpPlan_does rfl (fun K hK => ?_)
  refine wp_call_by 45 #[.pointer (some ⟨b, 0, none⟩), .int .i64 (fi : Int), .slice (some ⟨gt, 0, none⟩) (min tl 64) ct] (by kernel_rfl) Hw9.out ?_
  rintro e w9 ⟨F9, rfl, d9, f9, n9⟩
  have l9 : Led w9 lb b L := Blk.fr (Blk.drew L8.out) f9 (fun h => (Hn07.out lb h).elim HF.out (fun h => by have := Blk.lt Hl.out; omega))
  refine ⟨_, rfl, hK _ _ (l9.cell 0) ?_⟩
  clear hK
  refine wpPlan_nil ?_
  simp only [Act.put, List.setIfInBounds_toArray, List.set_cons_zero, List.set_cons_succ]
  have hf09 : Fr F w w9 := (Hf08.out.trans' ((Fr.refl (fun _ => False) _).drew) (fun _ _ h => False.elim h)).trans' f9 (fun k hk h => (Hn07.out k h).elim id (fun h => by omega))
  have hn09 : ∀ k, F9 k → F k ∨ w.heap.size ≤ k := fun k hk => (n9 k hk).elim (Hn07.out k) (fun h => .inr (Nat.le_trans Hf08.out.size h))
  have c9 : w9.cell? ⟨lb, 0, none⟩ = some (.pointer (some ⟨b, 0, none⟩)) := l9.cell 0
  by_cases he2 : D7.writeE (fi : Int) (((text.set bf 1).take 64).length) = 0
  case neg =>
    have hfin : Leaves (D.storeE fi bf text) b F (D.storeD fi bf text) w (.returned (.int .i64 (D7.writeE (fi : Int) (((text.set bf 1).take 64).length)))) w9 := by
      rw [E1.out, E2.out, if_pos he2, if_pos he2]
      exact ⟨F9, rfl, d9, hf09, hn09⟩
    have Hfin := hide hfin
    obtain ⟨x, hx⟩ : ∃ x, x = D7.writeE (fi : Int) (((text.set bf 1).take 64).length) := ⟨_, rfl⟩
    rw [← hx] at Hfin he2 ⊢
    have hbn : (x != 0) = true := by rw [bne_iff_ne]; exact he2
    clear hfin hf09 hn09 d9 f9 n9 Hw9 he2 hx l9
    go_wp2
    go_ret
    exact Hfin.out
  have s9 : (D7.writeD (fi : Int) ((text.set bf 1).take 64)).Small := by
    have h1 := P7.out
    have h2 := S7.out
    unfold Dk.writeD
    split
    · exact h2
    · split
      · exact h2
      · refine ⟨?_, ?_, ?_⟩
        · show D7.ops + 1 < _; omega
        · show D7.fuse - 1 ≤ _; have := h2.fuse; omega
        · show (D7.pend ++ [_]).length < _; rw [List.length_append]; simp only [List.length_cons, List.length_nil]; omega
  have hsy := sync_all b F9 _ w9 d9 s9
  have Hsy := hide hsy
  have Hf09 := hide hf09
  have Hn09 := hide hn09
  rw [he2]
  have He2 := hide he2
  clear hsy hf09 hn09 d9 f9 n9 Hw9 he2 l9 s9
  go_wp2_with fail
  refine Hsy.out.mono ?_
  rintro e w10 ⟨F10, rfl, d10, f10, n10⟩
  have hfin : Leaves (D.storeE fi bf text) b F (D.storeD fi bf text) w (.returned (.int .i64 ((D7.writeD (fi : Int) ((text.set bf 1).take 64)).syncE))) w10 := by
    have hno : ¬ (D7.writeE (fi : Int) (((text.set bf 1).take 64).length) ≠ 0) := fun h => h He2.out
    rw [E1.out, E2.out, if_neg hno, if_neg hno]
    exact ⟨F10, rfl, d10, Hf09.out.trans' f10 (fun k hk h => (Hn09.out k h).elim id (fun h => by omega)), fun k hk => (n10 k hk).elim (Hn09.out k) (fun h => .inr (Nat.le_trans Hf09.out.size h))⟩
  have Hfin := hide hfin
  clear hfin d10 f10 n10 Hsy E1 E2
  go_wp2
  go_ret
  exact Hfin.out
end Go.Proofs.Ytbcpplndmndkiaa
