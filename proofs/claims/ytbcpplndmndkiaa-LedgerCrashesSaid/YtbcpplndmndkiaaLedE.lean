/- Package ledger: inUse, area. -/
import Derived.Test.YtbcpplndmndkiaaLedD
import Derived.Test.YtbcpplndmndkiaaRegionQ
import Derived.Laws.BitsAllLaws
namespace Go.Proofs.Ytbcpplndmndkiaa
open Go.RowKit

/-- The switch that a block holds. -/
def sw (f : Nat → List UInt8) (i : Nat) : Nat := ((f i).headD 0).toNat % 2
def used (f : Nat → List UInt8) (at_ bl : Nat) : Nat := (sw f at_ + sw f (at_ + bl)) % 2
def usedK (f : Nat → List UInt8) (at_ bl : Nat) : Nat → Nat
  | 0 => 0
  | 1 => sw f at_
  | _ => used f at_ bl
theorem sw_lt (f : Nat → List UInt8) (i : Nat) : sw f i < 2 := Nat.mod_lt _ (by omega)
theorem used_lt (f : Nat → List UInt8) (a b : Nat) : used f a b < 2 := Nat.mod_lt _ (by omega)

/-- What a call makes that only makes memory: its answer. -/
def Makes (v : Value) (w : World) (e : Ending) (w' : World) : Prop := e = .returned v ∧ Below w.heap.size w w'

theorem Led.below {w w' : World} {lb b : Nat} {L : Lg} (h : Led w lb b L) (hb : Below w.heap.size w w') : Led w' lb b L := Blk.below h hb (Blk.lt h)
theorem DiskAt.below {w w' : World} {b : Nat} {F : Nat → Prop} {D : Dk} (h : DiskAt w b F D) (hb : Below w.heap.size w w') : DiskAt w' b F D := h.fr (Fr.of_below hb) (fun _ _ h => h)
theorem below_drewN {B : Nat} {a w : World} (h : Below B a w) (n : Nat) : Below B a (w.drewN n) := ⟨h.os, h.tape, h.output, h.size, h.block⟩

theorem and_one_u8 (x : UInt8) : bits .and .u8 (x.toNat : Int) 1 = ((x.toNat % 2 : Nat) : Int) := by
  have h := x.toNat_lt
  rw [u8_and _ 1 (by omega) (by omega) (by omega) (by omega)]
  simp [Nat.and_one_is_mod]
theorem xor_bit (a b : Nat) (ha : a < 2) (hb : b < 2) : bits .xor .i64 (a : Int) (b : Int) = (((a + b) % 2 : Nat) : Int) := by
  obtain rfl | rfl : a = 0 ∨ a = 1 := by omega
  all_goals
    obtain rfl | rfl : b = 0 ∨ b = 1 := by omega
    all_goals decide

set_option maxHeartbeats 2000000 in
theorem inUse_on (lb b : Nat) (F : Nat → Prop) (L : Lg) (D : Dk) (w : World) (hl : Led w lb b L) (hd : DiskAt w b F D) (ok : L.Ok D.n) (ho : D.off = false) :
    Calls Try.prog 46 #[.pointer (some ⟨lb, 0, none⟩)] w (Makes (.tuple #[.int .i64 (used (view D.dur D.pend) L.at_ L.bl : Nat), .int .i64 0]) w) := by
  have Hl := hide hl
  have Hd := hide hd
  have Ok := hide ok
  have Ho := hide ho
  clear hl hd ok ho
  go_enter Try.func46, Try.ntmps46
  go_wp2
  go_loopw [8, 4, 5, 6, 7, 11] (fun i u _ _ _ _ wr => ∃ k : Nat, k ≤ 2 ∧ i = .int .i64 k ∧ u = .int .i64 (usedK (view D.dur D.pend) L.at_ L.bl k : Nat) ∧ Below w.heap.size w wr) (fun i _ _ _ _ _ _ => 2 - (intOf i).toNat)
  case atStart => exact ⟨0, by omega, rfl, rfl, Below.refl _ _⟩
  case round =>
    obtain ⟨k, hk, rfl, rfl, hbel⟩ := hrel
    by_cases hlt : k < 2
    · have Hbel := hide hbel
      have hL := Hl.out.below hbel
      have hD := Hd.out.below hbel
      have c0 : wr.cell? ⟨lb, 0, none⟩ = some (.pointer (some ⟨b, 0, none⟩)) := hL.cell 0
      have HL := hide hL
      have HD := hide hD
      clear hL hD hbel
      go_upto_region 5 with fail
      refine wp_region_planned (fun W => W.cell? ⟨lb, 0, none⟩ = some (.pointer (some ⟨b, 0, none⟩))) 12 [(false, 0), (false, 1), (false, 2), (false, 3), (false, 4), (false, 5), (true, 6), (true, 7), (false, 8), (false, 9), (false, 10), (false, 11)] (by kernel_rfl) (by kernel_rfl) (fun _ _ d _ _ h => by cases d <;> exact h) c0 ?_
      simp only [steps, List.getElem?_toArray, List.filterMap_cons, List.filterMap_nil, Option.map_some, List.getElem?_cons_zero, List.getElem?_cons_succ, List.drop_succ_cons, List.drop_zero]
      iterate 6 (refine wpPlan_read rfl (fun W hW => (by go_simp; try with_reducible rfl)) ?_)
      simp only [Act.put, List.setIfInBounds_toArray, List.set_cons_zero, List.set_cons_succ]
      refine wpPlan_does rfl (fun K hK => ?_)
      refine wp_call_by 41 #[.pointer (some ⟨lb, 0, none⟩), .int .i64 (k : Int)] (by kernel_rfl) (first_any lb b L D.n k wr.drew (Blk.drew HL.out) Ok.out (by omega)) ?_
      rintro e w5 ⟨rfl, n5, rfl⟩
      refine ⟨_, rfl, hK _ _ c0 ?_⟩
      clear hK
      simp only [Act.put, List.setIfInBounds_toArray, List.set_cons_zero, List.set_cons_succ]
      refine wpPlan_does rfl (fun K hK => ?_)
      have hD5 : DiskAt (wr.drew.drewN n5) b F D := DiskAt.fr HD.out (F := F) ((Fr.refl (fun _ => False) _).drew.drewN n5) (fun _ _ h => h)
      have hbd : L.at_ + k * L.bl < D.n := by
        have h1 := Ok.out.room
        have h2 := Ok.out.two
        obtain rfl | rfl : k = 0 ∨ k = 1 := by omega
        all_goals omega
      have hvl : (view D.dur D.pend (L.at_ + k * L.bl)).length = 64 := HD.out.wf.vlen _
      refine wp_call_by 28 #[.pointer (some ⟨b, 0, none⟩), .int .i64 ((L.at_ + k * L.bl : Nat) : Int)] (by kernel_rfl) (read_any b F D (L.at_ + k * L.bl) _ hD5 Ho.out hbd) ?_
      rintro e w6 ⟨rfl, rfl⟩
      have hc6 : ((wr.drew.drewN n5).alloc (.cells (B8s (view D.dur D.pend (L.at_ + k * L.bl))).toArray 5)).cell? ⟨lb, 0, none⟩ = some (.pointer (some ⟨b, 0, none⟩)) := (Blk.alloc (Blk.drewN (Blk.drew HL.out) n5) _).cell 0
      refine ⟨_, rfl, hK _ _ hc6 ?_⟩
      clear hK hc6
      iterate 4 (refine wpPlan_read rfl (fun W hW => (by go_simp; try with_reducible rfl)) ?_)
      refine wpPlan_nil ?_
      simp only [Act.put, List.setIfInBounds_toArray, List.set_cons_zero, List.set_cons_succ]
      obtain ⟨x, r, hxr⟩ : ∃ x r, view D.dur D.pend (L.at_ + k * L.bl) = x :: r := by
        cases h : view D.dur D.pend (L.at_ + k * L.bl) with
        | nil => rw [h] at hvl; cases hvl
        | cons x r => exact ⟨x, r, rfl⟩
      obtain ⟨w6, hw6⟩ : ∃ w6, w6 = (wr.drew.drewN n5).alloc (.cells (B8s (view D.dur D.pend (L.at_ + k * L.bl))).toArray 5) := ⟨_, rfl⟩
      have hga : (wr.drew.drewN n5).heap.size = wr.heap.size := rfl
      rw [← hw6, hga]
      have hbel6 : Below w.heap.size w w6 := by rw [hw6]; exact (below_drewN Hbel.out.drew n5).alloc (Hbel.out.size) _
      have c6 : w6.cell? ⟨wr.heap.size, 0, none⟩ = some (.int .u8 (x.toNat : Int)) := by
        rw [hw6, ← hga, (Blk.new _ _ _).cell 0, hxr]
        rfl
      have hsw : sw (view D.dur D.pend) (L.at_ + k * L.bl) = x.toNat % 2 := by rw [sw, hxr]; rfl
      have hxor : bits .xor .i64 ((usedK (view D.dur D.pend) L.at_ L.bl k : Nat) : Int) ((x.toNat % 2 : Nat) : Int) = ((usedK (view D.dur D.pend) L.at_ L.bl (k + 1) : Nat) : Int) := by
        rw [← hsw]
        obtain rfl | rfl : k = 0 ∨ k = 1 := by omega
        · rw [show usedK (view D.dur D.pend) L.at_ L.bl 0 = 0 from rfl, xor_bit _ _ (by omega) (sw_lt _ _)]
          show (((0 + sw _ _) % 2 : Nat) : Int) = ((sw _ _ : Nat) : Int)
          have := sw_lt (view D.dur D.pend) (L.at_ + 0 * L.bl)
          rw [Nat.zero_mul, Nat.add_zero] at this ⊢
          rw [Nat.zero_add, Nat.mod_eq_of_lt this]
        · rw [show usedK (view D.dur D.pend) L.at_ L.bl 1 = sw (view D.dur D.pend) L.at_ from rfl, xor_bit _ _ (sw_lt _ _) (sw_lt _ _), Nat.one_mul]
          rfl
      have hand := and_one_u8 x
      have Hbel6 := hide hbel6
      have Hxor := hide hxor
      clear hbel6 hsw hxor hw6 HL HD Hbel c0 hD5 hvl hxr hga
      go_wp2
      go_roundw
      case rel => exact ⟨k + 1, by omega, by go_num, congrArg (Value.int .i64) Hxor.out, Hbel6.out⟩
      case measure => simp [intOf]; omega
    · obtain rfl : k = 2 := by omega
      go_wp2
      go_ret2
      exact ⟨rfl, hbel⟩

set_option maxHeartbeats 2000000 in
theorem inUse_off (lb b : Nat) (F : Nat → Prop) (L : Lg) (D : Dk) (w : World) (hl : Led w lb b L) (hd : DiskAt w b F D) (ok : L.Ok D.n) (ho : D.off = true) :
    Calls Try.prog 46 #[.pointer (some ⟨lb, 0, none⟩)] w (Makes (.tuple #[.int .i64 0, .int .i64 12]) w) := by
  have c0 : w.cell? ⟨lb, 0, none⟩ = some (.pointer (some ⟨b, 0, none⟩)) := hl.cell 0
  have Hl := hide hl
  have Hd := hide hd
  have Ok := hide ok
  have Ho := hide ho
  clear hl hd ok ho
  go_enter Try.func46, Try.ntmps46
  go_wp2
  refine wp_loop_rounds 1 ?_
  rw [rounds_succ]
  go_upto_region 5 with fail
  refine wp_region_planned (fun W => W.cell? ⟨lb, 0, none⟩ = some (.pointer (some ⟨b, 0, none⟩))) 12 [(false, 0), (false, 1), (false, 2), (false, 3), (false, 4), (false, 5), (true, 6), (true, 7), (false, 8), (false, 9), (false, 10), (false, 11)] (by kernel_rfl) (by kernel_rfl) (fun _ _ d _ _ h => by cases d <;> exact h) c0 ?_
  simp only [steps, List.getElem?_toArray, List.filterMap_cons, List.filterMap_nil, Option.map_some, List.getElem?_cons_zero, List.getElem?_cons_succ, List.drop_succ_cons, List.drop_zero]
  iterate 6 (refine wpPlan_read rfl (fun W hW => (by go_simp; try with_reducible rfl)) ?_)
  simp only [Act.put, List.setIfInBounds_toArray, List.set_cons_zero, List.set_cons_succ]
  refine wpPlan_does rfl (fun K hK => ?_)
  refine wp_call_by 41 #[.pointer (some ⟨lb, 0, none⟩), .int .i64 ((0 : Nat) : Int)] (by kernel_rfl) (first_any lb b L D.n 0 w.drew (Blk.drew Hl.out) Ok.out (by omega)) ?_
  rintro e w5 ⟨rfl, n5, rfl⟩
  refine ⟨_, rfl, hK _ _ c0 ?_⟩
  clear hK
  simp only [Act.put, List.setIfInBounds_toArray, List.set_cons_zero, List.set_cons_succ]
  refine wpPlan_does rfl (fun K hK => ?_)
  have hD5 : DiskAt (w.drew.drewN n5) b F D := DiskAt.fr Hd.out (F := F) ((Fr.refl (fun _ => False) _).drew.drewN n5) (fun _ _ h => h)
  have hr : refuse D ((L.at_ + 0 * L.bl : Nat) : Int) = 12 := by
    have h1 := Ok.out.room
    have h2 := Ok.out.two
    unfold refuse
    rw [if_neg (by omega), Ho.out]
    rfl
  have c1 := read_refused b F D ((L.at_ + 0 * L.bl : Nat) : Int) _ hD5 (by rw [hr]; decide)
  rw [hr] at c1
  refine wp_call_by 28 #[.pointer (some ⟨b, 0, none⟩), .int .i64 ((L.at_ + 0 * L.bl : Nat) : Int)] (by kernel_rfl) c1 ?_
  rintro e w6 ⟨rfl, rfl⟩
  refine ⟨_, rfl, hK _ _ c0 ?_⟩
  clear hK
  iterate 4 (refine wpPlan_read rfl (fun W hW => (by go_simp; try with_reducible rfl)) ?_)
  refine wpPlan_nil ?_
  simp only [Act.put, List.setIfInBounds_toArray, List.set_cons_zero, List.set_cons_succ]
  clear c1 hr
  go_wp2
  go_ret2
  exact ⟨rfl, below_drewN (Below.refl _ _) _⟩

/-- k blocks, one behind the other. -/
def areaK (f : Nat → List UInt8) (a k : Nat) : List UInt8 := (List.range k).flatMap fun i => f (a + i)
theorem areaK_succ (f : Nat → List UInt8) (a k : Nat) : areaK f a (k + 1) = areaK f a k ++ f (a + k) := by simp [areaK, List.range_succ]
theorem areaK_len (f : Nat → List UInt8) (a k : Nat) (h : ∀ i, (f i).length = 64) : (areaK f a k).length = 64 * k := by
  induction k with
  | zero => rfl
  | succ k ih => rw [areaK_succ, List.length_append, ih, h]; omega
def AreaPost (l : List UInt8) (w : World) (e : Ending) (w' : World) : Prop :=
  ∃ g c, e = .returned (.tuple #[.slice (some ⟨g, 0, none⟩) l.length c, .int .i64 0]) ∧ OwnB w' (some ⟨g, 0, none⟩) l.length c l ∧ w.heap.size ≤ g ∧ Below w.heap.size w w'

set_option maxHeartbeats 2000000 in
theorem area_on (lb b : Nat) (F : Nat → Prop) (L : Lg) (D : Dk) (h : Nat) (w : World) (hl : Led w lb b L) (hd : DiskAt w b F D) (ok : L.Ok D.n) (ho : D.off = false) (hh : h ≤ 1) :
    Calls Try.prog 47 #[.pointer (some ⟨lb, 0, none⟩), .int .i64 (h : Int)] w (AreaPost (areaK (view D.dur D.pend) (L.at_ + h * L.bl + 1) (L.bl - 1)) w) := by
  have c2 : w.cell? ⟨lb, 2, none⟩ = some (.int .i64 (L.bl : Int)) := hl.cell 2
  have h1 := ok.room
  have h2 := ok.two
  have h3 := ok.n
  have Hl := hide hl
  have Hd := hide hd
  have Ok := hide ok
  have Ho := hide ho
  have hf1 := fun W hW => first_any lb b L D.n h W hW ok hh
  obtain ⟨q, hq⟩ : ∃ q, q = L.at_ + h * L.bl := ⟨_, rfl⟩
  have hqb : q + L.bl ≤ D.n := by
    rw [hq]
    obtain rfl | rfl : h = 0 ∨ h = 1 := by omega
    all_goals omega
  rw [← hq] at hf1 ⊢
  have Hf1 := hide hf1
  clear hl hd ok ho hf1 hq
  go_enter Try.func47, Try.ntmps47
  go_wp2
  go_loopw [15, 6, 7, 8, 9, 18] (fun i s _ _ _ _ wr => ∃ k A n c, k ≤ L.bl - 1 ∧ i = .int .i64 (k : Nat) ∧ s = .slice A n c ∧ OwnB wr A n c (areaK (view D.dur D.pend) (q + 1) k) ∧ (∀ j, At A j → w.heap.size ≤ j) ∧ Below w.heap.size w wr) (fun i _ _ _ _ _ _ => L.bl - 1 - (intOf i).toNat)
  case atStart => exact ⟨0, none, 0, 0, by omega, rfl, rfl, OwnB.nil _, fun j hj => absurd hj At.none_not, Below.refl _ _⟩
  case round =>
    obtain ⟨k, A, n, c, hk, rfl, rfl, hown, hnew, hbel⟩ := hrel
    by_cases hlt : k < L.bl - 1
    · have Hbel := hide hbel
      have Hown := hide hown
      have Hnew := hide hnew
      have hL := Hl.out.below hbel
      have hD := Hd.out.below hbel
      have c0 : wr.cell? ⟨lb, 0, none⟩ = some (.pointer (some ⟨b, 0, none⟩)) := hL.cell 0
      have HL := hide hL
      have HD := hide hD
      clear hL hD hbel hown hnew
      go_upto_region 5 with fail
      have hs1 : IntKind.i64.wrap ((q : Int) + 1) = (q : Int) + 1 := IntWalk.i64_in _ (by omega)
      have hs2 : IntKind.i64.wrap ((q : Int) + 1 + (k : Int)) = (q : Int) + 1 + (k : Int) := IntWalk.i64_in _ (by omega)
      refine wp_region_planned (fun W => W.cell? ⟨lb, 0, none⟩ = some (.pointer (some ⟨b, 0, none⟩))) 15 [(false, 0), (false, 1), (false, 2), (false, 3), (false, 4), (false, 5), (false, 8), (true, 6), (false, 7), (false, 9), (true, 10), (false, 11), (false, 12), (false, 13), (false, 14)] (by kernel_rfl) (by kernel_rfl) (fun _ _ d _ _ h => by cases d <;> exact h) c0 ?_
      simp only [steps, List.getElem?_toArray, List.filterMap_cons, List.filterMap_nil, Option.map_some, List.getElem?_cons_zero, List.getElem?_cons_succ, List.drop_succ_cons, List.drop_zero]
      iterate 7 (refine wpPlan_read rfl (fun W hW => (by go_simp; try with_reducible rfl)) ?_)
      simp only [Act.put, List.setIfInBounds_toArray, List.set_cons_zero, List.set_cons_succ]
      refine wpPlan_does rfl (fun K hK => ?_)
      refine wp_call_by 41 #[.pointer (some ⟨lb, 0, none⟩), .int .i64 (h : Int)] (by kernel_rfl) (Hf1.out _ (Blk.drew HL.out)) ?_
      rintro e w5 ⟨rfl, n5, rfl⟩
      refine ⟨_, rfl, hK _ _ c0 ?_⟩
      clear hK
      simp only [Act.put, List.setIfInBounds_toArray, List.set_cons_zero, List.set_cons_succ]
      refine wpPlan_read (v := .int .i64 ((q + 1 : Nat) : Int)) rfl (fun W hW => (by go_simp; try with_reducible rfl)) ?_
      refine wpPlan_read (v := .int .i64 ((q + 1 + k : Nat) : Int)) rfl (fun W hW => (by go_simp; try with_reducible rfl)) ?_
      simp only [Act.put, List.setIfInBounds_toArray, List.set_cons_zero, List.set_cons_succ]
      clear hs1 hs2
      refine wpPlan_does rfl (fun K hK => ?_)
      have hD5 : DiskAt (wr.drew.drewN n5) b F D := DiskAt.fr HD.out (F := F) ((Fr.refl (fun _ => False) _).drew.drewN n5) (fun _ _ h => h)
      have hvl : (view D.dur D.pend (q + 1 + k)).length = 64 := HD.out.wf.vlen _
      refine wp_call_by 28 #[.pointer (some ⟨b, 0, none⟩), .int .i64 ((q + 1 + k : Nat) : Int)] (by kernel_rfl) (read_any b F D (q + 1 + k) _ hD5 Ho.out (by omega)) ?_
      rintro e w6 ⟨rfl, rfl⟩
      have hc6 : ((wr.drew.drewN n5).alloc (.cells (B8s (view D.dur D.pend (q + 1 + k))).toArray 5)).cell? ⟨lb, 0, none⟩ = some (.pointer (some ⟨b, 0, none⟩)) := (Blk.alloc (Blk.drewN (Blk.drew HL.out) n5) _).cell 0
      refine ⟨_, rfl, hK _ _ hc6 ?_⟩
      clear hK hc6
      iterate 4 (refine wpPlan_read rfl (fun W hW => (by go_simp; try with_reducible rfl)) ?_)
      refine wpPlan_nil ?_
      simp only [Act.put, List.setIfInBounds_toArray, List.set_cons_zero, List.set_cons_succ]
      obtain ⟨w6, hw6⟩ : ∃ w6, w6 = (wr.drew.drewN n5).alloc (.cells (B8s (view D.dur D.pend (q + 1 + k))).toArray 5) := ⟨_, rfl⟩
      have hga : (wr.drew.drewN n5).heap.size = wr.heap.size := rfl
      rw [← hw6, hga]
      have hbel6 : Below w.heap.size w w6 := by rw [hw6]; exact (below_drewN Hbel.out.drew n5).alloc (Hbel.out.size) _
      have hown6 : OwnB w6 A n c (areaK (view D.dur D.pend) (q + 1) k) := by rw [hw6]; exact (Hown.out.drew.drewN n5).alloc _
      have hb6 : Bytes w6 (some ⟨wr.heap.size, 0, none⟩) (view D.dur D.pend (q + 1 + k)) := by rw [hw6, ← hga]; exact bytes_new _ _ _ (0, 0)
      have hnl : n = 64 * k := by rw [← hown6.1, areaK_len _ _ _ HD.out.wf.vlen]
      have Hbel6 := hide hbel6
      have Hown6 := hide hown6
      have Hb6 := hide hb6
      have Hvl := hide hvl
      have Hnl := hide hnl
      have hnb : n ≤ 300000 := by omega
      clear hbel6 hown6 hb6 hvl hw6 hga hnl HL HD Hbel Hown hD5
      go_wp2_with (refine wpList_append_bytes rfl (.tmp 35) (.tmp 36) 22 rfl Try.underlying22 infoU8 A n c _ rfl Hown6.out _ 64 64 _ rfl Hvl.out Hb6.out (by omega) ?_; intro A' c' w' ho2 hf hn2 _)
      have hb2 : Below w.heap.size w w' := Hbel6.out.trans (hf.below Hbel6.out.size Hnew.out)
      have hn3 : ∀ j, At A' j → w.heap.size ≤ j := fun j hj => (hn2 j hj).elim (Hnew.out j) (fun h => Nat.le_trans Hbel6.out.size h)
      go_roundw
      case rel => exact ⟨k + 1, A', n + 64, c', by omega, by go_num, rfl, by rw [areaK_succ]; exact ho2, hn3, hb2⟩
      case measure => simp [intOf]; omega
    · obtain rfl : k = L.bl - 1 := by omega
      have hlen := hown.1
      obtain ⟨g, rfl⟩ := hown.addr (by rw [← hlen, areaK_len _ _ _ Hd.out.wf.vlen]; omega)
      subst hlen
      have hg := hnew g (At.some_iff.2 rfl)
      have Hown := hide hown
      have Hbel := hide hbel
      clear hown hbel hnew
      go_wp2
      go_ret2
      exact ⟨g, c, rfl, Hown.out, hg, Hbel.out⟩
end Go.Proofs.Ytbcpplndmndkiaa
