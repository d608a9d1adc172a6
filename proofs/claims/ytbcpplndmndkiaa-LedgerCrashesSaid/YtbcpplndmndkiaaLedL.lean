/- Package ledger: Append, Snapshot. -/
import Derived.Test.YtbcpplndmndkiaaLedK
namespace Go.Proofs.Ytbcpplndmndkiaa
open Go.RowKit

/-- What a ledger's call leaves: its error, the ledger and the disk behind it; all but these as it was. -/
def LLeaves (e0 : Int) (lb b : Nat) (F : Nat → Prop) (L : Lg) (D : Dk) (w : World) (e : Ending) (w' : World) : Prop :=
  ∃ F', e = .returned (.int .i64 e0) ∧ Led w' lb b L ∧ DiskAt w' b F' D ∧ Fr (fun k => F k ∨ k = lb) w w' ∧ ∀ k, F' k → F k ∨ w.heap.size ≤ k

def Lg.appE (L : Lg) (D : Dk) (p : List UInt8) : Int :=
  if 4000 < p.length then 2 else if L.room < L.ed + 8 + p.length then 13 else D.storeE L.blk (L.ed % 64) (L.text (view D.dur D.pend) p)
def Lg.appD (L : Lg) (D : Dk) (p : List UInt8) : Dk :=
  if 4000 < p.length ∨ L.room < L.ed + 8 + p.length then D else D.storeD L.blk (L.ed % 64) (L.text (view D.dur D.pend) p)
def Lg.appL (L : Lg) (D : Dk) (p : List UInt8) : Lg :=
  if 4000 < p.length ∨ L.room < L.ed + 8 + p.length then L
  else if D.storeE L.blk (L.ed % 64) (L.text (view D.dur D.pend) p) = 0 then { L with ed := L.ed + 8 + p.length, cnt := L.cnt + 1 } else { L with unsure := true }

set_option maxRecDepth 100000 in
set_option maxHeartbeats 4000000 in
theorem append_all (lb b : Nat) (F : Nat → Prop) (L : Lg) (D : Dk) (A : Option Addr) (n c : Nat) (p : List UInt8) (w : World) (hl : Led w lb b L) (hdk : DiskAt w b F D) (ok : L.Ok D.n) (hu : L.unsure = false) (hoff : D.off = false) (hF : ¬ F lb) (hn : p.length = n) (hb : Bytes w A p)
    (hnl : n ≤ 1000000) (hs : D.Calm) :
    Calls Try.prog 16 #[.pointer (some ⟨lb, 0, none⟩), .slice A n c] w (LLeaves (L.appE D p) lb b F (L.appL D p) (L.appD D p) w) := by
  subst hn
  have hn4 : D.n ≤ 4096 := ok.n
  have hroom : L.room ≤ 300000 := by have := ok.room; have := ok.two; unfold Lg.room; omega
  have hed : L.ed ≤ L.room := ok.ed
  have hcnt : 8 * L.cnt ≤ L.ed := ok.cnt
  have hleft := left_sure lb b L D.n w hl ok hu
  have Hl := hide hl
  have Hd := hide hdk
  have HF := hide hF
  by_cases h4 : 4000 < p.length
  · have hfin : LLeaves (L.appE D p) lb b F (L.appL D p) (L.appD D p) w (.returned (.int .i64 2)) w := by
      unfold Lg.appE Lg.appD Lg.appL
      rw [if_pos h4, if_pos (.inl h4), if_pos (.inl h4)]
      exact ⟨F, rfl, Hl.out, Hd.out, Fr.refl _ _, fun k hk => .inl hk⟩
    have Hfin := hide hfin
    clear hl hdk ok hu hoff hF hb hs hfin hleft
    go_enter Try.func16, Try.ntmps16
    go_wp2
    go_ret
    exact Hfin.out
  by_cases hfull : L.room < L.ed + 8 + p.length
  · have hfin : ∀ q, LLeaves (L.appE D p) lb b F (L.appL D p) (L.appD D p) w (.returned (.int .i64 13)) (w.drewN q) := by
      intro q
      unfold Lg.appE Lg.appD Lg.appL
      rw [if_neg h4, if_pos hfull, if_pos (.inr hfull), if_pos (.inr hfull)]
      exact ⟨F, rfl, Blk.drewN Hl.out q, Hd.out.fr (G := fun _ => False) ((Fr.refl _ _).drewN q) (fun _ _ h => h), (Fr.refl _ _).drewN q, fun k hk => .inl hk⟩
    have Hfin := hide hfin
    have Hleft := hide hleft
    clear hl hdk ok hu hoff hF hb hs hfin hleft
    go_enter Try.func16, Try.ntmps16
    go_wp2_with (first
      | (go_at_call 30; refine (need_any _ _ (by omega) (by omega)).mono ?_; rintro e w3 ⟨rfl, rfl⟩)
      | (go_at_call 25; refine Hleft.out.mono ?_; rintro e w3 ⟨rfl, q3, rfl⟩))
    go_ret
    exact Hfin.out _
  have hfw : ∀ q, Fr (fun _ => False) w (w.drewN q) := fun q => (Fr.refl _ _).drewN q
  have hst := fun q => store_on lb b F L D A p.length c p (w.drewN q) (Blk.drewN hl q) (hdk.fr (hfw q) (fun _ _ h => h)) ok hoff hF rfl (hb.fr (hfw q) (fun _ _ h => h)) (by omega) hs
  have Hst := hide hst
  have Hleft := hide hleft
  obtain ⟨e0, he0⟩ : ∃ e0, e0 = D.storeE L.blk (L.ed % 64) (L.text (view D.dur D.pend) p) := ⟨_, rfl⟩
  have E1 : Hid (L.appE D p = e0) := hide (by unfold Lg.appE; rw [if_neg h4, if_neg hfull, he0])
  have E2 : Hid (L.appD D p = D.storeD L.blk (L.ed % 64) (L.text (view D.dur D.pend) p)) := hide (by unfold Lg.appD; rw [if_neg (fun h => h.elim h4 hfull)])
  have E3 : Hid (L.appL D p = if e0 = 0 then { L with ed := L.ed + 8 + p.length, cnt := L.cnt + 1 } else { L with unsure := true }) := hide (by unfold Lg.appL; rw [if_neg (fun h => h.elim h4 hfull), he0])
  have He0 := hide he0
  clear hl hdk ok hu hoff hF hb hs hst hleft he0 hfw
  go_enter Try.func16, Try.ntmps16
  go_wp2_with (first
    | (go_at_call 30; refine (need_any _ _ (by omega) (by omega)).mono ?_; rintro e w3 ⟨rfl, rfl⟩)
    | (go_at_call 25; refine Hleft.out.mono ?_; rintro e w3 ⟨rfl, q3, rfl⟩))
  refine (Hst.out q3).mono ?_
  rintro e w4 ⟨F4, rfl, d4, f4, n4⟩
  rw [← He0.out]
  have l4 : Led w4 lb b L := Blk.fr (Blk.drewN Hl.out q3) f4 HF.out
  have hf4 : Fr F w w4 := ((Fr.refl F w).drewN q3).trans' f4 (fun _ _ h => h)
  have hn4' : ∀ k, F4 k → F k ∨ w.heap.size ≤ k := n4
  have hlbF : ¬ F4 lb := fun h => (hn4' lb h).elim HF.out (fun h => by have := Blk.lt Hl.out; omega)
  have Hfits : L.ed + 8 + p.length ≤ L.room := by omega
  by_cases hz : e0 = 0
  case neg =>
    have hfin : LLeaves (L.appE D p) lb b F (L.appL D p) (L.appD D p) w (.returned (.int .i64 e0)) (w4.setCell ⟨lb, 6, none⟩ (.bool true)) := by
      rw [E1.out, E2.out, E3.out, if_neg hz]
      have hs6 : Fr (fun k => k = lb) w4 (w4.setCell ⟨lb, 6, none⟩ (.bool true)) := (Fr.refl _ _).put1 6 _
      refine ⟨F4, rfl, ?_, d4.fr hs6 (fun k hk e => hlbF (e ▸ hk)), (hf4.mono (fun _ _ h => .inl h)).trans' hs6 (fun _ _ e => .inr e), hn4'⟩
      have h := l4.set_ 6 (.bool true)
      unfold Led
      have he : lcells b { L with unsure := true } = (lcells b L).setIfInBounds 6 (.bool true) := by simp [lcells]
      rw [he]
      exact h
    have c6 : w4.cell? ⟨lb, 6, none⟩ = some (.bool L.unsure) := l4.cell 6
    have z6 : w4.frozen? ⟨lb, 6, none⟩ = false := l4.frozen 6
    have hbn : (e0 != 0) = true := by rw [bne_iff_ne]; exact hz
    have Hfin := hide hfin
    clear hfin hz l4 d4 f4 n4 hf4 hn4' E1 E2 E3 Hst Hleft
    go_wp2
    go_ret
    exact Hfin.out
  have c4 : w4.cell? ⟨lb, 4, none⟩ = some (.int .i64 (L.ed : Int)) := l4.cell 4
  have L4 := hide l4
  have D4 := hide d4
  have Hf4 := hide hf4
  have Hn4 := hide hn4'
  have Hz := hide hz
  rw [hz]
  clear l4 d4 f4 n4 hf4 hn4' hz Hst Hleft
  have hs1 : IntKind.i64.wrap ((L.ed : Int) + ((p.length : Int) + 8)) = (L.ed : Int) + ((p.length : Int) + 8) := IntWalk.i64_in _ (by omega)
  go_upto_region 11 with fail
  refine wp_region_planned (fun W => W.cell? ⟨lb, 4, none⟩ = some (.int .i64 (L.ed : Int))) 10 [(false, 0), (false, 1), (false, 2), (false, 3), (false, 4), (false, 5), (true, 6), (false, 7), (false, 8), (false, 9)] (by kernel_rfl) (by kernel_rfl) (fun _ _ d _ _ h => by cases d <;> exact h) c4 ?_
  simp only [steps, List.getElem?_toArray, List.filterMap_cons, List.filterMap_nil, Option.map_some, List.getElem?_cons_zero, List.getElem?_cons_succ, List.drop_succ_cons, List.drop_zero]
  iterate 6 (refine wpPlan_read rfl (fun W hW => (by go_simp; try with_reducible rfl)) ?_)
  simp only [Act.put, List.setIfInBounds_toArray, List.set_cons_zero, List.set_cons_succ]
  refine wpPlan_does rfl (fun K hK => ?_)
  refine wp_call_by 30 #[.int .i64 (p.length : Int)] (by kernel_rfl) (need_any (p.length : Int) w4.drew (by omega) (by omega)) ?_
  rintro e w5 ⟨rfl, rfl⟩
  refine ⟨_, rfl, hK _ _ c4 ?_⟩
  clear hK
  simp only [Act.put, List.setIfInBounds_toArray, List.set_cons_zero, List.set_cons_succ]
  refine wpPlan_read (v := .int .i64 ((L.ed + 8 + p.length : Nat) : Int)) rfl (fun W hW => (by go_simp; omega)) ?_
  iterate 2 (refine wpPlan_read rfl (fun W hW => (by go_simp; try with_reducible rfl)) ?_)
  refine wpPlan_nil ?_
  simp only [Act.put, List.setIfInBounds_toArray, List.set_cons_zero, List.set_cons_succ]
  obtain ⟨w5, hw5⟩ : ∃ w5, w5 = w4.drew := ⟨_, rfl⟩
  rw [← hw5]
  have hd5 : Fr (fun k => k = lb) w4 w5 := by rw [hw5]; exact (Fr.refl _ _).drew
  have L5 : Hid (Led w5 lb b L) := hide (by rw [hw5]; exact Blk.drew L4.out)
  clear hw5
  have k4 : w5.cell? ⟨lb, 4, none⟩ = some (.int .i64 (L.ed : Int)) := L5.out.cell 4
  have z4 : w5.frozen? ⟨lb, 4, none⟩ = false := L5.out.frozen 4
  have k5 : w5.cell? ⟨lb, 5, none⟩ = some (.int .i64 (L.cnt : Int)) := L5.out.cell 5
  have z5 : w5.frozen? ⟨lb, 5, none⟩ = false := L5.out.frozen 5
  have hfin : LLeaves (L.appE D p) lb b F (L.appL D p) (L.appD D p) w (.returned (.int .i64 0)) ((w5.setCell ⟨lb, 4, none⟩ (.int .i64 ((L.ed + 8 + p.length : Nat) : Int))).setCell ⟨lb, 5, none⟩ (.int .i64 ((L.cnt : Int) + 1))) := by
    rw [E1.out, E2.out, E3.out, if_pos Hz.out, Hz.out]
    have hs6 : Fr (fun k => k = lb) w4 ((w5.setCell ⟨lb, 4, none⟩ (.int .i64 ((L.ed + 8 + p.length : Nat) : Int))).setCell ⟨lb, 5, none⟩ (.int .i64 ((L.cnt : Int) + 1))) := (hd5.put1 4 _).put1 5 _
    refine ⟨F4, rfl, ?_, D4.out.fr hs6 (fun k hk e => hlbF (e ▸ hk)), (Hf4.out.mono (fun _ _ h => .inl h)).trans' hs6 (fun _ _ e => .inr e), Hn4.out⟩
    have h := ((L5.out).set_ 4 (.int .i64 ((L.ed + 8 + p.length : Nat) : Int))).set_ 5 (.int .i64 ((L.cnt : Int) + 1))
    unfold Led
    have he : lcells b { L with ed := L.ed + 8 + p.length, cnt := L.cnt + 1 } = ((lcells b L).setIfInBounds 4 (.int .i64 ((L.ed + 8 + p.length : Nat) : Int))).setIfInBounds 5 (.int .i64 ((L.cnt : Int) + 1)) := by simp [lcells]
    rw [he]
    exact h
  have Hfin := hide hfin
  clear hfin hs1 c4 E1 E2 E3 L4 D4 hd5
  go_wp2
  go_ret
  exact Hfin.out

def Lg.snE (L : Lg) (D : Dk) (p : List UInt8) : Int :=
  if L.room < 8 + p.length then 13 else D.repE (L.at_ + (1 - L.half) * L.bl) (L.snapText p)
def Lg.snD (L : Lg) (D : Dk) (p : List UInt8) : Dk :=
  if L.room < 8 + p.length then D else D.repD (L.at_ + (1 - L.half) * L.bl) (L.snapText p)
def Lg.snL (L : Lg) (D : Dk) (p : List UInt8) : Lg :=
  if L.room < 8 + p.length then L
  else if D.repE (L.at_ + (1 - L.half) * L.bl) (L.snapText p) = 0 then { L with half := 1 - L.half, ed := 8 + p.length, cnt := 0 } else { L with unsure := true }

set_option maxRecDepth 100000 in
set_option maxHeartbeats 4000000 in
theorem snapshot_all (lb b : Nat) (F : Nat → Prop) (L : Lg) (D : Dk) (A : Option Addr) (n c : Nat) (p : List UInt8) (w : World) (hl : Led w lb b L) (hdk : DiskAt w b F D) (ok : L.Ok D.n) (hu : L.unsure = false) (hoff : D.off = false) (hF : ¬ F lb) (hn : p.length = n) (hb : Bytes w A p)
    (hnl : n ≤ 1000000) (hs : D.Calm) :
    Calls Try.prog 19 #[.pointer (some ⟨lb, 0, none⟩), .slice A n c] w (LLeaves (L.snE D p) lb b F (L.snL D p) (L.snD D p) w) := by
  subst hn
  have hn4 : D.n ≤ 4096 := ok.n
  have hroom : L.room ≤ 300000 := by have := ok.room; have := ok.two; unfold Lg.room; omega
  have hroom8 : 64 ≤ L.room := by have := ok.two; unfold Lg.room; omega
  have hhalf := ok.half
  have hrm := room_any lb b L D.n w hl ok
  have has := ascertain_sure lb b L w hl hu
  have Hl := hide hl
  have Hd := hide hdk
  have HF := hide hF
  have Hrm := hide hrm
  have Has := hide has
  by_cases hfull : L.room < 8 + p.length
  · have hfin : LLeaves (L.snE D p) lb b F (L.snL D p) (L.snD D p) w (.returned (.int .i64 13)) w := by
      unfold Lg.snE Lg.snD Lg.snL
      rw [if_pos hfull, if_pos hfull, if_pos hfull]
      exact ⟨F, rfl, Hl.out, Hd.out, Fr.refl _ _, fun k hk => .inl hk⟩
    have Hfin := hide hfin
    clear hl hdk ok hu hoff hF hb hs hfin hrm has
    go_enter Try.func19, Try.ntmps19
    go_wp2_with (first
      | (go_at_call 32; refine Has.out.mono ?_; rintro e w3 ⟨rfl, rfl⟩)
      | (go_at_call 33; refine Hrm.out.mono ?_; rintro e w3 ⟨rfl, rfl⟩))
    go_ret
    exact Hfin.out
  have hst := replace_on lb b F L D (1 - L.half) A p.length c p w hl hdk ok hoff hF (by omega) rfl hb (by omega) hs
  obtain ⟨ot, hot⟩ : ∃ ot, ot = 1 - L.half := ⟨_, rfl⟩
  have hoti : (1 : Int) - (L.half : Int) = (ot : Int) := by omega
  obtain ⟨e0, he0⟩ : ∃ e0, e0 = D.repE (L.at_ + (1 - L.half) * L.bl) (L.snapText p) := ⟨_, rfl⟩
  have E1 : Hid (L.snE D p = e0) := hide (by unfold Lg.snE; rw [if_neg hfull, he0])
  have E2 : Hid (L.snD D p = D.repD (L.at_ + (1 - L.half) * L.bl) (L.snapText p)) := hide (by unfold Lg.snD; rw [if_neg hfull])
  have E3 : Hid (L.snL D p = if e0 = 0 then { L with half := ot, ed := 8 + p.length, cnt := 0 } else { L with unsure := true }) := hide (by unfold Lg.snL; rw [if_neg hfull, he0, hot])
  rw [← he0] at hst
  rw [← hot] at hst E2
  have Hst := hide hst
  have c3 : w.cell? ⟨lb, 3, none⟩ = some (.int .i64 (L.half : Int)) := hl.cell 3
  clear hl hdk ok hu hoff hF hb hs hst hrm has he0 hot
  go_enter Try.func19, Try.ntmps19
  go_wp2_with (first
    | (go_at_call 32; refine Has.out.mono ?_; rintro e w3 ⟨rfl, rfl⟩)
    | (go_at_call 33; refine Hrm.out.mono ?_; rintro e w3 ⟨rfl, rfl⟩))
  refine Hst.out.mono ?_
  rintro e w4 ⟨F4, rfl, d4, f4, n4⟩
  have l4 : Led w4 lb b L := Blk.fr Hl.out f4 HF.out
  have hlbF : ¬ F4 lb := fun h => (n4 lb h).elim HF.out (fun h => by have := Blk.lt Hl.out; omega)
  by_cases hz : e0 = 0
  case neg =>
    have hfin : LLeaves (L.snE D p) lb b F (L.snL D p) (L.snD D p) w (.returned (.int .i64 e0)) (w4.setCell ⟨lb, 6, none⟩ (.bool true)) := by
      rw [E1.out, E2.out, E3.out, if_neg hz]
      have hs6 : Fr (fun k => k = lb) w4 (w4.setCell ⟨lb, 6, none⟩ (.bool true)) := (Fr.refl _ _).put1 6 _
      refine ⟨F4, rfl, ?_, d4.fr hs6 (fun k hk e => hlbF (e ▸ hk)), (f4.mono (fun _ _ h => .inl h)).trans' hs6 (fun _ _ e => .inr e), n4⟩
      have h := l4.set_ 6 (.bool true)
      unfold Led
      have he : lcells b { L with unsure := true } = (lcells b L).setIfInBounds 6 (.bool true) := by simp [lcells]
      rw [he]
      exact h
    have c6 : w4.cell? ⟨lb, 6, none⟩ = some (.bool L.unsure) := l4.cell 6
    have z6 : w4.frozen? ⟨lb, 6, none⟩ = false := l4.frozen 6
    have hbn : (e0 != 0) = true := by rw [bne_iff_ne]; exact hz
    have Hfin := hide hfin
    clear hfin hz l4 d4 f4 n4 E1 E2 E3 Hst Hrm Has
    go_wp2
    go_ret
    exact Hfin.out
  have k3 : w4.cell? ⟨lb, 3, none⟩ = some (.int .i64 (L.half : Int)) := l4.cell 3
  have z3 : w4.frozen? ⟨lb, 3, none⟩ = false := l4.frozen 3
  have k4 : w4.cell? ⟨lb, 4, none⟩ = some (.int .i64 (L.ed : Int)) := l4.cell 4
  have z4 : w4.frozen? ⟨lb, 4, none⟩ = false := l4.frozen 4
  have k5 : w4.cell? ⟨lb, 5, none⟩ = some (.int .i64 (L.cnt : Int)) := l4.cell 5
  have z5 : w4.frozen? ⟨lb, 5, none⟩ = false := l4.frozen 5
  have hfin : LLeaves (L.snE D p) lb b F (L.snL D p) (L.snD D p) w (.returned (.int .i64 0)) (((w4.setCell ⟨lb, 3, none⟩ (.int .i64 (ot : Int))).setCell ⟨lb, 4, none⟩ (.int .i64 ((p.length : Int) + 8))).setCell ⟨lb, 5, none⟩ (.int .i64 0)) := by
    rw [E1.out, E2.out, E3.out, if_pos hz, hz]
    have hs6 : Fr (fun k => k = lb) w4 (((w4.setCell ⟨lb, 3, none⟩ (.int .i64 (ot : Int))).setCell ⟨lb, 4, none⟩ (.int .i64 ((p.length : Int) + 8))).setCell ⟨lb, 5, none⟩ (.int .i64 0)) := (((Fr.refl _ _).put1 3 _).put1 4 _).put1 5 _
    refine ⟨F4, rfl, ?_, d4.fr hs6 (fun k hk e => hlbF (e ▸ hk)), (f4.mono (fun _ _ h => .inl h)).trans' hs6 (fun _ _ e => .inr e), n4⟩
    have h := ((l4.set_ 3 (.int .i64 (ot : Int))).set_ 4 (.int .i64 ((p.length : Int) + 8))).set_ 5 (.int .i64 0)
    unfold Led
    have he : lcells b { L with half := ot, ed := 8 + p.length, cnt := 0 } = (((lcells b L).setIfInBounds 3 (.int .i64 (ot : Int))).setIfInBounds 4 (.int .i64 ((p.length : Int) + 8))).setIfInBounds 5 (.int .i64 0) := by
      simp [lcells]
      omega
    rw [he]
    exact h
  have Hfin := hide hfin
  rw [hz]
  clear hfin hz l4 d4 f4 n4 E1 E2 E3 Hst Hrm Has c3
  go_wp2_with (go_at_call 30; refine (need_any _ _ (by omega) (by omega)).mono ?_; rintro e w3 ⟨rfl, rfl⟩)
  go_ret
  exact Hfin.out
end Go.Proofs.Ytbcpplndmndkiaa
