/- Layer 1: the document's own answer: begin, Read. -/
import Derived.Test.YtfplafdpdfhpiaaRefA
import Derived.Deep.Cut
import Derived.Deep.CutRange
namespace Go.Proofs.Ytfplafdpdfhpiaa
open Go.RowKit

/-- A call of a Go function as one operation, by its contract. -/
theorem wp_call_of {P : Program} {o : Oper} {a : Act} {w : World} {K : Act → World → Prop} {Q : Exit → Act → World → Prop} (f : FuncId) (args : Array Value) (hrun : (execOp a.eval o).run P w = .ok (.enter f args) w) {R : Ending → World → Prop}
    (hc : Calls P f args w R) (h : ∀ e w', R e w' → ∃ v, e = .returned v ∧ K (a.put o.dst v) w') : o.wp P a w K Q := by
  unfold Oper.wp
  rw [hrun, Oper.upon_enter]
  refine hc.mono fun e w'' hh => ?_
  obtain ⟨v, rfl, hk⟩ := h e w'' hh
  exact hk

set_option maxHeartbeats 400000 in
theorem rbegin (rb : Nat) (sv lv : Value) (D : Dk) (w : World) (h : RefIn w rb sv lv D) (hoff : D.off = false) (ho : D.ops < 4611686018427387904) (hfu : D.fuse ≤ 9223372036854775807) :
    Calls Try.prog 29 #[.pointer (some ⟨rb, 0, none⟩)] w fun e w' => e = .returned (.int .i64 (begunE D)) ∧ RefIn w' rb sv lv D.begun ∧ Fr (fun k => k = rb) w w' := by
  obtain ⟨n, dur, pend, ops, fuse, off⟩ := D
  obtain rfl : off = false := hoff
  have c2 : w.cell? ⟨rb, 2, none⟩ = some (.int .i64 ops) := h.str.cell 2
  have c3 : w.cell? ⟨rb, 3, none⟩ = some (.int .i64 fuse) := h.str.cell 3
  have c4 : w.cell? ⟨rb, 4, none⟩ = some (.bool false) := h.str.cell 4
  have z : ∀ i, w.frozen? ⟨rb, i, none⟩ = false := h.str.frozen
  have z2 := z 2
  have z3 := z 3
  have z4 := z 4
  have H := hide h
  have hwf := hide h.wf
  clear h z
  simp only at ho hfu
  have close : ∀ (fuse' : Nat) (off' : Bool) (w' : World), Blk w' rb 42 #[sv, lv, .int .i64 ((ops + 1 : Nat) : Int), .int .i64 (fuse' : Int), .bool off'] → Fr (fun k => k = rb) w w' →
      RefIn w' rb sv lv ⟨n, dur, pend, ops + 1, fuse', off'⟩ ∧ Fr (fun k => k = rb) w w' := fun fuse' off' w' hs hf =>
    ⟨H.out.put ⟨hwf.out.lo, hwf.out.hi, hwf.out.dlen, hwf.out.pat, hwf.out.plen⟩ rfl rfl rfl hs hf, hf⟩
  have Cl := hide close
  clear close
  rcases Nat.lt_or_ge 1 fuse with hf | hf
  · have hne : ¬ ((fuse : Int) - 1 = 0) := by omega
    go_enter Try.func29, Try.ntmps29
    go_wp2
    go_ret
    refine ⟨?_, ?_⟩
    · show Ending.returned (.int .i64 0) = _
      rw [begunE, if_neg (by simp only; omega)]
    have e : Dk.begun ⟨n, dur, pend, ops, fuse, false⟩ = ⟨n, dur, pend, ops + 1, fuse - 1, false⟩ := by
      simp only [Dk.begun, Dk.mk.injEq, true_and]
      rw [show (fuse == 1) = false from by simp; omega, Bool.or_false]
    rw [e]
    refine Cl.out _ _ _ ?_ ((((Fr.refl _ _).put1 2 _).put1 3 _).put1 4 _)
    have hb := ((H.out.str.set_ 2 (.int .i64 ((ops : Int) + 1))).set_ 3 (.int .i64 ((fuse : Int) - 1))).set_ 4 (.bool false)
    have hz : ((fuse : Int) - 1 == 0) = false := by simpa using hne
    rw [hz]
    simpa [show ((fuse - 1 : Nat) : Int) = (fuse : Int) - 1 from by omega] using hb
  · rcases Nat.eq_zero_or_pos fuse with hz | hz
    · subst hz
      go_enter Try.func29, Try.ntmps29
      go_wp2
      go_ret
      refine ⟨rfl, ?_⟩
      have e : Dk.begun ⟨n, dur, pend, ops, 0, false⟩ = ⟨n, dur, pend, ops + 1, 0, false⟩ := by simp [Dk.begun]
      rw [e]
      refine Cl.out _ _ _ ?_ ((Fr.refl _ _).put1 2 _)
      have hb := H.out.str.set_ 2 (.int .i64 ((ops : Int) + 1))
      simpa using hb
    · obtain rfl : fuse = 1 := by omega
      go_enter Try.func29, Try.ntmps29
      go_wp2
      go_ret
      refine ⟨rfl, ?_⟩
      have e : Dk.begun ⟨n, dur, pend, ops, 1, false⟩ = ⟨n, dur, pend, ops + 1, 0, true⟩ := by simp [Dk.begun]
      rw [e]
      refine Cl.out _ _ _ ?_ ((((Fr.refl _ _).put1 2 _).put1 3 _).put1 4 _)
      have hb := ((H.out.str.set_ 2 (.int .i64 ((ops : Int) + 1))).set_ 3 (.int .i64 0)).set_ 4 (.bool true)
      simpa using hb

theorem view_last (f : Nat → List UInt8) (l : List (Nat × List UInt8)) (j : Nat) (p : Nat × List UInt8) (hp : l[j]? = some p) (hl : ∀ (q : Nat) (r : Nat × List UInt8), j < q → l[q]? = some r → r.1 ≠ p.1) : view f l p.1 = p.2 := by
  have e : view f l = view (view f (l.take (j + 1))) (l.drop (j + 1)) := by
    conv => lhs; rw [← List.take_append_drop (j + 1) l]
    simp only [view, List.foldl_append]
  rw [e, view_other _ _ _ (fun h => ?_), view_take_succ _ _ _ _ hp]
  · exact if_pos rfl
  · obtain ⟨r, hr, he⟩ := List.mem_map.1 h
    obtain ⟨q, hq⟩ := List.getElem?_of_mem hr
    rw [List.getElem?_drop] at hq
    exact hl _ r (by omega) hq he
theorem view_none (f : Nat → List UInt8) (l : List (Nat × List UInt8)) (i : Nat) (hl : ∀ (q : Nat) (r : Nat × List UInt8), l[q]? = some r → r.1 ≠ i) : view f l i = f i := view_other _ _ _ (fun h => by
  obtain ⟨r, hr, he⟩ := List.mem_map.1 h
  obtain ⟨q, hq⟩ := List.getElem?_of_mem hr
  exact hl q r hq he)

/-- The loop of Read: what is left to look at is the first j. -/
def RrRel (D : Dk) (i : Nat) (w : World) (x : Value) (wr : World) : Prop :=
  ∃ j : Nat, j ≤ D.pend.length ∧ x = .int .i64 ((j : Int) - 1) ∧ wr = w ∧ ∀ q r, j ≤ q → D.pend[q]? = some r → r.1 ≠ i

set_option maxHeartbeats 400000 in
theorem rread_ok (rb : Nat) (sv lv : Value) (D : Dk) (i : Nat) (w : World) (h : RefIn w rb sv lv D) (ho : D.off = false) (hi : i < D.n) (hl : D.pend.length < 1000000) :
    Calls Try.prog 21 #[.pointer (some ⟨rb, 0, none⟩), .int .i64 i] w fun e w' => e = .returned (.tuple #[.string ⟨(view D.dur D.pend i).toArray⟩, .int .i64 0]) ∧ w' = w := by
  obtain ⟨sa, sc, rfl⟩ := rown_form h.sure
  obtain ⟨la, lc, rfl⟩ := rown_form h.l
  have c0 : w.cell? ⟨rb, 0, none⟩ = some (.slice sa D.n sc) := h.str.cell 0
  have c1 : w.cell? ⟨rb, 1, none⟩ = some (.slice la D.pend.length lc) := h.str.cell 1
  have c4 : w.cell? ⟨rb, 4, none⟩ = some (.bool false) := by rw [← ho]; exact h.str.cell 4
  have hn := h.wf.hi
  obtain ⟨sg, rfl, hsc, hsv, _⟩ := own_block h.sure (by omega)
  have s0 : w.cell? ⟨sg, i, none⟩ = some (.string ⟨(D.dur i).toArray⟩) := hsv i _ (rstrs_get _ _ _ hi)
  have H := hide h
  clear h hsv
  go_enter Try.func21, Try.ntmps21
  go_wp2
  go_loopw [6] (fun i' wr => RrRel D i w i' wr) (fun i _ => (intOf i + 1).toNat)
  case atStart => exact ⟨D.pend.length, Nat.le_refl _, rfl, rfl, fun q r hq hr => by rw [List.getElem?_eq_none (by omega)] at hr; cases hr⟩
  case round =>
    obtain ⟨j, hj, rfl, rfl, hno⟩ := hrel
    by_cases hz : j = 0
    · subst hz
      have hv : view D.dur D.pend i = D.dur i := view_none _ _ _ (fun q r hr => hno q r (Nat.zero_le _) hr)
      have Hv := hide hv
      clear hv hno
      go_wp2
      go_ret2
      rw [Hv.out]
      exact ⟨rfl, rfl⟩
    · obtain ⟨k, rfl⟩ : ∃ k, j = k + 1 := ⟨j - 1, by omega⟩
      obtain ⟨p, hp⟩ : ∃ p, D.pend[k]? = some p := ⟨_, List.getElem?_eq_getElem (by omega)⟩
      obtain ⟨lg, rfl, hlc, hlv, _⟩ := own_block H.out.l (by omega)
      obtain ⟨g0, g1⟩ := lcells_get _ _ _ hp
      have e0 : wr.cell? ⟨lg, k * 2, none⟩ = some (.int .i64 (p.1 : Int)) := hlv _ _ g0
      have e1 : wr.cell? ⟨lg, k * 2 + 1, none⟩ = some (.string ⟨p.2.toArray⟩) := hlv _ _ g1
      have hpn := H.out.wf.pat p (List.mem_of_getElem? hp)
      rw [show ((k + 1 : Nat) : Int) - 1 = (k : Int) from by omega]
      have Hno := hide hno
      have Hp := hide hp
      clear hlv g0 g1 hno hp
      by_cases he : p.1 = i
      · have hv : view D.dur D.pend i = p.2 := by
          rw [← he]
          exact view_last _ _ k p Hp.out (fun q r hq hr => by rw [he]; exact Hno.out q r (by omega) hr)
        have Hv := hide hv
        clear hv
        go_wp2
        go_ret2
        rw [Hv.out]
        exact ⟨rfl, rfl⟩
      · have he' : ¬ ((p.1 : Int) = (i : Int)) := by omega
        go_wp2
        go_roundw
        case rel =>
          refine ⟨k, by omega, rfl, rfl, fun q r hq hr => ?_⟩
          rcases Nat.lt_or_ge k q with h1 | h1
          · exact Hno.out q r (by omega) hr
          · obtain rfl : q = k := by omega
            rw [Hp.out] at hr
            injection hr with hr
            rw [← hr]
            exact he
        case measure => (simp [intOf]; try omega)

end Go.Proofs.Ytfplafdpdfhpiaa
