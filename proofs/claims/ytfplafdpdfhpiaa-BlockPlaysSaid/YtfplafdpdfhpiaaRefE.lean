/- Layer 1: the document's own answer: done, Sync. -/
import Derived.Test.YtfplafdpdfhpiaaRefD
namespace Go.Proofs.Ytfplafdpdfhpiaa
open Go.RowKit

/-- a durable block written over. -/
theorem RefIn.over {w : World} {rb sg sc : Nat} {lv : Value} {D : Dk} (h : RefIn w rb (.slice (some ⟨sg, 0, none⟩) D.n sc) lv D) (i : Nat) (hi : i < D.n) (c : List UInt8) (hc : c.length = 64) :
    RefIn (w.setCell ⟨sg, i, none⟩ (.string ⟨c.toArray⟩)) rb (.slice (some ⟨sg, 0, none⟩) D.n sc) lv { D with dur := upd D.dur i c } := by
  have hf : Fr (fun k => k = sg) w (w.setCell ⟨sg, i, none⟩ (.string ⟨c.toArray⟩)) := (Fr.refl _ _).put1 i _
  refine ⟨⟨h.wf.lo, h.wf.hi, upd_len h.wf.dlen i _ hc, h.wf.pat, h.wf.plen⟩, h.str.fr hf (fun e => h.ne_s (by rw [e]; rfl)), ?_, own_fr h.l hf (fun k hk e => h.ne_sl k (by rw [e]; rfl) hk)⟩
  simp only
  rw [rstrs_upd]
  exact own_set h.sure hi
/-- the field of what waits, struck out. -/
theorem RefIn.strike {w : World} {rb : Nat} {sv lv : Value} {D : Dk} (h : RefIn w rb sv lv D) : RefIn (w.setCell ⟨rb, 1, none⟩ (.slice none 0 0)) rb sv (.slice none 0 0) { D with pend := [] } := by
  have hf : Fr (fun k => k = rb) w (w.setCell ⟨rb, 1, none⟩ (.slice none 0 0)) := (Fr.refl _ _).put1 1 _
  refine ⟨⟨h.wf.lo, h.wf.hi, h.wf.dlen, by simp, by simp⟩, by simpa using h.str.set_ 1 (.slice none 0 0), own_fr h.sure hf (fun k hk e => h.ne_s (by rw [hk, e])), World.ownsRow_nil _ _ _ _⟩

/-- The loop of done: behind j rounds. -/
def RdRel (rb : Nat) (sv lv : Value) (D : Dk) (k : Nat) (w : World) (x : Value) (wr : World) : Prop :=
  ∃ j : Nat, j ≤ k ∧ x = .int .i64 j ∧ RefIn wr rb sv lv { D with dur := view D.dur (D.pend.take j) } ∧ Fr (fun q => sv.ownBlock = some q) w wr

set_option maxRecDepth 10000 in
set_option maxHeartbeats 1000000 in
theorem rdone_ok (rb : Nat) (sv lv : Value) (D : Dk) (k : Nat) (w : World) (h : RefIn w rb sv lv D) (hk : k ≤ D.pend.length) (hl : D.pend.length < 1000000) :
    Calls Try.prog 31 #[.pointer (some ⟨rb, 0, none⟩), .int .i64 k] w fun e w' =>
      e = .returned (.tuple #[]) ∧ RefIn w' rb sv (.slice none 0 0) { D with dur := view D.dur (D.pend.take k), pend := [] } ∧ Fr (fun q => q = rb ∨ sv.ownBlock = some q) w w' := by
  obtain ⟨sa, sc, rfl⟩ := rown_form h.sure
  obtain ⟨la, lc, rfl⟩ := rown_form h.l
  obtain ⟨sg, rfl, hsc, _, _⟩ := own_block h.sure (by have := h.wf.lo; omega)
  have hn := h.wf.hi
  have H := hide h
  clear h
  go_enter Try.func31, Try.ntmps31
  go_wp2
  go_loopw [4] (fun i' wr => RdRel rb (.slice (some ⟨sg, 0, none⟩) D.n sc) (.slice la D.pend.length lc) D k w i' wr) (fun i _ => k - (intOf i).toNat)
  case atStart => exact ⟨0, by omega, rfl, H.out, Fr.refl _ _⟩
  case round =>
    obtain ⟨j, hj, rfl, hr, hf⟩ := hrel
    by_cases hlt : j < k
    · obtain ⟨p, hp⟩ : ∃ p, D.pend[j]? = some p := ⟨_, List.getElem?_eq_getElem (by omega)⟩
      obtain ⟨lg, rfl, hlc, hlv, _⟩ := own_block hr.l (by show 0 < D.pend.length; omega)
      obtain ⟨g0, g1⟩ := lcells_get _ _ _ hp
      have e0 : wr.cell? ⟨lg, j * 2, none⟩ = some (.int .i64 (p.1 : Int)) := hlv _ _ g0
      have e1 : wr.cell? ⟨lg, j * 2 + 1, none⟩ = some (.string ⟨p.2.toArray⟩) := hlv _ _ g1
      have hjl : j < D.pend.length := by omega
      have hpn := hr.wf.pat p (List.mem_of_getElem? hp)
      have hpl := hr.wf.plen p (List.mem_of_getElem? hp)
      simp only at hpn
      obtain ⟨sg', hse, _, hsv, hsz⟩ := own_block hr.sure (by show 0 < D.n; omega)
      injection hse with hse
      injection hse with hse
      subst hse
      have s0 : wr.cell? ⟨sg, p.1, none⟩ = some (.string ⟨(view D.dur (D.pend.take j) p.1).toArray⟩) := hsv _ _ (rstrs_get _ _ _ hpn)
      have s1 : wr.frozen? ⟨sg, p.1, none⟩ = false := hsz _
      have c0 : wr.cell? ⟨rb, 0, none⟩ = some (.slice (some ⟨sg, 0, none⟩) D.n sc) := hr.str.cell 0
      have c1 : wr.cell? ⟨rb, 1, none⟩ = some (.slice (some ⟨lg, 0, none⟩) D.pend.length lc) := hr.str.cell 1
      have fin : RdRel rb (.slice (some ⟨sg, 0, none⟩) D.n sc) (.slice (some ⟨lg, 0, none⟩) D.pend.length lc) D k w (.int .i64 ((j + 1 : Nat) : Int)) (wr.drew.setCell ⟨sg, p.1, none⟩ (.string ⟨p.2.toArray⟩)) := by
        refine ⟨j + 1, hlt, rfl, ?_, Fr.setCell (p := ⟨sg, p.1, none⟩) hf.drew (.inl rfl) _⟩
        rw [view_take_succ _ _ _ _ hp]
        exact RefIn.over (D := { D with dur := view D.dur (D.pend.take j) }) hr.drew p.1 hpn p.2 hpl
      have Fin := hide fin
      clear fin hlv hsv hsz g0 g1 hr hf hp hpl
      go_upto_region 3 with fail
      refine wp_region_tail 21 (by kernel_rfl) (by kernel_rfl) ?_
      simp only [List.take_succ_cons, List.take_zero, List.drop_succ_cons, List.drop_zero]
      iterate 21 still_step
      refine wpStill_nil ?_
      go_wp2
      go_roundw
      case rel => exact Fin.out
      case measure => (simp [intOf]; try omega)
    · obtain rfl : j = k := by omega
      have c1 : wr.cell? ⟨rb, 1, none⟩ = some (.slice la D.pend.length lc) := hr.str.cell 1
      have z1 : wr.frozen? ⟨rb, 1, none⟩ = false := hr.str.frozen 1
      have Hr := hide hr
      have Hf := hide hf
      clear hr hf
      go_wp2
      go_end0
      exact ⟨rfl, Hr.out.strike, (Hf.out.mono (fun _ _ h => .inr h)).setCell (p := ⟨rb, 1, none⟩) (.inl (.inl rfl)) _⟩

set_option maxHeartbeats 1000000 in
theorem rsync_all (rb : Nat) (sv lv : Value) (D : Dk) (w : World) (h : RefIn w rb sv lv D) (hs : D.Small) :
    Calls Try.prog 16 #[.pointer (some ⟨rb, 0, none⟩)] w (RLeaves (.int .i64 D.syncE) rb (rfeet rb sv lv) D.syncD w) := by
  unfold Dk.syncE Dk.syncD
  have hl := hs.pend
  by_cases ho : D.off = true
  · rw [if_pos ho, if_pos ho]
    have c4 : w.cell? ⟨rb, 4, none⟩ = some (.bool true) := by rw [← ho]; exact h.str.cell 4
    have fin := h.leaves (.int .i64 12)
    clear h
    go_enter Try.func16, Try.ntmps16
    go_wp2
    go_ret
    exact fin
  · rw [if_neg ho, if_neg ho]
    have ho : D.off = false := by simpa using ho
    have c4 : w.cell? ⟨rb, 4, none⟩ = some (.bool false) := by rw [← ho]; exact h.str.cell 4
    have H := hide h
    clear h
    by_cases hf : D.fuse = 1
    · rw [if_pos hf]
      have hE : begunE D = 12 := by unfold begunE; rw [if_pos hf]
      have HE := hide hE
      clear hE
      go_enter Try.func16, Try.ntmps16
      go_wp2_with (go_at_call 29; refine (rbegin _ _ _ D _ H.out ho hs.ops hs.fuse).mono ?_; rintro e w7 ⟨rfl, hd7, hf7⟩; rw [HE.out]; have Hd7 := hide hd7; have Hf7 := hide hf7; clear hd7 hf7)
      go_ret
      rw [HE.out]
      exact ⟨_, rfl, ⟨_, _, Hd7.out, rfl⟩, Hf7.out.mono (fun _ _ e => .inl e), fun k hk => .inl hk⟩
    · rw [if_neg hf]
      have hE : begunE D = 0 := by unfold begunE; rw [if_neg hf]
      have HE := hide hE
      clear hE
      have hfin : ∀ w7 w8, RefIn w7 rb sv (.slice none 0 0) { D.begun with dur := view D.begun.dur (D.begun.pend.take D.pend.length), pend := [] } → Fr (fun k => k = rb) w w8 → Fr (fun q => q = rb ∨ sv.ownBlock = some q) w8 w7 →
          RLeaves (.int .i64 (begunE D)) rb (rfeet rb sv lv) D.begun.synced w (.returned (.int .i64 0)) w7 := by
        intro w7 w8 h7 f1 f2
        have e : ({ D.begun with dur := view D.begun.dur (D.begun.pend.take D.pend.length), pend := [] } : Dk) = D.begun.synced := by
          have e1 : D.begun.pend = D.pend := rfl
          rw [e1, List.take_length]
          rfl
        rw [e] at h7
        rw [HE.out]
        refine ⟨_, rfl, ⟨_, _, h7, rfl⟩, (f1.mono (fun _ _ e => .inl e)).trans' f2 (fun _ _ e => e.imp id .inl), ?_⟩
        rintro k (rfl | hk | hk)
        · exact .inl (.inl rfl)
        · exact .inl (.inr (.inl hk))
        · cases hk
      have Fin := hide hfin
      clear hfin
      obtain ⟨la, lc, rfl⟩ := rown_form H.out.l
      go_enter Try.func16, Try.ntmps16
      go_upto_region 4 with (go_at_call 29; refine (rbegin _ _ _ D _ H.out ho hs.ops hs.fuse).mono ?_; rintro e w7 ⟨rfl, hd7, hf7⟩; rw [HE.out]; have Hd7 := hide hd7; have Hf7 := hide hf7; clear hd7 hf7)
      have c1 : w7.cell? ⟨rb, 1, none⟩ = some (.slice la D.pend.length lc) := Hd7.out.str.cell 1
      go_wp2_with (go_at_call 31; refine (rdone_ok _ _ _ D.begun D.pend.length _ Hd7.out (Nat.le_refl _) (by show D.pend.length < _; omega)).mono ?_; rintro e w8 ⟨rfl, hd8, hf8⟩; have Hd8 := hide hd8; have Hf8 := hide hf8; clear hd8 hf8)
      go_ret
      exact Fin.out _ _ Hd8.out Hf7.out Hf8.out

end Go.Proofs.Ytfplafdpdfhpiaa
