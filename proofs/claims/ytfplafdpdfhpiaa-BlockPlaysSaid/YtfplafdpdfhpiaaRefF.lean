/- Layer 1: the document's own answer: Restart. -/
import Derived.Test.YtfplafdpdfhpiaaRefE
namespace Go.Proofs.Ytfplafdpdfhpiaa
open Go.RowKit

theorem cl_cases (k : Int) (n : Nat) : (cl k n : Int) = if (n : Int) < max 0 k then (n : Int) else max 0 k := by
  unfold cl
  split <;> omega

theorem torn_string (x v : List UInt8) (t : Nat) (hx : x.length = 64) (hv : v.length = 64) (ht : t ≤ 64) :
    (ByteArray.mk x.toArray).extract 0 t ++ (ByteArray.mk v.toArray).extract t 64 = ByteArray.mk (over v (x.take t)).toArray := by
  have htk : (x.take t).length = t := by rw [List.length_take, hx]; omega
  have hd : (v.drop t).take (64 - t) = v.drop t := List.take_of_length_le (by rw [List.length_drop]; omega)
  rw [over, htk]
  apply ByteArray.ext
  simp [ByteArray.data_append, ByteArray.data_extract, hd]

set_option maxRecDepth 10000 in
set_option maxHeartbeats 1000000 in
theorem rrestart_any (rb : Nat) (sv lv : Value) (D : Dk) (keep torn : Int) (w : World) (h : RefIn w rb sv lv D) (hl : D.pend.length < 1000000) :
    Calls Try.prog 18 #[.pointer (some ⟨rb, 0, none⟩), .int .i64 keep, .int .i64 torn] w (RLeaves (.tuple #[]) rb (rfeet rb sv lv) (D.restarted keep torn) w) := by
  obtain ⟨sa, sc, rfl⟩ := rown_form h.sure
  obtain ⟨la, lc, rfl⟩ := rown_form h.l
  obtain ⟨sg, rfl, hsc, hq1, hq2⟩ := own_block h.sure (by have := h.wf.lo; omega)
  clear hq1 hq2
  have hn := h.wf.hi
  have c1 : w.cell? ⟨rb, 1, none⟩ = some (.slice la D.pend.length lc) := h.str.cell 1
  have hkl := cl_le keep D.pend.length
  have htl := cl_le torn 64
  have Hkc := hide (cl_cases keep D.pend.length)
  have Htc := hide (cl_cases torn 64)
  generalize hkk : cl keep D.pend.length = k at *
  generalize htt : cl torn 64 = t at *
  have Hkk := hide hkk
  have Htt := hide htt
  have H := hide h
  clear h hkk htt
  go_enter Try.func18, Try.ntmps18
  go_upto_if 9 with fail
  go_cut [1] from 8 to 9 (fun s w' => s = .int .i64 (max 0 keep) ∧ w = w')
  case first =>
    by_cases h0 : keep < 0
    · have e : max 0 keep = 0 := by omega
      have E := hide e
      clear e
      go_wp2
      go_meet
      case rel => rw [E.out]; exact ⟨rfl, rfl⟩
    · have e : max 0 keep = keep := by omega
      have E := hide e
      clear e
      go_wp2
      go_meet
      case rel => rw [E.out]; exact ⟨rfl, rfl⟩
  case rest =>
    obtain ⟨rfl, rfl⟩ := hcut
    generalize hm : max 0 keep = m at *
    have Hm := hide hm
    clear hm
    go_upto_if 16 with fail
    go_cut [1] from 10 to 21 (fun s w' => s = .int .i64 (k : Int) ∧ w = w')
    case first =>
      have hkc := Hkc.out
      by_cases h0 : (D.pend.length : Int) < m
      · rw [if_pos h0] at hkc
        have E := hide hkc
        clear hkc
        go_wp2
        go_meet
        case rel => rw [E.out]; exact ⟨rfl, rfl⟩
      · rw [if_neg h0] at hkc
        have E := hide hkc
        clear hkc
        go_wp2
        go_meet
        case rel => rw [E.out]; exact ⟨rfl, rfl⟩
    case rest =>
      obtain ⟨rfl, rfl⟩ := hcut
      go_upto_if 23 with fail
      go_cut [2] from 22 to 23 (fun s w' => s = .int .i64 (max 0 torn) ∧ w = w')
      case first =>
        by_cases h0 : torn < 0
        · have e : max 0 torn = 0 := by omega
          have E := hide e
          clear e
          go_wp2
          go_meet
          case rel => rw [E.out]; exact ⟨rfl, rfl⟩
        · have e : max 0 torn = torn := by omega
          have E := hide e
          clear e
          go_wp2
          go_meet
          case rel => rw [E.out]; exact ⟨rfl, rfl⟩
      case rest =>
        obtain ⟨rfl, rfl⟩ := hcut
        generalize hmt : max 0 torn = mt at *
        go_upto_if 25 with fail
        go_cut [2] from 24 to 25 (fun s w' => s = .int .i64 (t : Int) ∧ w = w')
        case first =>
          have htc := Htc.out
          by_cases h0 : (64 : Int) < mt
          · rw [if_pos (by exact_mod_cast h0)] at htc
            have E := hide htc
            clear htc
            go_wp2
            go_meet
            case rel => rw [E.out]; exact ⟨rfl, rfl⟩
          · rw [if_neg (by exact_mod_cast h0)] at htc
            have E := hide htc
            clear htc
            go_wp2
            go_meet
            case rel => rw [E.out]; exact ⟨rfl, rfl⟩
        case rest =>
          obtain ⟨rfl, rfl⟩ := hcut
          clear Hkc Htc Hm hmt
          have hfin : ∀ w8 : World, RefIn w8 rb (.slice (some ⟨sg, 0, none⟩) D.n sc) (.slice none 0 0) { D with dur := D.left keep torn, pend := [] } → Fr (fun q => q = rb ∨ (Value.slice (some ⟨sg, 0, none⟩) D.n sc).ownBlock = some q) w w8 →
              RLeaves (.tuple #[]) rb (rfeet rb (.slice (some ⟨sg, 0, none⟩) D.n sc) (.slice la D.pend.length lc)) (D.restarted keep torn) w (.returned (.tuple #[])) ((w8.setCell ⟨rb, 4, none⟩ (.bool false)).setCell ⟨rb, 3, none⟩ (.int .i64 0)) := by
            intro w8 h8 f8
            have f9 : Fr (fun q => q = rb) w8 ((w8.setCell ⟨rb, 4, none⟩ (.bool false)).setCell ⟨rb, 3, none⟩ (.int .i64 0)) := ((Fr.refl _ _).put1 4 _).put1 3 _
            refine ⟨_, rfl, ⟨_, _, h8.put (D' := D.restarted keep torn) ⟨h8.wf.lo, h8.wf.hi, h8.wf.dlen, h8.wf.pat, h8.wf.plen⟩ rfl rfl rfl ?_ f9, rfl⟩, (f8.mono (fun _ _ e => e.imp id .inl)).trans' f9 (fun _ _ e => .inl e), ?_⟩
            · have hb := (h8.str.set_ 4 (.bool false)).set_ 3 (.int .i64 0)
              simpa [Dk.restarted] using hb
            · rintro q (rfl | hq | hq)
              · exact .inl (.inl rfl)
              · exact .inl (.inr (.inl hq))
              · cases hq
          have Fin := hide hfin
          clear hfin
          by_cases hlt : k < D.pend.length
          · obtain ⟨p, hp⟩ : ∃ p, D.pend[k]? = some p := ⟨_, List.getElem?_eq_getElem hlt⟩
            obtain ⟨lg, rfl, hlc, hlv, hq2⟩ := own_block H.out.l (by omega)
            clear hq2
            obtain ⟨g0, g1⟩ := lcells_get _ _ _ hp
            have hl0 := hlv _ _ g0
            have hl1 := hlv _ _ g1
            have hllt := World.block_lt_of_cell? w _ hl0
            have hlF : ¬ (lg = rb ∨ (Value.slice (some ⟨sg, 0, none⟩) D.n sc).ownBlock = some lg) := by
              rintro (e | e)
              · exact H.out.ne_l (by rw [← e]; rfl)
              · exact H.out.ne_sl lg e rfl
            have hpn := H.out.wf.pat p (List.mem_of_getElem? hp)
            have hpl := H.out.wf.plen p (List.mem_of_getElem? hp)
            have Hl0 := hide hl0
            have Hl1 := hide hl1
            have Hp := hide hp
            have Hpl := hide hpl
            have HlF := hide hlF
            have Hllt := hide hllt
            clear hlv g0 g1 hl0 hl1 hp hpl hlF hllt
            go_upto_region 10 with (go_at_call 31; refine (rdone_ok _ _ _ D k _ H.out hkl hl).mono ?_; rintro e w8 ⟨rfl, hd8, hf8⟩; have Hd8 := hide hd8; have Hf8 := hide hf8; clear hd8 hf8)
            have e0 : w8.cell? ⟨lg, k * 2, none⟩ = some (.int .i64 (p.1 : Int)) := (Hf8.out.cell (p := ⟨lg, k * 2, none⟩) Hllt.out HlF.out).trans Hl0.out
            have e1 : w8.cell? ⟨lg, k * 2 + 1, none⟩ = some (.string ⟨p.2.toArray⟩) := (Hf8.out.cell (p := ⟨lg, k * 2 + 1, none⟩) Hllt.out HlF.out).trans Hl1.out
            have d0 : w8.cell? ⟨rb, 0, none⟩ = some (.slice (some ⟨sg, 0, none⟩) D.n sc) := Hd8.out.str.cell 0
            go_upto_region 12 with fail
            obtain ⟨sg', hse, _, hsv, hsz⟩ := own_block Hd8.out.sure (by show 0 < D.n; omega)
            injection hse with hse
            injection hse with hse
            subst hse
            have s0 := hsv _ _ (rstrs_get _ _ _ hpn)
            have z0 : w8.frozen? ⟨sg, p.1, none⟩ = false := hsz _
            clear hsv hsz
            obtain ⟨s1, hs1⟩ : ∃ s1, s1 = ByteArray.mk p.2.toArray := ⟨_, rfl⟩
            obtain ⟨s2, hs2⟩ : ∃ s2, s2 = ByteArray.mk (view D.dur (D.pend.take k) p.1).toArray := ⟨_, rfl⟩
            have hvl : (view D.dur (D.pend.take k) p.1).length = 64 := Hd8.out.wf.dlen p.1
            have hz1 : s1.size = 64 := by rw [hs1, bytes_string]; exact Hpl.out
            have hz2 : s2.size = 64 := by rw [hs2, bytes_string]; exact hvl
            rw [← hs1] at e1
            simp only [← hs2] at s0
            have Hs1 := hide hs1
            have Hs2 := hide hs2
            have Hvl := hide hvl
            clear hs1 hs2 hvl
            have ht1 : (t : Int) ≤ 64 := by omega
            have ht : t ≤ 64 := htl
            have hadd : ∀ W : World, (Op.stringOp .add (s1.extract 0 t) (s2.extract t 64)).run Try.prog W = .ok (.string ⟨(over (view D.dur (D.pend.take k) p.1) (p.2.take t)).toArray⟩) W := fun W => by
              rw [run_string_add_sum (P := Try.prog) W _ _ (by rw [ByteArray.size_extract, ByteArray.size_extract]; omega)]
              rw [Hs1.out, Hs2.out, torn_string _ _ t Hpl.out Hvl.out ht]
            refine wp_region_tail 22 (by kernel_rfl) (by kernel_rfl) ?_
            simp only [List.take_succ_cons, List.take_zero, List.drop_succ_cons, List.drop_zero]
            iterate 22 still_step
            refine wpStill_nil ?_
            have hlf : D.left keep torn = upd (view D.dur (D.pend.take k)) p.1 (over (view D.dur (D.pend.take k) p.1) (p.2.take t)) := by
              unfold Dk.left
              rw [Hkk.out, Hp.out, Htt.out]
            have hol : (over (view D.dur (D.pend.take k) p.1) (p.2.take t)).length = 64 := by
              rw [over_len _ _ (by rw [List.length_take, Hvl.out]; omega)]
              exact Hvl.out
            have h9 := (RefIn.over (D := { D with dur := view D.dur (D.pend.take k), pend := [] }) Hd8.out p.1 hpn _ hol).drew
            have f9 : Fr (fun q => q = rb ∨ (Value.slice (some ⟨sg, 0, none⟩) D.n sc).ownBlock = some q) w (w8.setCell ⟨sg, p.1, none⟩ (.string ⟨(over (view D.dur (D.pend.take k) p.1) (p.2.take t)).toArray⟩)).drew := (Hf8.out.setCell (p := ⟨sg, p.1, none⟩) (.inl (.inr rfl)) _).drew
            simp only at h9
            rw [← hlf] at h9
            obtain ⟨w9, hw9⟩ : ∃ w9, w9 = (w8.setCell ⟨sg, p.1, none⟩ (.string ⟨(over (view D.dur (D.pend.take k) p.1) (p.2.take t)).toArray⟩)).drew := ⟨_, rfl⟩
            rw [← hw9] at h9 f9
            have H9 := hide h9
            have F9 := hide f9
            have Hw9 := hide hw9
            clear h9 f9 hw9 hlf hol hadd
            go_upto_region 13 with fail
            rw [← Hw9.out]
            have x4 : w9.cell? ⟨rb, 4, none⟩ = some (.bool D.off) := H9.out.str.cell 4
            have x3 : w9.cell? ⟨rb, 3, none⟩ = some (.int .i64 (D.fuse : Int)) := H9.out.str.cell 3
            have y4 : w9.frozen? ⟨rb, 4, none⟩ = false := H9.out.str.frozen 4
            have y3 : w9.frozen? ⟨rb, 3, none⟩ = false := H9.out.str.frozen 3
            go_wp2
            go_end0
            exact Fin.out _ H9.out F9.out
          · obtain rfl : k = D.pend.length := by omega
            have hlf : D.left keep torn = view D.dur (D.pend.take D.pend.length) := by
              unfold Dk.left
              rw [Hkk.out, List.getElem?_eq_none (Nat.le_refl _)]
            have Hlf := hide hlf
            clear hlf hlt
            have hla : (la = none ∧ D.pend.length = 0 ∧ lc = 0) ∨ ∃ lg, la = some ⟨lg, 0, none⟩ ∧ D.pend.length ≤ lc := by
              rcases H.out.l.2 with ⟨h1, h2⟩ | ⟨lg, cap, cur, he, _, _, hc, _⟩
              · injection h1 with h1 _ h3
                exact .inl ⟨h1, h2, h3⟩
              · injection he with h1 _ h3
                exact .inr ⟨lg, h1, by omega⟩
            rcases hla with ⟨rfl, hz, rfl⟩ | ⟨lg, rfl, hlc⟩
            · have hz2 : D.left keep torn = view D.dur (D.pend.take 0) := by rw [Hlf.out, hz]
              have Hz2 := hide hz2
              have hz3 : (0 : Nat) ≤ D.pend.length := Nat.zero_le _
              have Hz3 := hide hz3
              rw [hz] at Fin c1 H ⊢
              clear hz2 hz3 hz Hkk Hlf hkl
              go_upto_region 10 with (go_at_call 31; refine (rdone_ok _ _ _ D 0 _ H.out Hz3.out hl).mono ?_; rintro e w8 ⟨rfl, hd8, hf8⟩; rw [← Hz2.out] at hd8; have Hd8 := hide hd8; have Hf8 := hide hf8; clear hd8 hf8)
              have x4 : w8.cell? ⟨rb, 4, none⟩ = some (.bool D.off) := Hd8.out.str.cell 4
              have x3 : w8.cell? ⟨rb, 3, none⟩ = some (.int .i64 (D.fuse : Int)) := Hd8.out.str.cell 3
              have y4 : w8.frozen? ⟨rb, 4, none⟩ = false := Hd8.out.str.frozen 4
              have y3 : w8.frozen? ⟨rb, 3, none⟩ = false := Hd8.out.str.frozen 3
              go_wp2
              go_end0
              exact Fin.out _ Hd8.out Hf8.out
            · go_upto_region 10 with (go_at_call 31; refine (rdone_ok _ _ _ D D.pend.length _ H.out (Nat.le_refl _) hl).mono ?_; rintro e w8 ⟨rfl, hd8, hf8⟩; rw [← Hlf.out] at hd8; have Hd8 := hide hd8; have Hf8 := hide hf8; clear hd8 hf8)
              have x4 : w8.cell? ⟨rb, 4, none⟩ = some (.bool D.off) := Hd8.out.str.cell 4
              have x3 : w8.cell? ⟨rb, 3, none⟩ = some (.int .i64 (D.fuse : Int)) := Hd8.out.str.cell 3
              have y4 : w8.frozen? ⟨rb, 4, none⟩ = false := Hd8.out.str.frozen 4
              have y3 : w8.frozen? ⟨rb, 3, none⟩ = false := Hd8.out.str.frozen 3
              go_wp2
              all_goals
                go_end0
                exact Fin.out _ Hd8.out Hf8.out

end Go.Proofs.Ytfplafdpdfhpiaa
