/- Package wire: the writer of values, however deep. -/
import Derived.Test.YtdkmccilnmdhmaaWd
import Derived.Deep.LoopGhost
import Derived.StillTailTactics
namespace Go.Proofs.Ytdkmccilnmdhmaa
open Go.RowKit

/-- The way down to where the writer is, the innermost first: where a value lies, the value, its element that comes next. -/
abbrev Step := Nat × Nat × V × Nat
def pcs : List Step → List Value
  | [] => []
  | (g, o, _, j) :: r => pcs r ++ [.pointer (some ⟨g, o, none⟩), .int .i64 (j : Int)]
def remB : List Step → List UInt8
  | [] => []
  | (_, _, v, j) :: r => restB v j ++ remB r
theorem pcs_len (st : List Step) : (pcs st).length = st.length * 2 := by
  induction st with
  | nil => rfl
  | cons e r ih =>
    obtain ⟨g, o, v, j⟩ := e
    rw [pcs, List.length_append, ih, List.length_cons]
    simp
    omega
def VRel (w0 : World) (B wb : Nat) (F G : Nat → Prop) (fin : List UInt8) (k : Nat) (x : Value) (wr : World) : Prop :=
  ∃ A c st F' l', x = .slice A st.length c ∧ wr.ownsRow 0 56 2 (.slice A st.length c) st.length (pcs st) ∧ (∀ j, At A j → B ≤ j) ∧ (∀ e ∈ st, PV wr G e.1 e.2.1 e.2.2.1 ∧ e.2.2.2 ≤ e.2.2.1.els) ∧
    Wt wr wb F' l' ∧ l' ++ remB st = fin ∧ st.length ≤ l'.length ∧ Fr F w0 wr ∧ (∀ j, F' j → F j ∨ B ≤ j) ∧ k = 2 * (remB st).length + st.length
theorem infoPl : (Try.prog.info? 56).map (fun i => (i.zero, i.size, i.bytes)) = some (some (.agg #[.pointer none, .int .i64 0]), 2, 16) := by kernel_rfl
theorem row_ne_wt {w : World} {A : Option Addr} {n c wb : Nat} {F : Nat → Prop} {l : List UInt8} {xs : List Value} (h : w.ownsRow 0 56 2 (.slice A n c) n xs) (hw : Wt w wb F l) : ∀ k, At A k → ¬ F k := by
  obtain ⟨A', n', c', hb, ho, rfl⟩ := hw
  intro k hk hf
  have hk' := at_own (n := n) (c := c).2 hk
  rcases h.2 with ⟨he, _⟩ | ⟨g', cap, cur, he, _, hh, _⟩
  · injection he with e1
    subst e1
    exact At.none_not hk
  · injection he with e1
    subst e1
    rw [At.some_iff] at hk
    simp only at hk
    subst hk
    rcases hf with e | e
    · subst e
      exact Blk.ne_ (t := 56) hh hb (by decide) rfl
    · exact own_ne_blk ho (t := 56) hh (by decide) e

theorem set_append_two (a : List Value) (p q q' : Value) : (a ++ [p, q]).set (a.length + 1) q' = a ++ [p, q'] := by
  rw [List.set_append_right _ _ (by omega)]
  rw [show a.length + 1 - a.length = 1 by omega]
  rfl
/-- The row, shortened. -/
theorem row_pop {w : World} {ga c : Nat} {cur : Array Value} {e : Step} {r : List Step} (hb : Blk w ga 56 cur) (hnc : r.length + 1 ≤ c) (hcm : c ≤ maxLen) (hcs : cur.size = c * 2) (htk : cur.toList.take ((e :: r).length * 2) = pcs (e :: r)) :
    w.ownsRow 0 56 2 (.slice (some ⟨ga, 0, none⟩) r.length c) r.length (pcs r) := by
  refine ⟨pcs_len r, .inr ⟨ga, c, cur, rfl, Nat.zero_le _, hb, by omega, hcm, hcs, ?_⟩⟩
  have h1 := congrArg (List.take (r.length * 2)) htk
  rw [List.take_take, Nat.min_eq_left (by rw [List.length_cons]; omega)] at h1
  rw [h1]
  obtain ⟨g, o, x, j⟩ := e
  rw [pcs, List.take_left' (pcs_len r)]
/-- The row, its last entry's element one on. -/
theorem row_next {w : World} {ga c g o j j' : Nat} {x : V} {cur : Array Value} {r : List Step} (hb : Blk w ga 56 cur) (hnc : r.length + 1 ≤ c) (hcm : c ≤ maxLen) (hcs : cur.size = c * 2) (htk : cur.toList.take (((g, o, x, j) :: r : List Step).length * 2) = pcs ((g, o, x, j) :: r)) :
    (w.setCell ⟨ga, r.length * 2 + 1, none⟩ (.int .i64 (j' : Int))).ownsRow 0 56 2 (.slice (some ⟨ga, 0, none⟩) (r.length + 1) c) (r.length + 1) (pcs ((g, o, x, j') :: r)) := by
  refine ⟨pcs_len ((g, o, x, j') :: r), .inr ⟨ga, c, _, rfl, Nat.zero_le _, hb.set_ _ _, hnc, hcm, by simp; exact hcs, ?_⟩⟩
  rw [Array.toList_setIfInBounds, List.take_set, show (r.length + 1) * 2 = ((g, o, x, j) :: r : List Step).length * 2 from rfl, htk, pcs, pcs, ← pcs_len r, set_append_two]

set_option maxRecDepth 100000 in
set_option maxHeartbeats 8000000 in
theorem wvalue_any (wb : Nat) (F G : Nat → Prop) (l : List UInt8) (v : V) (cs : List Value) (w : World) (h : Wt w wb F l) (hv : VC w G v cs) (hG : ∀ k, G k → ¬ F k ∧ k < w.heap.size) (hl : (l ++ encV v).length ≤ 1000000000000) :
    Calls Try.prog 11 #[.pointer (some ⟨wb, 0, none⟩), .agg cs.toArray] w (WPost wb F (l ++ encV v) w) := by
  have hcs : ∃ x0 x1 x2 x3 x4, cs = [x0, x1, x2, x3, x4] := by cases hv; exact ⟨_, _, _, _, _, rfl⟩
  have H := hide h
  have HV := hide hv
  have HG := hide hG
  have Hl := hide hl
  have Hcs := hide hcs
  clear h hv hG hl hcs
  go_enter Try.func11, Try.ntmps11
  go_upto_region 3 with fail
  obtain ⟨vb, hvb⟩ : ∃ vb, vb = w.heap.size := ⟨_, rfl⟩
  obtain ⟨w1, hw1⟩ : ∃ w1, w1 = w.alloc (.cells cs.toArray 25) := ⟨_, rfl⟩
  obtain ⟨G', hG'⟩ : ∃ G' : Nat → Prop, G' = fun k => G k ∨ k = vb := ⟨_, rfl⟩
  have f1 : Fr (fun _ => False) w w1 := by rw [hw1]; exact (Fr.refl _ _).alloc _
  have hwt : Wt w1 wb F l := H.out.nofr f1
  have hsz : w1.heap.size = vb + 1 := by rw [hw1, hvb]; simp
  have hpv : PV w1 G' vb 0 v := by
    refine ⟨cs, by rw [hG']; exact .inr rfl, ?_, (HV.out.fr f1 (fun _ _ h => h)).mono (fun k hk => by rw [hG']; exact .inl hk)⟩
    have hb : Blk w1 vb 25 cs.toArray := by rw [hw1, hvb]; exact Blk.new _ _ _
    exact hb.range 0 cs (fun j x hx => by rw [Nat.zero_add]; simpa using hx)
  have hgf : ∀ k, G' k → ¬ F k ∧ k < w1.heap.size := by
    intro k hk
    rw [hG'] at hk
    rcases hk with hk | hk
    · have := HG.out k hk
      exact ⟨this.1, by omega⟩
    · subst hk
      exact ⟨fun hf => by have := H.out.lt _ hf; omega, by omega⟩
  have hle := congrArg List.length (encV_eq v)
  have hll := Hl.out
  rw [List.length_append] at hle hll
  have hbg := begin_any wb F G' l vb 0 v w1 hwt hpv (fun k hk => (hgf k hk).1) (by omega)
  rw [← hvb, ← hw1]
  have Hbg := hide hbg
  have F1 := hide f1
  have Hpv := hide hpv
  have Hgf := hide hgf
  have Hsz := hide hsz
  have Hvb := hide hvb
  clear hvb hw1 hG' f1 hwt hsz hpv hgf hle hll hbg
  go_wp2_with fail
  refine Hbg.out.mono ?_
  rintro e w2 ⟨F2, rfl, h2, f2, n2⟩
  have Hp := hide (show _ ∧ _ ∧ _ from ⟨h2, f2, n2⟩)
  clear h2 f2 n2 Hbg
  go_upto_block 0 with fail
  obtain ⟨w3, hw3⟩ : ∃ w3, w3 = w2.alloc (.cells #[.pointer (some ⟨vb, 0, none⟩), .int .i64 0] 56) := ⟨_, rfl⟩
  have hrel0 : VRel w (vb + 1) wb F G' (l ++ encV v) (2 * (remB [(vb, 0, v, 0)]).length + 1) (.slice (some ⟨w2.heap.size, 0, none⟩) 1 1) w3 := by
    obtain ⟨h2, f2, n2⟩ := Hp.out
    have f3 : Fr (fun _ => False) w2 w3 := by rw [hw3]; exact (Fr.refl _ _).alloc _
    have hsz2 := f2.size
    have hszv := Hsz.out
    refine ⟨_, 1, [(vb, 0, v, 0)], F2, l ++ beginB v, rfl, ?_, ?_, ?_, h2.nofr f3, ?_, ?_, ?_, ?_, rfl⟩
    · refine ⟨rfl, .inr ⟨w2.heap.size, 1, _, rfl, Nat.zero_le _, by rw [hw3]; exact Blk.new w2 _ _, Nat.le_refl _, by decide, rfl, rfl⟩⟩
    · intro j hj
      rw [At.some_iff] at hj
      simp only at hj
      omega
    · intro e he
      simp only [List.mem_singleton] at he
      subst he
      exact ⟨(Hpv.out.fr f2 (fun k hk => (Hgf.out k hk).1)).fr f3 (fun _ _ h => h), Nat.zero_le _⟩
    · rw [remB, remB, List.append_nil, encV_eq, List.append_assoc]
    · have : 1 ≤ (beginB v).length := by
        unfold beginB
        rw [List.length_append]
        have := Lib.uvarint_pos v.kind
        omega
      rw [List.length_append]
      simp only [List.length_cons, List.length_nil]
      omega
    · exact ((F1.out.mono (F' := F) (fun _ _ h => h.elim)).trans' f2 (fun _ _ h => h)).trans' f3 (fun _ _ h => h.elim)
    · intro j hj
      rcases n2 j hj with h | h
      · exact .inl h
      · exact .inr (by omega)
  rw [← hw3]
  have Hrel0 := hide hrel0
  have hb1 : w.heap.size ≤ vb + 1 := by have := Hvb.out; omega
  have HGB := hide (show ∀ k, G' k → k < vb + 1 from fun k hk => by have := (Hgf.out k hk).2; have := Hsz.out; omega)
  have HGF := hide (show ∀ k, G' k → ¬ F k from fun k hk => (Hgf.out k hk).1)
  obtain ⟨fin, hfin⟩ : ∃ fin, fin = l ++ encV v := ⟨_, rfl⟩
  rw [← hfin] at Hl Hrel0
  have Hfe := hide hfin
  clear hrel0 hw3 Hp Hpv Hgf Hsz Hvb F1 HV HG H Hcs hfin
  generalize (.slice (some ⟨w2.heap.size, 0, none⟩) 1 1 : Value) = x5 at Hrel0 ⊢
  go_wp2_with fail
  go_loopg [5] (2 * (remB [(vb, 0, v, 0)]).length + 1) (fun k x wr => VRel w (vb + 1) wb F G' fin k x wr)
  case atStart => exact Hrel0.out
  case round =>
    obtain ⟨A, c, st, F', l', rfl, hrow, hAB, hst, hwt, hfin, hstl, hfr, hF', rfl⟩ := hrel
    clear Hrel0
    rcases st with _ | ⟨⟨g, o, x, j⟩, r⟩
    · rw [remB, List.append_nil] at hfin
      have Hfin := hide (show WPost wb F fin w (.returned (.pointer (some ⟨wb, 0, none⟩))) wr from ⟨F', rfl, by rw [← hfin]; exact hwt, hfr, fun k hk => (hF' k hk).imp id (fun h => by omega)⟩)
      clear hrow hAB hst hwt hfin hstl hfr hF'
      go_wp2
      go_ret
      rw [← Hfe.out]
      exact Hfin.out
    · have hp : PV wr G' g o x := (hst _ List.mem_cons_self).1
      have hjx : j ≤ x.els := (hst _ List.mem_cons_self).2
      have hrn := row_ne_wt hrow hwt
      obtain ⟨ga, cap, cur, he, _, hcur, hnc, hcm, hcs, htk⟩ : ∃ ga cap cur, (Value.slice A ((g, o, x, j) :: r).length c) = .slice (some ⟨ga, 0, none⟩) ((g, o, x, j) :: r).length cap ∧ 0 ≤ ga ∧ wr.heap[ga]? = some (.cells cur 56 (0, 0)) ∧ ((g, o, x, j) :: r).length ≤ cap ∧ cap ≤ maxLen ∧ cur.size = cap * 2 ∧ cur.toList.take (((g, o, x, j) :: r).length * 2) = pcs ((g, o, x, j) :: r) := by
        rcases hrow.2 with ⟨_, h0⟩ | h
        · simp at h0
        · exact h
      injection he with he1 _ he3
      subst he1 he3
      have hrl : ((g, o, x, j) :: r : List Step).length = r.length + 1 := rfl
      have hblk : Blk wr ga 56 cur := hcur
      have hg0 : cur[r.length * 2]? = some (.pointer (some ⟨g, o, none⟩)) := by
        have h1 : (cur.toList.take (((g, o, x, j) :: r).length * 2))[r.length * 2]? = some (.pointer (some ⟨g, o, none⟩)) := by
          rw [htk, pcs, List.getElem?_append_right (by rw [pcs_len]; exact Nat.le_refl _), pcs_len]
          simp
        rw [List.getElem?_take, if_pos (by rw [hrl]; omega), Array.getElem?_toList] at h1
        exact h1
      have hg1 : cur[r.length * 2 + 1]? = some (.int .i64 (j : Int)) := by
        have h1 : (cur.toList.take (((g, o, x, j) :: r).length * 2))[r.length * 2 + 1]? = some (.int .i64 (j : Int)) := by
          rw [htk, pcs, List.getElem?_append_right (by rw [pcs_len]; omega), pcs_len]
          simp
        rw [List.getElem?_take, if_pos (by rw [hrl]; omega), Array.getElem?_toList] at h1
        exact h1
      rw [hrl] at hstl hnc ⊢
      have d0 : wr.cell? ⟨ga, r.length * 2, none⟩ = some (.pointer (some ⟨g, o, none⟩)) := by rw [hblk.cell]; exact hg0
      have d1 : wr.cell? ⟨ga, r.length * 2 + 1, none⟩ = some (.int .i64 (j : Int)) := by rw [hblk.cell]; exact hg1
      have hel := elements_any G' g o x
      have Hel := hide hel
      have Hp := hide hp
      have Hjx := hide hjx
      have Hrow := hide hrow
      have HAB := hide hAB
      have Hst := hide hst
      have Hwt := hide hwt
      have Hfin := hide hfin
      have Hfr := hide hfr
      have HF' := hide hF'
      have Hrn := hide hrn
      have Hblk := hide hblk
      have Hg0 := hide hg0
      have Hg1 := hide hg1
      have Htk := hide htk
      have Hcs := hide hcs
      have hrb : r.length ≤ 1000000000000 := by
        have h1 := congrArg List.length hfin
        rw [List.length_append] at h1
        have h2 := Hl.out
        omega
      clear hel hp hjx hrow hAB hst hwt hfin hfr hF' hrn hblk hg0 hg1 htk hcs hcur hrl
      obtain ⟨ne, hne⟩ : ∃ ne, ne = x.els := ⟨_, rfl⟩
      rw [← hne] at Hel Hjx
      have Hne := hide hne
      clear hne
      by_cases hdone : j = ne
      · have hb : ((j : Int) == (ne : Int)) = true := by rw [beq_iff_eq, hdone]
        have Hd := hide hdone
        clear hdone
        go_upto_region 7 with fail
        go_quiet ((go_at_call 28; exact Calls.quiet_of (Hel.out _ (Hp.out.fr (F := fun _ => False) ((Fr.refl _ _).drewN _) (fun _ _ h => h)))))
        have hpop := row_pop Hblk.out hnc hcm Hcs.out Htk.out
        have hfin := Hfin.out
        rw [remB, restB_done x j (by rw [← Hne.out, Hd.out]; exact Nat.le_refl _), List.nil_append] at hfin
        have hn : Fr (fun _ => False) wr (wr.drewN nq) := (Fr.refl _ _).drewN nq
        have Hnew := hide (show VRel w (vb + 1) wb F G' fin (2 * (remB r).length + r.length) (.slice (some ⟨ga, 0, none⟩) r.length c) (wr.drewN nq) from
          ⟨_, c, r, F', l', rfl, own_fr hpop hn (fun _ _ h => h), HAB.out, fun e he => ⟨((Hst.out e (List.mem_cons_of_mem _ he)).1).fr hn (fun _ _ h => h), (Hst.out e (List.mem_cons_of_mem _ he)).2⟩, Hwt.out.nofr hn, hfin, by omega, Hfr.out.drewN nq, HF'.out, rfl⟩)
        have hm : 2 * (remB r).length + r.length < 2 * (remB ((g, o, x, j) :: r)).length + (r.length + 1) := by
          rw [remB, List.length_append]
          omega
        have Hm := hide hm
        clear hpop hfin hn hm
        go_wp2
        go_roundg (2 * (remB r).length + r.length)
        case measure => exact Hm.out
        case rel => exact Hnew.out
      · have hb : ((j : Int) == (ne : Int)) = false := by rw [beq_eq_false_iff_ne]; omega
        have hlt : j < ne := by have := Hjx.out; omega
        obtain ⟨KA, LA, kc, lc, ha⟩ := Hp.out.at_
        have hk56 : x.kind = 5 ∨ x.kind = 6 := by
          have h1 := Hne.out
          unfold V.els at h1
          by_cases h5 : x.kind = 5
          · exact .inl h5
          · rw [if_neg h5] at h1
            by_cases h6 : x.kind = 6
            · exact .inr h6
            · rw [if_neg h6] at h1; omega
        have hjl : j < x.ls.length ∧ (x.kind = 6 → j < x.ks.length) := by
          have h1 := Hne.out
          unfold V.els at h1
          rcases hk56 with h5 | h6
          · rw [if_pos h5] at h1; exact ⟨by omega, fun h => by omega⟩
          · rw [if_neg (by omega), if_pos h6] at h1; exact ⟨by omega, fun _ => by omega⟩
        obtain ⟨y, hy⟩ : ∃ y, x.ls[j]? = some y := ⟨_, List.getElem?_eq_getElem hjl.1⟩
        obtain ⟨g', o', rfl, hyL⟩ : ∃ g' o', LA = some ⟨g', o', none⟩ ∧ PV wr G' g' (o' + j * 5) y := by
          rcases ha.L with h0 | ⟨g', o', h1, h2⟩
          · rw [h0] at hy; simp at hy
          · exact ⟨g', o', h1, by rw [Nat.mul_comm j 5]; exact h2 j y hy⟩
        have hGF' : ∀ k, G' k → ¬ F' k := fun k hk hf => (HF'.out k hf).elim (HGF.out k hk) (fun h => by have := HGB.out k hk; omega)
        have hel9 := ha.els_le
        rw [← Hne.out] at hel9
        have c0 := ha.c0
        have c3 := ha.c3
        have hkb := ha.k
        have hlb := ha.ll
        have hklb := ha.kl
        obtain ⟨kn, hkn⟩ : ∃ kn, kn = x.kind := ⟨_, rfl⟩
        rw [← hkn] at c0 hkb hk56
        have Hkn := hide hkn
        have Ha := hide ha
        have Hlt := hide hlt
        have Hy := hide hy
        have HyL := hide hyL
        have HGF' := hide hGF'
        have Hjl := hide hjl
        have Hk56 := hide hk56
        clear hdone hlt ha hy hyL hGF' hjl hkn hk56
        go_upto_region 7 with fail
        go_quiet ((go_at_call 28; exact Calls.quiet_of (Hel.out _ (Hp.out.fr (F := fun _ => False) ((Fr.refl _ _).drewN _) (fun _ _ h => h)))))
        go_upto_if 44 with fail
        go_cut [] from 14 to 86 (fun w' => ∃ F5 l5, Wt w' wb F5 l5 ∧ Fr F' wr w' ∧ (∀ k, F5 k → F' k ∨ wr.heap.size ≤ k) ∧ l5 ++ (beginB y ++ (restB y 0 ++ restB x (j + 1))) ++ remB r = fin ∧ l'.length ≤ l5.length)
        case first =>
          by_cases h6 : kn = 6
          · obtain ⟨nm, hnm⟩ : ∃ nm, x.ks[j]? = some nm := ⟨_, List.getElem?_eq_getElem (Hjl.out.2 (by rw [← Hkn.out]; exact h6))⟩
            obtain ⟨gk, ok, rfl, hck⟩ : ∃ gk ok, KA = some ⟨gk, ok, none⟩ ∧ wr.cell? ⟨gk, ok + j, none⟩ = some (sv nm) := by
              rcases Ha.out.K with h0 | ⟨gk, ok, h1, _, h2⟩
              · rw [h0] at hnm; simp at hnm
              · exact ⟨gk, ok, h1, h2 j _ (by rw [List.getElem?_map, hnm]; rfl)⟩
            have hjk : (j : Int) < (x.ks.length : Int) := by have := Hjl.out.2 (by rw [← Hkn.out]; exact h6); omega
            have Hnm := hide hnm
            subst h6
            clear hnm
            go_upto_region 10 with fail
            obtain ⟨w4, hw4⟩ : ∃ w4, w4 = (wr.drewN nq).drew := ⟨_, rfl⟩
            have d0 : w4.cell? ⟨ga, r.length * 2, none⟩ = some (.pointer (some ⟨g, o, none⟩)) := by rw [hw4]; exact d0
            have d1 : w4.cell? ⟨ga, r.length * 2 + 1, none⟩ = some (.int .i64 (j : Int)) := by rw [hw4]; exact d1
            have c3 : w4.cell? ⟨g, o + 3, none⟩ = some (.slice (some ⟨gk, ok, none⟩) x.ks.length kc) := by rw [hw4]; exact c3
            have hck : w4.cell? ⟨gk, ok + j, none⟩ = some (sv nm) := by rw [hw4]; exact hck

            refine wp_region_tail 14 (by kernel_rfl) (by kernel_rfl) ?_
            rw [← hw4]
            simp only [List.take_succ_cons, List.take_zero, List.drop_succ_cons, List.drop_zero]
            iterate 14 still_step
            refine wpStill_nil ?_
            have Hw4 := hide hw4
            clear hw4
            have hfin6 := Hfin.out
            rw [remB, restB_step6 x j y nm (by rw [← Hkn.out]) Hy.out Hnm.out] at hfin6
            have hlen6 := congrArg List.length hfin6
            simp only [List.length_append, textB] at hlen6
            have hl6 := Hl.out
            go_wp2_with fail
            refine (wtext_any wb F' l' nm w4 (by rw [Hw4.out]; exact Hwt.out.nofr (((Fr.refl _ _).drewN nq).drew)) (by omega)).mono ?_
            rintro e w5 ⟨F5, rfl, h5, f5, n5⟩
            have f4 : Fr (fun _ => False) wr w4 := by rw [Hw4.out]; exact ((Fr.refl _ _).drewN nq).drew
            have Hfin2 := hide (show ∃ F5 l5, Wt w5 wb F5 l5 ∧ Fr F' wr w5 ∧ (∀ k, F5 k → F' k ∨ wr.heap.size ≤ k) ∧ l5 ++ (beginB y ++ (restB y 0 ++ restB x (j + 1))) ++ remB r = fin ∧ l'.length ≤ l5.length from
              ⟨F5, _, h5, (f4.mono (F' := F') (fun _ _ h => h.elim)).trans' f5 (fun _ _ h => h), fun k hk => (n5 k hk).imp id (fun h => by have := f4.size; omega), by
                rw [← hfin6]; simp only [List.append_assoc], by rw [List.length_append]; omega⟩)
            clear h5 f5 n5 f4 hfin6 hlen6 hl6 Hw4
            go_wp2_with fail
            go_meet
            case rel => exact Hfin2.out
          · have b6 : ((kn : Int) == 6) = false := by rw [beq_eq_false_iff_ne]; omega
            have Hfin2 := hide (show ∃ F5 l5, Wt (wr.drewN nq) wb F5 l5 ∧ Fr F' wr (wr.drewN nq) ∧ (∀ k, F5 k → F' k ∨ wr.heap.size ≤ k) ∧ l5 ++ (beginB y ++ (restB y 0 ++ restB x (j + 1))) ++ remB r = fin ∧ l'.length ≤ l5.length from
              ⟨F', l', Hwt.out.nofr ((Fr.refl _ _).drewN nq), (Fr.refl _ _).drewN nq, fun k hk => .inl hk, by
                have h1 := Hfin.out
                rw [remB, restB_step5 x j y (by rw [← Hkn.out]; exact Hk56.out.resolve_right h6) Hy.out] at h1
                rw [← h1, List.append_assoc], Nat.le_refl _⟩)
            clear h6
            go_wp2_with fail
            go_meet
            case rel => exact Hfin2.out
        case rest =>
          obtain ⟨F5, l5, hw5, hf5, hn5, hfin5, hl5⟩ := hcut
          have hga : ¬ F' ga := Hrn.out ga (At.some_iff.2 rfl)
          have hblk5 := Hblk.out.fr hf5 hga
          have hp5 := Hp.out.fr hf5 HGF'.out
          have hy5 := HyL.out.fr hf5 HGF'.out
          obtain ⟨KA5, LA5, kc5, lc5, ha5⟩ := hp5.at_
          have d0 : wc.cell? ⟨ga, r.length * 2, none⟩ = some (.pointer (some ⟨g, o, none⟩)) := by rw [hblk5.cell]; exact Hg0.out
          have d1 : wc.cell? ⟨ga, r.length * 2 + 1, none⟩ = some (.int .i64 (j : Int)) := by rw [hblk5.cell]; exact Hg1.out
          have z1 : wc.frozen? ⟨ga, r.length * 2 + 1, none⟩ = false := hblk5.frozen _
          have c4 : wc.cell? ⟨g, o + 4, none⟩ = some (.slice (some ⟨g', o', none⟩) x.ls.length lc) := by
            obtain ⟨cs0, q1, q2, q3⟩ := Hp.out
            have hgl : g < wr.heap.size := World.block_lt_of_cell? wr (a := ⟨g, o, none⟩) Ha.out.c0
            rw [hf5.cell (p := ⟨g, o + 4, none⟩) hgl (HGF'.out g q1)]
            exact Ha.out.c4
          have hjls : (j : Int) < (x.ls.length : Int) := by have := Hjl.out.1; omega
          have hrow5 := row_next (j' := j + 1) hblk5 hnc hcm Hcs.out Htk.out
          have hgF5 : ¬ F5 ga := fun h => (hn5 ga h).elim hga (fun h => by have := Hblk.out.lt; omega)
          have hG5 : ∀ k, G' k → ¬ F5 k := fun k hk hf => (hn5 k hf).elim (HGF'.out k hk) (fun h => by have := HAB.out ga (At.some_iff.2 rfl); have := Hblk.out.lt; have := HGB.out k hk; omega)
          have hGga : ∀ k, G' k → k ≠ ga := fun k hk e => by
            have h1 := HGB.out k hk
            have h2 := HAB.out ga (At.some_iff.2 rfl)
            omega
          have hfin5l := congrArg List.length hfin5
          have hl5b := Hl.out
          simp only [List.length_append] at hfin5l
          have hbB : 1 ≤ (beginB y).length := by
            unfold beginB
            rw [List.length_append]
            have := Lib.uvarint_pos y.kind
            omega
          have hjov : (j : Int) + 1 ≤ 9223372036854775807 := by have := Hlt.out; omega
          have Hblk5 := hide hblk5
          have Hrow5 := hide hrow5
          have Hp5 := hide hp5
          have Hy5 := hide hy5
          have Hw5 := hide hw5
          have Hf5 := hide hf5
          have Hn5 := hide hn5
          have Hfin5 := hide hfin5
          have HgF5 := hide hgF5
          have HG5 := hide hG5
          have HGga := hide hGga
          have HbB := hide hbB
          have Hlen5 := hide (show l5.length + 30 + (beginB y).length ≤ 140737488355328 by omega)
          have Hst5 := hide (show r.length + 2 ≤ l5.length + (beginB y).length by omega)
          clear hblk5 hrow5 hp5 hy5 hw5 hf5 hn5 hfin5 hgF5 hG5 hGga hga ha5 hfin5l hl5b hbB hl5 hstl hb hkb hlb hklb hjov
          clear Hel
          have hjov : (j : Int) ≤ 9223372036854775806 := by have := Hlt.out; omega
          go_upto_region 11 with fail
          go_quiet (fail)
          go_upto_region 13 with fail
          obtain ⟨w6, hw6⟩ : ∃ w6, w6 = (wc.drewN nq).setCell ⟨ga, r.length * 2 + 1, none⟩ (.int .i64 ((j : Int) + 1)) := ⟨_, rfl⟩
          rw [← hw6]
          have f6 : Fr (fun k => k = ga) wc w6 := by rw [hw6]; exact ((Fr.refl _ _).drewN nq).put1 _ _
          have hrow6 : w6.ownsRow 0 56 2 (.slice (some ⟨ga, 0, none⟩) (r.length + 1) c) (r.length + 1) (pcs ((g, o, x, j + 1) :: r)) := by
            have h1 := row_next (j' := j + 1) (Blk.drewN Hblk5.out nq) hnc hcm Hcs.out Htk.out
            rw [show ((j + 1 : Nat) : Int) = (j : Int) + 1 by omega] at h1
            rw [hw6]
            exact h1
          have hw6t := Hw5.out.fr f6 (fun k hk e => by subst e; exact HgF5.out hk)
          have hy6 := Hy5.out.fr f6 HGga.out
          have hp6 := Hp5.out.fr f6 HGga.out
          have hbg := begin_any wb F5 G' l5 g' (o' + j * 5) y w6 hw6t hy6 HG5.out Hlen5.out
          have Hbg := hide hbg
          have F6 := hide f6
          have Hrow6 := hide hrow6
          have Hy6 := hide hy6
          have Hp6 := hide hp6
          clear hw6 f6 hrow6 hw6t hy6 hp6 hbg d0 d1 z1 c4
          go_wp2_with fail
          refine Hbg.out.mono ?_
          rintro e w7 ⟨F7, rfl, h7, f7, n7⟩
          have hrow7 := own_fr Hrow6.out f7 (fun k hk => by
            have h1 : ga = k := by simpa [Value.ownBlock] using hk
            rw [← h1]
            exact HgF5.out)
          have f8 : Fr (fun _ => False) w7 (w7.alloc (.cells #[.pointer (some ⟨g', o' + j * 5, none⟩), .int .i64 0] 56)) := (Fr.refl _ _).alloc _
          have hrow8 := own_fr hrow7 f8 (fun _ _ h => h)
          have hnew8 : ∀ i u, ([.pointer (some ⟨g', o' + j * 5, none⟩), .int .i64 0] : List Value)[i]? = some u → (w7.alloc (.cells #[.pointer (some ⟨g', o' + j * 5, none⟩), .int .i64 0] 56)).cell? ((⟨w7.heap.size, 0, none⟩ : Addr).add i) = some u := by
            intro i u hu
            rw [Addr.add_mid, Nat.zero_add, (Blk.new w7 _ _).cell]
            simpa using hu
          have H7 := hide (show _ ∧ _ ∧ _ from ⟨h7, f7, n7⟩)
          have Hrow8 := hide hrow8
          have Hnew8 := hide hnew8
          have hb48 : (r.length + 1 + 1) * 16 ≤ 140737488355328 := by omega
          have Hb48 := hide hb48
          clear h7 f7 n7 hrow7 f8 hrow8 hnew8 Hbg hb48
          go_wp2_with (refine wpList_append_at _ rfl (.tmp 82) (.tmp 85) 57 rfl 0 56 (.agg #[.pointer none, .int .i64 0]) 2 16 Try.underlying57 infoPl rfl (by decide) (some ⟨ga, 0, none⟩) (r.length + 1) c (pcs ((g, o, x, j + 1) :: r)) rfl Hrow8.out ⟨w7.heap.size, 0, none⟩ 1 1 [.pointer (some ⟨g', o' + j * 5, none⟩), .int .i64 0] rfl rfl Hnew8.out (by simp [Value.oneCell']) (by simp only [maxLen]; omega) Hb48.out (Nat.zero_le _) ?_; intro A9 c9 w9 ho9 hf9 hn9; have Ho9 := hide ho9; have Hf9 := hide hf9; have Hn9 := hide hn9; clear ho9 hf9 hn9)
          have hown : ∀ k, (Value.slice (some ⟨ga, 0, none⟩) (r.length + 1) c).ownBlock = some k → k = ga := fun k hk => by
            have h1 : ga = k := by simpa [Value.ownBlock] using hk
            exact h1.symm
          obtain ⟨h7, f7, n7⟩ := H7.out
          have f8 : Fr (fun _ => False) w7 (w7.alloc (.cells #[.pointer (some ⟨g', o' + j * 5, none⟩), .int .i64 0] 56)) := (Fr.refl _ _).alloc _
          have f9 := Hf9.out.mono (F' := fun k => k = ga) (fun k _ hk => hown k hk)
          have hgaB := HAB.out ga (At.some_iff.2 rfl)
          have hgal := Hblk.out.lt
          have s5 := Hf5.out.size
          have s6 := F6.out.size
          have s7 := f7.size
          have s8 := f8.size
          have hgF7 : ¬ F7 ga := fun h => (n7 ga h).elim HgF5.out (fun h => by omega)
          have hGF7 : ∀ k, G' k → ¬ F7 k := fun k hk hf => (n7 k hf).elim (HG5.out k hk) (fun h => by have := HGB.out k hk; omega)
          have pv69 : ∀ {ge oe : Nat} {ve : V}, PV w6 G' ge oe ve → PV w9 G' ge oe ve := fun h => ((h.fr f7 HG5.out).fr f8 (fun _ _ h => h)).fr f9 HGga.out
          have pv09 : ∀ {ge oe : Nat} {ve : V}, PV wr G' ge oe ve → PV w9 G' ge oe ve := fun h => pv69 ((h.fr Hf5.out HGF'.out).fr F6.out HGga.out)
          have hwt9 : Wt w9 wb F7 (l5 ++ beginB y) := (h7.nofr f8).fr f9 (fun k hk e => by subst e; exact hgF7 hk)
          have hfr9 : Fr F w w9 := by
            have hwB := Hfr.out.size
            refine ((((Hfr.out.trans' Hf5.out (fun i hi h => ?_)).trans' F6.out (fun i hi h => ?_)).trans' f7 (fun i hi h => ?_)).trans' f8 (fun _ _ h => h.elim)).trans' f9 (fun i hi h => ?_)
            · exact (HF'.out i h).elim id (fun h => by omega)
            · exact absurd h (by omega)
            · rcases Hn5.out i h with h | h
              · exact (HF'.out i h).elim id (fun h => by omega)
              · omega
            · exact absurd h (by omega)
          have hF9 : ∀ k, F7 k → F k ∨ vb + 1 ≤ k := fun k hk => by
            rcases n7 k hk with h | h
            · rcases Hn5.out k h with h | h
              · exact HF'.out k h
              · exact .inr (by omega)
            · exact .inr (by omega)
          have Hnew := hide (show VRel w (vb + 1) wb F G' fin (2 * (remB ((g', o' + j * 5, y, 0) :: (g, o, x, j + 1) :: r)).length + (r.length + 1 + 1)) (.slice A9 (r.length + 1 + 1) c9) w9 from by
            refine ⟨A9, c9, (g', o' + j * 5, y, 0) :: (g, o, x, j + 1) :: r, F7, l5 ++ beginB y, rfl, Ho9.out, ?_, ?_, hwt9, ?_, ?_, hfr9, hF9, rfl⟩
            · intro k hk
              have hk2 := at_own (n := r.length + 1 + 1) (c := c9).2 hk
              rcases Hn9.out k hk2 with h | h
              · rw [hown k h]; exact hgaB
              · omega
            · intro e he
              rcases List.mem_cons.1 he with rfl | he
              · exact ⟨pv69 Hy6.out, Nat.zero_le _⟩
              · rcases List.mem_cons.1 he with rfl | he
                · exact ⟨pv69 Hp6.out, by show j + 1 ≤ x.els; rw [← Hne.out]; exact Hlt.out⟩
                · exact ⟨pv09 (Hst.out e (List.mem_cons_of_mem _ he)).1, (Hst.out e (List.mem_cons_of_mem _ he)).2⟩
            · rw [← Hfin5.out, remB, remB]
              simp only [List.append_assoc]
            · rw [List.length_append]
              exact Hst5.out)
          have Hm := hide (show 2 * (remB ((g', o' + j * 5, y, 0) :: (g, o, x, j + 1) :: r)).length + (r.length + 1 + 1) < 2 * (remB ((g, o, x, j) :: r)).length + ((g, o, x, j) :: r : List Step).length from by
            have h1 : (restB y 0).length + (restB x (j + 1)).length + (beginB y).length ≤ (restB x j).length := by
              rcases Hk56.out with h5 | h6
              · rw [restB_step5 x j y (by rw [← Hkn.out]; exact h5) Hy.out]
                simp only [List.length_append]
                omega
              · obtain ⟨nm, hnm⟩ : ∃ nm, x.ks[j]? = some nm := ⟨_, List.getElem?_eq_getElem (Hjl.out.2 (by rw [← Hkn.out]; exact h6))⟩
                rw [restB_step6 x j y nm (by rw [← Hkn.out]; exact h6) Hy.out hnm]
                simp only [List.length_append]
                omega
            have h2 := HbB.out
            simp only [remB, List.length_append, List.length_cons]
            omega)
          clear h7 f7 n7 f8 f9 s5 s6 s7 s8 hgF7 hGF7 hwt9 hfr9 hF9 hown hgaB hgal
          go_roundg (2 * (remB ((g', o' + j * 5, y, 0) :: (g, o, x, j + 1) :: r)).length + (r.length + 1 + 1))
          case measure => exact Hm.out
          case rel => exact Hnew.out
end Go.Proofs.Ytdkmccilnmdhmaa
