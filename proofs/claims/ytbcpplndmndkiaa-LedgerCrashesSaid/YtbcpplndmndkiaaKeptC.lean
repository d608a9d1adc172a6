/- The document's answer for the ledger: Of. -/
import Derived.Test.YtbcpplndmndkiaaKeptB
namespace Go.Proofs.Ytbcpplndmndkiaa
open Go.RowKit

theorem RecsAt.at_ {w : World} {B : Nat} {R : Option Addr} {n c : Nat} {ls : List (List UInt8)} (h : RecsAt w B R n c ls) (j : Nat) (hj : j < n) :
    ∃ g Aj cj, R = some ⟨g, 0, none⟩ ∧ w.cell? ⟨g, j, none⟩ = some (.slice Aj (ls.getD j []).length cj) ∧ Bytes w Aj (ls.getD j []) := by
  obtain ⟨ps, h1, h2, h3, h4, h5⟩ := h
  have hp : ps[j]? = some (ps[j]'(by omega)) := List.getElem?_eq_getElem (by omega)
  have hl : ls[j]? = some (ls.getD j []) := by rw [List.getD_eq_getElem?_getD, List.getElem?_eq_getElem (by omega)]; rfl
  have hb := (h4 j _ _ hp hl).1
  rcases h3.2 with ⟨_, h0⟩ | ⟨g, cap, cur, he, _⟩
  · omega
  · injection he with e1 e2 e3
    subst e1
    refine ⟨g, (ps[j]'(by omega)).1, (ps[j]'(by omega)).2, rfl, ?_, hb.bytes⟩
    have hc := h3.cells (g := g) rfl j (.slice (ps[j]'(by omega)).1 (ls.getD j []).length (ps[j]'(by omega)).2) (by
      unfold recCells
      rw [List.getElem?_zipWith, hp, hl])
    rwa [Addr.add_mid, Nat.zero_add] at hc

theorem buildK1 (s : ByteArray) (w : World) : (Instr.build 34 #[(0, .string s)]).run Try.prog w = .ok (.agg #[.string s, .slice none 0 0]) w := run_build w _ _ _ (by kernel_rfl)

set_option maxRecDepth 100000 in
set_option maxHeartbeats 4000000 in
theorem kof_any (A : Option Addr) (n c : Nat) (s : List UInt8) (B : Nat) (R : Option Addr) (m d : Nat) (ls : List (List UInt8)) (w : World) (hn : s.length = n) (hb : Bytes w A s) (hr : RecsAt w B R m d ls) (hm : m ≤ 1000000000) :
    Calls Try.prog 23 #[.slice A n c, .slice R m d] w (WithPost s ls w) := by
  subst hn
  have hlm := hide (show ls.length = m from hr.choose_spec.2.1)
  have hz : Bytes (w.alloc (.cells #[.string ⟨#[]⟩, .slice none 0 0] 34)) A s := hb.fr (F := fun _ => False) ((Fr.refl _ _).alloc _) (fun _ _ h => h)
  have hst : (convert 22 9 (.slice A s.length c)).run Try.prog (w.alloc (.cells #[.string ⟨#[]⟩, .slice none 0 0] 34)) = .ok (.string ⟨s.toArray⟩) (w.alloc (.cells #[.string ⟨#[]⟩, .slice none 0 0] 34)) :=
    run_str_bytes (P := Try.prog) _ 22 9 5 Try.underlying22 Try.underlying5 Try.underlying9 A s.length c s rfl hz
  have hbk := buildK1 ⟨s.toArray⟩
  have Hb := hide hb
  have Hr := hide hr
  clear hb hr hz
  go_enter Try.func23, Try.ntmps23
  go_wp2_with (refine wpList_build_run rfl 34 #[(0, .tmp 8)] rfl #[(0, .string ⟨s.toArray⟩)] rfl #[.string ⟨s.toArray⟩, .slice none 0 0] (hbk _) ?_)
  obtain ⟨w1, hw1⟩ : ∃ w1, w1 = (w.alloc (.cells #[.string ⟨#[]⟩, .slice none 0 0] 34)).alloc (.cells #[.string ⟨s.toArray⟩, .slice none 0 0] 34) := ⟨_, rfl⟩
  rw [← hw1]
  have hsz : w1.heap.size = w.heap.size + 2 := by rw [hw1]; simp
  have hb0 : Blk w1 w.heap.size 34 #[.string ⟨#[]⟩, .slice none 0 0] := by rw [hw1]; exact (Blk.new _ _ _).alloc _
  have hb1 : Blk w1 (w.heap.size + 1) 34 #[.string ⟨s.toArray⟩, .slice none 0 0] := by
    rw [hw1]
    have h := Blk.new (w.alloc (.cells #[.string ⟨#[]⟩, .slice none 0 0] 34)) 34 #[.string ⟨s.toArray⟩, .slice none 0 0]
    rwa [World.size_alloc] at h
  have hbel : Below w.heap.size w w1 := by rw [hw1]; exact ((Below.refl _ _).alloc (Nat.le_refl _) _).alloc (by simp) _
  have B0 := hide hb0
  have B1 := hide hb1
  have Hbel := hide hbel
  have Hsz := hide hsz
  clear hw1 hb0 hb1 hbel hsz hst hbk
  go_loopw [6] (fun i wr => ∃ j A' c', j ≤ m ∧ i = .int .i64 (j : Nat) ∧ Blk wr w.heap.size 34 #[.string ⟨#[]⟩, .slice none 0 0] ∧ Blk wr (w.heap.size + 1) 34 #[.string ⟨s.toArray⟩, .slice A' j c'] ∧ KRow wr A' j c' (ls.take j) ∧
    (∀ k, At A' k → w.heap.size + 2 ≤ k) ∧ Below w.heap.size w wr ∧ w.heap.size + 2 ≤ wr.heap.size) (fun i _ => m - (intOf i).toNat)
  case atStart => exact ⟨0, none, 0, Nat.zero_le _, rfl, B0.out, B1.out, KRow.nil _, fun k hk => absurd hk At.none_not, Hbel.out, by rw [Hsz.out]; exact Nat.le_refl _⟩
  case round =>
    obtain ⟨j, A', c', hj, rfl, hb0, hb1, hk, hn, hbw, hsz⟩ := hrel
    by_cases hlt : j < m
    · have hrw : RecsAt wr B R m d ls := Hr.out.fr (Fr.of_below hbw) (fun _ h => False.elim h)
      obtain ⟨gR, Aj, cj, hR, hcell, hby⟩ := hrw.at_ j hlt
      subst hR
      have hgR : gR < w.heap.size := by
        obtain ⟨g', Aj', cj', hR', hcell', _⟩ := Hr.out.at_ j hlt
        cases hR'
        exact World.block_lt_of_cell? w _ hcell'
      have hjl : ls[j]? = some (ls.getD j []) := by rw [List.getD_eq_getElem?_getD, List.getElem?_eq_getElem (by rw [hlm.out]; exact hlt)]; rfl
      have hbyw : Bytes w Aj (ls.getD j []) := by
        obtain ⟨g', Aj', cj', hR', hcell', hby'⟩ := Hr.out.at_ j hlt
        cases hR'
        have he := (hbw.cell (p := ⟨gR, j, none⟩) hgR).trans hcell'
        rw [hcell] at he
        injection he with he
        injection he with h1 h2 h3
        rw [h1]
        exact hby'
      obtain ⟨r, hr⟩ : ∃ r, r = ls.getD j [] := ⟨_, rfl⟩
      rw [← hr] at hcell hby hjl hbyw
      have htk : ls.take (j + 1) = ls.take j ++ [r] := by rw [List.take_add_one, hjl]; rfl
      have q1 : wr.cell? ⟨w.heap.size + 1, 1, none⟩ = some (.slice A' j c') := hb1.cell 1
      have HB0 := hide hb0
      have HB1 := hide hb1
      have HK := hide hk
      have HN := hide hn
      have Hbw := hide hbw
      have Htk := hide htk
      have Hby := hide hby
      have Hbyw := hide hbyw
      have Hlk := hide hk.1
      clear hb0 hb1 hk hn hbw htk hby hrw hjl hr hbyw
      go_upto_region 5 with fail
      refine wp_region_planned (fun W => W.cell? ⟨w.heap.size + 1, 1, none⟩ = some (.slice A' j c') ∧ W.cell? ⟨gR, j, none⟩ = some (.slice Aj r.length cj) ∧ Bytes W Aj r) 10 [(false, 0), (false, 1), (false, 2), (false, 3), (false, 4), (false, 5), (false, 6), (true, 7), (true, 8), (false, 9)] (by kernel_rfl) (by kernel_rfl) (fun _ _ d _ _ h => by cases d <;> exact h) ⟨q1, hcell, Hby.out.fr (F := fun _ => False) (Fr.refl _ _).drew (fun _ _ h => h)⟩ ?_
      simp only [steps, List.getElem?_toArray, List.filterMap_cons, List.filterMap_nil, Option.map_some, List.getElem?_cons_zero, List.getElem?_cons_succ, List.drop_succ_cons, List.drop_zero]
      refine wpPlan_read rfl (fun W hW => (by go_simp; try with_reducible rfl)) ?_
      refine wpPlan_read rfl (fun W hW => (by obtain ⟨hW1, hW2, hW3⟩ := hW; go_simp; try with_reducible rfl)) ?_
      refine wpPlan_read rfl (fun W hW => (by go_simp; try with_reducible rfl)) ?_
      refine wpPlan_read rfl (fun W hW => (by go_simp; try with_reducible rfl)) ?_
      refine wpPlan_read (v := .pointer (some ⟨gR, j, none⟩)) rfl (fun W hW => (by go_simp)) ?_
      refine wpPlan_read rfl (fun W hW => (by obtain ⟨hW1, hW2, hW3⟩ := hW; go_simp; try with_reducible rfl)) ?_
      refine wpPlan_read (v := .string ⟨r.toArray⟩) rfl (fun W hW => (by
        have hc := run_str_bytes (P := Try.prog) W 22 9 5 Try.underlying22 Try.underlying5 Try.underlying9 Aj r.length cj r rfl hW.2.2
        clear hW
        go_simp)) ?_
      simp only [Act.put, List.setIfInBounds_toArray, List.set_cons_zero, List.set_cons_succ]
      refine wpPlan_does rfl (fun K hK => ?_)
      refine wp_buildSlice_cell 32 (.tmp 22) rfl (.string ⟨r.toArray⟩) rfl rfl 9 16 (.string ⟨#[]⟩) Try.underlying32 infoStr ?_
      obtain ⟨w2, hw2⟩ : ∃ w2, w2 = wr.drew.alloc (.cells #[.string ⟨r.toArray⟩] 9) := ⟨_, rfl⟩
      rw [← hw2]
      have f2 : Fr (fun _ => False) wr w2 := by rw [hw2]; exact (Fr.refl _ _).drew.alloc _
      have n2 : Blk w2 wr.heap.size 9 #[.string ⟨r.toArray⟩] := by rw [hw2]; exact Blk.new _ _ _
      have hs2 : wr.heap.size < w2.heap.size := by rw [hw2, World.size_alloc]; exact Nat.lt_succ_self _
      have hbw2 : Below w.heap.size w w2 := Hbw.out.trans (f2.below (by omega) (fun _ h => False.elim h))
      refine hK _ _ ⟨(HB1.out.fr f2 (fun h => h)).cell 1, (f2.cell (p := ⟨gR, j, none⟩) (by simp only; omega) (fun h => h)).trans hcell, Hby.out.fr f2 (fun _ _ h => h)⟩ ?_
      clear hK
      simp only [Act.put, List.setIfInBounds_toArray, List.set_cons_zero, List.set_cons_succ]
      refine wpPlan_does rfl (fun K hK => ?_)
      have hsrc2 : Src w2 (some ⟨wr.drew.heap.size, 0, none⟩) 1 [sv r] := ⟨rfl, .inr ⟨wr.heap.size, 0, rfl, n2.range 0 _ (fun j v hv => by rw [Nat.zero_add]; simpa using hv)⟩⟩
      refine wp_append_cells (.tmp 17) (.tmp 23) 32 9 (.string ⟨#[]⟩) 16 rfl Try.underlying32 infoStr rfl A' j c' _ rfl (own_fr HK.out.2 f2 (fun _ _ h => h)) (some ⟨wr.drew.heap.size, 0, none⟩) 1 1 [sv r] rfl hsrc2 (sv_one [r]) (by omega) (by omega) ?_
      intro A3 c3 w3 hown3 hf3 hn3
      have hA1 : ∀ k, At A' k → w.heap.size + 2 ≤ k := HN.out
      have hbw3 : Below w.heap.size w w3 := hbw2.trans (hf3.below (by omega) (fun k hk => by have := hA1 k hk; omega))
      have hb13 : Blk w3 (w.heap.size + 1) 34 #[.string ⟨s.toArray⟩, .slice A' j c'] := (HB1.out.fr f2 (fun h => h)).fr hf3 (fun h => by have := hA1 _ h; omega)
      have hb03 : Blk w3 w.heap.size 34 #[.string ⟨#[]⟩, .slice none 0 0] := (HB0.out.fr f2 (fun h => h)).fr hf3 (fun h => by have := hA1 _ h; omega)
      refine hK _ _ ⟨hb13.cell 1, (hf3.cell (p := ⟨gR, j, none⟩) (by simp only; omega) (fun h => by have := hA1 _ h; simp only at this; omega)).trans ((f2.cell (p := ⟨gR, j, none⟩) (by simp only; omega) (fun h => h)).trans hcell), Hbyw.out.below hbw3 (Nat.le_refl _)⟩ ?_
      clear hK
      simp only [Act.put, List.setIfInBounds_toArray, List.set_cons_zero, List.set_cons_succ]
      refine wpPlan_read rfl (fun W hW => (by go_simp; try with_reducible rfl)) ?_
      refine wpPlan_nil ?_
      simp only [Act.put, List.setIfInBounds_toArray, List.set_cons_zero, List.set_cons_succ]
      have hn3' : ∀ k, At A3 k → w.heap.size + 2 ≤ k := fun k hk => (hn3 k hk).elim (hA1 k) (fun h => by omega)
      have c31 : w3.cell? ⟨w.heap.size + 1, 1, none⟩ = some (.slice A' j c') := hb13.cell 1
      have z31 : w3.frozen? ⟨w.heap.size + 1, 1, none⟩ = false := hb13.frozen 1
      obtain ⟨w5, hw5⟩ : ∃ w5, w5 = w3.setCell ⟨w.heap.size + 1, 1, none⟩ (.slice A3 (j + 1) c3) := ⟨_, rfl⟩
      have hst : Fr (fun k => k = w.heap.size + 1) w3 w5 := by rw [hw5]; exact (Fr.refl _ _).put1 1 _
      have r0 : Blk w5 w.heap.size 34 #[.string ⟨#[]⟩, .slice none 0 0] := hb03.fr hst (fun e => by omega)
      have r1 : Blk w5 (w.heap.size + 1) 34 #[.string ⟨s.toArray⟩, .slice A3 (j + 1) c3] := by rw [hw5]; exact hb13.set_ 1 _
      have r2 : KRow w5 A3 (j + 1) c3 (ls.take (j + 1)) := by
        refine KRow.fr (w := w3) ⟨by rw [List.length_take, hlm.out]; omega, ?_⟩ hst (fun k hk e => by have := hn3' k hk; omega)
        have := hown3
        rw [Htk.out, List.map_append]
        exact this
      have r3 : Below w.heap.size w w5 := hbw3.trans (hst.below (by have := hbw3.size; omega) (fun k hk => by omega))
      have r4 : w.heap.size + 2 ≤ w5.heap.size := by have := hst.size; have := hf3.size; omega
      have Hrel := hide (show _ ∧ _ ∧ _ ∧ _ ∧ _ ∧ _ from ⟨r0, r1, r2, hn3', r3, r4⟩)
      clear r0 r1 r2 r3 r4 hst hn3' hn3 hf3 hown3 hbw3 hb13 hb03 hsrc2 hbw2 hs2 n2 f2 hcell q1 hA1
      go_wp2
      rw [← hw5]
      go_roundw
      case rel => exact ⟨j + 1, A3, c3, by omega, by go_num, Hrel.out⟩
      case measure => simp [intOf]; omega
    · obtain rfl : j = m := by omega
      rw [List.take_of_length_le (by rw [hlm.out]; exact Nat.le_refl _)] at hk
      have q0 : wr.cell? ⟨w.heap.size + 1, 0, none⟩ = some (.string ⟨s.toArray⟩) := hb1.cell 0
      have q1 : wr.cell? ⟨w.heap.size + 1, 1, none⟩ = some (.slice A' j c') := hb1.cell 1
      have p0 : wr.cell? ⟨w.heap.size, 0, none⟩ = some (.string ⟨#[]⟩) := hb0.cell 0
      have p1 : wr.cell? ⟨w.heap.size, 1, none⟩ = some (.slice none 0 0) := hb0.cell 1
      have z0 : wr.frozen? ⟨w.heap.size, 0, none⟩ = false := hb0.frozen 0
      have z1 : wr.frozen? ⟨w.heap.size, 1, none⟩ = false := hb0.frozen 1
      obtain ⟨w5, hw5⟩ : ∃ w5, w5 = (wr.setCell ⟨w.heap.size, 0, none⟩ (.string ⟨s.toArray⟩)).setCell ⟨w.heap.size, 1, none⟩ (.slice A' j c') := ⟨_, rfl⟩
      have hst : Fr (fun k => k = w.heap.size) wr w5 := by rw [hw5]; exact ((Fr.refl _ _).put1 0 _).put1 1 _
      have b5 : Blk w5 w.heap.size 34 #[.string ⟨s.toArray⟩, .slice A' j c'] := by rw [hw5]; exact (hb0.set_ 0 _).set_ 1 _
      have d0 : w5.cell? ⟨w.heap.size, 0, none⟩ = some (.string ⟨s.toArray⟩) := b5.cell 0
      have d1 : w5.cell? ⟨w.heap.size, 1, none⟩ = some (.slice A' j c') := b5.cell 1
      have hlj : ls.length = j := hlm.out
      have hfin : WithPost s ls w (.returned (.agg #[.string ⟨s.toArray⟩, .slice A' j c'])) w5 := by
        refine ⟨A', c', by rw [hlj], ?_, fun k hk => by have := hn k hk; omega, hbw.trans (hst.below (by have := hbw.size; omega) (fun k hk => by omega))⟩
        rw [hlj]
        exact hk.fr hst (fun k hk e => by have := hn k hk; omega)
      have Hfin := hide hfin
      clear hfin hst b5 hlj hb0 hb1 hk hn hbw
      go_wp2
      rw [← hw5]
      exact bodyPost_ret (v := .agg #[.string ⟨s.toArray⟩, .slice A' j c']) (by simp [results, Try.results23, go_sem, d0, d1]) rfl Hfin.out
end Go.Proofs.Ytbcpplndmndkiaa
