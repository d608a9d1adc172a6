/- columbaryref05: one. -/
import Derived.Test.YtfbkmjjcopjoeaaDoorMc
namespace Go.Proofs.YtfbkmjjcopjoeaaDoor
open Go.RowKit

set_option maxRecDepth 100000 in
set_option maxHeartbeats 8000000 in
theorem one_any (s : List UInt8) (i : Nat) (c : UInt8) (w : World) (hi : s[i]? = some c) (hs : s.length ≤ 2000) :
    Calls Tryd.prog 17 #[.string ⟨s.toArray⟩, .int .i64 (i : Int)] w (OPost i (Lx.oneT (s.drop i)) w) := by
  have hil : i < s.length := (List.getElem?_eq_some_iff.1 hi).1
  have hb1 := (Below.refl w.heap.size w).alloc (Nat.le_refl _) (.cells #[.int .u8 0, .string ⟨#[]⟩, .int .i64 0, .int .i64 0] 50)
  have hT := Blk.new w 50 #[.int .u8 0, .string ⟨#[]⟩, .int .i64 0, .int .i64 0]
  obtain ⟨w1, hw1⟩ : ∃ w1, w.alloc (.cells #[.int .u8 0, .string ⟨#[]⟩, .int .i64 0, .int .i64 0] 50) = w1 := ⟨_, rfl⟩
  rw [hw1] at hb1 hT
  have B1 := hide hb1
  have HT := hide hT
  have za := zeroT
  have hsz : (⟨s.toArray⟩ : ByteArray).size = s.length := rfl
  have hget := fun h => ba_get hi h
  obtain ⟨R, hR⟩ : ∃ R, Lx.oneT (s.drop i) = R := ⟨_, rfl⟩
  rw [hR]
  rw [drop_at hi, Lx.oneT] at hR
  have Hla := hide (letter_any c w1)
  have Hda := hide (digit_any c w1)
  clear hb1 hT
  go_enter Tryd.func17, Tryd.ntmps17
  by_cases hL : Lx.isLetter c = true
  case pos =>
    rw [if_pos hL] at hR
    simp only at hR
    obtain ⟨ds, hds⟩ : ∃ ds, (c :: s.drop (i + 1)).takeWhile Lx.isWord = ds := ⟨_, rfl⟩
    rw [hds] at hR
    have hds2 : (s.drop i).takeWhile Lx.isWord = ds := by rw [drop_at hi]; exact hds
    have hdl : ds.length ≤ s.length - i := by rw [← hds2, ← List.length_drop]; exact Lx.takeWhile_le _ _
    have hdget : ∀ (j : Nat), j ≤ ds.length → (j < ds.length ↔ ∃ c, s[i + j]? = some c ∧ Lx.isWord c = true) := fun j hj => by
      have h := tw_iff Lx.isWord (s.drop i) j (by rw [hds2]; exact hj)
      rw [hds2, List.getElem?_drop] at h
      exact h
    have hdt : ds = (s.drop i).take ds.length := by
      have h := Lx.takeWhile_take Lx.isWord (s.drop i)
      rwa [hds2] at h
    have Hdl := hide hdl
    have Hdget := hide hdget
    have Hdt := hide hdt
    have hd1 : 1 ≤ ds.length := by
      have h := (hdget 0 (Nat.zero_le _)).2 ⟨c, by simpa using hi, by simp [Lx.isWord, hL]⟩
      omega
    have HR0 := hide hR
    have Hil := hide hil
    rw [hL] at Hla
    clear hds hds2 hdl hdget hdt hR hL hil
    go_wp2_with (first | (go_at_call 28; refine Hda.out.mono ?_; rintro e w' ⟨rfl, rfl⟩) | (go_at_call 14; refine Hla.out.mono ?_; rintro e w' ⟨rfl, rfl⟩))
    go_loopw [9] (fun kv wr => ∃ j k : Nat, i + j = k ∧ j ≤ ds.length ∧ kv = .int .i64 (k : Int) ∧ w1 = wr) (fun kv _ => s.length - (intOf kv).toNat)
    case atStart => exact ⟨0, i, rfl, Nat.zero_le _, rfl, rfl⟩
    case round =>
    obtain ⟨j, k, hk, hj, rfl, rfl⟩ := hrel
    clear Hla Hda
    have Hk := hide hk
    have hkl : k ≤ s.length := by have := Hdl.out; have := Hil.out; omega
    by_cases hjd : j < ds.length
    case pos =>
      obtain ⟨d, hd, hdw⟩ := (Hdget.out j hj).1 hjd
      rw [hk] at hd
      have hkl' : k < s.length := (List.getElem?_eq_some_iff.1 hd).1
      have hgd := fun h => ba_get hd h
      have Hla := hide (letter_any d w1)
      have Hda := hide (digit_any d w1)
      have Hjd := hide hjd
      clear hd hjd hk
      by_cases hld : Lx.isLetter d = true
      · rw [hld] at Hla
        clear hld hdw
        go_wp2_with (first | (go_at_call 28; refine Hda.out.mono ?_; rintro e w' ⟨rfl, rfl⟩) | (go_at_call 14; refine Hla.out.mono ?_; rintro e w' ⟨rfl, rfl⟩))
        go_roundw
        case rel => exact ⟨j + 1, k + 1, by have := Hk.out; omega, by have := Hjd.out; omega, by go_num, by first | rfl | trivial⟩
        case measure => simp [intOf]; omega
      · have hld' : Lx.isLetter d = false := by simpa using hld
        have hdd : Lx.isDigit d = true := by simpa [Lx.isWord, hld'] using hdw
        rw [hld'] at Hla
        rw [hdd] at Hda
        clear hld hld' hdd hdw
        go_wp2_with (first | (go_at_call 28; refine Hda.out.mono ?_; rintro e w' ⟨rfl, rfl⟩) | (go_at_call 14; refine Hla.out.mono ?_; rintro e w' ⟨rfl, rfl⟩))
        go_roundw
        case rel => exact ⟨j + 1, k + 1, by have := Hk.out; omega, by have := Hjd.out; omega, by go_num, by first | rfl | trivial⟩
        case measure => simp [intOf]; omega
    case neg =>
    obtain ⟨n0, hn0⟩ : ∃ n0, ds.length = n0 := ⟨_, rfl⟩
    obtain rfl : n0 = j := by omega
    have Hn0 := hide hn0
    have hstop : ∀ d, s[k]? = some d → Lx.isLetter d = false ∧ Lx.isDigit d = false := fun d hd => by
      have h := (not_congr (Hdget.out n0 hj)).1 (by omega)
      have h2 : ¬ Lx.isWord d = true := fun hw => h ⟨d, by rw [hk]; exact hd, hw⟩
      simpa [Lx.isWord] using h2
    have hR := HR0.out
    rw [hn0] at hR
    have hsub : (k : Int) - (i : Int) = (n0 : Int) := by omega
    have he1 : (⟨s.toArray⟩ : ByteArray).extract i k = ⟨ds.toArray⟩ := by rw [ba_extract, ← hk, ← List.take_drop, ← hn0, ← Hdt.out]
    have hik : i ≤ k := by omega
    clear hjd hj hk hn0
    rcases Nat.lt_or_ge k s.length with hlt | hge
    · obtain ⟨d, hd⟩ : ∃ d, s[k]? = some d := ⟨_, List.getElem?_eq_getElem hlt⟩
      have hgd := fun h => ba_get hd h
      have hst := hstop d hd
      have Hla := hide (letter_any d w1)
      have Hda := hide (digit_any d w1)
      rw [hst.1] at Hla
      rw [hst.2] at Hda
      clear hd hst hstop
      by_cases h32 : 32 < n0
      case pos =>
        rw [if_pos h32] at hR
        have HR := hide (show Lx.R.bad 0 2 = R from hR)
        clear hR
        have q0 := HT.out
        have y0 := q0.frozen 0
        have x0 := q0.cell 0
        have y1 := q0.frozen 1
        have x1 := q0.cell 1
        have y2 := q0.frozen 2
        have x2 := q0.cell 2
        have y3 := q0.frozen 3
        have x3 := q0.cell 3
        have q1 := q0.set_ 0 (.int .u8 0)
        have q2 := q1.set_ 1 (.string ⟨#[]⟩)
        have q3 := q2.set_ 2 (.int .i64 0)
        have q4 := q3.set_ 3 (.int .i64 0)
        have r0 : ((((w1.setCell ⟨w.heap.size, 0, none⟩ (.int .u8 0)).setCell ⟨w.heap.size, 1, none⟩ (.string ⟨#[]⟩)).setCell ⟨w.heap.size, 2, none⟩ (.int .i64 0)).setCell ⟨w.heap.size, 3, none⟩ (.int .i64 0)).cell? ⟨w.heap.size, 0, none⟩ = some (.int .u8 0) := q4.cell 0
        have r1 : ((((w1.setCell ⟨w.heap.size, 0, none⟩ (.int .u8 0)).setCell ⟨w.heap.size, 1, none⟩ (.string ⟨#[]⟩)).setCell ⟨w.heap.size, 2, none⟩ (.int .i64 0)).setCell ⟨w.heap.size, 3, none⟩ (.int .i64 0)).cell? ⟨w.heap.size, 1, none⟩ = some (.string ⟨#[]⟩) := q4.cell 1
        have r2 : ((((w1.setCell ⟨w.heap.size, 0, none⟩ (.int .u8 0)).setCell ⟨w.heap.size, 1, none⟩ (.string ⟨#[]⟩)).setCell ⟨w.heap.size, 2, none⟩ (.int .i64 0)).setCell ⟨w.heap.size, 3, none⟩ (.int .i64 0)).cell? ⟨w.heap.size, 2, none⟩ = some (.int .i64 0) := q4.cell 2
        have r3 : ((((w1.setCell ⟨w.heap.size, 0, none⟩ (.int .u8 0)).setCell ⟨w.heap.size, 1, none⟩ (.string ⟨#[]⟩)).setCell ⟨w.heap.size, 2, none⟩ (.int .i64 0)).setCell ⟨w.heap.size, 3, none⟩ (.int .i64 0)).cell? ⟨w.heap.size, 3, none⟩ = some (.int .i64 0) := q4.cell 3
        have hbz : Below w.heap.size w ((((w1.setCell ⟨w.heap.size, 0, none⟩ (.int .u8 0)).setCell ⟨w.heap.size, 1, none⟩ (.string ⟨#[]⟩)).setCell ⟨w.heap.size, 2, none⟩ (.int .i64 0)).setCell ⟨w.heap.size, 3, none⟩ (.int .i64 0)) := ((((B1.out.setCell (p := ⟨w.heap.size, 0, none⟩) (Nat.le_refl _) _).setCell (p := ⟨w.heap.size, 1, none⟩) (Nat.le_refl _) _).setCell (p := ⟨w.heap.size, 2, none⟩) (Nat.le_refl _) _).setCell (p := ⟨w.heap.size, 3, none⟩) (Nat.le_refl _) _)
        have Hr := hide (show _ ∧ _ ∧ _ ∧ _ from ⟨r0, r1, r2, r3⟩)
        have Hbz := hide hbz
        clear q0 q1 q2 q3 q4 r0 r1 r2 r3 hbz
        go_wp2_with (first | (go_at_call 28; refine Hda.out.mono ?_; rintro e w' ⟨rfl, rfl⟩) | (go_at_call 14; refine Hla.out.mono ?_; rintro e w' ⟨rfl, rfl⟩))
        obtain ⟨r0, r1, r2, r3⟩ := Hr.out
        refine bodyPost_ret (v := .tuple #[.agg #[.int .u8 0, .string ⟨#[]⟩, .int .i64 0, .int .i64 0], .int .i64 0, .int .i64 (i : Int), .int .i64 2]) (by simp [results, Tryd.results17, go_sem, r0, r1, r2, r3, Result.andThen]) rfl ⟨?_, Hbz.out⟩
        rw [← HR.out]
        exact bad_ret (x := i) (e := 2) (by omega)
      rw [if_neg h32] at hR
      have HR := hide (show Lx.R.ok 1 ds 0 n0 = R from hR)
      clear hR
      have q0 := HT.out
      have y0 := q0.frozen 0
      have x0 := q0.cell 0
      have y1 := q0.frozen 1
      have x1 := q0.cell 1
      have y2 := q0.frozen 2
      have x2 := q0.cell 2
      have y3 := q0.frozen 3
      have x3 := q0.cell 3
      have q1 := q0.set_ 0 (.int .u8 1)
      have q2 := q1.set_ 1 (.string ⟨ds.toArray⟩)
      have q3 := q2.set_ 2 (.int .i64 0)
      have q4 := q3.set_ 3 (.int .i64 0)
      have r0 : ((((w1.setCell ⟨w.heap.size, 0, none⟩ (.int .u8 1)).setCell ⟨w.heap.size, 1, none⟩ (.string ⟨ds.toArray⟩)).setCell ⟨w.heap.size, 2, none⟩ (.int .i64 0)).setCell ⟨w.heap.size, 3, none⟩ (.int .i64 0)).cell? ⟨w.heap.size, 0, none⟩ = some (.int .u8 1) := q4.cell 0
      have r1 : ((((w1.setCell ⟨w.heap.size, 0, none⟩ (.int .u8 1)).setCell ⟨w.heap.size, 1, none⟩ (.string ⟨ds.toArray⟩)).setCell ⟨w.heap.size, 2, none⟩ (.int .i64 0)).setCell ⟨w.heap.size, 3, none⟩ (.int .i64 0)).cell? ⟨w.heap.size, 1, none⟩ = some (.string ⟨ds.toArray⟩) := q4.cell 1
      have r2 : ((((w1.setCell ⟨w.heap.size, 0, none⟩ (.int .u8 1)).setCell ⟨w.heap.size, 1, none⟩ (.string ⟨ds.toArray⟩)).setCell ⟨w.heap.size, 2, none⟩ (.int .i64 0)).setCell ⟨w.heap.size, 3, none⟩ (.int .i64 0)).cell? ⟨w.heap.size, 2, none⟩ = some (.int .i64 0) := q4.cell 2
      have r3 : ((((w1.setCell ⟨w.heap.size, 0, none⟩ (.int .u8 1)).setCell ⟨w.heap.size, 1, none⟩ (.string ⟨ds.toArray⟩)).setCell ⟨w.heap.size, 2, none⟩ (.int .i64 0)).setCell ⟨w.heap.size, 3, none⟩ (.int .i64 0)).cell? ⟨w.heap.size, 3, none⟩ = some (.int .i64 0) := q4.cell 3
      have hbz : Below w.heap.size w ((((w1.setCell ⟨w.heap.size, 0, none⟩ (.int .u8 1)).setCell ⟨w.heap.size, 1, none⟩ (.string ⟨ds.toArray⟩)).setCell ⟨w.heap.size, 2, none⟩ (.int .i64 0)).setCell ⟨w.heap.size, 3, none⟩ (.int .i64 0)) := ((((B1.out.setCell (p := ⟨w.heap.size, 0, none⟩) (Nat.le_refl _) _).setCell (p := ⟨w.heap.size, 1, none⟩) (Nat.le_refl _) _).setCell (p := ⟨w.heap.size, 2, none⟩) (Nat.le_refl _) _).setCell (p := ⟨w.heap.size, 3, none⟩) (Nat.le_refl _) _)
      have Hr := hide (show _ ∧ _ ∧ _ ∧ _ from ⟨r0, r1, r2, r3⟩)
      have Hbz := hide hbz
      clear q0 q1 q2 q3 q4 r0 r1 r2 r3 hbz
      go_wp2_with (first | (go_at_call 28; refine Hda.out.mono ?_; rintro e w' ⟨rfl, rfl⟩) | (go_at_call 14; refine Hla.out.mono ?_; rintro e w' ⟨rfl, rfl⟩))
      obtain ⟨r0, r1, r2, r3⟩ := Hr.out
      refine bodyPost_ret (v := .tuple #[.agg #[.int .u8 1, .string ⟨ds.toArray⟩, .int .i64 0, .int .i64 0], .int .i64 (k : Int), .int .i64 0, .int .i64 0]) (by simp [results, Tryd.results17, go_sem, r0, r1, r2, r3, Result.andThen]) rfl ⟨?_, Hbz.out⟩
      rw [← HR.out]
      exact ok_ret (x := k) (by have := Hk.out; omega)
    · have Hla := hide (letter_any 0 w1)
      have Hda := hide (digit_any 0 w1)
      clear hstop
      by_cases h32 : 32 < n0
      case pos =>
        rw [if_pos h32] at hR
        have HR := hide (show Lx.R.bad 0 2 = R from hR)
        clear hR
        have q0 := HT.out
        have y0 := q0.frozen 0
        have x0 := q0.cell 0
        have y1 := q0.frozen 1
        have x1 := q0.cell 1
        have y2 := q0.frozen 2
        have x2 := q0.cell 2
        have y3 := q0.frozen 3
        have x3 := q0.cell 3
        have q1 := q0.set_ 0 (.int .u8 0)
        have q2 := q1.set_ 1 (.string ⟨#[]⟩)
        have q3 := q2.set_ 2 (.int .i64 0)
        have q4 := q3.set_ 3 (.int .i64 0)
        have r0 : ((((w1.setCell ⟨w.heap.size, 0, none⟩ (.int .u8 0)).setCell ⟨w.heap.size, 1, none⟩ (.string ⟨#[]⟩)).setCell ⟨w.heap.size, 2, none⟩ (.int .i64 0)).setCell ⟨w.heap.size, 3, none⟩ (.int .i64 0)).cell? ⟨w.heap.size, 0, none⟩ = some (.int .u8 0) := q4.cell 0
        have r1 : ((((w1.setCell ⟨w.heap.size, 0, none⟩ (.int .u8 0)).setCell ⟨w.heap.size, 1, none⟩ (.string ⟨#[]⟩)).setCell ⟨w.heap.size, 2, none⟩ (.int .i64 0)).setCell ⟨w.heap.size, 3, none⟩ (.int .i64 0)).cell? ⟨w.heap.size, 1, none⟩ = some (.string ⟨#[]⟩) := q4.cell 1
        have r2 : ((((w1.setCell ⟨w.heap.size, 0, none⟩ (.int .u8 0)).setCell ⟨w.heap.size, 1, none⟩ (.string ⟨#[]⟩)).setCell ⟨w.heap.size, 2, none⟩ (.int .i64 0)).setCell ⟨w.heap.size, 3, none⟩ (.int .i64 0)).cell? ⟨w.heap.size, 2, none⟩ = some (.int .i64 0) := q4.cell 2
        have r3 : ((((w1.setCell ⟨w.heap.size, 0, none⟩ (.int .u8 0)).setCell ⟨w.heap.size, 1, none⟩ (.string ⟨#[]⟩)).setCell ⟨w.heap.size, 2, none⟩ (.int .i64 0)).setCell ⟨w.heap.size, 3, none⟩ (.int .i64 0)).cell? ⟨w.heap.size, 3, none⟩ = some (.int .i64 0) := q4.cell 3
        have hbz : Below w.heap.size w ((((w1.setCell ⟨w.heap.size, 0, none⟩ (.int .u8 0)).setCell ⟨w.heap.size, 1, none⟩ (.string ⟨#[]⟩)).setCell ⟨w.heap.size, 2, none⟩ (.int .i64 0)).setCell ⟨w.heap.size, 3, none⟩ (.int .i64 0)) := ((((B1.out.setCell (p := ⟨w.heap.size, 0, none⟩) (Nat.le_refl _) _).setCell (p := ⟨w.heap.size, 1, none⟩) (Nat.le_refl _) _).setCell (p := ⟨w.heap.size, 2, none⟩) (Nat.le_refl _) _).setCell (p := ⟨w.heap.size, 3, none⟩) (Nat.le_refl _) _)
        have Hr := hide (show _ ∧ _ ∧ _ ∧ _ from ⟨r0, r1, r2, r3⟩)
        have Hbz := hide hbz
        clear q0 q1 q2 q3 q4 r0 r1 r2 r3 hbz
        go_wp2_with (first | (go_at_call 28; refine Hda.out.mono ?_; rintro e w' ⟨rfl, rfl⟩) | (go_at_call 14; refine Hla.out.mono ?_; rintro e w' ⟨rfl, rfl⟩))
        obtain ⟨r0, r1, r2, r3⟩ := Hr.out
        refine bodyPost_ret (v := .tuple #[.agg #[.int .u8 0, .string ⟨#[]⟩, .int .i64 0, .int .i64 0], .int .i64 0, .int .i64 (i : Int), .int .i64 2]) (by simp [results, Tryd.results17, go_sem, r0, r1, r2, r3, Result.andThen]) rfl ⟨?_, Hbz.out⟩
        rw [← HR.out]
        exact bad_ret (x := i) (e := 2) (by omega)
      rw [if_neg h32] at hR
      have HR := hide (show Lx.R.ok 1 ds 0 n0 = R from hR)
      clear hR
      have q0 := HT.out
      have y0 := q0.frozen 0
      have x0 := q0.cell 0
      have y1 := q0.frozen 1
      have x1 := q0.cell 1
      have y2 := q0.frozen 2
      have x2 := q0.cell 2
      have y3 := q0.frozen 3
      have x3 := q0.cell 3
      have q1 := q0.set_ 0 (.int .u8 1)
      have q2 := q1.set_ 1 (.string ⟨ds.toArray⟩)
      have q3 := q2.set_ 2 (.int .i64 0)
      have q4 := q3.set_ 3 (.int .i64 0)
      have r0 : ((((w1.setCell ⟨w.heap.size, 0, none⟩ (.int .u8 1)).setCell ⟨w.heap.size, 1, none⟩ (.string ⟨ds.toArray⟩)).setCell ⟨w.heap.size, 2, none⟩ (.int .i64 0)).setCell ⟨w.heap.size, 3, none⟩ (.int .i64 0)).cell? ⟨w.heap.size, 0, none⟩ = some (.int .u8 1) := q4.cell 0
      have r1 : ((((w1.setCell ⟨w.heap.size, 0, none⟩ (.int .u8 1)).setCell ⟨w.heap.size, 1, none⟩ (.string ⟨ds.toArray⟩)).setCell ⟨w.heap.size, 2, none⟩ (.int .i64 0)).setCell ⟨w.heap.size, 3, none⟩ (.int .i64 0)).cell? ⟨w.heap.size, 1, none⟩ = some (.string ⟨ds.toArray⟩) := q4.cell 1
      have r2 : ((((w1.setCell ⟨w.heap.size, 0, none⟩ (.int .u8 1)).setCell ⟨w.heap.size, 1, none⟩ (.string ⟨ds.toArray⟩)).setCell ⟨w.heap.size, 2, none⟩ (.int .i64 0)).setCell ⟨w.heap.size, 3, none⟩ (.int .i64 0)).cell? ⟨w.heap.size, 2, none⟩ = some (.int .i64 0) := q4.cell 2
      have r3 : ((((w1.setCell ⟨w.heap.size, 0, none⟩ (.int .u8 1)).setCell ⟨w.heap.size, 1, none⟩ (.string ⟨ds.toArray⟩)).setCell ⟨w.heap.size, 2, none⟩ (.int .i64 0)).setCell ⟨w.heap.size, 3, none⟩ (.int .i64 0)).cell? ⟨w.heap.size, 3, none⟩ = some (.int .i64 0) := q4.cell 3
      have hbz : Below w.heap.size w ((((w1.setCell ⟨w.heap.size, 0, none⟩ (.int .u8 1)).setCell ⟨w.heap.size, 1, none⟩ (.string ⟨ds.toArray⟩)).setCell ⟨w.heap.size, 2, none⟩ (.int .i64 0)).setCell ⟨w.heap.size, 3, none⟩ (.int .i64 0)) := ((((B1.out.setCell (p := ⟨w.heap.size, 0, none⟩) (Nat.le_refl _) _).setCell (p := ⟨w.heap.size, 1, none⟩) (Nat.le_refl _) _).setCell (p := ⟨w.heap.size, 2, none⟩) (Nat.le_refl _) _).setCell (p := ⟨w.heap.size, 3, none⟩) (Nat.le_refl _) _)
      have Hr := hide (show _ ∧ _ ∧ _ ∧ _ from ⟨r0, r1, r2, r3⟩)
      have Hbz := hide hbz
      clear q0 q1 q2 q3 q4 r0 r1 r2 r3 hbz
      go_wp2_with (first | (go_at_call 28; refine Hda.out.mono ?_; rintro e w' ⟨rfl, rfl⟩) | (go_at_call 14; refine Hla.out.mono ?_; rintro e w' ⟨rfl, rfl⟩))
      obtain ⟨r0, r1, r2, r3⟩ := Hr.out
      refine bodyPost_ret (v := .tuple #[.agg #[.int .u8 1, .string ⟨ds.toArray⟩, .int .i64 0, .int .i64 0], .int .i64 (k : Int), .int .i64 0, .int .i64 0]) (by simp [results, Tryd.results17, go_sem, r0, r1, r2, r3, Result.andThen]) rfl ⟨?_, Hbz.out⟩
      rw [← HR.out]
      exact ok_ret (x := k) (by have := Hk.out; omega)
  have hL' : Lx.isLetter c = false := by simpa using hL
  rw [hL'] at Hla
  by_cases h45 : c = 45
  case pos =>
    rw [if_neg hL, if_pos h45] at hR
    have hx45 : ((c.toNat : Int) == 45) = true := by rw [h45]; rfl
    have hnum : Calls Tryd.prog 29 #[.string ⟨s.toArray⟩, .int .i64 (i : Int)] w1 (OPost i R w1) := by
      have h := number_any s i 1 c w1 hi hs (.inl ⟨h45, rfl⟩)
      rwa [drop_at hi, hR] at h
    have Hnum := hide hnum
    clear hnum hR
    clear hi hL hL' h45
    go_wp2_with (first | (go_at_call 28; refine Hda.out.mono ?_; rintro e w' ⟨rfl, rfl⟩) | (go_at_call 14; refine Hla.out.mono ?_; rintro e w' ⟨rfl, rfl⟩))
    refine Hnum.out.mono ?_
    rintro e w2 ⟨rfl, hb2⟩
    have B2 := hide (B1.out.trans (hb2.mono B1.out.size))
    have HT2 := hide (HT.out.below hb2 HT.out.lt)
    clear hb2
    cases R with
    | ok kd t n len =>
      simp only [oneV, tokV]
      have q0 := HT2.out
      have y0 := q0.frozen 0
      have x0 := q0.cell 0
      have y1 := q0.frozen 1
      have x1 := q0.cell 1
      have y2 := q0.frozen 2
      have x2 := q0.cell 2
      have y3 := q0.frozen 3
      have x3 := q0.cell 3
      have q1 := q0.set_ 0 (.int .u8 (kd : Int))
      have q2 := q1.set_ 1 (.string ⟨t.toArray⟩)
      have q3 := q2.set_ 2 (.int .i64 n)
      have q4 := q3.set_ 3 (.int .i64 0)
      have r0 : ((((w2.setCell ⟨w.heap.size, 0, none⟩ (.int .u8 (kd : Int))).setCell ⟨w.heap.size, 1, none⟩ (.string ⟨t.toArray⟩)).setCell ⟨w.heap.size, 2, none⟩ (.int .i64 n)).setCell ⟨w.heap.size, 3, none⟩ (.int .i64 0)).cell? ⟨w.heap.size, 0, none⟩ = some (.int .u8 (kd : Int)) := q4.cell 0
      have r1 : ((((w2.setCell ⟨w.heap.size, 0, none⟩ (.int .u8 (kd : Int))).setCell ⟨w.heap.size, 1, none⟩ (.string ⟨t.toArray⟩)).setCell ⟨w.heap.size, 2, none⟩ (.int .i64 n)).setCell ⟨w.heap.size, 3, none⟩ (.int .i64 0)).cell? ⟨w.heap.size, 1, none⟩ = some (.string ⟨t.toArray⟩) := q4.cell 1
      have r2 : ((((w2.setCell ⟨w.heap.size, 0, none⟩ (.int .u8 (kd : Int))).setCell ⟨w.heap.size, 1, none⟩ (.string ⟨t.toArray⟩)).setCell ⟨w.heap.size, 2, none⟩ (.int .i64 n)).setCell ⟨w.heap.size, 3, none⟩ (.int .i64 0)).cell? ⟨w.heap.size, 2, none⟩ = some (.int .i64 n) := q4.cell 2
      have r3 : ((((w2.setCell ⟨w.heap.size, 0, none⟩ (.int .u8 (kd : Int))).setCell ⟨w.heap.size, 1, none⟩ (.string ⟨t.toArray⟩)).setCell ⟨w.heap.size, 2, none⟩ (.int .i64 n)).setCell ⟨w.heap.size, 3, none⟩ (.int .i64 0)).cell? ⟨w.heap.size, 3, none⟩ = some (.int .i64 0) := q4.cell 3
      have hbz : Below w.heap.size w ((((w2.setCell ⟨w.heap.size, 0, none⟩ (.int .u8 (kd : Int))).setCell ⟨w.heap.size, 1, none⟩ (.string ⟨t.toArray⟩)).setCell ⟨w.heap.size, 2, none⟩ (.int .i64 n)).setCell ⟨w.heap.size, 3, none⟩ (.int .i64 0)) := ((((B2.out.setCell (p := ⟨w.heap.size, 0, none⟩) (Nat.le_refl _) _).setCell (p := ⟨w.heap.size, 1, none⟩) (Nat.le_refl _) _).setCell (p := ⟨w.heap.size, 2, none⟩) (Nat.le_refl _) _).setCell (p := ⟨w.heap.size, 3, none⟩) (Nat.le_refl _) _)
      have Hr := hide (show _ ∧ _ ∧ _ ∧ _ from ⟨r0, r1, r2, r3⟩)
      have Hbz := hide hbz
      clear q0 q1 q2 q3 q4 r0 r1 r2 r3 hbz
      go_wp2
      obtain ⟨r0, r1, r2, r3⟩ := Hr.out
      refine bodyPost_ret (v := .tuple #[.agg #[.int .u8 (kd : Int), .string ⟨t.toArray⟩, .int .i64 n, .int .i64 0], .int .i64 ((i + len : Nat) : Int), .int .i64 0, .int .i64 0]) (by simp [results, Tryd.results17, go_sem, r0, r1, r2, r3, Result.andThen]) rfl ⟨?_, Hbz.out⟩
      rfl
    | bad off e =>
      simp only [oneV, tokV]
      have q0 := HT2.out
      have y0 := q0.frozen 0
      have x0 := q0.cell 0
      have y1 := q0.frozen 1
      have x1 := q0.cell 1
      have y2 := q0.frozen 2
      have x2 := q0.cell 2
      have y3 := q0.frozen 3
      have x3 := q0.cell 3
      have q1 := q0.set_ 0 (.int .u8 0)
      have q2 := q1.set_ 1 (.string ⟨#[]⟩)
      have q3 := q2.set_ 2 (.int .i64 0)
      have q4 := q3.set_ 3 (.int .i64 0)
      have r0 : ((((w2.setCell ⟨w.heap.size, 0, none⟩ (.int .u8 0)).setCell ⟨w.heap.size, 1, none⟩ (.string ⟨#[]⟩)).setCell ⟨w.heap.size, 2, none⟩ (.int .i64 0)).setCell ⟨w.heap.size, 3, none⟩ (.int .i64 0)).cell? ⟨w.heap.size, 0, none⟩ = some (.int .u8 0) := q4.cell 0
      have r1 : ((((w2.setCell ⟨w.heap.size, 0, none⟩ (.int .u8 0)).setCell ⟨w.heap.size, 1, none⟩ (.string ⟨#[]⟩)).setCell ⟨w.heap.size, 2, none⟩ (.int .i64 0)).setCell ⟨w.heap.size, 3, none⟩ (.int .i64 0)).cell? ⟨w.heap.size, 1, none⟩ = some (.string ⟨#[]⟩) := q4.cell 1
      have r2 : ((((w2.setCell ⟨w.heap.size, 0, none⟩ (.int .u8 0)).setCell ⟨w.heap.size, 1, none⟩ (.string ⟨#[]⟩)).setCell ⟨w.heap.size, 2, none⟩ (.int .i64 0)).setCell ⟨w.heap.size, 3, none⟩ (.int .i64 0)).cell? ⟨w.heap.size, 2, none⟩ = some (.int .i64 0) := q4.cell 2
      have r3 : ((((w2.setCell ⟨w.heap.size, 0, none⟩ (.int .u8 0)).setCell ⟨w.heap.size, 1, none⟩ (.string ⟨#[]⟩)).setCell ⟨w.heap.size, 2, none⟩ (.int .i64 0)).setCell ⟨w.heap.size, 3, none⟩ (.int .i64 0)).cell? ⟨w.heap.size, 3, none⟩ = some (.int .i64 0) := q4.cell 3
      have hbz : Below w.heap.size w ((((w2.setCell ⟨w.heap.size, 0, none⟩ (.int .u8 0)).setCell ⟨w.heap.size, 1, none⟩ (.string ⟨#[]⟩)).setCell ⟨w.heap.size, 2, none⟩ (.int .i64 0)).setCell ⟨w.heap.size, 3, none⟩ (.int .i64 0)) := ((((B2.out.setCell (p := ⟨w.heap.size, 0, none⟩) (Nat.le_refl _) _).setCell (p := ⟨w.heap.size, 1, none⟩) (Nat.le_refl _) _).setCell (p := ⟨w.heap.size, 2, none⟩) (Nat.le_refl _) _).setCell (p := ⟨w.heap.size, 3, none⟩) (Nat.le_refl _) _)
      have Hr := hide (show _ ∧ _ ∧ _ ∧ _ from ⟨r0, r1, r2, r3⟩)
      have Hbz := hide hbz
      clear q0 q1 q2 q3 q4 r0 r1 r2 r3 hbz
      go_wp2
      obtain ⟨r0, r1, r2, r3⟩ := Hr.out
      refine bodyPost_ret (v := .tuple #[.agg #[.int .u8 0, .string ⟨#[]⟩, .int .i64 0, .int .i64 0], .int .i64 0, .int .i64 ((i + off : Nat) : Int), .int .i64 (e : Int)]) (by simp [results, Tryd.results17, go_sem, r0, r1, r2, r3, Result.andThen]) rfl ⟨?_, Hbz.out⟩
      rfl
  have hx45 : ((c.toNat : Int) == 45) = false := by rw [beq_eq_false_iff_ne]; exact fun h => h45 (UInt8.toNat_inj.1 (show c.toNat = 45 by omega))
  by_cases hD : Lx.isDigit c = true
  case pos =>
    rw [if_neg hL, if_neg h45, if_pos hD] at hR
    rw [hD] at Hda
    have hnum : Calls Tryd.prog 29 #[.string ⟨s.toArray⟩, .int .i64 (i : Int)] w1 (OPost i R w1) := by
      have h := number_any s i 0 c w1 hi hs (.inr ⟨h45, rfl⟩)
      rwa [drop_at hi, hR] at h
    have Hnum := hide hnum
    clear hnum hR
    clear hi hL hL' h45 hD
    go_wp2_with (first | (go_at_call 28; refine Hda.out.mono ?_; rintro e w' ⟨rfl, rfl⟩) | (go_at_call 14; refine Hla.out.mono ?_; rintro e w' ⟨rfl, rfl⟩))
    refine Hnum.out.mono ?_
    rintro e w2 ⟨rfl, hb2⟩
    have B2 := hide (B1.out.trans (hb2.mono B1.out.size))
    have HT2 := hide (HT.out.below hb2 HT.out.lt)
    clear hb2
    cases R with
    | ok kd t n len =>
      simp only [oneV, tokV]
      have q0 := HT2.out
      have y0 := q0.frozen 0
      have x0 := q0.cell 0
      have y1 := q0.frozen 1
      have x1 := q0.cell 1
      have y2 := q0.frozen 2
      have x2 := q0.cell 2
      have y3 := q0.frozen 3
      have x3 := q0.cell 3
      have q1 := q0.set_ 0 (.int .u8 (kd : Int))
      have q2 := q1.set_ 1 (.string ⟨t.toArray⟩)
      have q3 := q2.set_ 2 (.int .i64 n)
      have q4 := q3.set_ 3 (.int .i64 0)
      have r0 : ((((w2.setCell ⟨w.heap.size, 0, none⟩ (.int .u8 (kd : Int))).setCell ⟨w.heap.size, 1, none⟩ (.string ⟨t.toArray⟩)).setCell ⟨w.heap.size, 2, none⟩ (.int .i64 n)).setCell ⟨w.heap.size, 3, none⟩ (.int .i64 0)).cell? ⟨w.heap.size, 0, none⟩ = some (.int .u8 (kd : Int)) := q4.cell 0
      have r1 : ((((w2.setCell ⟨w.heap.size, 0, none⟩ (.int .u8 (kd : Int))).setCell ⟨w.heap.size, 1, none⟩ (.string ⟨t.toArray⟩)).setCell ⟨w.heap.size, 2, none⟩ (.int .i64 n)).setCell ⟨w.heap.size, 3, none⟩ (.int .i64 0)).cell? ⟨w.heap.size, 1, none⟩ = some (.string ⟨t.toArray⟩) := q4.cell 1
      have r2 : ((((w2.setCell ⟨w.heap.size, 0, none⟩ (.int .u8 (kd : Int))).setCell ⟨w.heap.size, 1, none⟩ (.string ⟨t.toArray⟩)).setCell ⟨w.heap.size, 2, none⟩ (.int .i64 n)).setCell ⟨w.heap.size, 3, none⟩ (.int .i64 0)).cell? ⟨w.heap.size, 2, none⟩ = some (.int .i64 n) := q4.cell 2
      have r3 : ((((w2.setCell ⟨w.heap.size, 0, none⟩ (.int .u8 (kd : Int))).setCell ⟨w.heap.size, 1, none⟩ (.string ⟨t.toArray⟩)).setCell ⟨w.heap.size, 2, none⟩ (.int .i64 n)).setCell ⟨w.heap.size, 3, none⟩ (.int .i64 0)).cell? ⟨w.heap.size, 3, none⟩ = some (.int .i64 0) := q4.cell 3
      have hbz : Below w.heap.size w ((((w2.setCell ⟨w.heap.size, 0, none⟩ (.int .u8 (kd : Int))).setCell ⟨w.heap.size, 1, none⟩ (.string ⟨t.toArray⟩)).setCell ⟨w.heap.size, 2, none⟩ (.int .i64 n)).setCell ⟨w.heap.size, 3, none⟩ (.int .i64 0)) := ((((B2.out.setCell (p := ⟨w.heap.size, 0, none⟩) (Nat.le_refl _) _).setCell (p := ⟨w.heap.size, 1, none⟩) (Nat.le_refl _) _).setCell (p := ⟨w.heap.size, 2, none⟩) (Nat.le_refl _) _).setCell (p := ⟨w.heap.size, 3, none⟩) (Nat.le_refl _) _)
      have Hr := hide (show _ ∧ _ ∧ _ ∧ _ from ⟨r0, r1, r2, r3⟩)
      have Hbz := hide hbz
      clear q0 q1 q2 q3 q4 r0 r1 r2 r3 hbz
      go_wp2
      obtain ⟨r0, r1, r2, r3⟩ := Hr.out
      refine bodyPost_ret (v := .tuple #[.agg #[.int .u8 (kd : Int), .string ⟨t.toArray⟩, .int .i64 n, .int .i64 0], .int .i64 ((i + len : Nat) : Int), .int .i64 0, .int .i64 0]) (by simp [results, Tryd.results17, go_sem, r0, r1, r2, r3, Result.andThen]) rfl ⟨?_, Hbz.out⟩
      rfl
    | bad off e =>
      simp only [oneV, tokV]
      have q0 := HT2.out
      have y0 := q0.frozen 0
      have x0 := q0.cell 0
      have y1 := q0.frozen 1
      have x1 := q0.cell 1
      have y2 := q0.frozen 2
      have x2 := q0.cell 2
      have y3 := q0.frozen 3
      have x3 := q0.cell 3
      have q1 := q0.set_ 0 (.int .u8 0)
      have q2 := q1.set_ 1 (.string ⟨#[]⟩)
      have q3 := q2.set_ 2 (.int .i64 0)
      have q4 := q3.set_ 3 (.int .i64 0)
      have r0 : ((((w2.setCell ⟨w.heap.size, 0, none⟩ (.int .u8 0)).setCell ⟨w.heap.size, 1, none⟩ (.string ⟨#[]⟩)).setCell ⟨w.heap.size, 2, none⟩ (.int .i64 0)).setCell ⟨w.heap.size, 3, none⟩ (.int .i64 0)).cell? ⟨w.heap.size, 0, none⟩ = some (.int .u8 0) := q4.cell 0
      have r1 : ((((w2.setCell ⟨w.heap.size, 0, none⟩ (.int .u8 0)).setCell ⟨w.heap.size, 1, none⟩ (.string ⟨#[]⟩)).setCell ⟨w.heap.size, 2, none⟩ (.int .i64 0)).setCell ⟨w.heap.size, 3, none⟩ (.int .i64 0)).cell? ⟨w.heap.size, 1, none⟩ = some (.string ⟨#[]⟩) := q4.cell 1
      have r2 : ((((w2.setCell ⟨w.heap.size, 0, none⟩ (.int .u8 0)).setCell ⟨w.heap.size, 1, none⟩ (.string ⟨#[]⟩)).setCell ⟨w.heap.size, 2, none⟩ (.int .i64 0)).setCell ⟨w.heap.size, 3, none⟩ (.int .i64 0)).cell? ⟨w.heap.size, 2, none⟩ = some (.int .i64 0) := q4.cell 2
      have r3 : ((((w2.setCell ⟨w.heap.size, 0, none⟩ (.int .u8 0)).setCell ⟨w.heap.size, 1, none⟩ (.string ⟨#[]⟩)).setCell ⟨w.heap.size, 2, none⟩ (.int .i64 0)).setCell ⟨w.heap.size, 3, none⟩ (.int .i64 0)).cell? ⟨w.heap.size, 3, none⟩ = some (.int .i64 0) := q4.cell 3
      have hbz : Below w.heap.size w ((((w2.setCell ⟨w.heap.size, 0, none⟩ (.int .u8 0)).setCell ⟨w.heap.size, 1, none⟩ (.string ⟨#[]⟩)).setCell ⟨w.heap.size, 2, none⟩ (.int .i64 0)).setCell ⟨w.heap.size, 3, none⟩ (.int .i64 0)) := ((((B2.out.setCell (p := ⟨w.heap.size, 0, none⟩) (Nat.le_refl _) _).setCell (p := ⟨w.heap.size, 1, none⟩) (Nat.le_refl _) _).setCell (p := ⟨w.heap.size, 2, none⟩) (Nat.le_refl _) _).setCell (p := ⟨w.heap.size, 3, none⟩) (Nat.le_refl _) _)
      have Hr := hide (show _ ∧ _ ∧ _ ∧ _ from ⟨r0, r1, r2, r3⟩)
      have Hbz := hide hbz
      clear q0 q1 q2 q3 q4 r0 r1 r2 r3 hbz
      go_wp2
      obtain ⟨r0, r1, r2, r3⟩ := Hr.out
      refine bodyPost_ret (v := .tuple #[.agg #[.int .u8 0, .string ⟨#[]⟩, .int .i64 0, .int .i64 0], .int .i64 0, .int .i64 ((i + off : Nat) : Int), .int .i64 (e : Int)]) (by simp [results, Tryd.results17, go_sem, r0, r1, r2, r3, Result.andThen]) rfl ⟨?_, Hbz.out⟩
      rfl
  have hD' : Lx.isDigit c = false := by simpa using hD
  rw [hD'] at Hda
  by_cases h34 : c = 34
  case pos =>
    rw [if_neg hL, if_neg h45, if_neg hD, if_pos h34] at hR
    have hx34 : ((c.toNat : Int) == 34) = true := by rw [h34]; rfl
    have Htx := hide (show Calls Tryd.prog 30 #[.string ⟨s.toArray⟩, .int .i64 (i : Int)] w1 (OPost i R w1) from by
      have h := text5_any s i w1 hil hs
      rwa [hR] at h)
    clear hi hL hL' h45 hD hD' h34 hR
    go_wp2_with (first | (go_at_call 28; refine Hda.out.mono ?_; rintro e w' ⟨rfl, rfl⟩) | (go_at_call 14; refine Hla.out.mono ?_; rintro e w' ⟨rfl, rfl⟩))
    refine Htx.out.mono ?_
    rintro e w2 ⟨rfl, hb2⟩
    have B2 := hide (B1.out.trans (hb2.mono B1.out.size))
    have HT2 := hide (HT.out.below hb2 HT.out.lt)
    clear hb2
    cases R with
    | ok kd t n len =>
      simp only [oneV, tokV]
      have q0 := HT2.out
      have y0 := q0.frozen 0
      have x0 := q0.cell 0
      have y1 := q0.frozen 1
      have x1 := q0.cell 1
      have y2 := q0.frozen 2
      have x2 := q0.cell 2
      have y3 := q0.frozen 3
      have x3 := q0.cell 3
      have q1 := q0.set_ 0 (.int .u8 (kd : Int))
      have q2 := q1.set_ 1 (.string ⟨t.toArray⟩)
      have q3 := q2.set_ 2 (.int .i64 n)
      have q4 := q3.set_ 3 (.int .i64 0)
      have r0 : ((((w2.setCell ⟨w.heap.size, 0, none⟩ (.int .u8 (kd : Int))).setCell ⟨w.heap.size, 1, none⟩ (.string ⟨t.toArray⟩)).setCell ⟨w.heap.size, 2, none⟩ (.int .i64 n)).setCell ⟨w.heap.size, 3, none⟩ (.int .i64 0)).cell? ⟨w.heap.size, 0, none⟩ = some (.int .u8 (kd : Int)) := q4.cell 0
      have r1 : ((((w2.setCell ⟨w.heap.size, 0, none⟩ (.int .u8 (kd : Int))).setCell ⟨w.heap.size, 1, none⟩ (.string ⟨t.toArray⟩)).setCell ⟨w.heap.size, 2, none⟩ (.int .i64 n)).setCell ⟨w.heap.size, 3, none⟩ (.int .i64 0)).cell? ⟨w.heap.size, 1, none⟩ = some (.string ⟨t.toArray⟩) := q4.cell 1
      have r2 : ((((w2.setCell ⟨w.heap.size, 0, none⟩ (.int .u8 (kd : Int))).setCell ⟨w.heap.size, 1, none⟩ (.string ⟨t.toArray⟩)).setCell ⟨w.heap.size, 2, none⟩ (.int .i64 n)).setCell ⟨w.heap.size, 3, none⟩ (.int .i64 0)).cell? ⟨w.heap.size, 2, none⟩ = some (.int .i64 n) := q4.cell 2
      have r3 : ((((w2.setCell ⟨w.heap.size, 0, none⟩ (.int .u8 (kd : Int))).setCell ⟨w.heap.size, 1, none⟩ (.string ⟨t.toArray⟩)).setCell ⟨w.heap.size, 2, none⟩ (.int .i64 n)).setCell ⟨w.heap.size, 3, none⟩ (.int .i64 0)).cell? ⟨w.heap.size, 3, none⟩ = some (.int .i64 0) := q4.cell 3
      have hbz : Below w.heap.size w ((((w2.setCell ⟨w.heap.size, 0, none⟩ (.int .u8 (kd : Int))).setCell ⟨w.heap.size, 1, none⟩ (.string ⟨t.toArray⟩)).setCell ⟨w.heap.size, 2, none⟩ (.int .i64 n)).setCell ⟨w.heap.size, 3, none⟩ (.int .i64 0)) := ((((B2.out.setCell (p := ⟨w.heap.size, 0, none⟩) (Nat.le_refl _) _).setCell (p := ⟨w.heap.size, 1, none⟩) (Nat.le_refl _) _).setCell (p := ⟨w.heap.size, 2, none⟩) (Nat.le_refl _) _).setCell (p := ⟨w.heap.size, 3, none⟩) (Nat.le_refl _) _)
      have Hr := hide (show _ ∧ _ ∧ _ ∧ _ from ⟨r0, r1, r2, r3⟩)
      have Hbz := hide hbz
      clear q0 q1 q2 q3 q4 r0 r1 r2 r3 hbz
      go_wp2
      obtain ⟨r0, r1, r2, r3⟩ := Hr.out
      refine bodyPost_ret (v := .tuple #[.agg #[.int .u8 (kd : Int), .string ⟨t.toArray⟩, .int .i64 n, .int .i64 0], .int .i64 ((i + len : Nat) : Int), .int .i64 0, .int .i64 0]) (by simp [results, Tryd.results17, go_sem, r0, r1, r2, r3, Result.andThen]) rfl ⟨?_, Hbz.out⟩
      rfl
    | bad off e =>
      simp only [oneV, tokV]
      have q0 := HT2.out
      have y0 := q0.frozen 0
      have x0 := q0.cell 0
      have y1 := q0.frozen 1
      have x1 := q0.cell 1
      have y2 := q0.frozen 2
      have x2 := q0.cell 2
      have y3 := q0.frozen 3
      have x3 := q0.cell 3
      have q1 := q0.set_ 0 (.int .u8 0)
      have q2 := q1.set_ 1 (.string ⟨#[]⟩)
      have q3 := q2.set_ 2 (.int .i64 0)
      have q4 := q3.set_ 3 (.int .i64 0)
      have r0 : ((((w2.setCell ⟨w.heap.size, 0, none⟩ (.int .u8 0)).setCell ⟨w.heap.size, 1, none⟩ (.string ⟨#[]⟩)).setCell ⟨w.heap.size, 2, none⟩ (.int .i64 0)).setCell ⟨w.heap.size, 3, none⟩ (.int .i64 0)).cell? ⟨w.heap.size, 0, none⟩ = some (.int .u8 0) := q4.cell 0
      have r1 : ((((w2.setCell ⟨w.heap.size, 0, none⟩ (.int .u8 0)).setCell ⟨w.heap.size, 1, none⟩ (.string ⟨#[]⟩)).setCell ⟨w.heap.size, 2, none⟩ (.int .i64 0)).setCell ⟨w.heap.size, 3, none⟩ (.int .i64 0)).cell? ⟨w.heap.size, 1, none⟩ = some (.string ⟨#[]⟩) := q4.cell 1
      have r2 : ((((w2.setCell ⟨w.heap.size, 0, none⟩ (.int .u8 0)).setCell ⟨w.heap.size, 1, none⟩ (.string ⟨#[]⟩)).setCell ⟨w.heap.size, 2, none⟩ (.int .i64 0)).setCell ⟨w.heap.size, 3, none⟩ (.int .i64 0)).cell? ⟨w.heap.size, 2, none⟩ = some (.int .i64 0) := q4.cell 2
      have r3 : ((((w2.setCell ⟨w.heap.size, 0, none⟩ (.int .u8 0)).setCell ⟨w.heap.size, 1, none⟩ (.string ⟨#[]⟩)).setCell ⟨w.heap.size, 2, none⟩ (.int .i64 0)).setCell ⟨w.heap.size, 3, none⟩ (.int .i64 0)).cell? ⟨w.heap.size, 3, none⟩ = some (.int .i64 0) := q4.cell 3
      have hbz : Below w.heap.size w ((((w2.setCell ⟨w.heap.size, 0, none⟩ (.int .u8 0)).setCell ⟨w.heap.size, 1, none⟩ (.string ⟨#[]⟩)).setCell ⟨w.heap.size, 2, none⟩ (.int .i64 0)).setCell ⟨w.heap.size, 3, none⟩ (.int .i64 0)) := ((((B2.out.setCell (p := ⟨w.heap.size, 0, none⟩) (Nat.le_refl _) _).setCell (p := ⟨w.heap.size, 1, none⟩) (Nat.le_refl _) _).setCell (p := ⟨w.heap.size, 2, none⟩) (Nat.le_refl _) _).setCell (p := ⟨w.heap.size, 3, none⟩) (Nat.le_refl _) _)
      have Hr := hide (show _ ∧ _ ∧ _ ∧ _ from ⟨r0, r1, r2, r3⟩)
      have Hbz := hide hbz
      clear q0 q1 q2 q3 q4 r0 r1 r2 r3 hbz
      go_wp2
      obtain ⟨r0, r1, r2, r3⟩ := Hr.out
      refine bodyPost_ret (v := .tuple #[.agg #[.int .u8 0, .string ⟨#[]⟩, .int .i64 0, .int .i64 0], .int .i64 0, .int .i64 ((i + off : Nat) : Int), .int .i64 (e : Int)]) (by simp [results, Tryd.results17, go_sem, r0, r1, r2, r3, Result.andThen]) rfl ⟨?_, Hbz.out⟩
      rfl
  have hx34 : ((c.toNat : Int) == 34) = false := by rw [beq_eq_false_iff_ne]; exact fun h => h34 (UInt8.toNat_inj.1 (show c.toNat = 34 by omega))
  by_cases h46 : c = 46
  case pos =>
    rw [if_neg (by rw [hL']; simp), if_neg h45, if_neg (by rw [hD']; simp), if_neg h34, if_pos h46] at hR
    have hx46 : ((c.toNat : Int) == 46) = true := by rw [h46]; rfl
    obtain ⟨m, hm⟩ : ∃ m, s.length - i = m := ⟨_, rfl⟩
    have hsub : (s.length : Int) - (i : Int) = (m : Int) := by omega
    clear hi h46
    by_cases hlen : i + 3 ≤ s.length
    case neg =>
      have hno : ¬ (s.drop (i + 1)).take 2 = [46, 46] := fun h => by have h2 := congrArg List.length h; simp at h2; omega
      rw [if_neg hno] at hR
      have hge : decide ((3 : Int) ≤ (m : Int)) = false := decide_eq_false (by omega)
      clear hno hlen hm
      have HR := hide (show Lx.R.bad 0 4 = R from hR)
      clear hR
      have q0 := HT.out
      have y0 := q0.frozen 0
      have x0 := q0.cell 0
      have y1 := q0.frozen 1
      have x1 := q0.cell 1
      have y2 := q0.frozen 2
      have x2 := q0.cell 2
      have y3 := q0.frozen 3
      have x3 := q0.cell 3
      have q1 := q0.set_ 0 (.int .u8 0)
      have q2 := q1.set_ 1 (.string ⟨#[]⟩)
      have q3 := q2.set_ 2 (.int .i64 0)
      have q4 := q3.set_ 3 (.int .i64 0)
      have r0 : ((((w1.setCell ⟨w.heap.size, 0, none⟩ (.int .u8 0)).setCell ⟨w.heap.size, 1, none⟩ (.string ⟨#[]⟩)).setCell ⟨w.heap.size, 2, none⟩ (.int .i64 0)).setCell ⟨w.heap.size, 3, none⟩ (.int .i64 0)).cell? ⟨w.heap.size, 0, none⟩ = some (.int .u8 0) := q4.cell 0
      have r1 : ((((w1.setCell ⟨w.heap.size, 0, none⟩ (.int .u8 0)).setCell ⟨w.heap.size, 1, none⟩ (.string ⟨#[]⟩)).setCell ⟨w.heap.size, 2, none⟩ (.int .i64 0)).setCell ⟨w.heap.size, 3, none⟩ (.int .i64 0)).cell? ⟨w.heap.size, 1, none⟩ = some (.string ⟨#[]⟩) := q4.cell 1
      have r2 : ((((w1.setCell ⟨w.heap.size, 0, none⟩ (.int .u8 0)).setCell ⟨w.heap.size, 1, none⟩ (.string ⟨#[]⟩)).setCell ⟨w.heap.size, 2, none⟩ (.int .i64 0)).setCell ⟨w.heap.size, 3, none⟩ (.int .i64 0)).cell? ⟨w.heap.size, 2, none⟩ = some (.int .i64 0) := q4.cell 2
      have r3 : ((((w1.setCell ⟨w.heap.size, 0, none⟩ (.int .u8 0)).setCell ⟨w.heap.size, 1, none⟩ (.string ⟨#[]⟩)).setCell ⟨w.heap.size, 2, none⟩ (.int .i64 0)).setCell ⟨w.heap.size, 3, none⟩ (.int .i64 0)).cell? ⟨w.heap.size, 3, none⟩ = some (.int .i64 0) := q4.cell 3
      have hbz : Below w.heap.size w ((((w1.setCell ⟨w.heap.size, 0, none⟩ (.int .u8 0)).setCell ⟨w.heap.size, 1, none⟩ (.string ⟨#[]⟩)).setCell ⟨w.heap.size, 2, none⟩ (.int .i64 0)).setCell ⟨w.heap.size, 3, none⟩ (.int .i64 0)) := ((((B1.out.setCell (p := ⟨w.heap.size, 0, none⟩) (Nat.le_refl _) _).setCell (p := ⟨w.heap.size, 1, none⟩) (Nat.le_refl _) _).setCell (p := ⟨w.heap.size, 2, none⟩) (Nat.le_refl _) _).setCell (p := ⟨w.heap.size, 3, none⟩) (Nat.le_refl _) _)
      have Hr := hide (show _ ∧ _ ∧ _ ∧ _ from ⟨r0, r1, r2, r3⟩)
      have Hbz := hide hbz
      clear q0 q1 q2 q3 q4 r0 r1 r2 r3 hbz
      go_wp2_with (first | (go_at_call 28; refine Hda.out.mono ?_; rintro e w' ⟨rfl, rfl⟩) | (go_at_call 14; refine Hla.out.mono ?_; rintro e w' ⟨rfl, rfl⟩))
      obtain ⟨r0, r1, r2, r3⟩ := Hr.out
      refine bodyPost_ret (v := .tuple #[.agg #[.int .u8 0, .string ⟨#[]⟩, .int .i64 0, .int .i64 0], .int .i64 0, .int .i64 (i : Int), .int .i64 4]) (by simp [results, Tryd.results17, go_sem, r0, r1, r2, r3, Result.andThen]) rfl ⟨?_, Hbz.out⟩
      rw [← HR.out]
      exact bad_ret (x := i) (e := 4) (by omega)
    obtain ⟨d1, hd1⟩ : ∃ d, s[i + 1]? = some d := ⟨_, List.getElem?_eq_getElem (by omega)⟩
    obtain ⟨d2, hd2⟩ : ∃ d, s[i + 2]? = some d := ⟨_, List.getElem?_eq_getElem (by omega)⟩
    have htk : (s.drop (i + 1)).take 2 = [d1, d2] := by rw [drop_at hd1, drop_at hd2]; rfl
    rw [htk] at hR
    have hge : decide ((3 : Int) ≤ (m : Int)) = true := decide_eq_true (by omega)
    have hg1 := fun h => ba_get hd1 h
    have hg2 := fun h => ba_get hd2 h
    have Hlen := hide hlen
    have hlt1 : i + 1 < s.length := by omega
    have hlt2 : i + 2 < s.length := by omega
    clear hd1 hd2 htk hm hlen
    by_cases hq1 : d1 = 46
    case neg =>
      have hy1 : ((d1.toNat : Int) == 46) = false := by rw [beq_eq_false_iff_ne]; exact fun h => hq1 (UInt8.toNat_inj.1 (show d1.toNat = 46 by omega))
      rw [if_neg (fun h => hq1 (by injection h))] at hR
      have HR := hide (show Lx.R.bad 0 4 = R from hR)
      clear hR
      clear hq1
      have q0 := HT.out
      have y0 := q0.frozen 0
      have x0 := q0.cell 0
      have y1 := q0.frozen 1
      have x1 := q0.cell 1
      have y2 := q0.frozen 2
      have x2 := q0.cell 2
      have y3 := q0.frozen 3
      have x3 := q0.cell 3
      have q1 := q0.set_ 0 (.int .u8 0)
      have q2 := q1.set_ 1 (.string ⟨#[]⟩)
      have q3 := q2.set_ 2 (.int .i64 0)
      have q4 := q3.set_ 3 (.int .i64 0)
      have r0 : ((((w1.setCell ⟨w.heap.size, 0, none⟩ (.int .u8 0)).setCell ⟨w.heap.size, 1, none⟩ (.string ⟨#[]⟩)).setCell ⟨w.heap.size, 2, none⟩ (.int .i64 0)).setCell ⟨w.heap.size, 3, none⟩ (.int .i64 0)).cell? ⟨w.heap.size, 0, none⟩ = some (.int .u8 0) := q4.cell 0
      have r1 : ((((w1.setCell ⟨w.heap.size, 0, none⟩ (.int .u8 0)).setCell ⟨w.heap.size, 1, none⟩ (.string ⟨#[]⟩)).setCell ⟨w.heap.size, 2, none⟩ (.int .i64 0)).setCell ⟨w.heap.size, 3, none⟩ (.int .i64 0)).cell? ⟨w.heap.size, 1, none⟩ = some (.string ⟨#[]⟩) := q4.cell 1
      have r2 : ((((w1.setCell ⟨w.heap.size, 0, none⟩ (.int .u8 0)).setCell ⟨w.heap.size, 1, none⟩ (.string ⟨#[]⟩)).setCell ⟨w.heap.size, 2, none⟩ (.int .i64 0)).setCell ⟨w.heap.size, 3, none⟩ (.int .i64 0)).cell? ⟨w.heap.size, 2, none⟩ = some (.int .i64 0) := q4.cell 2
      have r3 : ((((w1.setCell ⟨w.heap.size, 0, none⟩ (.int .u8 0)).setCell ⟨w.heap.size, 1, none⟩ (.string ⟨#[]⟩)).setCell ⟨w.heap.size, 2, none⟩ (.int .i64 0)).setCell ⟨w.heap.size, 3, none⟩ (.int .i64 0)).cell? ⟨w.heap.size, 3, none⟩ = some (.int .i64 0) := q4.cell 3
      have hbz : Below w.heap.size w ((((w1.setCell ⟨w.heap.size, 0, none⟩ (.int .u8 0)).setCell ⟨w.heap.size, 1, none⟩ (.string ⟨#[]⟩)).setCell ⟨w.heap.size, 2, none⟩ (.int .i64 0)).setCell ⟨w.heap.size, 3, none⟩ (.int .i64 0)) := ((((B1.out.setCell (p := ⟨w.heap.size, 0, none⟩) (Nat.le_refl _) _).setCell (p := ⟨w.heap.size, 1, none⟩) (Nat.le_refl _) _).setCell (p := ⟨w.heap.size, 2, none⟩) (Nat.le_refl _) _).setCell (p := ⟨w.heap.size, 3, none⟩) (Nat.le_refl _) _)
      have Hr := hide (show _ ∧ _ ∧ _ ∧ _ from ⟨r0, r1, r2, r3⟩)
      have Hbz := hide hbz
      clear q0 q1 q2 q3 q4 r0 r1 r2 r3 hbz
      go_wp2_with (first | (go_at_call 28; refine Hda.out.mono ?_; rintro e w' ⟨rfl, rfl⟩) | (go_at_call 14; refine Hla.out.mono ?_; rintro e w' ⟨rfl, rfl⟩))
      obtain ⟨r0, r1, r2, r3⟩ := Hr.out
      refine bodyPost_ret (v := .tuple #[.agg #[.int .u8 0, .string ⟨#[]⟩, .int .i64 0, .int .i64 0], .int .i64 0, .int .i64 (i : Int), .int .i64 4]) (by simp [results, Tryd.results17, go_sem, r0, r1, r2, r3, Result.andThen]) rfl ⟨?_, Hbz.out⟩
      rw [← HR.out]
      exact bad_ret (x := i) (e := 4) (by omega)
    have hy1 : ((d1.toNat : Int) == 46) = true := by rw [hq1]; rfl
    by_cases hq2 : d2 = 46
    case neg =>
      have hy2 : ((d2.toNat : Int) == 46) = false := by rw [beq_eq_false_iff_ne]; exact fun h => hq2 (UInt8.toNat_inj.1 (show d2.toNat = 46 by omega))
      rw [if_neg (fun h => hq2 (by injection h with _ h; injection h))] at hR
      have HR := hide (show Lx.R.bad 0 4 = R from hR)
      clear hR
      clear hq1 hq2
      have q0 := HT.out
      have y0 := q0.frozen 0
      have x0 := q0.cell 0
      have y1 := q0.frozen 1
      have x1 := q0.cell 1
      have y2 := q0.frozen 2
      have x2 := q0.cell 2
      have y3 := q0.frozen 3
      have x3 := q0.cell 3
      have q1 := q0.set_ 0 (.int .u8 0)
      have q2 := q1.set_ 1 (.string ⟨#[]⟩)
      have q3 := q2.set_ 2 (.int .i64 0)
      have q4 := q3.set_ 3 (.int .i64 0)
      have r0 : ((((w1.setCell ⟨w.heap.size, 0, none⟩ (.int .u8 0)).setCell ⟨w.heap.size, 1, none⟩ (.string ⟨#[]⟩)).setCell ⟨w.heap.size, 2, none⟩ (.int .i64 0)).setCell ⟨w.heap.size, 3, none⟩ (.int .i64 0)).cell? ⟨w.heap.size, 0, none⟩ = some (.int .u8 0) := q4.cell 0
      have r1 : ((((w1.setCell ⟨w.heap.size, 0, none⟩ (.int .u8 0)).setCell ⟨w.heap.size, 1, none⟩ (.string ⟨#[]⟩)).setCell ⟨w.heap.size, 2, none⟩ (.int .i64 0)).setCell ⟨w.heap.size, 3, none⟩ (.int .i64 0)).cell? ⟨w.heap.size, 1, none⟩ = some (.string ⟨#[]⟩) := q4.cell 1
      have r2 : ((((w1.setCell ⟨w.heap.size, 0, none⟩ (.int .u8 0)).setCell ⟨w.heap.size, 1, none⟩ (.string ⟨#[]⟩)).setCell ⟨w.heap.size, 2, none⟩ (.int .i64 0)).setCell ⟨w.heap.size, 3, none⟩ (.int .i64 0)).cell? ⟨w.heap.size, 2, none⟩ = some (.int .i64 0) := q4.cell 2
      have r3 : ((((w1.setCell ⟨w.heap.size, 0, none⟩ (.int .u8 0)).setCell ⟨w.heap.size, 1, none⟩ (.string ⟨#[]⟩)).setCell ⟨w.heap.size, 2, none⟩ (.int .i64 0)).setCell ⟨w.heap.size, 3, none⟩ (.int .i64 0)).cell? ⟨w.heap.size, 3, none⟩ = some (.int .i64 0) := q4.cell 3
      have hbz : Below w.heap.size w ((((w1.setCell ⟨w.heap.size, 0, none⟩ (.int .u8 0)).setCell ⟨w.heap.size, 1, none⟩ (.string ⟨#[]⟩)).setCell ⟨w.heap.size, 2, none⟩ (.int .i64 0)).setCell ⟨w.heap.size, 3, none⟩ (.int .i64 0)) := ((((B1.out.setCell (p := ⟨w.heap.size, 0, none⟩) (Nat.le_refl _) _).setCell (p := ⟨w.heap.size, 1, none⟩) (Nat.le_refl _) _).setCell (p := ⟨w.heap.size, 2, none⟩) (Nat.le_refl _) _).setCell (p := ⟨w.heap.size, 3, none⟩) (Nat.le_refl _) _)
      have Hr := hide (show _ ∧ _ ∧ _ ∧ _ from ⟨r0, r1, r2, r3⟩)
      have Hbz := hide hbz
      clear q0 q1 q2 q3 q4 r0 r1 r2 r3 hbz
      go_wp2_with (first | (go_at_call 28; refine Hda.out.mono ?_; rintro e w' ⟨rfl, rfl⟩) | (go_at_call 14; refine Hla.out.mono ?_; rintro e w' ⟨rfl, rfl⟩))
      obtain ⟨r0, r1, r2, r3⟩ := Hr.out
      refine bodyPost_ret (v := .tuple #[.agg #[.int .u8 0, .string ⟨#[]⟩, .int .i64 0, .int .i64 0], .int .i64 0, .int .i64 (i : Int), .int .i64 4]) (by simp [results, Tryd.results17, go_sem, r0, r1, r2, r3, Result.andThen]) rfl ⟨?_, Hbz.out⟩
      rw [← HR.out]
      exact bad_ret (x := i) (e := 4) (by omega)
    have hy2 : ((d2.toNat : Int) == 46) = true := by rw [hq2]; rfl
    rw [if_pos (by rw [hq1, hq2])] at hR
    have HR := hide (show Lx.R.ok 4 [46, 46, 46] 0 3 = R from hR)
    clear hR
    clear hq1 hq2
    have q0 := HT.out
    have y0 := q0.frozen 0
    have x0 := q0.cell 0
    have y1 := q0.frozen 1
    have x1 := q0.cell 1
    have y2 := q0.frozen 2
    have x2 := q0.cell 2
    have y3 := q0.frozen 3
    have x3 := q0.cell 3
    have q1 := q0.set_ 0 (.int .u8 4)
    have q2 := q1.set_ 1 (.string ⟨#[46, 46, 46]⟩)
    have q3 := q2.set_ 2 (.int .i64 0)
    have q4 := q3.set_ 3 (.int .i64 0)
    have r0 : ((((w1.setCell ⟨w.heap.size, 0, none⟩ (.int .u8 4)).setCell ⟨w.heap.size, 1, none⟩ (.string ⟨#[46, 46, 46]⟩)).setCell ⟨w.heap.size, 2, none⟩ (.int .i64 0)).setCell ⟨w.heap.size, 3, none⟩ (.int .i64 0)).cell? ⟨w.heap.size, 0, none⟩ = some (.int .u8 4) := q4.cell 0
    have r1 : ((((w1.setCell ⟨w.heap.size, 0, none⟩ (.int .u8 4)).setCell ⟨w.heap.size, 1, none⟩ (.string ⟨#[46, 46, 46]⟩)).setCell ⟨w.heap.size, 2, none⟩ (.int .i64 0)).setCell ⟨w.heap.size, 3, none⟩ (.int .i64 0)).cell? ⟨w.heap.size, 1, none⟩ = some (.string ⟨#[46, 46, 46]⟩) := q4.cell 1
    have r2 : ((((w1.setCell ⟨w.heap.size, 0, none⟩ (.int .u8 4)).setCell ⟨w.heap.size, 1, none⟩ (.string ⟨#[46, 46, 46]⟩)).setCell ⟨w.heap.size, 2, none⟩ (.int .i64 0)).setCell ⟨w.heap.size, 3, none⟩ (.int .i64 0)).cell? ⟨w.heap.size, 2, none⟩ = some (.int .i64 0) := q4.cell 2
    have r3 : ((((w1.setCell ⟨w.heap.size, 0, none⟩ (.int .u8 4)).setCell ⟨w.heap.size, 1, none⟩ (.string ⟨#[46, 46, 46]⟩)).setCell ⟨w.heap.size, 2, none⟩ (.int .i64 0)).setCell ⟨w.heap.size, 3, none⟩ (.int .i64 0)).cell? ⟨w.heap.size, 3, none⟩ = some (.int .i64 0) := q4.cell 3
    have hbz : Below w.heap.size w ((((w1.setCell ⟨w.heap.size, 0, none⟩ (.int .u8 4)).setCell ⟨w.heap.size, 1, none⟩ (.string ⟨#[46, 46, 46]⟩)).setCell ⟨w.heap.size, 2, none⟩ (.int .i64 0)).setCell ⟨w.heap.size, 3, none⟩ (.int .i64 0)) := ((((B1.out.setCell (p := ⟨w.heap.size, 0, none⟩) (Nat.le_refl _) _).setCell (p := ⟨w.heap.size, 1, none⟩) (Nat.le_refl _) _).setCell (p := ⟨w.heap.size, 2, none⟩) (Nat.le_refl _) _).setCell (p := ⟨w.heap.size, 3, none⟩) (Nat.le_refl _) _)
    have Hr := hide (show _ ∧ _ ∧ _ ∧ _ from ⟨r0, r1, r2, r3⟩)
    have Hbz := hide hbz
    clear q0 q1 q2 q3 q4 r0 r1 r2 r3 hbz
    go_wp2_with (first | (go_at_call 28; refine Hda.out.mono ?_; rintro e w' ⟨rfl, rfl⟩) | (go_at_call 14; refine Hla.out.mono ?_; rintro e w' ⟨rfl, rfl⟩))
    obtain ⟨r0, r1, r2, r3⟩ := Hr.out
    refine bodyPost_ret (v := .tuple #[.agg #[.int .u8 4, .string ⟨#[46, 46, 46]⟩, .int .i64 0, .int .i64 0], .int .i64 ((i : Int) + 3), .int .i64 0, .int .i64 0]) (by simp [results, Tryd.results17, go_sem, r0, r1, r2, r3, Result.andThen]) rfl ⟨?_, Hbz.out⟩
    rw [← HR.out]
    exact ok_ret (x := i + 3) (t := [46, 46, 46]) rfl
  have hx46 : ((c.toNat : Int) == 46) = false := by rw [beq_eq_false_iff_ne]; exact fun h => h46 (UInt8.toNat_inj.1 (show c.toNat = 46 by omega))
  rw [if_neg (by rw [hL']; simp), if_neg h45, if_neg (by rw [hD']; simp), if_neg h34, if_neg h46] at hR
  have h1c := ba_one hi
  by_cases g33 : c = 33
  case pos =>
    have hz33 : ((c.toNat : Int) == 33) = true := by rw [g33]; rfl
    rw [if_pos (by rw [g33]; rfl)] at hR
    have HR := hide (show Lx.R.ok 4 [c] 0 1 = R from hR)
    clear hR
    clear g33
    clear hi
    have q0 := HT.out
    have y0 := q0.frozen 0
    have x0 := q0.cell 0
    have y1 := q0.frozen 1
    have x1 := q0.cell 1
    have y2 := q0.frozen 2
    have x2 := q0.cell 2
    have y3 := q0.frozen 3
    have x3 := q0.cell 3
    have q1 := q0.set_ 0 (.int .u8 4)
    have q2 := q1.set_ 1 (.string ⟨[c].toArray⟩)
    have q3 := q2.set_ 2 (.int .i64 0)
    have q4 := q3.set_ 3 (.int .i64 0)
    have r0 : ((((w1.setCell ⟨w.heap.size, 0, none⟩ (.int .u8 4)).setCell ⟨w.heap.size, 1, none⟩ (.string ⟨[c].toArray⟩)).setCell ⟨w.heap.size, 2, none⟩ (.int .i64 0)).setCell ⟨w.heap.size, 3, none⟩ (.int .i64 0)).cell? ⟨w.heap.size, 0, none⟩ = some (.int .u8 4) := q4.cell 0
    have r1 : ((((w1.setCell ⟨w.heap.size, 0, none⟩ (.int .u8 4)).setCell ⟨w.heap.size, 1, none⟩ (.string ⟨[c].toArray⟩)).setCell ⟨w.heap.size, 2, none⟩ (.int .i64 0)).setCell ⟨w.heap.size, 3, none⟩ (.int .i64 0)).cell? ⟨w.heap.size, 1, none⟩ = some (.string ⟨[c].toArray⟩) := q4.cell 1
    have r2 : ((((w1.setCell ⟨w.heap.size, 0, none⟩ (.int .u8 4)).setCell ⟨w.heap.size, 1, none⟩ (.string ⟨[c].toArray⟩)).setCell ⟨w.heap.size, 2, none⟩ (.int .i64 0)).setCell ⟨w.heap.size, 3, none⟩ (.int .i64 0)).cell? ⟨w.heap.size, 2, none⟩ = some (.int .i64 0) := q4.cell 2
    have r3 : ((((w1.setCell ⟨w.heap.size, 0, none⟩ (.int .u8 4)).setCell ⟨w.heap.size, 1, none⟩ (.string ⟨[c].toArray⟩)).setCell ⟨w.heap.size, 2, none⟩ (.int .i64 0)).setCell ⟨w.heap.size, 3, none⟩ (.int .i64 0)).cell? ⟨w.heap.size, 3, none⟩ = some (.int .i64 0) := q4.cell 3
    have hbz : Below w.heap.size w ((((w1.setCell ⟨w.heap.size, 0, none⟩ (.int .u8 4)).setCell ⟨w.heap.size, 1, none⟩ (.string ⟨[c].toArray⟩)).setCell ⟨w.heap.size, 2, none⟩ (.int .i64 0)).setCell ⟨w.heap.size, 3, none⟩ (.int .i64 0)) := ((((B1.out.setCell (p := ⟨w.heap.size, 0, none⟩) (Nat.le_refl _) _).setCell (p := ⟨w.heap.size, 1, none⟩) (Nat.le_refl _) _).setCell (p := ⟨w.heap.size, 2, none⟩) (Nat.le_refl _) _).setCell (p := ⟨w.heap.size, 3, none⟩) (Nat.le_refl _) _)
    have Hr := hide (show _ ∧ _ ∧ _ ∧ _ from ⟨r0, r1, r2, r3⟩)
    have Hbz := hide hbz
    clear q0 q1 q2 q3 q4 r0 r1 r2 r3 hbz
    go_wp2_with (first | (go_at_call 28; refine Hda.out.mono ?_; rintro e w' ⟨rfl, rfl⟩) | (go_at_call 14; refine Hla.out.mono ?_; rintro e w' ⟨rfl, rfl⟩))
    obtain ⟨r0, r1, r2, r3⟩ := Hr.out
    refine bodyPost_ret (v := .tuple #[.agg #[.int .u8 4, .string ⟨[c].toArray⟩, .int .i64 0, .int .i64 0], .int .i64 ((i : Int) + 1), .int .i64 0, .int .i64 0]) (by simp [results, Tryd.results17, go_sem, r0, r1, r2, r3, Result.andThen]) rfl ⟨?_, Hbz.out⟩
    rw [← HR.out]
    exact ok_ret (x := i + 1) rfl
  have hz33 : ((c.toNat : Int) == 33) = false := by rw [beq_eq_false_iff_ne]; exact fun h => g33 (UInt8.toNat_inj.1 (show c.toNat = 33 by omega))
  by_cases g36 : c = 36
  case pos =>
    have hz36 : ((c.toNat : Int) == 36) = true := by rw [g36]; rfl
    rw [if_pos (by rw [g36]; rfl)] at hR
    have HR := hide (show Lx.R.ok 4 [c] 0 1 = R from hR)
    clear hR
    clear g33 g36
    clear hi
    have q0 := HT.out
    have y0 := q0.frozen 0
    have x0 := q0.cell 0
    have y1 := q0.frozen 1
    have x1 := q0.cell 1
    have y2 := q0.frozen 2
    have x2 := q0.cell 2
    have y3 := q0.frozen 3
    have x3 := q0.cell 3
    have q1 := q0.set_ 0 (.int .u8 4)
    have q2 := q1.set_ 1 (.string ⟨[c].toArray⟩)
    have q3 := q2.set_ 2 (.int .i64 0)
    have q4 := q3.set_ 3 (.int .i64 0)
    have r0 : ((((w1.setCell ⟨w.heap.size, 0, none⟩ (.int .u8 4)).setCell ⟨w.heap.size, 1, none⟩ (.string ⟨[c].toArray⟩)).setCell ⟨w.heap.size, 2, none⟩ (.int .i64 0)).setCell ⟨w.heap.size, 3, none⟩ (.int .i64 0)).cell? ⟨w.heap.size, 0, none⟩ = some (.int .u8 4) := q4.cell 0
    have r1 : ((((w1.setCell ⟨w.heap.size, 0, none⟩ (.int .u8 4)).setCell ⟨w.heap.size, 1, none⟩ (.string ⟨[c].toArray⟩)).setCell ⟨w.heap.size, 2, none⟩ (.int .i64 0)).setCell ⟨w.heap.size, 3, none⟩ (.int .i64 0)).cell? ⟨w.heap.size, 1, none⟩ = some (.string ⟨[c].toArray⟩) := q4.cell 1
    have r2 : ((((w1.setCell ⟨w.heap.size, 0, none⟩ (.int .u8 4)).setCell ⟨w.heap.size, 1, none⟩ (.string ⟨[c].toArray⟩)).setCell ⟨w.heap.size, 2, none⟩ (.int .i64 0)).setCell ⟨w.heap.size, 3, none⟩ (.int .i64 0)).cell? ⟨w.heap.size, 2, none⟩ = some (.int .i64 0) := q4.cell 2
    have r3 : ((((w1.setCell ⟨w.heap.size, 0, none⟩ (.int .u8 4)).setCell ⟨w.heap.size, 1, none⟩ (.string ⟨[c].toArray⟩)).setCell ⟨w.heap.size, 2, none⟩ (.int .i64 0)).setCell ⟨w.heap.size, 3, none⟩ (.int .i64 0)).cell? ⟨w.heap.size, 3, none⟩ = some (.int .i64 0) := q4.cell 3
    have hbz : Below w.heap.size w ((((w1.setCell ⟨w.heap.size, 0, none⟩ (.int .u8 4)).setCell ⟨w.heap.size, 1, none⟩ (.string ⟨[c].toArray⟩)).setCell ⟨w.heap.size, 2, none⟩ (.int .i64 0)).setCell ⟨w.heap.size, 3, none⟩ (.int .i64 0)) := ((((B1.out.setCell (p := ⟨w.heap.size, 0, none⟩) (Nat.le_refl _) _).setCell (p := ⟨w.heap.size, 1, none⟩) (Nat.le_refl _) _).setCell (p := ⟨w.heap.size, 2, none⟩) (Nat.le_refl _) _).setCell (p := ⟨w.heap.size, 3, none⟩) (Nat.le_refl _) _)
    have Hr := hide (show _ ∧ _ ∧ _ ∧ _ from ⟨r0, r1, r2, r3⟩)
    have Hbz := hide hbz
    clear q0 q1 q2 q3 q4 r0 r1 r2 r3 hbz
    go_wp2_with (first | (go_at_call 28; refine Hda.out.mono ?_; rintro e w' ⟨rfl, rfl⟩) | (go_at_call 14; refine Hla.out.mono ?_; rintro e w' ⟨rfl, rfl⟩))
    obtain ⟨r0, r1, r2, r3⟩ := Hr.out
    refine bodyPost_ret (v := .tuple #[.agg #[.int .u8 4, .string ⟨[c].toArray⟩, .int .i64 0, .int .i64 0], .int .i64 ((i : Int) + 1), .int .i64 0, .int .i64 0]) (by simp [results, Tryd.results17, go_sem, r0, r1, r2, r3, Result.andThen]) rfl ⟨?_, Hbz.out⟩
    rw [← HR.out]
    exact ok_ret (x := i + 1) rfl
  have hz36 : ((c.toNat : Int) == 36) = false := by rw [beq_eq_false_iff_ne]; exact fun h => g36 (UInt8.toNat_inj.1 (show c.toNat = 36 by omega))
  by_cases g40 : c = 40
  case pos =>
    have hz40 : ((c.toNat : Int) == 40) = true := by rw [g40]; rfl
    rw [if_pos (by rw [g40]; rfl)] at hR
    have HR := hide (show Lx.R.ok 4 [c] 0 1 = R from hR)
    clear hR
    clear g33 g36 g40
    clear hi
    have q0 := HT.out
    have y0 := q0.frozen 0
    have x0 := q0.cell 0
    have y1 := q0.frozen 1
    have x1 := q0.cell 1
    have y2 := q0.frozen 2
    have x2 := q0.cell 2
    have y3 := q0.frozen 3
    have x3 := q0.cell 3
    have q1 := q0.set_ 0 (.int .u8 4)
    have q2 := q1.set_ 1 (.string ⟨[c].toArray⟩)
    have q3 := q2.set_ 2 (.int .i64 0)
    have q4 := q3.set_ 3 (.int .i64 0)
    have r0 : ((((w1.setCell ⟨w.heap.size, 0, none⟩ (.int .u8 4)).setCell ⟨w.heap.size, 1, none⟩ (.string ⟨[c].toArray⟩)).setCell ⟨w.heap.size, 2, none⟩ (.int .i64 0)).setCell ⟨w.heap.size, 3, none⟩ (.int .i64 0)).cell? ⟨w.heap.size, 0, none⟩ = some (.int .u8 4) := q4.cell 0
    have r1 : ((((w1.setCell ⟨w.heap.size, 0, none⟩ (.int .u8 4)).setCell ⟨w.heap.size, 1, none⟩ (.string ⟨[c].toArray⟩)).setCell ⟨w.heap.size, 2, none⟩ (.int .i64 0)).setCell ⟨w.heap.size, 3, none⟩ (.int .i64 0)).cell? ⟨w.heap.size, 1, none⟩ = some (.string ⟨[c].toArray⟩) := q4.cell 1
    have r2 : ((((w1.setCell ⟨w.heap.size, 0, none⟩ (.int .u8 4)).setCell ⟨w.heap.size, 1, none⟩ (.string ⟨[c].toArray⟩)).setCell ⟨w.heap.size, 2, none⟩ (.int .i64 0)).setCell ⟨w.heap.size, 3, none⟩ (.int .i64 0)).cell? ⟨w.heap.size, 2, none⟩ = some (.int .i64 0) := q4.cell 2
    have r3 : ((((w1.setCell ⟨w.heap.size, 0, none⟩ (.int .u8 4)).setCell ⟨w.heap.size, 1, none⟩ (.string ⟨[c].toArray⟩)).setCell ⟨w.heap.size, 2, none⟩ (.int .i64 0)).setCell ⟨w.heap.size, 3, none⟩ (.int .i64 0)).cell? ⟨w.heap.size, 3, none⟩ = some (.int .i64 0) := q4.cell 3
    have hbz : Below w.heap.size w ((((w1.setCell ⟨w.heap.size, 0, none⟩ (.int .u8 4)).setCell ⟨w.heap.size, 1, none⟩ (.string ⟨[c].toArray⟩)).setCell ⟨w.heap.size, 2, none⟩ (.int .i64 0)).setCell ⟨w.heap.size, 3, none⟩ (.int .i64 0)) := ((((B1.out.setCell (p := ⟨w.heap.size, 0, none⟩) (Nat.le_refl _) _).setCell (p := ⟨w.heap.size, 1, none⟩) (Nat.le_refl _) _).setCell (p := ⟨w.heap.size, 2, none⟩) (Nat.le_refl _) _).setCell (p := ⟨w.heap.size, 3, none⟩) (Nat.le_refl _) _)
    have Hr := hide (show _ ∧ _ ∧ _ ∧ _ from ⟨r0, r1, r2, r3⟩)
    have Hbz := hide hbz
    clear q0 q1 q2 q3 q4 r0 r1 r2 r3 hbz
    go_wp2_with (first | (go_at_call 28; refine Hda.out.mono ?_; rintro e w' ⟨rfl, rfl⟩) | (go_at_call 14; refine Hla.out.mono ?_; rintro e w' ⟨rfl, rfl⟩))
    obtain ⟨r0, r1, r2, r3⟩ := Hr.out
    refine bodyPost_ret (v := .tuple #[.agg #[.int .u8 4, .string ⟨[c].toArray⟩, .int .i64 0, .int .i64 0], .int .i64 ((i : Int) + 1), .int .i64 0, .int .i64 0]) (by simp [results, Tryd.results17, go_sem, r0, r1, r2, r3, Result.andThen]) rfl ⟨?_, Hbz.out⟩
    rw [← HR.out]
    exact ok_ret (x := i + 1) rfl
  have hz40 : ((c.toNat : Int) == 40) = false := by rw [beq_eq_false_iff_ne]; exact fun h => g40 (UInt8.toNat_inj.1 (show c.toNat = 40 by omega))
  by_cases g41 : c = 41
  case pos =>
    have hz41 : ((c.toNat : Int) == 41) = true := by rw [g41]; rfl
    rw [if_pos (by rw [g41]; rfl)] at hR
    have HR := hide (show Lx.R.ok 4 [c] 0 1 = R from hR)
    clear hR
    clear g33 g36 g40 g41
    clear hi
    have q0 := HT.out
    have y0 := q0.frozen 0
    have x0 := q0.cell 0
    have y1 := q0.frozen 1
    have x1 := q0.cell 1
    have y2 := q0.frozen 2
    have x2 := q0.cell 2
    have y3 := q0.frozen 3
    have x3 := q0.cell 3
    have q1 := q0.set_ 0 (.int .u8 4)
    have q2 := q1.set_ 1 (.string ⟨[c].toArray⟩)
    have q3 := q2.set_ 2 (.int .i64 0)
    have q4 := q3.set_ 3 (.int .i64 0)
    have r0 : ((((w1.setCell ⟨w.heap.size, 0, none⟩ (.int .u8 4)).setCell ⟨w.heap.size, 1, none⟩ (.string ⟨[c].toArray⟩)).setCell ⟨w.heap.size, 2, none⟩ (.int .i64 0)).setCell ⟨w.heap.size, 3, none⟩ (.int .i64 0)).cell? ⟨w.heap.size, 0, none⟩ = some (.int .u8 4) := q4.cell 0
    have r1 : ((((w1.setCell ⟨w.heap.size, 0, none⟩ (.int .u8 4)).setCell ⟨w.heap.size, 1, none⟩ (.string ⟨[c].toArray⟩)).setCell ⟨w.heap.size, 2, none⟩ (.int .i64 0)).setCell ⟨w.heap.size, 3, none⟩ (.int .i64 0)).cell? ⟨w.heap.size, 1, none⟩ = some (.string ⟨[c].toArray⟩) := q4.cell 1
    have r2 : ((((w1.setCell ⟨w.heap.size, 0, none⟩ (.int .u8 4)).setCell ⟨w.heap.size, 1, none⟩ (.string ⟨[c].toArray⟩)).setCell ⟨w.heap.size, 2, none⟩ (.int .i64 0)).setCell ⟨w.heap.size, 3, none⟩ (.int .i64 0)).cell? ⟨w.heap.size, 2, none⟩ = some (.int .i64 0) := q4.cell 2
    have r3 : ((((w1.setCell ⟨w.heap.size, 0, none⟩ (.int .u8 4)).setCell ⟨w.heap.size, 1, none⟩ (.string ⟨[c].toArray⟩)).setCell ⟨w.heap.size, 2, none⟩ (.int .i64 0)).setCell ⟨w.heap.size, 3, none⟩ (.int .i64 0)).cell? ⟨w.heap.size, 3, none⟩ = some (.int .i64 0) := q4.cell 3
    have hbz : Below w.heap.size w ((((w1.setCell ⟨w.heap.size, 0, none⟩ (.int .u8 4)).setCell ⟨w.heap.size, 1, none⟩ (.string ⟨[c].toArray⟩)).setCell ⟨w.heap.size, 2, none⟩ (.int .i64 0)).setCell ⟨w.heap.size, 3, none⟩ (.int .i64 0)) := ((((B1.out.setCell (p := ⟨w.heap.size, 0, none⟩) (Nat.le_refl _) _).setCell (p := ⟨w.heap.size, 1, none⟩) (Nat.le_refl _) _).setCell (p := ⟨w.heap.size, 2, none⟩) (Nat.le_refl _) _).setCell (p := ⟨w.heap.size, 3, none⟩) (Nat.le_refl _) _)
    have Hr := hide (show _ ∧ _ ∧ _ ∧ _ from ⟨r0, r1, r2, r3⟩)
    have Hbz := hide hbz
    clear q0 q1 q2 q3 q4 r0 r1 r2 r3 hbz
    go_wp2_with (first | (go_at_call 28; refine Hda.out.mono ?_; rintro e w' ⟨rfl, rfl⟩) | (go_at_call 14; refine Hla.out.mono ?_; rintro e w' ⟨rfl, rfl⟩))
    obtain ⟨r0, r1, r2, r3⟩ := Hr.out
    refine bodyPost_ret (v := .tuple #[.agg #[.int .u8 4, .string ⟨[c].toArray⟩, .int .i64 0, .int .i64 0], .int .i64 ((i : Int) + 1), .int .i64 0, .int .i64 0]) (by simp [results, Tryd.results17, go_sem, r0, r1, r2, r3, Result.andThen]) rfl ⟨?_, Hbz.out⟩
    rw [← HR.out]
    exact ok_ret (x := i + 1) rfl
  have hz41 : ((c.toNat : Int) == 41) = false := by rw [beq_eq_false_iff_ne]; exact fun h => g41 (UInt8.toNat_inj.1 (show c.toNat = 41 by omega))
  by_cases g58 : c = 58
  case pos =>
    have hz58 : ((c.toNat : Int) == 58) = true := by rw [g58]; rfl
    rw [if_pos (by rw [g58]; rfl)] at hR
    have HR := hide (show Lx.R.ok 4 [c] 0 1 = R from hR)
    clear hR
    clear g33 g36 g40 g41 g58
    clear hi
    have q0 := HT.out
    have y0 := q0.frozen 0
    have x0 := q0.cell 0
    have y1 := q0.frozen 1
    have x1 := q0.cell 1
    have y2 := q0.frozen 2
    have x2 := q0.cell 2
    have y3 := q0.frozen 3
    have x3 := q0.cell 3
    have q1 := q0.set_ 0 (.int .u8 4)
    have q2 := q1.set_ 1 (.string ⟨[c].toArray⟩)
    have q3 := q2.set_ 2 (.int .i64 0)
    have q4 := q3.set_ 3 (.int .i64 0)
    have r0 : ((((w1.setCell ⟨w.heap.size, 0, none⟩ (.int .u8 4)).setCell ⟨w.heap.size, 1, none⟩ (.string ⟨[c].toArray⟩)).setCell ⟨w.heap.size, 2, none⟩ (.int .i64 0)).setCell ⟨w.heap.size, 3, none⟩ (.int .i64 0)).cell? ⟨w.heap.size, 0, none⟩ = some (.int .u8 4) := q4.cell 0
    have r1 : ((((w1.setCell ⟨w.heap.size, 0, none⟩ (.int .u8 4)).setCell ⟨w.heap.size, 1, none⟩ (.string ⟨[c].toArray⟩)).setCell ⟨w.heap.size, 2, none⟩ (.int .i64 0)).setCell ⟨w.heap.size, 3, none⟩ (.int .i64 0)).cell? ⟨w.heap.size, 1, none⟩ = some (.string ⟨[c].toArray⟩) := q4.cell 1
    have r2 : ((((w1.setCell ⟨w.heap.size, 0, none⟩ (.int .u8 4)).setCell ⟨w.heap.size, 1, none⟩ (.string ⟨[c].toArray⟩)).setCell ⟨w.heap.size, 2, none⟩ (.int .i64 0)).setCell ⟨w.heap.size, 3, none⟩ (.int .i64 0)).cell? ⟨w.heap.size, 2, none⟩ = some (.int .i64 0) := q4.cell 2
    have r3 : ((((w1.setCell ⟨w.heap.size, 0, none⟩ (.int .u8 4)).setCell ⟨w.heap.size, 1, none⟩ (.string ⟨[c].toArray⟩)).setCell ⟨w.heap.size, 2, none⟩ (.int .i64 0)).setCell ⟨w.heap.size, 3, none⟩ (.int .i64 0)).cell? ⟨w.heap.size, 3, none⟩ = some (.int .i64 0) := q4.cell 3
    have hbz : Below w.heap.size w ((((w1.setCell ⟨w.heap.size, 0, none⟩ (.int .u8 4)).setCell ⟨w.heap.size, 1, none⟩ (.string ⟨[c].toArray⟩)).setCell ⟨w.heap.size, 2, none⟩ (.int .i64 0)).setCell ⟨w.heap.size, 3, none⟩ (.int .i64 0)) := ((((B1.out.setCell (p := ⟨w.heap.size, 0, none⟩) (Nat.le_refl _) _).setCell (p := ⟨w.heap.size, 1, none⟩) (Nat.le_refl _) _).setCell (p := ⟨w.heap.size, 2, none⟩) (Nat.le_refl _) _).setCell (p := ⟨w.heap.size, 3, none⟩) (Nat.le_refl _) _)
    have Hr := hide (show _ ∧ _ ∧ _ ∧ _ from ⟨r0, r1, r2, r3⟩)
    have Hbz := hide hbz
    clear q0 q1 q2 q3 q4 r0 r1 r2 r3 hbz
    go_wp2_with (first | (go_at_call 28; refine Hda.out.mono ?_; rintro e w' ⟨rfl, rfl⟩) | (go_at_call 14; refine Hla.out.mono ?_; rintro e w' ⟨rfl, rfl⟩))
    obtain ⟨r0, r1, r2, r3⟩ := Hr.out
    refine bodyPost_ret (v := .tuple #[.agg #[.int .u8 4, .string ⟨[c].toArray⟩, .int .i64 0, .int .i64 0], .int .i64 ((i : Int) + 1), .int .i64 0, .int .i64 0]) (by simp [results, Tryd.results17, go_sem, r0, r1, r2, r3, Result.andThen]) rfl ⟨?_, Hbz.out⟩
    rw [← HR.out]
    exact ok_ret (x := i + 1) rfl
  have hz58 : ((c.toNat : Int) == 58) = false := by rw [beq_eq_false_iff_ne]; exact fun h => g58 (UInt8.toNat_inj.1 (show c.toNat = 58 by omega))
  by_cases g61 : c = 61
  case pos =>
    have hz61 : ((c.toNat : Int) == 61) = true := by rw [g61]; rfl
    rw [if_pos (by rw [g61]; rfl)] at hR
    have HR := hide (show Lx.R.ok 4 [c] 0 1 = R from hR)
    clear hR
    clear g33 g36 g40 g41 g58 g61
    clear hi
    have q0 := HT.out
    have y0 := q0.frozen 0
    have x0 := q0.cell 0
    have y1 := q0.frozen 1
    have x1 := q0.cell 1
    have y2 := q0.frozen 2
    have x2 := q0.cell 2
    have y3 := q0.frozen 3
    have x3 := q0.cell 3
    have q1 := q0.set_ 0 (.int .u8 4)
    have q2 := q1.set_ 1 (.string ⟨[c].toArray⟩)
    have q3 := q2.set_ 2 (.int .i64 0)
    have q4 := q3.set_ 3 (.int .i64 0)
    have r0 : ((((w1.setCell ⟨w.heap.size, 0, none⟩ (.int .u8 4)).setCell ⟨w.heap.size, 1, none⟩ (.string ⟨[c].toArray⟩)).setCell ⟨w.heap.size, 2, none⟩ (.int .i64 0)).setCell ⟨w.heap.size, 3, none⟩ (.int .i64 0)).cell? ⟨w.heap.size, 0, none⟩ = some (.int .u8 4) := q4.cell 0
    have r1 : ((((w1.setCell ⟨w.heap.size, 0, none⟩ (.int .u8 4)).setCell ⟨w.heap.size, 1, none⟩ (.string ⟨[c].toArray⟩)).setCell ⟨w.heap.size, 2, none⟩ (.int .i64 0)).setCell ⟨w.heap.size, 3, none⟩ (.int .i64 0)).cell? ⟨w.heap.size, 1, none⟩ = some (.string ⟨[c].toArray⟩) := q4.cell 1
    have r2 : ((((w1.setCell ⟨w.heap.size, 0, none⟩ (.int .u8 4)).setCell ⟨w.heap.size, 1, none⟩ (.string ⟨[c].toArray⟩)).setCell ⟨w.heap.size, 2, none⟩ (.int .i64 0)).setCell ⟨w.heap.size, 3, none⟩ (.int .i64 0)).cell? ⟨w.heap.size, 2, none⟩ = some (.int .i64 0) := q4.cell 2
    have r3 : ((((w1.setCell ⟨w.heap.size, 0, none⟩ (.int .u8 4)).setCell ⟨w.heap.size, 1, none⟩ (.string ⟨[c].toArray⟩)).setCell ⟨w.heap.size, 2, none⟩ (.int .i64 0)).setCell ⟨w.heap.size, 3, none⟩ (.int .i64 0)).cell? ⟨w.heap.size, 3, none⟩ = some (.int .i64 0) := q4.cell 3
    have hbz : Below w.heap.size w ((((w1.setCell ⟨w.heap.size, 0, none⟩ (.int .u8 4)).setCell ⟨w.heap.size, 1, none⟩ (.string ⟨[c].toArray⟩)).setCell ⟨w.heap.size, 2, none⟩ (.int .i64 0)).setCell ⟨w.heap.size, 3, none⟩ (.int .i64 0)) := ((((B1.out.setCell (p := ⟨w.heap.size, 0, none⟩) (Nat.le_refl _) _).setCell (p := ⟨w.heap.size, 1, none⟩) (Nat.le_refl _) _).setCell (p := ⟨w.heap.size, 2, none⟩) (Nat.le_refl _) _).setCell (p := ⟨w.heap.size, 3, none⟩) (Nat.le_refl _) _)
    have Hr := hide (show _ ∧ _ ∧ _ ∧ _ from ⟨r0, r1, r2, r3⟩)
    have Hbz := hide hbz
    clear q0 q1 q2 q3 q4 r0 r1 r2 r3 hbz
    go_wp2_with (first | (go_at_call 28; refine Hda.out.mono ?_; rintro e w' ⟨rfl, rfl⟩) | (go_at_call 14; refine Hla.out.mono ?_; rintro e w' ⟨rfl, rfl⟩))
    obtain ⟨r0, r1, r2, r3⟩ := Hr.out
    refine bodyPost_ret (v := .tuple #[.agg #[.int .u8 4, .string ⟨[c].toArray⟩, .int .i64 0, .int .i64 0], .int .i64 ((i : Int) + 1), .int .i64 0, .int .i64 0]) (by simp [results, Tryd.results17, go_sem, r0, r1, r2, r3, Result.andThen]) rfl ⟨?_, Hbz.out⟩
    rw [← HR.out]
    exact ok_ret (x := i + 1) rfl
  have hz61 : ((c.toNat : Int) == 61) = false := by rw [beq_eq_false_iff_ne]; exact fun h => g61 (UInt8.toNat_inj.1 (show c.toNat = 61 by omega))
  by_cases g64 : c = 64
  case pos =>
    have hz64 : ((c.toNat : Int) == 64) = true := by rw [g64]; rfl
    rw [if_pos (by rw [g64]; rfl)] at hR
    have HR := hide (show Lx.R.ok 4 [c] 0 1 = R from hR)
    clear hR
    clear g33 g36 g40 g41 g58 g61 g64
    clear hi
    have q0 := HT.out
    have y0 := q0.frozen 0
    have x0 := q0.cell 0
    have y1 := q0.frozen 1
    have x1 := q0.cell 1
    have y2 := q0.frozen 2
    have x2 := q0.cell 2
    have y3 := q0.frozen 3
    have x3 := q0.cell 3
    have q1 := q0.set_ 0 (.int .u8 4)
    have q2 := q1.set_ 1 (.string ⟨[c].toArray⟩)
    have q3 := q2.set_ 2 (.int .i64 0)
    have q4 := q3.set_ 3 (.int .i64 0)
    have r0 : ((((w1.setCell ⟨w.heap.size, 0, none⟩ (.int .u8 4)).setCell ⟨w.heap.size, 1, none⟩ (.string ⟨[c].toArray⟩)).setCell ⟨w.heap.size, 2, none⟩ (.int .i64 0)).setCell ⟨w.heap.size, 3, none⟩ (.int .i64 0)).cell? ⟨w.heap.size, 0, none⟩ = some (.int .u8 4) := q4.cell 0
    have r1 : ((((w1.setCell ⟨w.heap.size, 0, none⟩ (.int .u8 4)).setCell ⟨w.heap.size, 1, none⟩ (.string ⟨[c].toArray⟩)).setCell ⟨w.heap.size, 2, none⟩ (.int .i64 0)).setCell ⟨w.heap.size, 3, none⟩ (.int .i64 0)).cell? ⟨w.heap.size, 1, none⟩ = some (.string ⟨[c].toArray⟩) := q4.cell 1
    have r2 : ((((w1.setCell ⟨w.heap.size, 0, none⟩ (.int .u8 4)).setCell ⟨w.heap.size, 1, none⟩ (.string ⟨[c].toArray⟩)).setCell ⟨w.heap.size, 2, none⟩ (.int .i64 0)).setCell ⟨w.heap.size, 3, none⟩ (.int .i64 0)).cell? ⟨w.heap.size, 2, none⟩ = some (.int .i64 0) := q4.cell 2
    have r3 : ((((w1.setCell ⟨w.heap.size, 0, none⟩ (.int .u8 4)).setCell ⟨w.heap.size, 1, none⟩ (.string ⟨[c].toArray⟩)).setCell ⟨w.heap.size, 2, none⟩ (.int .i64 0)).setCell ⟨w.heap.size, 3, none⟩ (.int .i64 0)).cell? ⟨w.heap.size, 3, none⟩ = some (.int .i64 0) := q4.cell 3
    have hbz : Below w.heap.size w ((((w1.setCell ⟨w.heap.size, 0, none⟩ (.int .u8 4)).setCell ⟨w.heap.size, 1, none⟩ (.string ⟨[c].toArray⟩)).setCell ⟨w.heap.size, 2, none⟩ (.int .i64 0)).setCell ⟨w.heap.size, 3, none⟩ (.int .i64 0)) := ((((B1.out.setCell (p := ⟨w.heap.size, 0, none⟩) (Nat.le_refl _) _).setCell (p := ⟨w.heap.size, 1, none⟩) (Nat.le_refl _) _).setCell (p := ⟨w.heap.size, 2, none⟩) (Nat.le_refl _) _).setCell (p := ⟨w.heap.size, 3, none⟩) (Nat.le_refl _) _)
    have Hr := hide (show _ ∧ _ ∧ _ ∧ _ from ⟨r0, r1, r2, r3⟩)
    have Hbz := hide hbz
    clear q0 q1 q2 q3 q4 r0 r1 r2 r3 hbz
    go_wp2_with (first | (go_at_call 28; refine Hda.out.mono ?_; rintro e w' ⟨rfl, rfl⟩) | (go_at_call 14; refine Hla.out.mono ?_; rintro e w' ⟨rfl, rfl⟩))
    obtain ⟨r0, r1, r2, r3⟩ := Hr.out
    refine bodyPost_ret (v := .tuple #[.agg #[.int .u8 4, .string ⟨[c].toArray⟩, .int .i64 0, .int .i64 0], .int .i64 ((i : Int) + 1), .int .i64 0, .int .i64 0]) (by simp [results, Tryd.results17, go_sem, r0, r1, r2, r3, Result.andThen]) rfl ⟨?_, Hbz.out⟩
    rw [← HR.out]
    exact ok_ret (x := i + 1) rfl
  have hz64 : ((c.toNat : Int) == 64) = false := by rw [beq_eq_false_iff_ne]; exact fun h => g64 (UInt8.toNat_inj.1 (show c.toNat = 64 by omega))
  by_cases g91 : c = 91
  case pos =>
    have hz91 : ((c.toNat : Int) == 91) = true := by rw [g91]; rfl
    rw [if_pos (by rw [g91]; rfl)] at hR
    have HR := hide (show Lx.R.ok 4 [c] 0 1 = R from hR)
    clear hR
    clear g33 g36 g40 g41 g58 g61 g64 g91
    clear hi
    have q0 := HT.out
    have y0 := q0.frozen 0
    have x0 := q0.cell 0
    have y1 := q0.frozen 1
    have x1 := q0.cell 1
    have y2 := q0.frozen 2
    have x2 := q0.cell 2
    have y3 := q0.frozen 3
    have x3 := q0.cell 3
    have q1 := q0.set_ 0 (.int .u8 4)
    have q2 := q1.set_ 1 (.string ⟨[c].toArray⟩)
    have q3 := q2.set_ 2 (.int .i64 0)
    have q4 := q3.set_ 3 (.int .i64 0)
    have r0 : ((((w1.setCell ⟨w.heap.size, 0, none⟩ (.int .u8 4)).setCell ⟨w.heap.size, 1, none⟩ (.string ⟨[c].toArray⟩)).setCell ⟨w.heap.size, 2, none⟩ (.int .i64 0)).setCell ⟨w.heap.size, 3, none⟩ (.int .i64 0)).cell? ⟨w.heap.size, 0, none⟩ = some (.int .u8 4) := q4.cell 0
    have r1 : ((((w1.setCell ⟨w.heap.size, 0, none⟩ (.int .u8 4)).setCell ⟨w.heap.size, 1, none⟩ (.string ⟨[c].toArray⟩)).setCell ⟨w.heap.size, 2, none⟩ (.int .i64 0)).setCell ⟨w.heap.size, 3, none⟩ (.int .i64 0)).cell? ⟨w.heap.size, 1, none⟩ = some (.string ⟨[c].toArray⟩) := q4.cell 1
    have r2 : ((((w1.setCell ⟨w.heap.size, 0, none⟩ (.int .u8 4)).setCell ⟨w.heap.size, 1, none⟩ (.string ⟨[c].toArray⟩)).setCell ⟨w.heap.size, 2, none⟩ (.int .i64 0)).setCell ⟨w.heap.size, 3, none⟩ (.int .i64 0)).cell? ⟨w.heap.size, 2, none⟩ = some (.int .i64 0) := q4.cell 2
    have r3 : ((((w1.setCell ⟨w.heap.size, 0, none⟩ (.int .u8 4)).setCell ⟨w.heap.size, 1, none⟩ (.string ⟨[c].toArray⟩)).setCell ⟨w.heap.size, 2, none⟩ (.int .i64 0)).setCell ⟨w.heap.size, 3, none⟩ (.int .i64 0)).cell? ⟨w.heap.size, 3, none⟩ = some (.int .i64 0) := q4.cell 3
    have hbz : Below w.heap.size w ((((w1.setCell ⟨w.heap.size, 0, none⟩ (.int .u8 4)).setCell ⟨w.heap.size, 1, none⟩ (.string ⟨[c].toArray⟩)).setCell ⟨w.heap.size, 2, none⟩ (.int .i64 0)).setCell ⟨w.heap.size, 3, none⟩ (.int .i64 0)) := ((((B1.out.setCell (p := ⟨w.heap.size, 0, none⟩) (Nat.le_refl _) _).setCell (p := ⟨w.heap.size, 1, none⟩) (Nat.le_refl _) _).setCell (p := ⟨w.heap.size, 2, none⟩) (Nat.le_refl _) _).setCell (p := ⟨w.heap.size, 3, none⟩) (Nat.le_refl _) _)
    have Hr := hide (show _ ∧ _ ∧ _ ∧ _ from ⟨r0, r1, r2, r3⟩)
    have Hbz := hide hbz
    clear q0 q1 q2 q3 q4 r0 r1 r2 r3 hbz
    go_wp2_with (first | (go_at_call 28; refine Hda.out.mono ?_; rintro e w' ⟨rfl, rfl⟩) | (go_at_call 14; refine Hla.out.mono ?_; rintro e w' ⟨rfl, rfl⟩))
    obtain ⟨r0, r1, r2, r3⟩ := Hr.out
    refine bodyPost_ret (v := .tuple #[.agg #[.int .u8 4, .string ⟨[c].toArray⟩, .int .i64 0, .int .i64 0], .int .i64 ((i : Int) + 1), .int .i64 0, .int .i64 0]) (by simp [results, Tryd.results17, go_sem, r0, r1, r2, r3, Result.andThen]) rfl ⟨?_, Hbz.out⟩
    rw [← HR.out]
    exact ok_ret (x := i + 1) rfl
  have hz91 : ((c.toNat : Int) == 91) = false := by rw [beq_eq_false_iff_ne]; exact fun h => g91 (UInt8.toNat_inj.1 (show c.toNat = 91 by omega))
  by_cases g93 : c = 93
  case pos =>
    have hz93 : ((c.toNat : Int) == 93) = true := by rw [g93]; rfl
    rw [if_pos (by rw [g93]; rfl)] at hR
    have HR := hide (show Lx.R.ok 4 [c] 0 1 = R from hR)
    clear hR
    clear g33 g36 g40 g41 g58 g61 g64 g91 g93
    clear hi
    have q0 := HT.out
    have y0 := q0.frozen 0
    have x0 := q0.cell 0
    have y1 := q0.frozen 1
    have x1 := q0.cell 1
    have y2 := q0.frozen 2
    have x2 := q0.cell 2
    have y3 := q0.frozen 3
    have x3 := q0.cell 3
    have q1 := q0.set_ 0 (.int .u8 4)
    have q2 := q1.set_ 1 (.string ⟨[c].toArray⟩)
    have q3 := q2.set_ 2 (.int .i64 0)
    have q4 := q3.set_ 3 (.int .i64 0)
    have r0 : ((((w1.setCell ⟨w.heap.size, 0, none⟩ (.int .u8 4)).setCell ⟨w.heap.size, 1, none⟩ (.string ⟨[c].toArray⟩)).setCell ⟨w.heap.size, 2, none⟩ (.int .i64 0)).setCell ⟨w.heap.size, 3, none⟩ (.int .i64 0)).cell? ⟨w.heap.size, 0, none⟩ = some (.int .u8 4) := q4.cell 0
    have r1 : ((((w1.setCell ⟨w.heap.size, 0, none⟩ (.int .u8 4)).setCell ⟨w.heap.size, 1, none⟩ (.string ⟨[c].toArray⟩)).setCell ⟨w.heap.size, 2, none⟩ (.int .i64 0)).setCell ⟨w.heap.size, 3, none⟩ (.int .i64 0)).cell? ⟨w.heap.size, 1, none⟩ = some (.string ⟨[c].toArray⟩) := q4.cell 1
    have r2 : ((((w1.setCell ⟨w.heap.size, 0, none⟩ (.int .u8 4)).setCell ⟨w.heap.size, 1, none⟩ (.string ⟨[c].toArray⟩)).setCell ⟨w.heap.size, 2, none⟩ (.int .i64 0)).setCell ⟨w.heap.size, 3, none⟩ (.int .i64 0)).cell? ⟨w.heap.size, 2, none⟩ = some (.int .i64 0) := q4.cell 2
    have r3 : ((((w1.setCell ⟨w.heap.size, 0, none⟩ (.int .u8 4)).setCell ⟨w.heap.size, 1, none⟩ (.string ⟨[c].toArray⟩)).setCell ⟨w.heap.size, 2, none⟩ (.int .i64 0)).setCell ⟨w.heap.size, 3, none⟩ (.int .i64 0)).cell? ⟨w.heap.size, 3, none⟩ = some (.int .i64 0) := q4.cell 3
    have hbz : Below w.heap.size w ((((w1.setCell ⟨w.heap.size, 0, none⟩ (.int .u8 4)).setCell ⟨w.heap.size, 1, none⟩ (.string ⟨[c].toArray⟩)).setCell ⟨w.heap.size, 2, none⟩ (.int .i64 0)).setCell ⟨w.heap.size, 3, none⟩ (.int .i64 0)) := ((((B1.out.setCell (p := ⟨w.heap.size, 0, none⟩) (Nat.le_refl _) _).setCell (p := ⟨w.heap.size, 1, none⟩) (Nat.le_refl _) _).setCell (p := ⟨w.heap.size, 2, none⟩) (Nat.le_refl _) _).setCell (p := ⟨w.heap.size, 3, none⟩) (Nat.le_refl _) _)
    have Hr := hide (show _ ∧ _ ∧ _ ∧ _ from ⟨r0, r1, r2, r3⟩)
    have Hbz := hide hbz
    clear q0 q1 q2 q3 q4 r0 r1 r2 r3 hbz
    go_wp2_with (first | (go_at_call 28; refine Hda.out.mono ?_; rintro e w' ⟨rfl, rfl⟩) | (go_at_call 14; refine Hla.out.mono ?_; rintro e w' ⟨rfl, rfl⟩))
    obtain ⟨r0, r1, r2, r3⟩ := Hr.out
    refine bodyPost_ret (v := .tuple #[.agg #[.int .u8 4, .string ⟨[c].toArray⟩, .int .i64 0, .int .i64 0], .int .i64 ((i : Int) + 1), .int .i64 0, .int .i64 0]) (by simp [results, Tryd.results17, go_sem, r0, r1, r2, r3, Result.andThen]) rfl ⟨?_, Hbz.out⟩
    rw [← HR.out]
    exact ok_ret (x := i + 1) rfl
  have hz93 : ((c.toNat : Int) == 93) = false := by rw [beq_eq_false_iff_ne]; exact fun h => g93 (UInt8.toNat_inj.1 (show c.toNat = 93 by omega))
  by_cases g123 : c = 123
  case pos =>
    have hz123 : ((c.toNat : Int) == 123) = true := by rw [g123]; rfl
    rw [if_pos (by rw [g123]; rfl)] at hR
    have HR := hide (show Lx.R.ok 4 [c] 0 1 = R from hR)
    clear hR
    clear g33 g36 g40 g41 g58 g61 g64 g91 g93 g123
    clear hi
    have q0 := HT.out
    have y0 := q0.frozen 0
    have x0 := q0.cell 0
    have y1 := q0.frozen 1
    have x1 := q0.cell 1
    have y2 := q0.frozen 2
    have x2 := q0.cell 2
    have y3 := q0.frozen 3
    have x3 := q0.cell 3
    have q1 := q0.set_ 0 (.int .u8 4)
    have q2 := q1.set_ 1 (.string ⟨[c].toArray⟩)
    have q3 := q2.set_ 2 (.int .i64 0)
    have q4 := q3.set_ 3 (.int .i64 0)
    have r0 : ((((w1.setCell ⟨w.heap.size, 0, none⟩ (.int .u8 4)).setCell ⟨w.heap.size, 1, none⟩ (.string ⟨[c].toArray⟩)).setCell ⟨w.heap.size, 2, none⟩ (.int .i64 0)).setCell ⟨w.heap.size, 3, none⟩ (.int .i64 0)).cell? ⟨w.heap.size, 0, none⟩ = some (.int .u8 4) := q4.cell 0
    have r1 : ((((w1.setCell ⟨w.heap.size, 0, none⟩ (.int .u8 4)).setCell ⟨w.heap.size, 1, none⟩ (.string ⟨[c].toArray⟩)).setCell ⟨w.heap.size, 2, none⟩ (.int .i64 0)).setCell ⟨w.heap.size, 3, none⟩ (.int .i64 0)).cell? ⟨w.heap.size, 1, none⟩ = some (.string ⟨[c].toArray⟩) := q4.cell 1
    have r2 : ((((w1.setCell ⟨w.heap.size, 0, none⟩ (.int .u8 4)).setCell ⟨w.heap.size, 1, none⟩ (.string ⟨[c].toArray⟩)).setCell ⟨w.heap.size, 2, none⟩ (.int .i64 0)).setCell ⟨w.heap.size, 3, none⟩ (.int .i64 0)).cell? ⟨w.heap.size, 2, none⟩ = some (.int .i64 0) := q4.cell 2
    have r3 : ((((w1.setCell ⟨w.heap.size, 0, none⟩ (.int .u8 4)).setCell ⟨w.heap.size, 1, none⟩ (.string ⟨[c].toArray⟩)).setCell ⟨w.heap.size, 2, none⟩ (.int .i64 0)).setCell ⟨w.heap.size, 3, none⟩ (.int .i64 0)).cell? ⟨w.heap.size, 3, none⟩ = some (.int .i64 0) := q4.cell 3
    have hbz : Below w.heap.size w ((((w1.setCell ⟨w.heap.size, 0, none⟩ (.int .u8 4)).setCell ⟨w.heap.size, 1, none⟩ (.string ⟨[c].toArray⟩)).setCell ⟨w.heap.size, 2, none⟩ (.int .i64 0)).setCell ⟨w.heap.size, 3, none⟩ (.int .i64 0)) := ((((B1.out.setCell (p := ⟨w.heap.size, 0, none⟩) (Nat.le_refl _) _).setCell (p := ⟨w.heap.size, 1, none⟩) (Nat.le_refl _) _).setCell (p := ⟨w.heap.size, 2, none⟩) (Nat.le_refl _) _).setCell (p := ⟨w.heap.size, 3, none⟩) (Nat.le_refl _) _)
    have Hr := hide (show _ ∧ _ ∧ _ ∧ _ from ⟨r0, r1, r2, r3⟩)
    have Hbz := hide hbz
    clear q0 q1 q2 q3 q4 r0 r1 r2 r3 hbz
    go_wp2_with (first | (go_at_call 28; refine Hda.out.mono ?_; rintro e w' ⟨rfl, rfl⟩) | (go_at_call 14; refine Hla.out.mono ?_; rintro e w' ⟨rfl, rfl⟩))
    obtain ⟨r0, r1, r2, r3⟩ := Hr.out
    refine bodyPost_ret (v := .tuple #[.agg #[.int .u8 4, .string ⟨[c].toArray⟩, .int .i64 0, .int .i64 0], .int .i64 ((i : Int) + 1), .int .i64 0, .int .i64 0]) (by simp [results, Tryd.results17, go_sem, r0, r1, r2, r3, Result.andThen]) rfl ⟨?_, Hbz.out⟩
    rw [← HR.out]
    exact ok_ret (x := i + 1) rfl
  have hz123 : ((c.toNat : Int) == 123) = false := by rw [beq_eq_false_iff_ne]; exact fun h => g123 (UInt8.toNat_inj.1 (show c.toNat = 123 by omega))
  by_cases g124 : c = 124
  case pos =>
    have hz124 : ((c.toNat : Int) == 124) = true := by rw [g124]; rfl
    rw [if_pos (by rw [g124]; rfl)] at hR
    have HR := hide (show Lx.R.ok 4 [c] 0 1 = R from hR)
    clear hR
    clear g33 g36 g40 g41 g58 g61 g64 g91 g93 g123 g124
    clear hi
    have q0 := HT.out
    have y0 := q0.frozen 0
    have x0 := q0.cell 0
    have y1 := q0.frozen 1
    have x1 := q0.cell 1
    have y2 := q0.frozen 2
    have x2 := q0.cell 2
    have y3 := q0.frozen 3
    have x3 := q0.cell 3
    have q1 := q0.set_ 0 (.int .u8 4)
    have q2 := q1.set_ 1 (.string ⟨[c].toArray⟩)
    have q3 := q2.set_ 2 (.int .i64 0)
    have q4 := q3.set_ 3 (.int .i64 0)
    have r0 : ((((w1.setCell ⟨w.heap.size, 0, none⟩ (.int .u8 4)).setCell ⟨w.heap.size, 1, none⟩ (.string ⟨[c].toArray⟩)).setCell ⟨w.heap.size, 2, none⟩ (.int .i64 0)).setCell ⟨w.heap.size, 3, none⟩ (.int .i64 0)).cell? ⟨w.heap.size, 0, none⟩ = some (.int .u8 4) := q4.cell 0
    have r1 : ((((w1.setCell ⟨w.heap.size, 0, none⟩ (.int .u8 4)).setCell ⟨w.heap.size, 1, none⟩ (.string ⟨[c].toArray⟩)).setCell ⟨w.heap.size, 2, none⟩ (.int .i64 0)).setCell ⟨w.heap.size, 3, none⟩ (.int .i64 0)).cell? ⟨w.heap.size, 1, none⟩ = some (.string ⟨[c].toArray⟩) := q4.cell 1
    have r2 : ((((w1.setCell ⟨w.heap.size, 0, none⟩ (.int .u8 4)).setCell ⟨w.heap.size, 1, none⟩ (.string ⟨[c].toArray⟩)).setCell ⟨w.heap.size, 2, none⟩ (.int .i64 0)).setCell ⟨w.heap.size, 3, none⟩ (.int .i64 0)).cell? ⟨w.heap.size, 2, none⟩ = some (.int .i64 0) := q4.cell 2
    have r3 : ((((w1.setCell ⟨w.heap.size, 0, none⟩ (.int .u8 4)).setCell ⟨w.heap.size, 1, none⟩ (.string ⟨[c].toArray⟩)).setCell ⟨w.heap.size, 2, none⟩ (.int .i64 0)).setCell ⟨w.heap.size, 3, none⟩ (.int .i64 0)).cell? ⟨w.heap.size, 3, none⟩ = some (.int .i64 0) := q4.cell 3
    have hbz : Below w.heap.size w ((((w1.setCell ⟨w.heap.size, 0, none⟩ (.int .u8 4)).setCell ⟨w.heap.size, 1, none⟩ (.string ⟨[c].toArray⟩)).setCell ⟨w.heap.size, 2, none⟩ (.int .i64 0)).setCell ⟨w.heap.size, 3, none⟩ (.int .i64 0)) := ((((B1.out.setCell (p := ⟨w.heap.size, 0, none⟩) (Nat.le_refl _) _).setCell (p := ⟨w.heap.size, 1, none⟩) (Nat.le_refl _) _).setCell (p := ⟨w.heap.size, 2, none⟩) (Nat.le_refl _) _).setCell (p := ⟨w.heap.size, 3, none⟩) (Nat.le_refl _) _)
    have Hr := hide (show _ ∧ _ ∧ _ ∧ _ from ⟨r0, r1, r2, r3⟩)
    have Hbz := hide hbz
    clear q0 q1 q2 q3 q4 r0 r1 r2 r3 hbz
    go_wp2_with (first | (go_at_call 28; refine Hda.out.mono ?_; rintro e w' ⟨rfl, rfl⟩) | (go_at_call 14; refine Hla.out.mono ?_; rintro e w' ⟨rfl, rfl⟩))
    obtain ⟨r0, r1, r2, r3⟩ := Hr.out
    refine bodyPost_ret (v := .tuple #[.agg #[.int .u8 4, .string ⟨[c].toArray⟩, .int .i64 0, .int .i64 0], .int .i64 ((i : Int) + 1), .int .i64 0, .int .i64 0]) (by simp [results, Tryd.results17, go_sem, r0, r1, r2, r3, Result.andThen]) rfl ⟨?_, Hbz.out⟩
    rw [← HR.out]
    exact ok_ret (x := i + 1) rfl
  have hz124 : ((c.toNat : Int) == 124) = false := by rw [beq_eq_false_iff_ne]; exact fun h => g124 (UInt8.toNat_inj.1 (show c.toNat = 124 by omega))
  by_cases g125 : c = 125
  case pos =>
    have hz125 : ((c.toNat : Int) == 125) = true := by rw [g125]; rfl
    rw [if_pos (by rw [g125]; rfl)] at hR
    have HR := hide (show Lx.R.ok 4 [c] 0 1 = R from hR)
    clear hR
    clear g33 g36 g40 g41 g58 g61 g64 g91 g93 g123 g124 g125
    clear hi
    have q0 := HT.out
    have y0 := q0.frozen 0
    have x0 := q0.cell 0
    have y1 := q0.frozen 1
    have x1 := q0.cell 1
    have y2 := q0.frozen 2
    have x2 := q0.cell 2
    have y3 := q0.frozen 3
    have x3 := q0.cell 3
    have q1 := q0.set_ 0 (.int .u8 4)
    have q2 := q1.set_ 1 (.string ⟨[c].toArray⟩)
    have q3 := q2.set_ 2 (.int .i64 0)
    have q4 := q3.set_ 3 (.int .i64 0)
    have r0 : ((((w1.setCell ⟨w.heap.size, 0, none⟩ (.int .u8 4)).setCell ⟨w.heap.size, 1, none⟩ (.string ⟨[c].toArray⟩)).setCell ⟨w.heap.size, 2, none⟩ (.int .i64 0)).setCell ⟨w.heap.size, 3, none⟩ (.int .i64 0)).cell? ⟨w.heap.size, 0, none⟩ = some (.int .u8 4) := q4.cell 0
    have r1 : ((((w1.setCell ⟨w.heap.size, 0, none⟩ (.int .u8 4)).setCell ⟨w.heap.size, 1, none⟩ (.string ⟨[c].toArray⟩)).setCell ⟨w.heap.size, 2, none⟩ (.int .i64 0)).setCell ⟨w.heap.size, 3, none⟩ (.int .i64 0)).cell? ⟨w.heap.size, 1, none⟩ = some (.string ⟨[c].toArray⟩) := q4.cell 1
    have r2 : ((((w1.setCell ⟨w.heap.size, 0, none⟩ (.int .u8 4)).setCell ⟨w.heap.size, 1, none⟩ (.string ⟨[c].toArray⟩)).setCell ⟨w.heap.size, 2, none⟩ (.int .i64 0)).setCell ⟨w.heap.size, 3, none⟩ (.int .i64 0)).cell? ⟨w.heap.size, 2, none⟩ = some (.int .i64 0) := q4.cell 2
    have r3 : ((((w1.setCell ⟨w.heap.size, 0, none⟩ (.int .u8 4)).setCell ⟨w.heap.size, 1, none⟩ (.string ⟨[c].toArray⟩)).setCell ⟨w.heap.size, 2, none⟩ (.int .i64 0)).setCell ⟨w.heap.size, 3, none⟩ (.int .i64 0)).cell? ⟨w.heap.size, 3, none⟩ = some (.int .i64 0) := q4.cell 3
    have hbz : Below w.heap.size w ((((w1.setCell ⟨w.heap.size, 0, none⟩ (.int .u8 4)).setCell ⟨w.heap.size, 1, none⟩ (.string ⟨[c].toArray⟩)).setCell ⟨w.heap.size, 2, none⟩ (.int .i64 0)).setCell ⟨w.heap.size, 3, none⟩ (.int .i64 0)) := ((((B1.out.setCell (p := ⟨w.heap.size, 0, none⟩) (Nat.le_refl _) _).setCell (p := ⟨w.heap.size, 1, none⟩) (Nat.le_refl _) _).setCell (p := ⟨w.heap.size, 2, none⟩) (Nat.le_refl _) _).setCell (p := ⟨w.heap.size, 3, none⟩) (Nat.le_refl _) _)
    have Hr := hide (show _ ∧ _ ∧ _ ∧ _ from ⟨r0, r1, r2, r3⟩)
    have Hbz := hide hbz
    clear q0 q1 q2 q3 q4 r0 r1 r2 r3 hbz
    go_wp2_with (first | (go_at_call 28; refine Hda.out.mono ?_; rintro e w' ⟨rfl, rfl⟩) | (go_at_call 14; refine Hla.out.mono ?_; rintro e w' ⟨rfl, rfl⟩))
    obtain ⟨r0, r1, r2, r3⟩ := Hr.out
    refine bodyPost_ret (v := .tuple #[.agg #[.int .u8 4, .string ⟨[c].toArray⟩, .int .i64 0, .int .i64 0], .int .i64 ((i : Int) + 1), .int .i64 0, .int .i64 0]) (by simp [results, Tryd.results17, go_sem, r0, r1, r2, r3, Result.andThen]) rfl ⟨?_, Hbz.out⟩
    rw [← HR.out]
    exact ok_ret (x := i + 1) rfl
  have hz125 : ((c.toNat : Int) == 125) = false := by rw [beq_eq_false_iff_ne]; exact fun h => g125 (UInt8.toNat_inj.1 (show c.toNat = 125 by omega))
  by_cases g38 : c = 38
  case pos =>
    have hz38 : ((c.toNat : Int) == 38) = true := by rw [g38]; rfl
    rw [if_pos (by rw [g38]; rfl)] at hR
    have HR := hide (show Lx.R.ok 4 [c] 0 1 = R from hR)
    clear hR
    clear g33 g36 g40 g41 g58 g61 g64 g91 g93 g123 g124 g125 g38
    clear hi
    have q0 := HT.out
    have y0 := q0.frozen 0
    have x0 := q0.cell 0
    have y1 := q0.frozen 1
    have x1 := q0.cell 1
    have y2 := q0.frozen 2
    have x2 := q0.cell 2
    have y3 := q0.frozen 3
    have x3 := q0.cell 3
    have q1 := q0.set_ 0 (.int .u8 4)
    have q2 := q1.set_ 1 (.string ⟨[c].toArray⟩)
    have q3 := q2.set_ 2 (.int .i64 0)
    have q4 := q3.set_ 3 (.int .i64 0)
    have r0 : ((((w1.setCell ⟨w.heap.size, 0, none⟩ (.int .u8 4)).setCell ⟨w.heap.size, 1, none⟩ (.string ⟨[c].toArray⟩)).setCell ⟨w.heap.size, 2, none⟩ (.int .i64 0)).setCell ⟨w.heap.size, 3, none⟩ (.int .i64 0)).cell? ⟨w.heap.size, 0, none⟩ = some (.int .u8 4) := q4.cell 0
    have r1 : ((((w1.setCell ⟨w.heap.size, 0, none⟩ (.int .u8 4)).setCell ⟨w.heap.size, 1, none⟩ (.string ⟨[c].toArray⟩)).setCell ⟨w.heap.size, 2, none⟩ (.int .i64 0)).setCell ⟨w.heap.size, 3, none⟩ (.int .i64 0)).cell? ⟨w.heap.size, 1, none⟩ = some (.string ⟨[c].toArray⟩) := q4.cell 1
    have r2 : ((((w1.setCell ⟨w.heap.size, 0, none⟩ (.int .u8 4)).setCell ⟨w.heap.size, 1, none⟩ (.string ⟨[c].toArray⟩)).setCell ⟨w.heap.size, 2, none⟩ (.int .i64 0)).setCell ⟨w.heap.size, 3, none⟩ (.int .i64 0)).cell? ⟨w.heap.size, 2, none⟩ = some (.int .i64 0) := q4.cell 2
    have r3 : ((((w1.setCell ⟨w.heap.size, 0, none⟩ (.int .u8 4)).setCell ⟨w.heap.size, 1, none⟩ (.string ⟨[c].toArray⟩)).setCell ⟨w.heap.size, 2, none⟩ (.int .i64 0)).setCell ⟨w.heap.size, 3, none⟩ (.int .i64 0)).cell? ⟨w.heap.size, 3, none⟩ = some (.int .i64 0) := q4.cell 3
    have hbz : Below w.heap.size w ((((w1.setCell ⟨w.heap.size, 0, none⟩ (.int .u8 4)).setCell ⟨w.heap.size, 1, none⟩ (.string ⟨[c].toArray⟩)).setCell ⟨w.heap.size, 2, none⟩ (.int .i64 0)).setCell ⟨w.heap.size, 3, none⟩ (.int .i64 0)) := ((((B1.out.setCell (p := ⟨w.heap.size, 0, none⟩) (Nat.le_refl _) _).setCell (p := ⟨w.heap.size, 1, none⟩) (Nat.le_refl _) _).setCell (p := ⟨w.heap.size, 2, none⟩) (Nat.le_refl _) _).setCell (p := ⟨w.heap.size, 3, none⟩) (Nat.le_refl _) _)
    have Hr := hide (show _ ∧ _ ∧ _ ∧ _ from ⟨r0, r1, r2, r3⟩)
    have Hbz := hide hbz
    clear q0 q1 q2 q3 q4 r0 r1 r2 r3 hbz
    go_wp2_with (first | (go_at_call 28; refine Hda.out.mono ?_; rintro e w' ⟨rfl, rfl⟩) | (go_at_call 14; refine Hla.out.mono ?_; rintro e w' ⟨rfl, rfl⟩))
    obtain ⟨r0, r1, r2, r3⟩ := Hr.out
    refine bodyPost_ret (v := .tuple #[.agg #[.int .u8 4, .string ⟨[c].toArray⟩, .int .i64 0, .int .i64 0], .int .i64 ((i : Int) + 1), .int .i64 0, .int .i64 0]) (by simp [results, Tryd.results17, go_sem, r0, r1, r2, r3, Result.andThen]) rfl ⟨?_, Hbz.out⟩
    rw [← HR.out]
    exact ok_ret (x := i + 1) rfl
  have hz38 : ((c.toNat : Int) == 38) = false := by rw [beq_eq_false_iff_ne]; exact fun h => g38 (UInt8.toNat_inj.1 (show c.toNat = 38 by omega))
  rw [if_neg (by simp [Lx.isSign, g33, g36, g40, g41, g58, g61, g64, g91, g93, g123, g124, g125, g38])] at hR
  have HR := hide (show Lx.R.bad 0 4 = R from hR)
  clear hR
  clear h1c g33 g36 g40 g41 g58 g61 g64 g91 g93 g123 g124 g125 g38
  have q0 := HT.out
  have y0 := q0.frozen 0
  have x0 := q0.cell 0
  have y1 := q0.frozen 1
  have x1 := q0.cell 1
  have y2 := q0.frozen 2
  have x2 := q0.cell 2
  have y3 := q0.frozen 3
  have x3 := q0.cell 3
  have q1 := q0.set_ 0 (.int .u8 0)
  have q2 := q1.set_ 1 (.string ⟨#[]⟩)
  have q3 := q2.set_ 2 (.int .i64 0)
  have q4 := q3.set_ 3 (.int .i64 0)
  have r0 : ((((w1.setCell ⟨w.heap.size, 0, none⟩ (.int .u8 0)).setCell ⟨w.heap.size, 1, none⟩ (.string ⟨#[]⟩)).setCell ⟨w.heap.size, 2, none⟩ (.int .i64 0)).setCell ⟨w.heap.size, 3, none⟩ (.int .i64 0)).cell? ⟨w.heap.size, 0, none⟩ = some (.int .u8 0) := q4.cell 0
  have r1 : ((((w1.setCell ⟨w.heap.size, 0, none⟩ (.int .u8 0)).setCell ⟨w.heap.size, 1, none⟩ (.string ⟨#[]⟩)).setCell ⟨w.heap.size, 2, none⟩ (.int .i64 0)).setCell ⟨w.heap.size, 3, none⟩ (.int .i64 0)).cell? ⟨w.heap.size, 1, none⟩ = some (.string ⟨#[]⟩) := q4.cell 1
  have r2 : ((((w1.setCell ⟨w.heap.size, 0, none⟩ (.int .u8 0)).setCell ⟨w.heap.size, 1, none⟩ (.string ⟨#[]⟩)).setCell ⟨w.heap.size, 2, none⟩ (.int .i64 0)).setCell ⟨w.heap.size, 3, none⟩ (.int .i64 0)).cell? ⟨w.heap.size, 2, none⟩ = some (.int .i64 0) := q4.cell 2
  have r3 : ((((w1.setCell ⟨w.heap.size, 0, none⟩ (.int .u8 0)).setCell ⟨w.heap.size, 1, none⟩ (.string ⟨#[]⟩)).setCell ⟨w.heap.size, 2, none⟩ (.int .i64 0)).setCell ⟨w.heap.size, 3, none⟩ (.int .i64 0)).cell? ⟨w.heap.size, 3, none⟩ = some (.int .i64 0) := q4.cell 3
  have hbz : Below w.heap.size w ((((w1.setCell ⟨w.heap.size, 0, none⟩ (.int .u8 0)).setCell ⟨w.heap.size, 1, none⟩ (.string ⟨#[]⟩)).setCell ⟨w.heap.size, 2, none⟩ (.int .i64 0)).setCell ⟨w.heap.size, 3, none⟩ (.int .i64 0)) := ((((B1.out.setCell (p := ⟨w.heap.size, 0, none⟩) (Nat.le_refl _) _).setCell (p := ⟨w.heap.size, 1, none⟩) (Nat.le_refl _) _).setCell (p := ⟨w.heap.size, 2, none⟩) (Nat.le_refl _) _).setCell (p := ⟨w.heap.size, 3, none⟩) (Nat.le_refl _) _)
  have Hr := hide (show _ ∧ _ ∧ _ ∧ _ from ⟨r0, r1, r2, r3⟩)
  have Hbz := hide hbz
  clear q0 q1 q2 q3 q4 r0 r1 r2 r3 hbz
  go_wp2_with (first | (go_at_call 28; refine Hda.out.mono ?_; rintro e w' ⟨rfl, rfl⟩) | (go_at_call 14; refine Hla.out.mono ?_; rintro e w' ⟨rfl, rfl⟩))
  obtain ⟨r0, r1, r2, r3⟩ := Hr.out
  refine bodyPost_ret (v := .tuple #[.agg #[.int .u8 0, .string ⟨#[]⟩, .int .i64 0, .int .i64 0], .int .i64 0, .int .i64 (i : Int), .int .i64 4]) (by simp [results, Tryd.results17, go_sem, r0, r1, r2, r3, Result.andThen]) rfl ⟨?_, Hbz.out⟩
  rw [← HR.out]
  exact bad_ret (x := i) (e := 4) (by omega)
end Go.Proofs.YtfbkmjjcopjoeaaDoor
