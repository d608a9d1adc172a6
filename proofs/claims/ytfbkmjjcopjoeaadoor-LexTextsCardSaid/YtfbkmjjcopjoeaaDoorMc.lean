/- columbaryref05: text. -/
import Derived.Test.YtfbkmjjcopjoeaaDoorMb
namespace Go.Proofs.YtfbkmjjcopjoeaaDoor
open Go.RowKit

theorem ba_cat (a b : List UInt8) : (⟨a.toArray⟩ : ByteArray) ++ (⟨b.toArray⟩ : ByteArray) = ⟨(a ++ b).toArray⟩ := by
  apply ByteArray.ext
  simp
theorem ba_one {s : List UInt8} {k : Nat} {c : UInt8} (h : s[k]? = some c) : (⟨s.toArray⟩ : ByteArray).extract k (k + 1) = ⟨[c].toArray⟩ := by
  rw [ba_extract]
  obtain ⟨h1, h2⟩ := List.getElem?_eq_some_iff.1 h
  rw [List.take_add_one, h, List.drop_append_of_le_length (by rw [List.length_take]; omega), List.drop_eq_nil_of_le (by rw [List.length_take]; omega)]
  rfl
theorem drop_at {s : List UInt8} {k : Nat} {c : UInt8} (h : s[k]? = some c) : s.drop k = c :: s.drop (k + 1) := by
  obtain ⟨h1, h2⟩ := List.getElem?_eq_some_iff.1 h
  rw [List.drop_eq_getElem_cons h1, h2]
theorem bad_ret {i off x e : Nat} (h : x = i + off) : Ending.returned (badV x e) = Ending.returned (oneV i (.bad off e)) := by rw [oneV, badV, h]
theorem ok_ret {i len x k : Nat} {t : List UInt8} {n : Int} (h : x = i + len) : Ending.returned (.tuple #[tokV k t n 0, .int .i64 (x : Int), .int .i64 0, .int .i64 0]) = Ending.returned (oneV i (.ok k t n len)) := by rw [oneV, h]
set_option maxRecDepth 100000 in
set_option maxHeartbeats 4000000 in
theorem text5_any (s : List UInt8) (i : Nat) (w : World) (hi : i < s.length) (hs : s.length ≤ 2000) :
    Calls Tryd.prog 30 #[.string ⟨s.toArray⟩, .int .i64 (i : Int)] w (OPost i (Lx.textT (s.drop (i + 1)) [] 1) w) := by
  have hb1 := (Below.refl w.heap.size w).alloc (Nat.le_refl _) (.cells #[.int .u8 0, .string ⟨#[]⟩, .int .i64 0, .int .i64 0] 50)
  have hT := Blk.new w 50 #[.int .u8 0, .string ⟨#[]⟩, .int .i64 0, .int .i64 0]
  obtain ⟨w1, hw1⟩ : ∃ w1, w.alloc (.cells #[.int .u8 0, .string ⟨#[]⟩, .int .i64 0, .int .i64 0] 50) = w1 := ⟨_, rfl⟩
  rw [hw1] at hb1 hT
  have B1 := hide hb1
  have HT := hide hT
  have za := zeroT
  have hsz : (⟨s.toArray⟩ : ByteArray).size = s.length := rfl
  obtain ⟨R, hR⟩ : ∃ R, Lx.textT (s.drop (i + 1)) [] 1 = R := ⟨_, rfl⟩
  rw [hR]
  have HR0 := hide hR
  clear hb1 hT hR
  go_enter Tryd.func30, Tryd.ntmps30
  go_wp2_with fail
  go_loopw [8, 9] (fun tv kv wr => ∃ (acc : List UInt8) (k : Nat), i < k ∧ k ≤ s.length ∧ acc.length ≤ k ∧ tv = .string ⟨acc.toArray⟩ ∧ kv = .int .i64 (k : Int) ∧ Lx.textT (s.drop k) acc (k - i) = R ∧ w1 = wr) (fun _ kv _ => s.length - (intOf kv).toNat)
  case atStart => exact ⟨[], i + 1, by omega, by omega, by simp, rfl, by go_num, by rw [show i + 1 - i = 1 by omega]; exact HR0.out, rfl⟩
  case round =>
  obtain ⟨acc, k, hik, hkl, hal, rfl, rfl, hR, rfl⟩ := hrel
  have Hk := hide (show i < k ∧ k ≤ s.length from ⟨hik, hkl⟩)
  have hasz : (⟨acc.toArray⟩ : ByteArray).size = acc.length := rfl
  by_cases hlt : k < s.length
  case neg =>
    obtain rfl : k = s.length := by omega
    rw [List.drop_length, Lx.textT] at hR
    have HR := hide hR
    clear hR
    have q0 := HT.out
    have y0 := q0.frozen 0
    have x0 := q0.cell 0
    have y1 := q0.frozen 1
    have x1 := q0.cell 1
    have y2 := q0.frozen 2
    have x2 := q0.cell 2
    have y3 := q0.frozen 3
    have x3 := q0.cell 3
    have q1 := q0.set_ 0 (.int .u8 0)
    have q2 := q1.set_ 1 (.string ⟨#[]⟩)
    have q3 := q2.set_ 2 (.int .i64 0)
    have q4 := q3.set_ 3 (.int .i64 0)
    have r0 : ((((w1.setCell ⟨w.heap.size, 0, none⟩ (.int .u8 0)).setCell ⟨w.heap.size, 1, none⟩ (.string ⟨#[]⟩)).setCell ⟨w.heap.size, 2, none⟩ (.int .i64 0)).setCell ⟨w.heap.size, 3, none⟩ (.int .i64 0)).cell? ⟨w.heap.size, 0, none⟩ = some (.int .u8 0) := q4.cell 0
    have r1 : ((((w1.setCell ⟨w.heap.size, 0, none⟩ (.int .u8 0)).setCell ⟨w.heap.size, 1, none⟩ (.string ⟨#[]⟩)).setCell ⟨w.heap.size, 2, none⟩ (.int .i64 0)).setCell ⟨w.heap.size, 3, none⟩ (.int .i64 0)).cell? ⟨w.heap.size, 1, none⟩ = some (.string ⟨#[]⟩) := q4.cell 1
    have r2 : ((((w1.setCell ⟨w.heap.size, 0, none⟩ (.int .u8 0)).setCell ⟨w.heap.size, 1, none⟩ (.string ⟨#[]⟩)).setCell ⟨w.heap.size, 2, none⟩ (.int .i64 0)).setCell ⟨w.heap.size, 3, none⟩ (.int .i64 0)).cell? ⟨w.heap.size, 2, none⟩ = some (.int .i64 0) := q4.cell 2
    have r3 : ((((w1.setCell ⟨w.heap.size, 0, none⟩ (.int .u8 0)).setCell ⟨w.heap.size, 1, none⟩ (.string ⟨#[]⟩)).setCell ⟨w.heap.size, 2, none⟩ (.int .i64 0)).setCell ⟨w.heap.size, 3, none⟩ (.int .i64 0)).cell? ⟨w.heap.size, 3, none⟩ = some (.int .i64 0) := q4.cell 3
    have hbz : Below w.heap.size w ((((w1.setCell ⟨w.heap.size, 0, none⟩ (.int .u8 0)).setCell ⟨w.heap.size, 1, none⟩ (.string ⟨#[]⟩)).setCell ⟨w.heap.size, 2, none⟩ (.int .i64 0)).setCell ⟨w.heap.size, 3, none⟩ (.int .i64 0)) := ((((B1.out.setCell (p := ⟨w.heap.size, 0, none⟩) (Nat.le_refl _) _).setCell (p := ⟨w.heap.size, 1, none⟩) (Nat.le_refl _) _).setCell (p := ⟨w.heap.size, 2, none⟩) (Nat.le_refl _) _).setCell (p := ⟨w.heap.size, 3, none⟩) (Nat.le_refl _) _)
    have Hr := hide (show _ ∧ _ ∧ _ ∧ _ from ⟨r0, r1, r2, r3⟩)
    have Hbz := hide hbz
    clear q0 q1 q2 q3 q4 r0 r1 r2 r3 hbz
    go_wp2
    obtain ⟨r0, r1, r2, r3⟩ := Hr.out
    refine bodyPost_ret (v := .tuple #[.agg #[.int .u8 0, .string ⟨#[]⟩, .int .i64 0, .int .i64 0], .int .i64 0, .int .i64 (s.length : Int), .int .i64 4]) (by simp [results, Tryd.results30, go_sem, r0, r1, r2, r3, Result.andThen]) rfl ⟨?_, Hbz.out⟩
    rw [← HR.out]
    exact bad_ret (x := s.length) (e := 4) (by have := Hk.out; omega)
  obtain ⟨c, hc⟩ : ∃ c, s[k]? = some c := ⟨_, List.getElem?_eq_getElem hlt⟩
  have hg := fun h => ba_get hc h
  rw [drop_at hc, Lx.textT.eq_def] at hR
  simp only at hR
  have h1c := ba_one hc
  have Hc := hide hc
  clear hc
  by_cases hc34 : c = 34
  case pos =>
    have hxc34 : ((c.toNat : Int) == 34) = true := by rw [hc34]; rfl
    rw [if_pos hc34] at hR
    clear hc34 h1c
    by_cases hl : 200 < acc.length
    case pos =>
      rw [if_pos hl] at hR
      have HR := hide (show Lx.R.bad 0 2 = R from hR)
      clear hR
      have q0 := HT.out
      have y0 := q0.frozen 0
      have x0 := q0.cell 0
      have y1 := q0.frozen 1
      have x1 := q0.cell 1
      have y2 := q0.frozen 2
      have x2 := q0.cell 2
      have y3 := q0.frozen 3
      have x3 := q0.cell 3
      have q1 := q0.set_ 0 (.int .u8 0)
      have q2 := q1.set_ 1 (.string ⟨#[]⟩)
      have q3 := q2.set_ 2 (.int .i64 0)
      have q4 := q3.set_ 3 (.int .i64 0)
      have r0 : ((((w1.setCell ⟨w.heap.size, 0, none⟩ (.int .u8 0)).setCell ⟨w.heap.size, 1, none⟩ (.string ⟨#[]⟩)).setCell ⟨w.heap.size, 2, none⟩ (.int .i64 0)).setCell ⟨w.heap.size, 3, none⟩ (.int .i64 0)).cell? ⟨w.heap.size, 0, none⟩ = some (.int .u8 0) := q4.cell 0
      have r1 : ((((w1.setCell ⟨w.heap.size, 0, none⟩ (.int .u8 0)).setCell ⟨w.heap.size, 1, none⟩ (.string ⟨#[]⟩)).setCell ⟨w.heap.size, 2, none⟩ (.int .i64 0)).setCell ⟨w.heap.size, 3, none⟩ (.int .i64 0)).cell? ⟨w.heap.size, 1, none⟩ = some (.string ⟨#[]⟩) := q4.cell 1
      have r2 : ((((w1.setCell ⟨w.heap.size, 0, none⟩ (.int .u8 0)).setCell ⟨w.heap.size, 1, none⟩ (.string ⟨#[]⟩)).setCell ⟨w.heap.size, 2, none⟩ (.int .i64 0)).setCell ⟨w.heap.size, 3, none⟩ (.int .i64 0)).cell? ⟨w.heap.size, 2, none⟩ = some (.int .i64 0) := q4.cell 2
      have r3 : ((((w1.setCell ⟨w.heap.size, 0, none⟩ (.int .u8 0)).setCell ⟨w.heap.size, 1, none⟩ (.string ⟨#[]⟩)).setCell ⟨w.heap.size, 2, none⟩ (.int .i64 0)).setCell ⟨w.heap.size, 3, none⟩ (.int .i64 0)).cell? ⟨w.heap.size, 3, none⟩ = some (.int .i64 0) := q4.cell 3
      have hbz : Below w.heap.size w ((((w1.setCell ⟨w.heap.size, 0, none⟩ (.int .u8 0)).setCell ⟨w.heap.size, 1, none⟩ (.string ⟨#[]⟩)).setCell ⟨w.heap.size, 2, none⟩ (.int .i64 0)).setCell ⟨w.heap.size, 3, none⟩ (.int .i64 0)) := ((((B1.out.setCell (p := ⟨w.heap.size, 0, none⟩) (Nat.le_refl _) _).setCell (p := ⟨w.heap.size, 1, none⟩) (Nat.le_refl _) _).setCell (p := ⟨w.heap.size, 2, none⟩) (Nat.le_refl _) _).setCell (p := ⟨w.heap.size, 3, none⟩) (Nat.le_refl _) _)
      have Hr := hide (show _ ∧ _ ∧ _ ∧ _ from ⟨r0, r1, r2, r3⟩)
      have Hbz := hide hbz
      clear q0 q1 q2 q3 q4 r0 r1 r2 r3 hbz
      go_wp2
      obtain ⟨r0, r1, r2, r3⟩ := Hr.out
      refine bodyPost_ret (v := .tuple #[.agg #[.int .u8 0, .string ⟨#[]⟩, .int .i64 0, .int .i64 0], .int .i64 0, .int .i64 (i : Int), .int .i64 2]) (by simp [results, Tryd.results30, go_sem, r0, r1, r2, r3, Result.andThen]) rfl ⟨?_, Hbz.out⟩
      rw [← HR.out]
      exact bad_ret (x := i) (e := 2) (by have := Hk.out; omega)
    rw [if_neg hl] at hR
    have HR := hide (show Lx.R.ok 3 acc 0 (k - i + 1) = R from hR)
    clear hR
    have q0 := HT.out
    have y0 := q0.frozen 0
    have x0 := q0.cell 0
    have y1 := q0.frozen 1
    have x1 := q0.cell 1
    have y2 := q0.frozen 2
    have x2 := q0.cell 2
    have y3 := q0.frozen 3
    have x3 := q0.cell 3
    have q1 := q0.set_ 0 (.int .u8 3)
    have q2 := q1.set_ 1 (.string ⟨acc.toArray⟩)
    have q3 := q2.set_ 2 (.int .i64 0)
    have q4 := q3.set_ 3 (.int .i64 0)
    have r0 : ((((w1.setCell ⟨w.heap.size, 0, none⟩ (.int .u8 3)).setCell ⟨w.heap.size, 1, none⟩ (.string ⟨acc.toArray⟩)).setCell ⟨w.heap.size, 2, none⟩ (.int .i64 0)).setCell ⟨w.heap.size, 3, none⟩ (.int .i64 0)).cell? ⟨w.heap.size, 0, none⟩ = some (.int .u8 3) := q4.cell 0
    have r1 : ((((w1.setCell ⟨w.heap.size, 0, none⟩ (.int .u8 3)).setCell ⟨w.heap.size, 1, none⟩ (.string ⟨acc.toArray⟩)).setCell ⟨w.heap.size, 2, none⟩ (.int .i64 0)).setCell ⟨w.heap.size, 3, none⟩ (.int .i64 0)).cell? ⟨w.heap.size, 1, none⟩ = some (.string ⟨acc.toArray⟩) := q4.cell 1
    have r2 : ((((w1.setCell ⟨w.heap.size, 0, none⟩ (.int .u8 3)).setCell ⟨w.heap.size, 1, none⟩ (.string ⟨acc.toArray⟩)).setCell ⟨w.heap.size, 2, none⟩ (.int .i64 0)).setCell ⟨w.heap.size, 3, none⟩ (.int .i64 0)).cell? ⟨w.heap.size, 2, none⟩ = some (.int .i64 0) := q4.cell 2
    have r3 : ((((w1.setCell ⟨w.heap.size, 0, none⟩ (.int .u8 3)).setCell ⟨w.heap.size, 1, none⟩ (.string ⟨acc.toArray⟩)).setCell ⟨w.heap.size, 2, none⟩ (.int .i64 0)).setCell ⟨w.heap.size, 3, none⟩ (.int .i64 0)).cell? ⟨w.heap.size, 3, none⟩ = some (.int .i64 0) := q4.cell 3
    have hbz : Below w.heap.size w ((((w1.setCell ⟨w.heap.size, 0, none⟩ (.int .u8 3)).setCell ⟨w.heap.size, 1, none⟩ (.string ⟨acc.toArray⟩)).setCell ⟨w.heap.size, 2, none⟩ (.int .i64 0)).setCell ⟨w.heap.size, 3, none⟩ (.int .i64 0)) := ((((B1.out.setCell (p := ⟨w.heap.size, 0, none⟩) (Nat.le_refl _) _).setCell (p := ⟨w.heap.size, 1, none⟩) (Nat.le_refl _) _).setCell (p := ⟨w.heap.size, 2, none⟩) (Nat.le_refl _) _).setCell (p := ⟨w.heap.size, 3, none⟩) (Nat.le_refl _) _)
    have Hr := hide (show _ ∧ _ ∧ _ ∧ _ from ⟨r0, r1, r2, r3⟩)
    have Hbz := hide hbz
    clear q0 q1 q2 q3 q4 r0 r1 r2 r3 hbz
    go_wp2
    obtain ⟨r0, r1, r2, r3⟩ := Hr.out
    refine bodyPost_ret (v := .tuple #[.agg #[.int .u8 3, .string ⟨acc.toArray⟩, .int .i64 0, .int .i64 0], .int .i64 ((k : Int) + 1), .int .i64 0, .int .i64 0]) (by simp [results, Tryd.results30, go_sem, r0, r1, r2, r3, Result.andThen]) rfl ⟨?_, Hbz.out⟩
    rw [← HR.out]
    exact ok_ret (x := k + 1) (by have := Hk.out; omega)
  have hxc34 : ((c.toNat : Int) == 34) = false := by rw [beq_eq_false_iff_ne]; exact fun h => hc34 (UInt8.toNat_inj.1 (show c.toNat = 34 by omega))
  by_cases hc10 : c = 10
  case pos =>
    have hxc10 : ((c.toNat : Int) == 10) = true := by rw [hc10]; rfl
    rw [if_neg hc34, if_pos hc10] at hR
    clear hc34 hc10 h1c
    have HR := hide (show Lx.R.bad (k - i) 4 = R from hR)
    clear hR
    have q0 := HT.out
    have y0 := q0.frozen 0
    have x0 := q0.cell 0
    have y1 := q0.frozen 1
    have x1 := q0.cell 1
    have y2 := q0.frozen 2
    have x2 := q0.cell 2
    have y3 := q0.frozen 3
    have x3 := q0.cell 3
    have q1 := q0.set_ 0 (.int .u8 0)
    have q2 := q1.set_ 1 (.string ⟨#[]⟩)
    have q3 := q2.set_ 2 (.int .i64 0)
    have q4 := q3.set_ 3 (.int .i64 0)
    have r0 : ((((w1.setCell ⟨w.heap.size, 0, none⟩ (.int .u8 0)).setCell ⟨w.heap.size, 1, none⟩ (.string ⟨#[]⟩)).setCell ⟨w.heap.size, 2, none⟩ (.int .i64 0)).setCell ⟨w.heap.size, 3, none⟩ (.int .i64 0)).cell? ⟨w.heap.size, 0, none⟩ = some (.int .u8 0) := q4.cell 0
    have r1 : ((((w1.setCell ⟨w.heap.size, 0, none⟩ (.int .u8 0)).setCell ⟨w.heap.size, 1, none⟩ (.string ⟨#[]⟩)).setCell ⟨w.heap.size, 2, none⟩ (.int .i64 0)).setCell ⟨w.heap.size, 3, none⟩ (.int .i64 0)).cell? ⟨w.heap.size, 1, none⟩ = some (.string ⟨#[]⟩) := q4.cell 1
    have r2 : ((((w1.setCell ⟨w.heap.size, 0, none⟩ (.int .u8 0)).setCell ⟨w.heap.size, 1, none⟩ (.string ⟨#[]⟩)).setCell ⟨w.heap.size, 2, none⟩ (.int .i64 0)).setCell ⟨w.heap.size, 3, none⟩ (.int .i64 0)).cell? ⟨w.heap.size, 2, none⟩ = some (.int .i64 0) := q4.cell 2
    have r3 : ((((w1.setCell ⟨w.heap.size, 0, none⟩ (.int .u8 0)).setCell ⟨w.heap.size, 1, none⟩ (.string ⟨#[]⟩)).setCell ⟨w.heap.size, 2, none⟩ (.int .i64 0)).setCell ⟨w.heap.size, 3, none⟩ (.int .i64 0)).cell? ⟨w.heap.size, 3, none⟩ = some (.int .i64 0) := q4.cell 3
    have hbz : Below w.heap.size w ((((w1.setCell ⟨w.heap.size, 0, none⟩ (.int .u8 0)).setCell ⟨w.heap.size, 1, none⟩ (.string ⟨#[]⟩)).setCell ⟨w.heap.size, 2, none⟩ (.int .i64 0)).setCell ⟨w.heap.size, 3, none⟩ (.int .i64 0)) := ((((B1.out.setCell (p := ⟨w.heap.size, 0, none⟩) (Nat.le_refl _) _).setCell (p := ⟨w.heap.size, 1, none⟩) (Nat.le_refl _) _).setCell (p := ⟨w.heap.size, 2, none⟩) (Nat.le_refl _) _).setCell (p := ⟨w.heap.size, 3, none⟩) (Nat.le_refl _) _)
    have Hr := hide (show _ ∧ _ ∧ _ ∧ _ from ⟨r0, r1, r2, r3⟩)
    have Hbz := hide hbz
    clear q0 q1 q2 q3 q4 r0 r1 r2 r3 hbz
    go_wp2
    obtain ⟨r0, r1, r2, r3⟩ := Hr.out
    refine bodyPost_ret (v := .tuple #[.agg #[.int .u8 0, .string ⟨#[]⟩, .int .i64 0, .int .i64 0], .int .i64 0, .int .i64 (k : Int), .int .i64 4]) (by simp [results, Tryd.results30, go_sem, r0, r1, r2, r3, Result.andThen]) rfl ⟨?_, Hbz.out⟩
    rw [← HR.out]
    exact bad_ret (x := k) (e := 4) (by have := Hk.out; omega)
  have hxc10 : ((c.toNat : Int) == 10) = false := by rw [beq_eq_false_iff_ne]; exact fun h => hc10 (UInt8.toNat_inj.1 (show c.toNat = 10 by omega))
  by_cases hc92 : c = 92
  case pos =>
    have hxc92 : ((c.toNat : Int) == 92) = true := by rw [hc92]; rfl
    rw [if_neg hc34, if_neg hc10, if_pos hc92] at hR
    clear hc34 hc10 hc92 h1c
    by_cases hk1 : k + 1 < s.length
    case neg =>
      have hend : s.drop (k + 1) = [] := List.drop_eq_nil_of_le (by omega)
      rw [hend] at hR
      simp only at hR
      clear hend
      have hks : ((k : Int) + 1 == (s.length : Int)) = true := by rw [beq_iff_eq]; omega
      have HR := hide (show Lx.R.bad (k - i + 1) 4 = R from hR)
      clear hR
      have q0 := HT.out
      have y0 := q0.frozen 0
      have x0 := q0.cell 0
      have y1 := q0.frozen 1
      have x1 := q0.cell 1
      have y2 := q0.frozen 2
      have x2 := q0.cell 2
      have y3 := q0.frozen 3
      have x3 := q0.cell 3
      have q1 := q0.set_ 0 (.int .u8 0)
      have q2 := q1.set_ 1 (.string ⟨#[]⟩)
      have q3 := q2.set_ 2 (.int .i64 0)
      have q4 := q3.set_ 3 (.int .i64 0)
      have r0 : ((((w1.setCell ⟨w.heap.size, 0, none⟩ (.int .u8 0)).setCell ⟨w.heap.size, 1, none⟩ (.string ⟨#[]⟩)).setCell ⟨w.heap.size, 2, none⟩ (.int .i64 0)).setCell ⟨w.heap.size, 3, none⟩ (.int .i64 0)).cell? ⟨w.heap.size, 0, none⟩ = some (.int .u8 0) := q4.cell 0
      have r1 : ((((w1.setCell ⟨w.heap.size, 0, none⟩ (.int .u8 0)).setCell ⟨w.heap.size, 1, none⟩ (.string ⟨#[]⟩)).setCell ⟨w.heap.size, 2, none⟩ (.int .i64 0)).setCell ⟨w.heap.size, 3, none⟩ (.int .i64 0)).cell? ⟨w.heap.size, 1, none⟩ = some (.string ⟨#[]⟩) := q4.cell 1
      have r2 : ((((w1.setCell ⟨w.heap.size, 0, none⟩ (.int .u8 0)).setCell ⟨w.heap.size, 1, none⟩ (.string ⟨#[]⟩)).setCell ⟨w.heap.size, 2, none⟩ (.int .i64 0)).setCell ⟨w.heap.size, 3, none⟩ (.int .i64 0)).cell? ⟨w.heap.size, 2, none⟩ = some (.int .i64 0) := q4.cell 2
      have r3 : ((((w1.setCell ⟨w.heap.size, 0, none⟩ (.int .u8 0)).setCell ⟨w.heap.size, 1, none⟩ (.string ⟨#[]⟩)).setCell ⟨w.heap.size, 2, none⟩ (.int .i64 0)).setCell ⟨w.heap.size, 3, none⟩ (.int .i64 0)).cell? ⟨w.heap.size, 3, none⟩ = some (.int .i64 0) := q4.cell 3
      have hbz : Below w.heap.size w ((((w1.setCell ⟨w.heap.size, 0, none⟩ (.int .u8 0)).setCell ⟨w.heap.size, 1, none⟩ (.string ⟨#[]⟩)).setCell ⟨w.heap.size, 2, none⟩ (.int .i64 0)).setCell ⟨w.heap.size, 3, none⟩ (.int .i64 0)) := ((((B1.out.setCell (p := ⟨w.heap.size, 0, none⟩) (Nat.le_refl _) _).setCell (p := ⟨w.heap.size, 1, none⟩) (Nat.le_refl _) _).setCell (p := ⟨w.heap.size, 2, none⟩) (Nat.le_refl _) _).setCell (p := ⟨w.heap.size, 3, none⟩) (Nat.le_refl _) _)
      have Hr := hide (show _ ∧ _ ∧ _ ∧ _ from ⟨r0, r1, r2, r3⟩)
      have Hbz := hide hbz
      clear q0 q1 q2 q3 q4 r0 r1 r2 r3 hbz
      go_wp2
      obtain ⟨r0, r1, r2, r3⟩ := Hr.out
      refine bodyPost_ret (v := .tuple #[.agg #[.int .u8 0, .string ⟨#[]⟩, .int .i64 0, .int .i64 0], .int .i64 0, .int .i64 ((k : Int) + 1), .int .i64 4]) (by simp [results, Tryd.results30, go_sem, r0, r1, r2, r3, Result.andThen]) rfl ⟨?_, Hbz.out⟩
      rw [← HR.out]
      exact bad_ret (x := k + 1) (e := 4) (by have := Hk.out; omega)
    have hks : ((k : Int) + 1 == (s.length : Int)) = false := by rw [beq_eq_false_iff_ne]; omega
    obtain ⟨e, he⟩ : ∃ e, s[k + 1]? = some e := ⟨_, List.getElem?_eq_getElem hk1⟩
    have hge := fun h => ba_get he h
    have h1e := ba_one he
    rw [drop_at he] at hR
    simp only at hR
    clear he
    by_cases he110 : e = 110
    case pos =>
      have hxe110 : ((e.toNat : Int) == 110) = true := by rw [he110]; rfl
      rw [show Lx.esc e = some 10 by rw [he110]; rfl] at hR
      simp only at hR
      clear he110 h1e
      obtain ⟨acc2, hacc2⟩ : ∃ a, acc ++ [10] = a := ⟨_, rfl⟩
      have hcat : (⟨acc.toArray⟩ : ByteArray) ++ (⟨#[10]⟩ : ByteArray) = ⟨(acc ++ [10]).toArray⟩ := ba_cat acc [10]
      rw [hacc2] at hR hcat
      have hal2 : acc2.length = acc.length + 1 := by rw [← hacc2]; simp
      have HR := hide hR
      clear hR hacc2
      go_wp2
      go_roundw
      case rel => exact ⟨acc2, k + 2, by have := Hk.out; omega, by have := Hk.out; omega, by omega, by first | rfl | go_num, by go_num, by rw [show k + 2 - i = k - i + 2 by have := Hk.out; omega]; exact HR.out, by first | rfl | trivial⟩
      case measure => have := Hk.out; simp [intOf]; omega
    have hxe110 : ((e.toNat : Int) == 110) = false := by rw [beq_eq_false_iff_ne]; exact fun h => he110 (UInt8.toNat_inj.1 (show e.toNat = 110 by omega))
    by_cases he116 : e = 116
    case pos =>
      have hxe116 : ((e.toNat : Int) == 116) = true := by rw [he116]; rfl
      rw [show Lx.esc e = some 9 by rw [he116]; rfl] at hR
      simp only at hR
      clear he110 he116 h1e
      obtain ⟨acc2, hacc2⟩ : ∃ a, acc ++ [9] = a := ⟨_, rfl⟩
      have hcat : (⟨acc.toArray⟩ : ByteArray) ++ (⟨#[9]⟩ : ByteArray) = ⟨(acc ++ [9]).toArray⟩ := ba_cat acc [9]
      rw [hacc2] at hR hcat
      have hal2 : acc2.length = acc.length + 1 := by rw [← hacc2]; simp
      have HR := hide hR
      clear hR hacc2
      go_wp2
      go_roundw
      case rel => exact ⟨acc2, k + 2, by have := Hk.out; omega, by have := Hk.out; omega, by omega, by first | rfl | go_num, by go_num, by rw [show k + 2 - i = k - i + 2 by have := Hk.out; omega]; exact HR.out, by first | rfl | trivial⟩
      case measure => have := Hk.out; simp [intOf]; omega
    have hxe116 : ((e.toNat : Int) == 116) = false := by rw [beq_eq_false_iff_ne]; exact fun h => he116 (UInt8.toNat_inj.1 (show e.toNat = 116 by omega))
    by_cases he34 : e = 34
    case pos =>
      have hxe34 : ((e.toNat : Int) == 34) = true := by rw [he34]; rfl
      rw [show Lx.esc e = some e by rw [he34]; rfl] at hR
      simp only at hR
      clear he110 he116 he34
      obtain ⟨acc2, hacc2⟩ : ∃ a, acc ++ [e] = a := ⟨_, rfl⟩
      have hcat : (⟨acc.toArray⟩ : ByteArray) ++ (⟨s.toArray⟩ : ByteArray).extract (k + 1) (k + 1 + 1) = ⟨(acc ++ [e]).toArray⟩ := by rw [h1e]; exact ba_cat acc [e]
      have hxs : ((⟨s.toArray⟩ : ByteArray).extract (k + 1) (k + 1 + 1)).size = 1 := by rw [h1e]; rfl
      clear h1e
      rw [hacc2] at hR hcat
      have hal2 : acc2.length = acc.length + 1 := by rw [← hacc2]; simp
      have HR := hide hR
      clear hR hacc2
      go_wp2
      go_roundw
      case rel => exact ⟨acc2, k + 2, by have := Hk.out; omega, by have := Hk.out; omega, by omega, by first | rfl | go_num, by go_num, by rw [show k + 2 - i = k - i + 2 by have := Hk.out; omega]; exact HR.out, by first | rfl | trivial⟩
      case measure => have := Hk.out; simp [intOf]; omega
    have hxe34 : ((e.toNat : Int) == 34) = false := by rw [beq_eq_false_iff_ne]; exact fun h => he34 (UInt8.toNat_inj.1 (show e.toNat = 34 by omega))
    by_cases he47 : e = 47
    case pos =>
      have hxe47 : ((e.toNat : Int) == 47) = true := by rw [he47]; rfl
      rw [show Lx.esc e = some e by rw [he47]; rfl] at hR
      simp only at hR
      clear he110 he116 he34 he47
      obtain ⟨acc2, hacc2⟩ : ∃ a, acc ++ [e] = a := ⟨_, rfl⟩
      have hcat : (⟨acc.toArray⟩ : ByteArray) ++ (⟨s.toArray⟩ : ByteArray).extract (k + 1) (k + 1 + 1) = ⟨(acc ++ [e]).toArray⟩ := by rw [h1e]; exact ba_cat acc [e]
      have hxs : ((⟨s.toArray⟩ : ByteArray).extract (k + 1) (k + 1 + 1)).size = 1 := by rw [h1e]; rfl
      clear h1e
      rw [hacc2] at hR hcat
      have hal2 : acc2.length = acc.length + 1 := by rw [← hacc2]; simp
      have HR := hide hR
      clear hR hacc2
      go_wp2
      go_roundw
      case rel => exact ⟨acc2, k + 2, by have := Hk.out; omega, by have := Hk.out; omega, by omega, by first | rfl | go_num, by go_num, by rw [show k + 2 - i = k - i + 2 by have := Hk.out; omega]; exact HR.out, by first | rfl | trivial⟩
      case measure => have := Hk.out; simp [intOf]; omega
    have hxe47 : ((e.toNat : Int) == 47) = false := by rw [beq_eq_false_iff_ne]; exact fun h => he47 (UInt8.toNat_inj.1 (show e.toNat = 47 by omega))
    by_cases he92 : e = 92
    case pos =>
      have hxe92 : ((e.toNat : Int) == 92) = true := by rw [he92]; rfl
      rw [show Lx.esc e = some e by rw [he92]; rfl] at hR
      simp only at hR
      clear he110 he116 he34 he47 he92
      obtain ⟨acc2, hacc2⟩ : ∃ a, acc ++ [e] = a := ⟨_, rfl⟩
      have hcat : (⟨acc.toArray⟩ : ByteArray) ++ (⟨s.toArray⟩ : ByteArray).extract (k + 1) (k + 1 + 1) = ⟨(acc ++ [e]).toArray⟩ := by rw [h1e]; exact ba_cat acc [e]
      have hxs : ((⟨s.toArray⟩ : ByteArray).extract (k + 1) (k + 1 + 1)).size = 1 := by rw [h1e]; rfl
      clear h1e
      rw [hacc2] at hR hcat
      have hal2 : acc2.length = acc.length + 1 := by rw [← hacc2]; simp
      have HR := hide hR
      clear hR hacc2
      go_wp2
      go_roundw
      case rel => exact ⟨acc2, k + 2, by have := Hk.out; omega, by have := Hk.out; omega, by omega, by first | rfl | go_num, by go_num, by rw [show k + 2 - i = k - i + 2 by have := Hk.out; omega]; exact HR.out, by first | rfl | trivial⟩
      case measure => have := Hk.out; simp [intOf]; omega
    have hxe92 : ((e.toNat : Int) == 92) = false := by rw [beq_eq_false_iff_ne]; exact fun h => he92 (UInt8.toNat_inj.1 (show e.toNat = 92 by omega))
    rw [show Lx.esc e = none by simp [Lx.esc, he110, he116, he34, he47, he92]] at hR
    simp only at hR
    clear he110 he116 he34 he47 he92 h1e
    have HR := hide (show Lx.R.bad (k - i + 1) 4 = R from hR)
    clear hR
    have q0 := HT.out
    have y0 := q0.frozen 0
    have x0 := q0.cell 0
    have y1 := q0.frozen 1
    have x1 := q0.cell 1
    have y2 := q0.frozen 2
    have x2 := q0.cell 2
    have y3 := q0.frozen 3
    have x3 := q0.cell 3
    have q1 := q0.set_ 0 (.int .u8 0)
    have q2 := q1.set_ 1 (.string ⟨#[]⟩)
    have q3 := q2.set_ 2 (.int .i64 0)
    have q4 := q3.set_ 3 (.int .i64 0)
    have r0 : ((((w1.setCell ⟨w.heap.size, 0, none⟩ (.int .u8 0)).setCell ⟨w.heap.size, 1, none⟩ (.string ⟨#[]⟩)).setCell ⟨w.heap.size, 2, none⟩ (.int .i64 0)).setCell ⟨w.heap.size, 3, none⟩ (.int .i64 0)).cell? ⟨w.heap.size, 0, none⟩ = some (.int .u8 0) := q4.cell 0
    have r1 : ((((w1.setCell ⟨w.heap.size, 0, none⟩ (.int .u8 0)).setCell ⟨w.heap.size, 1, none⟩ (.string ⟨#[]⟩)).setCell ⟨w.heap.size, 2, none⟩ (.int .i64 0)).setCell ⟨w.heap.size, 3, none⟩ (.int .i64 0)).cell? ⟨w.heap.size, 1, none⟩ = some (.string ⟨#[]⟩) := q4.cell 1
    have r2 : ((((w1.setCell ⟨w.heap.size, 0, none⟩ (.int .u8 0)).setCell ⟨w.heap.size, 1, none⟩ (.string ⟨#[]⟩)).setCell ⟨w.heap.size, 2, none⟩ (.int .i64 0)).setCell ⟨w.heap.size, 3, none⟩ (.int .i64 0)).cell? ⟨w.heap.size, 2, none⟩ = some (.int .i64 0) := q4.cell 2
    have r3 : ((((w1.setCell ⟨w.heap.size, 0, none⟩ (.int .u8 0)).setCell ⟨w.heap.size, 1, none⟩ (.string ⟨#[]⟩)).setCell ⟨w.heap.size, 2, none⟩ (.int .i64 0)).setCell ⟨w.heap.size, 3, none⟩ (.int .i64 0)).cell? ⟨w.heap.size, 3, none⟩ = some (.int .i64 0) := q4.cell 3
    have hbz : Below w.heap.size w ((((w1.setCell ⟨w.heap.size, 0, none⟩ (.int .u8 0)).setCell ⟨w.heap.size, 1, none⟩ (.string ⟨#[]⟩)).setCell ⟨w.heap.size, 2, none⟩ (.int .i64 0)).setCell ⟨w.heap.size, 3, none⟩ (.int .i64 0)) := ((((B1.out.setCell (p := ⟨w.heap.size, 0, none⟩) (Nat.le_refl _) _).setCell (p := ⟨w.heap.size, 1, none⟩) (Nat.le_refl _) _).setCell (p := ⟨w.heap.size, 2, none⟩) (Nat.le_refl _) _).setCell (p := ⟨w.heap.size, 3, none⟩) (Nat.le_refl _) _)
    have Hr := hide (show _ ∧ _ ∧ _ ∧ _ from ⟨r0, r1, r2, r3⟩)
    have Hbz := hide hbz
    clear q0 q1 q2 q3 q4 r0 r1 r2 r3 hbz
    go_wp2
    obtain ⟨r0, r1, r2, r3⟩ := Hr.out
    refine bodyPost_ret (v := .tuple #[.agg #[.int .u8 0, .string ⟨#[]⟩, .int .i64 0, .int .i64 0], .int .i64 0, .int .i64 ((k : Int) + 1), .int .i64 4]) (by simp [results, Tryd.results30, go_sem, r0, r1, r2, r3, Result.andThen]) rfl ⟨?_, Hbz.out⟩
    rw [← HR.out]
    exact bad_ret (x := k + 1) (e := 4) (by have := Hk.out; omega)
  have hxc92 : ((c.toNat : Int) == 92) = false := by rw [beq_eq_false_iff_ne]; exact fun h => hc92 (UInt8.toNat_inj.1 (show c.toNat = 92 by omega))
  rw [if_neg hc34, if_neg hc10, if_neg hc92] at hR
  clear hc34 hc10 hc92
  obtain ⟨acc2, hacc2⟩ : ∃ a, acc ++ [c] = a := ⟨_, rfl⟩
  have hcat : (⟨acc.toArray⟩ : ByteArray) ++ (⟨s.toArray⟩ : ByteArray).extract (k) (k + 1) = ⟨(acc ++ [c]).toArray⟩ := by rw [h1c]; exact ba_cat acc [c]
  have hxs : ((⟨s.toArray⟩ : ByteArray).extract (k) (k + 1)).size = 1 := by rw [h1c]; rfl
  clear h1c
  rw [hacc2] at hR hcat
  have hal2 : acc2.length = acc.length + 1 := by rw [← hacc2]; simp
  have HR := hide hR
  clear hR hacc2
  go_wp2
  go_roundw
  case rel => exact ⟨acc2, k + 1, by have := Hk.out; omega, by have := Hk.out; omega, by omega, by first | rfl | go_num, by go_num, by rw [show k + 1 - i = k - i + 1 by have := Hk.out; omega]; exact HR.out, by first | rfl | trivial⟩
  case measure => have := Hk.out; simp [intOf]; omega
end Go.Proofs.YtfbkmjjcopjoeaaDoor
