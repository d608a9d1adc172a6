/- Package lex: pass, fault, meaning. -/
import Derived.Test.YtfbkmjjcopjoeaaDoorNe
namespace Go.Proofs.YtfbkmjjcopjoeaaDoor
open Go.RowKit

theorem LexAt.sees {B xb i : Nat} {w0 w : World} {s : List UInt8} {F : Fns} {f : Value} {p : UInt8 → Bool} (H : LexAt B w0 w xb s F i) (hf : Cls B w0 f p) :
    Calls Tryd.prog 23 #[.pointer (some ⟨xb, 0, none⟩), f] w fun e w' => e = .returned (.bool ((s[i]?).any p)) ∧ LexAt B w0 w' xb s F i ∧ Fr (fun _ => False) w w' := by
  refine (sees_any H hf).mono ?_
  rintro e w' ⟨rfl, n, rfl⟩
  exact ⟨rfl, H.drewN n, (Fr.refl _ _).drewN n⟩
set_option maxRecDepth 100000 in
set_option maxHeartbeats 2000000 in
theorem pass_any {B xb i : Nat} {w0 w : World} {s : List UInt8} {F : Fns} {f : Value} {p : UInt8 → Bool} (H : LexAt B w0 w xb s F i) (hf : Cls B w0 f p) :
    Calls Tryd.prog 36 #[.pointer (some ⟨xb, 0, none⟩), f] w fun e w' => e = .returned (.string ⟨((s.drop i).takeWhile p).toArray⟩) ∧ LexAt B w0 w' xb s F (i + ((s.drop i).takeWhile p).length) ∧ Fr (fun q => q = xb) w w' := by
  have b1 := H.c1
  have hsz : (⟨s.toArray⟩ : ByteArray).size = s.length := rfl
  obtain ⟨ds, hds⟩ : ∃ ds, (s.drop i).takeWhile p = ds := ⟨_, rfl⟩
  have hdl : ds.length ≤ s.length - i := by rw [← hds, ← List.length_drop]; exact Lx.takeWhile_le _ _
  have hget : ∀ (j : Nat), j ≤ ds.length → (j < ds.length ↔ (s[i + j]?).any p = true) := fun j hj => by
    have h := tw_iff p (s.drop i) j (by rw [hds]; exact hj)
    rw [hds, List.getElem?_drop] at h
    rw [h, Option.any_eq_true]
  have hdt : ds = (s.drop i).take ds.length := by
    have h := Lx.takeWhile_take p (s.drop i)
    rwa [hds] at h
  rw [hds]
  obtain ⟨m, hm⟩ : ∃ m, ds.length = m := ⟨_, rfl⟩
  rw [hm] at hdl hget hdt ⊢
  have Hget := hide hget
  have Hdt := hide hdt
  have Hm := hide hm
  have Hdl := hide hdl
  have HH := hide H
  have Hf := hide hf
  have Hi := hide H.le
  clear hds hget hdt hm hdl H hf
  go_enter Tryd.func36, Tryd.ntmps36
  go_wp2_with fail
  clear b1
  go_loopg [12] (m) (fun gk xv wr => ∃ j q : Nat, i + j = q ∧ j ≤ m ∧ gk = m - j ∧ LexAt B w0 wr xb s F q ∧ Fr (fun q => q = xb) w wr)
  case atStart => exact ⟨0, i, rfl, Nat.zero_le _, rfl, HH.out, Fr.refl _ _⟩
  case round =>
    obtain ⟨j, q, hq, hj, rfl, hL, hfr⟩ := hrel
    have Hq := hide hq
    have Hj := hide hj
    have HL := hide hL
    have Hfr := hide hfr
    have Hs := hide (hL.sees Hf.out)
    clear hq hL hfr
    by_cases hjm : j < m
    case pos =>
      have hany : (s[q]?).any p = true := by rw [← Hq.out]; exact (Hget.out j hj).1 hjm
      rw [hany] at Hs
      have Hjm := hide hjm
      clear hany hjm hj
      go_wp2_with (go_at_call 23; refine Hs.out.mono ?_; rintro e w2 ⟨rfl, hL2, hf2⟩; have HL2 := hide hL2; have Hf2 := hide hf2; have b1 := hL2.c1; have y1 := hL2.y1; have hq0 := hL2.len; have hq1 := hL2.le; clear hL2 hf2)
      go_roundg (m - (j + 1))
      case measure => have := Hjm.out; omega
      case rel =>
        have hq2 : q + 1 ≤ s.length := by have := Hjm.out; have := Hdl.out; have := Hq.out; have := Hi.out; omega
        exact ⟨j + 1, q + 1, by have := Hq.out; omega, by have := Hjm.out; omega, rfl, HL2.out.move hq2, (Hfr.out.trans' Hf2.out (fun _ _ h => h.elim)).put1 1 _⟩
    case neg =>
      obtain rfl : j = m := by omega
      have hany : (s[q]?).any p = false := by
        have h := (not_congr (Hget.out j hj)).1 (by omega)
        rw [Hq.out] at h
        simpa using h
      rw [hany] at Hs
      have he1 : (⟨s.toArray⟩ : ByteArray).extract i q = ⟨ds.toArray⟩ := by rw [ba_extract, ← Hq.out, ← List.take_drop, ← Hdt.out]
      have hiq : i ≤ q := by have := Hq.out; omega
      have hql := HL.out.le
      clear hany hjm hj
      go_wp2_with (go_at_call 23; refine Hs.out.mono ?_; rintro e w2 ⟨rfl, hL2, hf2⟩; have HL2 := hide hL2; have Hf2 := hide hf2; have b1 := hL2.c1; have b0 := hL2.c0; clear hL2 hf2)
      go_quiet (fail)
      go_wp2
      go_ret
      rw [Hq.out]
      exact ⟨rfl, HL2.out.drewN _, (Hfr.out.trans' Hf2.out (fun _ _ h => h.elim)).drewN _⟩
theorem LexAt.put4 {B xb i tb : Nat} {w0 w : World} {s : List UInt8} {F : Fns} (h : LexAt B w0 w xb s F i) (hb : xb ≠ tb) (hn : w0.heap.size ≤ tb) (v0 v1 v2 v3 : Value) :
    LexAt B w0 ((((w.setCell ⟨tb, 0, none⟩ v0).setCell ⟨tb, 1, none⟩ v1).setCell ⟨tb, 2, none⟩ v2).setCell ⟨tb, 3, none⟩ v3) xb s F i :=
  ⟨(((h.blk.far (p := ⟨tb, 0, none⟩) hb _).far (p := ⟨tb, 1, none⟩) hb _).far (p := ⟨tb, 2, none⟩) hb _).far (p := ⟨tb, 3, none⟩) hb _, h.cls,
    (((h.fr.setCell (p := ⟨tb, 0, none⟩) hn _).setCell (p := ⟨tb, 1, none⟩) hn _).setCell (p := ⟨tb, 2, none⟩) hn _).setCell (p := ⟨tb, 3, none⟩) hn _, h.new, h.le, h.len⟩
theorem Fr.put4 {G : Nat → Prop} {a w : World} {tb : Nat} (h : Fr G a w) (hn : a.heap.size ≤ tb) (v0 v1 v2 v3 : Value) :
    Fr G a ((((w.setCell ⟨tb, 0, none⟩ v0).setCell ⟨tb, 1, none⟩ v1).setCell ⟨tb, 2, none⟩ v2).setCell ⟨tb, 3, none⟩ v3) :=
  (((h.setCell (p := ⟨tb, 0, none⟩) (.inr hn) _).setCell (p := ⟨tb, 1, none⟩) (.inr hn) _).setCell (p := ⟨tb, 2, none⟩) (.inr hn) _).setCell (p := ⟨tb, 3, none⟩) (.inr hn) _
def tokZ : Value := .agg #[.int .u8 0, .string ⟨#[]⟩, .int .i64 0, .int .i64 0]
theorem zeroLT (w : World) : (zeroValue 33).run Tryd.prog w = .ok (.agg #[.int .u8 0, .string ⟨#[]⟩, .int .i64 0, .int .i64 0]) w := by
  have h : (Tryd.prog.info? 33).map (·.zero) = some (some (.agg #[.int .u8 0, .string ⟨#[]⟩, .int .i64 0, .int .i64 0])) := by kernel_rfl
  obtain ⟨i, hi, hz⟩ := Option.map_eq_some_iff.1 h
  simp [zeroValue, typeInfo, hi, hz]
theorem buildL0 (w : World) : (Instr.build 33 #[]).run Tryd.prog w = .ok (.agg #[.int .u8 0, .string ⟨#[]⟩, .int .i64 0, .int .i64 0]) w := run_build w _ _ _ (by kernel_rfl)
set_option maxHeartbeats 2000000 in
theorem fault_any {B xb i : Nat} {w0 w : World} {s : List UInt8} {F : Fns} (at_ e : Nat) (H : LexAt B w0 w xb s F i) (ha : at_ ≤ s.length) :
    Calls Tryd.prog 37 #[.pointer (some ⟨xb, 0, none⟩), .int .i64 (at_ : Int), .int .i64 (e : Int)] w fun en w' => en = .returned (.tuple #[tokZ, .int .i64 (e : Int)]) ∧ LexAt B w0 w' xb s F at_ ∧ Fr (fun q => q = xb) w w' := by
  have hb0 := buildL0
  have za := zeroLT
  obtain ⟨w1, hw1⟩ : ∃ w1, w.alloc (.cells #[.int .u8 0, .string ⟨#[]⟩, .int .i64 0, .int .i64 0] 33) = w1 := ⟨_, rfl⟩
  obtain ⟨tb, htb⟩ : ∃ tb, w.heap.size = tb := ⟨_, rfl⟩
  have hx : xb < w.heap.size := H.blk.lt
  have h1 : LexAt B w0 w1 xb s F i := H.other (by rw [← hw1]; exact (Below.refl _ _).alloc (Nat.le_refl _) _)
  have HT := hide (show Blk w1 tb 33 #[.int .u8 0, .string ⟨#[]⟩, .int .i64 0, .int .i64 0] from by rw [← hw1, ← htb]; exact Blk.new w _ _)
  have H1 := hide h1
  have c1 := h1.c1
  have y1 := h1.y1
  have h2 := h1.move ha
  have H2 := hide h2
  have f2 : Fr (fun q => q = xb) w (w1.setCell ⟨xb, 1, none⟩ (.int .i64 (at_ : Int))) := by rw [← hw1]; exact ((Fr.refl _ _).alloc _).put1 1 _
  have q0 : Blk (w1.setCell ⟨xb, 1, none⟩ (.int .i64 (at_ : Int))) tb 33 #[.int .u8 0, .string ⟨#[]⟩, .int .i64 0, .int .i64 0] := HT.out.far (by show tb ≠ xb; omega) _
  have F2 := hide f2
  obtain ⟨w2, hw2⟩ : ∃ w2, w1.setCell ⟨xb, 1, none⟩ (.int .i64 (at_ : Int)) = w2 := ⟨_, rfl⟩
  rw [hw2] at H2 F2 q0
  have y0' := q0.frozen 0
  have x0' := q0.cell 0
  have y1' := q0.frozen 1
  have x1' := q0.cell 1
  have y2' := q0.frozen 2
  have x2' := q0.cell 2
  have y3' := q0.frozen 3
  have x3' := q0.cell 3
  have q1 := q0.set_ 0 (.int .u8 0)
  have q2 := q1.set_ 1 (.string ⟨#[]⟩)
  have q3 := q2.set_ 2 (.int .i64 0)
  have q4 := q3.set_ 3 (.int .i64 0)
  have Q4 := hide q4
  have Hx := hide hx
  have Htb := hide htb
  have Hw := hide (show w0.heap.size ≤ w.heap.size from H.fr.size)
  clear h1 h2 f2 q0 q1 q2 q3 q4 hx H
  go_enter Tryd.func37, Tryd.ntmps37
  go_wp2_with fail
  have r0 := Q4.out.cell 0
  have r1 := Q4.out.cell 1
  have r2 := Q4.out.cell 2
  have r3 := Q4.out.cell 3
  refine bodyPost_ret (v := .tuple #[tokZ, .int .i64 (e : Int)]) (by simp [results, Tryd.results37, go_sem, r0, r1, r2, r3, Result.andThen, tokZ]) rfl ⟨?_, ?_, ?_⟩
  · rfl
  · exact H2.out.put4 (by have := Hx.out; have := Htb.out; omega) (by have := Hw.out; have := Htb.out; omega) _ _ _ _
  · exact F2.out.put4 (by rw [Htb.out]; exact Nat.le_refl _) _ _ _ _
set_option maxHeartbeats 1000000 in
/-- What an escape stands for. -/
theorem meaning_any (e b : UInt8) (w : World) (h : Lx.esc e = some b) : Calls Tryd.prog 39 #[.int .u8 (e.toNat : Int)] w fun en w' => en = .returned (.string ⟨#[b]⟩) ∧ w = w' := by
  have hcases : (e = 110 ∧ b = 10) ∨ (e = 116 ∧ b = 9) ∨ (e = 34 ∧ b = 34) ∨ (e = 47 ∧ b = 47) ∨ (e = 92 ∧ b = 92) := by
    unfold Lx.esc at h
    split at h
    · injection h with h; simp_all
    · split at h
      · injection h with h; simp_all
      · split at h
        · injection h with h
          rename_i h1 h2 h3
          rcases h3 with rfl | rfl | rfl <;> simp [← h]
        · cases h
  clear h
  rcases hcases with ⟨rfl, rfl⟩ | ⟨rfl, rfl⟩ | ⟨rfl, rfl⟩ | ⟨rfl, rfl⟩ | ⟨rfl, rfl⟩
  · have H := hide (index_any [34, 92, 47, 110, 116] 110 w)
    rw [show Lib.indexByte [34, 92, 47, 110, 116] 110 = 3 by decide] at H
    go_enter Tryd.func39, Tryd.ntmps39
    go_wp2_with (go_at_call 34; refine H.out.mono ?_; rintro e w' ⟨rfl, rfl⟩)
    go_ret
    exact ⟨rfl, rfl⟩
  · have H := hide (index_any [34, 92, 47, 110, 116] 116 w)
    rw [show Lib.indexByte [34, 92, 47, 110, 116] 116 = 4 by decide] at H
    go_enter Tryd.func39, Tryd.ntmps39
    go_wp2_with (go_at_call 34; refine H.out.mono ?_; rintro e w' ⟨rfl, rfl⟩)
    go_ret
    exact ⟨rfl, rfl⟩
  · have H := hide (index_any [34, 92, 47, 110, 116] 34 w)
    rw [show Lib.indexByte [34, 92, 47, 110, 116] 34 = 0 by decide] at H
    go_enter Tryd.func39, Tryd.ntmps39
    go_wp2_with (go_at_call 34; refine H.out.mono ?_; rintro e w' ⟨rfl, rfl⟩)
    go_ret
    exact ⟨rfl, rfl⟩
  · have H := hide (index_any [34, 92, 47, 110, 116] 47 w)
    rw [show Lib.indexByte [34, 92, 47, 110, 116] 47 = 2 by decide] at H
    go_enter Tryd.func39, Tryd.ntmps39
    go_wp2_with (go_at_call 34; refine H.out.mono ?_; rintro e w' ⟨rfl, rfl⟩)
    go_ret
    exact ⟨rfl, rfl⟩
  · have H := hide (index_any [34, 92, 47, 110, 116] 92 w)
    rw [show Lib.indexByte [34, 92, 47, 110, 116] 92 = 1 by decide] at H
    go_enter Tryd.func39, Tryd.ntmps39
    go_wp2_with (go_at_call 34; refine H.out.mono ?_; rintro e w' ⟨rfl, rfl⟩)
    go_ret
    exact ⟨rfl, rfl⟩
end Go.Proofs.YtfbkmjjcopjoeaaDoor
