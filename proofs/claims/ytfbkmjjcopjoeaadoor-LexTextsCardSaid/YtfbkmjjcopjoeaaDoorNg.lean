/- Package lex: skip, name. -/
import Derived.Test.YtfbkmjjcopjoeaaDoorNf
import Derived.Test.YtfbkmjjcopjoeaaDoorNa
namespace Go.Proofs.YtfbkmjjcopjoeaaDoor
open Go.RowKit

section
variable {B xb i : Nat} {w0 w : World} {s : List UInt8} {F : Fns}
theorem LexAt.f0 (h : LexAt B w0 w xb s F i) : w.cell? ⟨xb, 2, none⟩ = some F.f0 := h.blk.cell 2
theorem LexAt.f1 (h : LexAt B w0 w xb s F i) : w.cell? ⟨xb, 3, none⟩ = some F.f1 := h.blk.cell 3
theorem LexAt.f2 (h : LexAt B w0 w xb s F i) : w.cell? ⟨xb, 4, none⟩ = some F.f2 := h.blk.cell 4
theorem LexAt.f3 (h : LexAt B w0 w xb s F i) : w.cell? ⟨xb, 5, none⟩ = some F.f3 := h.blk.cell 5
theorem LexAt.f4 (h : LexAt B w0 w xb s F i) : w.cell? ⟨xb, 6, none⟩ = some F.f4 := h.blk.cell 6
theorem LexAt.f5 (h : LexAt B w0 w xb s F i) : w.cell? ⟨xb, 7, none⟩ = some F.f5 := h.blk.cell 7
theorem LexAt.f6 (h : LexAt B w0 w xb s F i) : w.cell? ⟨xb, 8, none⟩ = some F.f6 := h.blk.cell 8
theorem LexAt.f7 (h : LexAt B w0 w xb s F i) : w.cell? ⟨xb, 9, none⟩ = some F.f7 := h.blk.cell 9
theorem LexAt.f8 (h : LexAt B w0 w xb s F i) : w.cell? ⟨xb, 10, none⟩ = some F.f8 := h.blk.cell 10
theorem LexAt.f9 (h : LexAt B w0 w xb s F i) : w.cell? ⟨xb, 11, none⟩ = some F.f9 := h.blk.cell 11
theorem LexAt.f10 (h : LexAt B w0 w xb s F i) : w.cell? ⟨xb, 12, none⟩ = some F.f10 := h.blk.cell 12
theorem LexAt.f11 (h : LexAt B w0 w xb s F i) : w.cell? ⟨xb, 13, none⟩ = some F.f11 := h.blk.cell 13
theorem LexAt.f12 (h : LexAt B w0 w xb s F i) : w.cell? ⟨xb, 14, none⟩ = some F.f12 := h.blk.cell 14
end
theorem fr_xb {xb : Nat} {a w w' : World} {G : Nat → Prop} (h : Fr (fun q => q = xb) a w) (k : Fr G w w') (hG : ∀ q, G q → q = xb) : Fr (fun q => q = xb) a w' := h.trans' k (fun q _ hq => hG q hq)
/-- Behind the bytes of a class none of it stands. -/
theorem tw_end (p : UInt8 → Bool) (s : List UInt8) (i m : Nat) (h : ((s.drop i).takeWhile p).length = m) : (s[i + m]?).any p = false := by
  have h1 := tw_iff p (s.drop i) m (by rw [h]; exact Nat.le_refl _)
  rw [h, List.getElem?_drop] at h1
  have h2 := (not_congr h1).1 (Nat.lt_irrefl _)
  cases hx : s[i + m]? with
  | none => rfl
  | some c =>
    cases hp : p c with
    | true => exact (h2 ⟨c, hx, hp⟩).elim
    | false => simp [hp]
theorem skip_blanks : ∀ (l : List UInt8), Lx.skipL false l = Lx.skipL false (l.drop (l.takeWhile Lx.isBlank).length)
  | [] => rfl
  | c :: r => by
    rw [List.takeWhile_cons]
    by_cases hc : Lx.isBlank c = true
    · rw [if_pos hc, List.length_cons, List.drop_succ_cons, Lx.skipL, if_pos hc]
      exact skip_blanks r
    · rw [if_neg hc]; rfl
theorem skip_hash (l : List UInt8) (h : l.head? = some 35) : Lx.skipL false l = Lx.skipL false (l.drop (l.takeWhile (fun c => c != 10)).length) := by
  cases l with
  | nil => cases h
  | cons c r =>
    simp only [List.head?_cons, Option.some.injEq] at h
    subst h
    rw [Lx.skipL, if_neg (by rw [Lx.isBlank_35]; simp), if_pos rfl, Lx.hash_skip, List.takeWhile_cons, if_pos (by decide), List.length_cons, List.drop_succ_cons]
theorem skip_here (s : List UInt8) (q : Nat) (h1 : (s[q]?).any Lx.isBlank = false) (h2 : (s[q]?).any (fun c => c == 35) = false) : Lx.skipL false (s.drop q) = s.drop q := by
  cases hx : s[q]? with
  | none =>
    rw [List.getElem?_eq_none_iff] at hx
    rw [List.drop_eq_nil_of_le hx]; rfl
  | some c =>
    rw [hx] at h1 h2
    rw [drop_at hx]
    exact Lx.skip_stop _ _ (by simpa using h1) (by simpa using h2)
theorem tw_len_le (p : UInt8 → Bool) (s : List UInt8) (i : Nat) (hi : i ≤ s.length) : i + ((s.drop i).takeWhile p).length ≤ s.length := by
  have := Lx.takeWhile_le p (s.drop i)
  rw [List.length_drop] at this
  omega
set_option maxRecDepth 100000 in
set_option maxHeartbeats 2000000 in
theorem skip_any {B xb i : Nat} {w0 w : World} {s : List UInt8} {F : Fns} (H : LexAt B w0 w xb s F i) :
    Calls Tryd.prog 22 #[.pointer (some ⟨xb, 0, none⟩)] w fun e w' => e = .returned (.tuple #[]) ∧ ∃ j, LexAt B w0 w' xb s F j ∧ Fr (fun q => q = xb) w w' ∧ i ≤ j ∧ s.drop j = Lx.skipL false (s.drop i) := by
  have HH := hide H
  have d0 := H.f0
  have Hi := hide H.le
  clear H
  go_enter Tryd.func22, Tryd.ntmps22
  go_wp2_with (go_at_call 36; refine (pass_any HH.out HH.out.cls.c0).mono ?_; rintro e w1 ⟨rfl, hL1, hf1⟩; have HL1 := hide hL1; have Hf1 := hide hf1; clear hL1 hf1)
  clear d0
  obtain ⟨m0, hm0⟩ : ∃ m0, i + ((s.drop i).takeWhile Lx.isBlank).length = m0 := ⟨_, rfl⟩
  have hstart : Lx.skipL false (s.drop m0) = Lx.skipL false (s.drop i) := by rw [← hm0, ← List.drop_drop, ← skip_blanks]
  have hnb := tw_end Lx.isBlank s i _ rfl
  rw [hm0] at HL1 hnb
  have Hstart := hide (show _ ∧ _ ∧ i ≤ m0 from ⟨hstart, hnb, by omega⟩)
  clear hstart hnb hm0
  go_loopg [15] (s.length - m0) (fun gk xv wr => ∃ q : Nat, i ≤ q ∧ gk = s.length - q ∧ LexAt B w0 wr xb s F q ∧ Fr (fun q => q = xb) w wr ∧ Lx.skipL false (s.drop q) = Lx.skipL false (s.drop i) ∧ (s[q]?).any Lx.isBlank = false)
  case atStart => exact ⟨m0, Hstart.out.2.2, rfl, HL1.out, Hf1.out, Hstart.out.1, Hstart.out.2.1⟩
  case round =>
    obtain ⟨q, hq, rfl, hL, hfr, hsk, hnb⟩ := hrel
    have d1 := hL.f1
    have Hq := hide (show i ≤ q ∧ q ≤ s.length from ⟨hq, hL.le⟩)
    have HL := hide hL
    have Hfr := hide hfr
    have Hsk := hide hsk
    have Hnb := hide hnb
    have Hs := hide (hL.sees (f := F.f1) (p := fun c => c == 35) hL.cls.c1)
    clear hL hfr hsk hnb hq Hstart HL1 Hf1
    cases hh : (s[q]?).any (fun c => c == 35) with
    | true =>
      have hsq : s[q]? = some 35 := by
        obtain ⟨c, h1, h2⟩ := (Option.any_eq_true _ _).1 hh
        rw [h1, show c = 35 by simpa using h2]
      rw [hh] at Hs
      have Hsq := hide hsq
      clear hh hsq
      go_wp2_with fail
      refine Hs.out.mono ?_
      rintro e w2 ⟨rfl, hL2, hf2⟩
      have HL2 := hide hL2
      have Hf2 := hide hf2
      have d2 := hL2.f2
      clear hL2 hf2 d1
      go_wp2_with fail
      refine (pass_any HL2.out HL2.out.cls.c2).mono ?_
      rintro e w3 ⟨rfl, hL3, hf3⟩
      have HL3 := hide hL3
      have Hf3 := hide hf3
      have d3 := hL3.f0
      clear hL3 hf3 d2
      go_wp2_with fail
      refine (pass_any HL3.out HL3.out.cls.c0).mono ?_
      rintro e w4 ⟨rfl, hL4, hf4⟩
      have HL4 := hide hL4
      have Hf4 := hide hf4
      clear hL4 hf4 d3
      go_wp2_with fail
      obtain ⟨m1, hm1⟩ : ∃ m, q + ((s.drop q).takeWhile (fun c => c != 10)).length = m := ⟨_, rfl⟩
      rw [hm1] at HL4
      obtain ⟨m2, hm2⟩ : ∃ m, m1 + ((s.drop m1).takeWhile Lx.isBlank).length = m := ⟨_, rfl⟩
      rw [hm2] at HL4
      have h1 : q < m1 := by
        rw [← hm1, drop_at Hsq.out, List.takeWhile_cons, if_pos (by decide), List.length_cons]; omega
      have h2 : m1 ≤ m2 := by omega
      have Hm := hide (show q < m1 ∧ m1 ≤ m2 ∧ m2 ≤ s.length from ⟨h1, h2, HL4.out.le⟩)
      have hk : Lx.skipL false (s.drop m2) = Lx.skipL false (s.drop i) := by
        rw [← Hsk.out, skip_hash (s.drop q) (by rw [drop_at Hsq.out]; rfl), List.drop_drop, hm1, skip_blanks (s.drop m1), List.drop_drop, hm2]
      have he : (s[m2]?).any Lx.isBlank = false := by rw [← hm2]; exact tw_end _ _ _ _ rfl
      have Hk := hide hk
      have He := hide he
      clear hk he h1 h2 hm1 hm2
      go_roundg (s.length - m2)
      case measure => have := Hm.out; have := Hq.out; omega
      case rel => exact ⟨m2, by have := Hm.out; have := Hq.out; omega, rfl, HL4.out, fr_xb (fr_xb (fr_xb Hfr.out Hf2.out (fun _ h => h.elim)) Hf3.out (fun _ h => h)) Hf4.out (fun _ h => h), Hk.out, He.out⟩
    | false =>
      rw [hh] at Hs
      have Hh := hide hh
      clear hh
      go_wp2_with (go_at_call 23; refine Hs.out.mono ?_; rintro e w2 ⟨rfl, hL2, hf2⟩; have HL2 := hide hL2; have Hf2 := hide hf2; clear hL2 hf2 d1)
      go_end0
      exact ⟨rfl, q, HL2.out, fr_xb Hfr.out Hf2.out (fun _ h => h.elim), Hq.out.1, by rw [← Hsk.out]; exact (skip_here s q Hnb.out Hh.out).symm⟩
end Go.Proofs.YtfbkmjjcopjoeaaDoor
