/- Package lex: either: a class of several. -/
import Derived.Test.YtfbkmjjcopjoeaaDoorNb
namespace Go.Proofs.YtfbkmjjcopjoeaaDoor
open Go.RowKit

theorem any_take_succ {ps : List (UInt8 → Bool)} {i : Nat} {p : UInt8 → Bool} (h : ps[i]? = some p) (c : UInt8) : (ps.take (i + 1)).any (fun p => p c) = ((ps.take i).any (fun p => p c) || p c) := by
  rw [List.take_add_one, h]
  simp
set_option maxHeartbeats 2000000 in
theorem either1_any (B0 : Nat) (fs : List Value) (ps : List (UInt8 → Bool)) (c : UInt8) (b g : Nat) (w : World) (B1 : Blk w b 58 #[.slice (some ⟨g, 0, none⟩) fs.length fs.length]) (B2 : Blk w g 42 fs.toArray)
    (hl : ps.length = fs.length) (hn : fs.length ≤ 100) (h : ∀ (j : Nat) f p, fs[j]? = some f → ps[j]? = some p → Cls B0 w f p) :
    Calls Tryd.prog 31 #[.int .u8 (c.toNat : Int), .pointer (some ⟨b, 0, none⟩)] w fun e w' => e = .returned (.bool (ps.any (fun p => p c))) ∧ w = w' := by
  have b1 := B1.cell 0
  obtain ⟨n, hnn⟩ : ∃ n, fs.length = n := ⟨_, rfl⟩
  obtain ⟨r, hr⟩ : ∃ r, ps.any (fun p => p c) = r := ⟨_, rfl⟩
  rw [hr]
  have Hr := hide hr
  rw [hnn] at b1 hl hn
  have H := hide h
  have H2 := hide B2
  have Hn := hide hnn
  have Hl := hide hl
  clear h B1 B2 hnn hl hr
  go_enter Tryd.func31, Tryd.ntmps31
  go_wp2_with fail
  go_loopw [8] (fun iv wr => ∃ i : Nat, iv = .int .i64 (i : Int) ∧ i ≤ n ∧ (ps.take i).any (fun p => p c) = false ∧ w = wr) (fun iv _ => n - (intOf iv).toNat)
  case atStart => exact ⟨0, rfl, Nat.zero_le _, by simp, rfl⟩
  case round =>
  obtain ⟨i, rfl, hi, ha, rfl⟩ := hrel
  by_cases hin : i < n
  case pos =>
    obtain ⟨f, hf⟩ : ∃ f, fs[i]? = some f := ⟨_, List.getElem?_eq_getElem (by rw [Hn.out]; exact hin)⟩
    obtain ⟨p, hp⟩ : ∃ p, ps[i]? = some p := ⟨_, List.getElem?_eq_getElem (by rw [Hl.out]; exact hin)⟩
    have hcell : w.cell? ⟨g, i, none⟩ = some f := by rw [H2.out.cell, List.getElem?_toArray]; exact hf
    have hnx := any_take_succ hp c
    rw [ha, Bool.false_or] at hnx
    obtain ⟨k, caps, rfl, hent, hcall⟩ := H.out i f p hf hp
    have Hc := hide (hcall w (Fr.refl _ _) c)
    have Hnx := hide hnx
    have Ha := hide ha
    have Hmem := hide (List.mem_of_getElem? hp)
    clear hcall hf hp ha hnx
    cases hpc : p c with
    | true =>
      rw [hpc] at Hc
      have Hany := hide (show r = true from by rw [← Hr.out]; exact List.any_eq_true.2 ⟨p, Hmem.out, hpc⟩)
      clear hpc
      go_wp2_with (refine Hc.out.mono ?_; rintro e w' ⟨rfl, rfl⟩)
      go_ret
      exact ⟨by rw [Hany.out]; rfl, rfl⟩
    | false =>
      rw [hpc] at Hc Hnx
      have Hin := hide hin
      clear hpc
      go_wp2_with (refine Hc.out.mono ?_; rintro e w' ⟨rfl, rfl⟩)
      go_roundw
      case rel => exact ⟨i + 1, by go_num, Hin.out, Hnx.out, by first | rfl | trivial⟩
      case measure => simp [intOf]; omega
  case neg =>
    obtain rfl : i = n := by omega
    have Hany := hide (show r = false from by rw [← Hr.out]; rw [List.take_of_length_le (by rw [Hl.out]; exact Nat.le_refl _)] at ha; exact ha)
    clear ha
    go_wp2
    go_ret
    exact ⟨by rw [Hany.out]; rfl, rfl⟩
set_option maxHeartbeats 1000000 in
theorem either_any (B0 : Nat) (fs : List Value) (ps : List (UInt8 → Bool)) (g : Nat) (w : World) (h0 : B0 ≤ g) (B2 : Blk w g 42 fs.toArray)
    (hl : ps.length = fs.length) (hn : fs.length ≤ 100) (h : ∀ (j : Nat) f p, fs[j]? = some f → ps[j]? = some p → Cls B0 w f p) :
    Calls Tryd.prog 18 #[.slice (some ⟨g, 0, none⟩) fs.length fs.length] w fun e w' => ∃ f, e = .returned f ∧ Cls B0 w' f (fun c => ps.any (fun p => p c)) ∧ Below w.heap.size w w' := by
  have hmf := hmfunc
  obtain ⟨n, hnn⟩ : ∃ n, fs.length = n := ⟨_, rfl⟩
  have H := hide h
  have Hn := hide hnn
  have Hl := hide hl
  have Hle := hide hn
  have HB := hide B2
  rw [hnn]
  clear h hl hn B2 hnn
  go_enter Tryd.func18, Tryd.ntmps18
  go_wp2
  go_ret
  refine ⟨_, rfl, ?_, (Below.refl _ _).alloc (Nat.le_refl _) _⟩
  have hb1 : Below w.heap.size w (w.alloc (.cells #[.slice (some ⟨g, 0, none⟩) n n] 58)) := (Below.refl _ _).alloc (Nat.le_refl _) _
  have B1 := Blk.new w 58 #[.slice (some ⟨g, 0, none⟩) n n]
  have B2 := HB.out.alloc (.cells #[.slice (some ⟨g, 0, none⟩) n n] 58)
  rw [← Hn.out] at B1 B2 hb1 ⊢
  refine ⟨31, _, rfl, (fun args w => by kernel_rfl), fun w2 hw2 c => ?_⟩
  exact either1_any B0 fs ps c _ _ w2 (B1.fr hw2 (by have := HB.out.lt; omega)) (B2.fr hw2 (by omega)) Hl.out Hle.out (fun j f p hf hp => ((H.out j f p hf hp).below hb1).later hw2)
theorem either_len (B0 : Nat) (n : Nat) (fs : List Value) (ps : List (UInt8 → Bool)) (g : Nat) (w : World) (hn' : fs.length = n) (h0 : B0 ≤ g) (B2 : Blk w g 42 fs.toArray)
    (hl : ps.length = fs.length) (hn : fs.length ≤ 100) (h : ∀ (j : Nat) f p, fs[j]? = some f → ps[j]? = some p → Cls B0 w f p) :
    Calls Tryd.prog 18 #[.slice (some ⟨g, 0, none⟩) n n] w fun e w' => ∃ f, e = .returned f ∧ Cls B0 w' f (fun c => ps.any (fun p => p c)) ∧ Below w.heap.size w w' := by
  subst hn'
  exact either_any B0 fs ps g w h0 B2 hl hn h
end Go.Proofs.YtfbkmjjcopjoeaaDoor
