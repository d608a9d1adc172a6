/- Package wire: what was written is told; a value without its elements. -/
import Derived.Test.YtdkmccilnmdhmaaWc
namespace Go.Proofs.Ytdkmccilnmdhmaa
open Go.RowKit

set_option maxRecDepth 100000 in
set_option maxHeartbeats 2000000 in
theorem done_any (wb : Nat) (F : Nat → Prop) (l : List UInt8) (w : World) (h : Wt w wb F l) (hl : l.length ≤ 140737488355328) :
    Calls Try.prog 12 #[.pointer (some ⟨wb, 0, none⟩)] w (ClonePost l l.length w) := by
  obtain ⟨A, m, c, hb, ho, rfl⟩ := h
  have hm := ho.1
  subst hm
  have c0 := hb.cell 0
  have hc := clone_any A _ c l w rfl ho.bytes hl
  have Hc := hide hc
  clear hb ho hc hl
  go_enter Try.func12, Try.ntmps12
  go_wp2_with fail
  refine Hc.out.mono ?_
  rintro e w1 ⟨A1, c1, rfl, h1, h2, h3⟩
  have Hp := hide (show _ ∧ _ ∧ _ from ⟨h1, h2, h3⟩)
  clear h1 h2 h3 Hc
  go_wp2
  go_ret
  exact ⟨A1, c1, rfl, Hp.out.1, Hp.out.2.1, Hp.out.2.2⟩

theorem beginB_int {v : V} (h : v.kind = 1 ∨ v.kind = 3) : beginB v = Lib.uvarint v.kind ++ Lib.uvarint (Lib.zigzag v.n) := by rw [beginB, if_pos h]
theorem beginB_text {v : V} (h : v.kind = 2 ∨ v.kind = 4 ∨ v.kind = 7 ∨ v.kind = 8) : beginB v = Lib.uvarint v.kind ++ textB v.s := by
  have h1 : ¬ (v.kind = 1 ∨ v.kind = 3) := by omega
  rw [beginB, if_neg h1, if_pos h]
theorem beginB_els {v : V} (h : v.kind = 5 ∨ v.kind = 6) : beginB v = Lib.uvarint v.kind ++ Lib.uvarint v.els := by
  have h1 : ¬ (v.kind = 1 ∨ v.kind = 3) := by omega
  have h2 : ¬ (v.kind = 2 ∨ v.kind = 4 ∨ v.kind = 7 ∨ v.kind = 8) := by omega
  rw [beginB, if_neg h1, if_neg h2, if_pos h]
theorem beginB_else {v : V} (h : v.kind ≠ 1 ∧ v.kind ≠ 2 ∧ v.kind ≠ 3 ∧ v.kind ≠ 4 ∧ v.kind ≠ 5 ∧ v.kind ≠ 6 ∧ v.kind ≠ 7 ∧ v.kind ≠ 8) : beginB v = Lib.uvarint v.kind := by
  have h1 : ¬ (v.kind = 1 ∨ v.kind = 3) := by omega
  have h2 : ¬ (v.kind = 2 ∨ v.kind = 4 ∨ v.kind = 7 ∨ v.kind = 8) := by omega
  have h3 : ¬ (v.kind = 5 ∨ v.kind = 6) := by omega
  rw [beginB, if_neg h1, if_neg h2, if_neg h3, List.append_nil]

/-- What begin leaves. -/
def BPost (wb : Nat) (F : Nat → Prop) (l : List UInt8) (w : World) (e : Ending) (w' : World) : Prop :=
  ∃ F', e = .returned (.tuple #[]) ∧ Wt w' wb F' l ∧ Fr F w w' ∧ ∀ k, F' k → F k ∨ w.heap.size ≤ k

set_option maxRecDepth 100000 in
set_option maxHeartbeats 4000000 in
theorem begin_any (wb : Nat) (F G : Nat → Prop) (l : List UInt8) (g o : Nat) (v : V) (w : World) (h : Wt w wb F l) (hp : PV w G g o v) (hG : ∀ k, G k → ¬ F k) (hl : l.length + 30 + (beginB v).length ≤ 140737488355328) :
    Calls Try.prog 27 #[.pointer (some ⟨wb, 0, none⟩), .pointer (some ⟨g, o, none⟩)] w (BPost wb F (l ++ beginB v) w) := by
  obtain ⟨KA, LA, kc, lc, ha⟩ := hp.at_
  have c0 := ha.c0
  have hk := ha.k
  have hu := wuint_any wb F l v.kind w h (by omega) (by omega)
  have hul := Lib.uvarint_length64 (x := v.kind) (by omega)
  obtain ⟨kn, hkn⟩ : ∃ kn, kn = v.kind := ⟨_, rfl⟩
  rw [← hkn] at c0 hk hu hul
  have Hkn := hide hkn
  have Hu := hide hu
  have H := hide h
  have Hp := hide hp
  have Hl := hide hl
  have Hul := hide hul
  have HG := hide hG
  clear h hp hG hl hu ha hkn hul
  go_enter Try.func27, Try.ntmps27
  go_wp2_with fail
  refine Hu.out.mono ?_
  rintro e w1 ⟨F1, rfl, h1, h2, h3⟩
  have hp1 := Hp.out.fr h2 HG.out
  obtain ⟨KA, LA, kc, lc, ha⟩ := hp1.at_
  have c0 := ha.c0
  rw [← Hkn.out] at c0
  have H1 := hide h1
  have H2 := hide h2
  have H3 := hide h3
  have Ha := hide ha
  have Hp1 := hide hp1
  clear h1 h2 h3 hp1 ha Hu
  have hcase : kn = 1 ∨ kn = 3 ∨ kn = 2 ∨ kn = 4 ∨ kn = 7 ∨ kn = 8 ∨ kn = 5 ∨ kn = 6 ∨ (kn ≠ 1 ∧ kn ≠ 2 ∧ kn ≠ 3 ∧ kn ≠ 4 ∧ kn ≠ 5 ∧ kn ≠ 6 ∧ kn ≠ 7 ∧ kn ≠ 8) := by omega
  rcases hcase with h | h | h | h | h | h | h | h | h
  · have hb : beginB v = Lib.uvarint kn ++ Lib.uvarint (Lib.zigzag v.n) := by rw [beginB_int (by have := Hkn.out; omega), ← Hkn.out]
    have Hb := hide hb
    clear hb
    subst h
    have c1 := Ha.out.c1
    go_wp2_with fail
    refine (wint_any wb F1 _ v.n w1 H1.out Ha.out.n.1 Ha.out.n.2 (by have := Hl.out; have := Hul.out; rw [List.length_append]; omega)).mono ?_
    rintro e w2 ⟨F2, rfl, h4, h5, h6⟩
    have Hq := hide (show _ ∧ _ ∧ _ from ⟨h4, h5, h6⟩)
    clear h4 h5 h6
    go_wp2
    go_end0
    refine ⟨F2, rfl, by rw [Hb.out, ← List.append_assoc]; exact Hq.out.1, H2.out.trans' Hq.out.2.1 (fun i hi h => (H3.out i h).elim id (fun hh => by omega)), fun k hk => (Hq.out.2.2 k hk).elim (fun h => H3.out k h) (fun h => by have := H2.out.size; exact .inr (by omega))⟩
  · have hb : beginB v = Lib.uvarint kn ++ Lib.uvarint (Lib.zigzag v.n) := by rw [beginB_int (by have := Hkn.out; omega), ← Hkn.out]
    have Hb := hide hb
    clear hb
    subst h
    have c1 := Ha.out.c1
    go_wp2_with fail
    refine (wint_any wb F1 _ v.n w1 H1.out Ha.out.n.1 Ha.out.n.2 (by have := Hl.out; have := Hul.out; rw [List.length_append]; omega)).mono ?_
    rintro e w2 ⟨F2, rfl, h4, h5, h6⟩
    have Hq := hide (show _ ∧ _ ∧ _ from ⟨h4, h5, h6⟩)
    clear h4 h5 h6
    go_wp2
    go_end0
    refine ⟨F2, rfl, by rw [Hb.out, ← List.append_assoc]; exact Hq.out.1, H2.out.trans' Hq.out.2.1 (fun i hi h => (H3.out i h).elim id (fun hh => by omega)), fun k hk => (Hq.out.2.2 k hk).elim (fun h => H3.out k h) (fun h => by have := H2.out.size; exact .inr (by omega))⟩
  · have hb : beginB v = Lib.uvarint kn ++ textB v.s := by rw [beginB_text (by have := Hkn.out; omega), ← Hkn.out]
    have Hb := hide hb
    clear hb
    subst h
    have c2 := Ha.out.c2
    go_wp2_with fail
    refine (wtext_any wb F1 _ v.s w1 H1.out (by have := Hl.out; have := Hul.out; have h7 := congrArg List.length Hb.out; rw [textB, List.length_append, List.length_append] at h7; rw [List.length_append]; omega)).mono ?_
    rintro e w2 ⟨F2, rfl, h4, h5, h6⟩
    have Hq := hide (show _ ∧ _ ∧ _ from ⟨h4, h5, h6⟩)
    clear h4 h5 h6
    go_wp2
    go_end0
    refine ⟨F2, rfl, by rw [Hb.out, ← List.append_assoc]; exact Hq.out.1, H2.out.trans' Hq.out.2.1 (fun i hi h => (H3.out i h).elim id (fun hh => by omega)), fun k hk => (Hq.out.2.2 k hk).elim (fun h => H3.out k h) (fun h => by have := H2.out.size; exact .inr (by omega))⟩
  · have hb : beginB v = Lib.uvarint kn ++ textB v.s := by rw [beginB_text (by have := Hkn.out; omega), ← Hkn.out]
    have Hb := hide hb
    clear hb
    subst h
    have c2 := Ha.out.c2
    go_wp2_with fail
    refine (wtext_any wb F1 _ v.s w1 H1.out (by have := Hl.out; have := Hul.out; have h7 := congrArg List.length Hb.out; rw [textB, List.length_append, List.length_append] at h7; rw [List.length_append]; omega)).mono ?_
    rintro e w2 ⟨F2, rfl, h4, h5, h6⟩
    have Hq := hide (show _ ∧ _ ∧ _ from ⟨h4, h5, h6⟩)
    clear h4 h5 h6
    go_wp2
    go_end0
    refine ⟨F2, rfl, by rw [Hb.out, ← List.append_assoc]; exact Hq.out.1, H2.out.trans' Hq.out.2.1 (fun i hi h => (H3.out i h).elim id (fun hh => by omega)), fun k hk => (Hq.out.2.2 k hk).elim (fun h => H3.out k h) (fun h => by have := H2.out.size; exact .inr (by omega))⟩
  · have hb : beginB v = Lib.uvarint kn ++ textB v.s := by rw [beginB_text (by have := Hkn.out; omega), ← Hkn.out]
    have Hb := hide hb
    clear hb
    subst h
    have c2 := Ha.out.c2
    go_wp2_with fail
    refine (wtext_any wb F1 _ v.s w1 H1.out (by have := Hl.out; have := Hul.out; have h7 := congrArg List.length Hb.out; rw [textB, List.length_append, List.length_append] at h7; rw [List.length_append]; omega)).mono ?_
    rintro e w2 ⟨F2, rfl, h4, h5, h6⟩
    have Hq := hide (show _ ∧ _ ∧ _ from ⟨h4, h5, h6⟩)
    clear h4 h5 h6
    go_wp2
    go_end0
    refine ⟨F2, rfl, by rw [Hb.out, ← List.append_assoc]; exact Hq.out.1, H2.out.trans' Hq.out.2.1 (fun i hi h => (H3.out i h).elim id (fun hh => by omega)), fun k hk => (Hq.out.2.2 k hk).elim (fun h => H3.out k h) (fun h => by have := H2.out.size; exact .inr (by omega))⟩
  · have hb : beginB v = Lib.uvarint kn ++ textB v.s := by rw [beginB_text (by have := Hkn.out; omega), ← Hkn.out]
    have Hb := hide hb
    clear hb
    subst h
    have c2 := Ha.out.c2
    go_wp2_with fail
    refine (wtext_any wb F1 _ v.s w1 H1.out (by have := Hl.out; have := Hul.out; have h7 := congrArg List.length Hb.out; rw [textB, List.length_append, List.length_append] at h7; rw [List.length_append]; omega)).mono ?_
    rintro e w2 ⟨F2, rfl, h4, h5, h6⟩
    have Hq := hide (show _ ∧ _ ∧ _ from ⟨h4, h5, h6⟩)
    clear h4 h5 h6
    go_wp2
    go_end0
    refine ⟨F2, rfl, by rw [Hb.out, ← List.append_assoc]; exact Hq.out.1, H2.out.trans' Hq.out.2.1 (fun i hi h => (H3.out i h).elim id (fun hh => by omega)), fun k hk => (Hq.out.2.2 k hk).elim (fun h => H3.out k h) (fun h => by have := H2.out.size; exact .inr (by omega))⟩
  · have hb : beginB v = Lib.uvarint kn ++ Lib.uvarint v.els := by rw [beginB_els (by have := Hkn.out; omega), ← Hkn.out]
    have Hb := hide hb
    have hel := Ha.out.els_le
    have helu : v.els < 18446744073709551616 := by omega
    have Helu := hide helu
    have Hel := hide (elements_any G g o v w1 Hp1.out)
    clear hb helu
    subst h
    go_wp2_with fail
    refine Hel.out.mono ?_
    rintro e w2 ⟨rfl, n2, rfl⟩
    obtain ⟨ne, hne⟩ : ∃ ne, ne = v.els := ⟨_, rfl⟩
    rw [← hne] at hel Hb Helu ⊢
    clear hne Hel
    go_wp2_with fail
    refine (wuint_any wb F1 _ ne _ (H1.out.nofr ((Fr.refl _ _).drewN n2)) Helu.out (by have := Hl.out; have := Hul.out; rw [List.length_append]; omega)).mono ?_
    rintro e w3 ⟨F2, rfl, h4, h5, h6⟩
    have h5' : Fr F1 w1 w3 := ((Fr.refl _ _).drewN n2).trans' h5 (fun _ _ h => h)
    have Hq := hide (show _ ∧ _ ∧ _ from ⟨h4, h5', h6⟩)
    clear h4 h5 h6 h5'
    go_wp2
    go_end0
    refine ⟨F2, rfl, by rw [Hb.out, ← List.append_assoc]; exact Hq.out.1, H2.out.trans' Hq.out.2.1 (fun i hi h => (H3.out i h).elim id (fun hh => by omega)), fun k hk => (Hq.out.2.2 k hk).elim (fun h => H3.out k h) (fun h => by have := H2.out.size; exact .inr (by have : (w1.drewN n2).heap.size = w1.heap.size := rfl; omega))⟩
  · have hb : beginB v = Lib.uvarint kn ++ Lib.uvarint v.els := by rw [beginB_els (by have := Hkn.out; omega), ← Hkn.out]
    have Hb := hide hb
    have hel := Ha.out.els_le
    have helu : v.els < 18446744073709551616 := by omega
    have Helu := hide helu
    have Hel := hide (elements_any G g o v w1 Hp1.out)
    clear hb helu
    subst h
    go_wp2_with fail
    refine Hel.out.mono ?_
    rintro e w2 ⟨rfl, n2, rfl⟩
    obtain ⟨ne, hne⟩ : ∃ ne, ne = v.els := ⟨_, rfl⟩
    rw [← hne] at hel Hb Helu ⊢
    clear hne Hel
    go_wp2_with fail
    refine (wuint_any wb F1 _ ne _ (H1.out.nofr ((Fr.refl _ _).drewN n2)) Helu.out (by have := Hl.out; have := Hul.out; rw [List.length_append]; omega)).mono ?_
    rintro e w3 ⟨F2, rfl, h4, h5, h6⟩
    have h5' : Fr F1 w1 w3 := ((Fr.refl _ _).drewN n2).trans' h5 (fun _ _ h => h)
    have Hq := hide (show _ ∧ _ ∧ _ from ⟨h4, h5', h6⟩)
    clear h4 h5 h6 h5'
    go_wp2
    go_end0
    refine ⟨F2, rfl, by rw [Hb.out, ← List.append_assoc]; exact Hq.out.1, H2.out.trans' Hq.out.2.1 (fun i hi h => (H3.out i h).elim id (fun hh => by omega)), fun k hk => (Hq.out.2.2 k hk).elim (fun h => H3.out k h) (fun h => by have := H2.out.size; exact .inr (by have : (w1.drewN n2).heap.size = w1.heap.size := rfl; omega))⟩
  · have hb : beginB v = Lib.uvarint kn := by rw [beginB_else (by have := Hkn.out; omega), ← Hkn.out]
    have Hb := hide hb
    have b1 : ((kn : Int) == 1) = false := by rw [beq_eq_false_iff_ne]; omega
    have b2 : ((kn : Int) == 2) = false := by rw [beq_eq_false_iff_ne]; omega
    have b3 : ((kn : Int) == 3) = false := by rw [beq_eq_false_iff_ne]; omega
    have b4 : ((kn : Int) == 4) = false := by rw [beq_eq_false_iff_ne]; omega
    have b5 : ((kn : Int) == 5) = false := by rw [beq_eq_false_iff_ne]; omega
    have b6 : ((kn : Int) == 6) = false := by rw [beq_eq_false_iff_ne]; omega
    have b7 : ((kn : Int) == 7) = false := by rw [beq_eq_false_iff_ne]; omega
    have b8 : ((kn : Int) == 8) = false := by rw [beq_eq_false_iff_ne]; omega
    clear h hb
    go_wp2
    go_end0
    exact ⟨F1, rfl, by rw [Hb.out]; exact H1.out, H2.out, H3.out⟩
end Go.Proofs.Ytdkmccilnmdhmaa
