/- Package lex: newClasses. -/
import Derived.Test.YtfbkmjjcopjoeaaDoorNc
namespace Go.Proofs.YtfbkmjjcopjoeaaDoor
open Go.RowKit

/-- The thirteen classes of a lexer. -/
structure Fns where
  f0 : Value
  f1 : Value
  f2 : Value
  f3 : Value
  f4 : Value
  f5 : Value
  f6 : Value
  f7 : Value
  f8 : Value
  f9 : Value
  f10 : Value
  f11 : Value
  f12 : Value
structure Clss (B : Nat) (w0 : World) (F : Fns) : Prop where
  c0 : Cls B w0 F.f0 Lx.isBlank
  c1 : Cls B w0 F.f1 (fun c => c == 35)
  c2 : Cls B w0 F.f2 (fun c => c != 10)
  c3 : Cls B w0 F.f3 Lx.isLetter
  c4 : Cls B w0 F.f4 Lx.isDigit
  c5 : Cls B w0 F.f5 Lx.isWord
  c6 : Cls B w0 F.f6 (fun c => c == 45)
  c7 : Cls B w0 F.f7 (fun c => c == 46)
  c8 : Cls B w0 F.f8 Lx.isSign
  c9 : Cls B w0 F.f9 (fun c => c == 34)
  c10 : Cls B w0 F.f10 (fun c => !(c == 34 || c == 92 || c == 10))
  c11 : Cls B w0 F.f11 (fun c => c == 92)
  c12 : Cls B w0 F.f12 (fun c => c == 34 || c == 92 || c == 47 || c == 110 || c == 116)
def Fns.agg (F : Fns) : List Value := [F.f0, F.f1, F.f2, F.f3, F.f4, F.f5, F.f6, F.f7, F.f8, F.f9, F.f10, F.f11, F.f12]
section
variable {w : World} {B : Nat}
theorem mem3 {f0 f1 f2 : Value} {p0 p1 p2 : UInt8 → Bool} (h0 : Cls B w f0 p0) (h1 : Cls B w f1 p1) (h2 : Cls B w f2 p2) : ∀ (j : Nat) f p, [f0, f1, f2][j]? = some f → [p0, p1, p2][j]? = some p → Cls B w f p
  | 0, f, p, hf, hp => by simp at hf hp; subst hf; rw [← hp]; exact h0
  | 1, f, p, hf, hp => by simp at hf hp; subst hf; rw [← hp]; exact h1
  | 2, f, p, hf, hp => by simp at hf hp; subst hf; rw [← hp]; exact h2
  | j + 3, f, p, hf, hp => by simp at hf
theorem mem2 {f0 f1 : Value} {p0 p1 : UInt8 → Bool} (h0 : Cls B w f0 p0) (h1 : Cls B w f1 p1) : ∀ (j : Nat) f p, [f0, f1][j]? = some f → [p0, p1][j]? = some p → Cls B w f p
  | 0, f, p, hf, hp => by simp at hf hp; subst hf; rw [← hp]; exact h0
  | 1, f, p, hf, hp => by simp at hf hp; subst hf; rw [← hp]; exact h1
  | j + 2, f, p, hf, hp => by simp at hf
end
theorem cls_ext0 (c : UInt8) : (fun c => ([32, 9, 10, 13, 44] : List UInt8).contains c) c = Lx.isBlank c := by
  have : ∀ n : Fin 256, (fun c => ([32, 9, 10, 13, 44] : List UInt8).contains c) (UInt8.ofNat n.val) = Lx.isBlank (UInt8.ofNat n.val) := by decide +kernel
  have h := this ⟨c.toNat, c.toNat_lt⟩
  simp only [UInt8.ofNat_toNat] at h
  exact h
theorem cls_ext1 (c : UInt8) : (fun c => ([35] : List UInt8).contains c) c = (fun c => c == 35) c := by
  have : ∀ n : Fin 256, (fun c => ([35] : List UInt8).contains c) (UInt8.ofNat n.val) = (fun c => c == 35) (UInt8.ofNat n.val) := by decide +kernel
  have h := this ⟨c.toNat, c.toNat_lt⟩
  simp only [UInt8.ofNat_toNat] at h
  exact h
theorem cls_ext2 (c : UInt8) : (fun c => !((fun c => ([10] : List UInt8).contains c) c)) c = (fun c => c != 10) c := by
  have : ∀ n : Fin 256, (fun c => !((fun c => ([10] : List UInt8).contains c) c)) (UInt8.ofNat n.val) = (fun c => c != 10) (UInt8.ofNat n.val) := by decide +kernel
  have h := this ⟨c.toNat, c.toNat_lt⟩
  simp only [UInt8.ofNat_toNat] at h
  exact h
theorem cls_ext3 (c : UInt8) : (fun c => ([(fun c => decide (97 ≤ c) && decide (c ≤ 122)), (fun c => decide (65 ≤ c) && decide (c ≤ 90)), (fun c => ([95] : List UInt8).contains c)] : List (UInt8 → Bool)).any (fun p => p c)) c = Lx.isLetter c := by
  have : ∀ n : Fin 256, (fun c => ([(fun c => decide (97 ≤ c) && decide (c ≤ 122)), (fun c => decide (65 ≤ c) && decide (c ≤ 90)), (fun c => ([95] : List UInt8).contains c)] : List (UInt8 → Bool)).any (fun p => p c)) (UInt8.ofNat n.val) = Lx.isLetter (UInt8.ofNat n.val) := by decide +kernel
  have h := this ⟨c.toNat, c.toNat_lt⟩
  simp only [UInt8.ofNat_toNat] at h
  exact h
theorem cls_ext4 (c : UInt8) : (fun c => decide (48 ≤ c) && decide (c ≤ 57)) c = Lx.isDigit c := by
  have : ∀ n : Fin 256, (fun c => decide (48 ≤ c) && decide (c ≤ 57)) (UInt8.ofNat n.val) = Lx.isDigit (UInt8.ofNat n.val) := by decide +kernel
  have h := this ⟨c.toNat, c.toNat_lt⟩
  simp only [UInt8.ofNat_toNat] at h
  exact h
theorem cls_ext5 (c : UInt8) : (fun c => ([(fun c => ([(fun c => decide (97 ≤ c) && decide (c ≤ 122)), (fun c => decide (65 ≤ c) && decide (c ≤ 90)), (fun c => ([95] : List UInt8).contains c)] : List (UInt8 → Bool)).any (fun p => p c)), (fun c => decide (48 ≤ c) && decide (c ≤ 57))] : List (UInt8 → Bool)).any (fun p => p c)) c = Lx.isWord c := by
  have : ∀ n : Fin 256, (fun c => ([(fun c => ([(fun c => decide (97 ≤ c) && decide (c ≤ 122)), (fun c => decide (65 ≤ c) && decide (c ≤ 90)), (fun c => ([95] : List UInt8).contains c)] : List (UInt8 → Bool)).any (fun p => p c)), (fun c => decide (48 ≤ c) && decide (c ≤ 57))] : List (UInt8 → Bool)).any (fun p => p c)) (UInt8.ofNat n.val) = Lx.isWord (UInt8.ofNat n.val) := by decide +kernel
  have h := this ⟨c.toNat, c.toNat_lt⟩
  simp only [UInt8.ofNat_toNat] at h
  exact h
theorem cls_ext6 (c : UInt8) : (fun c => ([45] : List UInt8).contains c) c = (fun c => c == 45) c := by
  have : ∀ n : Fin 256, (fun c => ([45] : List UInt8).contains c) (UInt8.ofNat n.val) = (fun c => c == 45) (UInt8.ofNat n.val) := by decide +kernel
  have h := this ⟨c.toNat, c.toNat_lt⟩
  simp only [UInt8.ofNat_toNat] at h
  exact h
theorem cls_ext7 (c : UInt8) : (fun c => ([46] : List UInt8).contains c) c = (fun c => c == 46) c := by
  have : ∀ n : Fin 256, (fun c => ([46] : List UInt8).contains c) (UInt8.ofNat n.val) = (fun c => c == 46) (UInt8.ofNat n.val) := by decide +kernel
  have h := this ⟨c.toNat, c.toNat_lt⟩
  simp only [UInt8.ofNat_toNat] at h
  exact h
theorem cls_ext8 (c : UInt8) : (fun c => ([33, 36, 40, 41, 58, 61, 64, 91, 93, 123, 124, 125, 38] : List UInt8).contains c) c = Lx.isSign c := by
  have : ∀ n : Fin 256, (fun c => ([33, 36, 40, 41, 58, 61, 64, 91, 93, 123, 124, 125, 38] : List UInt8).contains c) (UInt8.ofNat n.val) = Lx.isSign (UInt8.ofNat n.val) := by decide +kernel
  have h := this ⟨c.toNat, c.toNat_lt⟩
  simp only [UInt8.ofNat_toNat] at h
  exact h
theorem cls_ext9 (c : UInt8) : (fun c => ([34] : List UInt8).contains c) c = (fun c => c == 34) c := by
  have : ∀ n : Fin 256, (fun c => ([34] : List UInt8).contains c) (UInt8.ofNat n.val) = (fun c => c == 34) (UInt8.ofNat n.val) := by decide +kernel
  have h := this ⟨c.toNat, c.toNat_lt⟩
  simp only [UInt8.ofNat_toNat] at h
  exact h
theorem cls_ext10 (c : UInt8) : (fun c => !((fun c => ([34, 92, 10] : List UInt8).contains c) c)) c = (fun c => !(c == 34 || c == 92 || c == 10)) c := by
  have : ∀ n : Fin 256, (fun c => !((fun c => ([34, 92, 10] : List UInt8).contains c) c)) (UInt8.ofNat n.val) = (fun c => !(c == 34 || c == 92 || c == 10)) (UInt8.ofNat n.val) := by decide +kernel
  have h := this ⟨c.toNat, c.toNat_lt⟩
  simp only [UInt8.ofNat_toNat] at h
  exact h
theorem cls_ext11 (c : UInt8) : (fun c => ([92] : List UInt8).contains c) c = (fun c => c == 92) c := by
  have : ∀ n : Fin 256, (fun c => ([92] : List UInt8).contains c) (UInt8.ofNat n.val) = (fun c => c == 92) (UInt8.ofNat n.val) := by decide +kernel
  have h := this ⟨c.toNat, c.toNat_lt⟩
  simp only [UInt8.ofNat_toNat] at h
  exact h
theorem cls_ext12 (c : UInt8) : (fun c => ([34, 92, 47, 110, 116] : List UInt8).contains c) c = (fun c => c == 34 || c == 92 || c == 47 || c == 110 || c == 116) c := by
  have : ∀ n : Fin 256, (fun c => ([34, 92, 47, 110, 116] : List UInt8).contains c) (UInt8.ofNat n.val) = (fun c => c == 34 || c == 92 || c == 47 || c == 110 || c == 116) (UInt8.ofNat n.val) := by decide +kernel
  have h := this ⟨c.toNat, c.toNat_lt⟩
  simp only [UInt8.ofNat_toNat] at h
  exact h

theorem buildCls (k6 k7 k9 k4 k5 k10 k11 k12 k13 k14 k16 k17 k18 : Nat) (c6 c7 c9 c4 c5 c10 c11 c12 c13 c14 c16 c17 c18 : Array Value) (w : World) :
    (Instr.build 44 #[(0, .func (.func k6) #[] c6), (1, .func (.func k7) #[] c7), (2, .func (.func k9) #[] c9), (3, .func (.func k4) #[] c4), (4, .func (.func k5) #[] c5), (5, .func (.func k10) #[] c10), (6, .func (.func k11) #[] c11), (7, .func (.func k12) #[] c12), (8, .func (.func k13) #[] c13), (9, .func (.func k14) #[] c14), (10, .func (.func k16) #[] c16), (11, .func (.func k17) #[] c17), (12, .func (.func k18) #[] c18)]).run Tryd.prog w = .ok (.agg #[.func (.func k6) #[] c6, .func (.func k7) #[] c7, .func (.func k9) #[] c9, .func (.func k4) #[] c4, .func (.func k5) #[] c5, .func (.func k10) #[] c10, .func (.func k11) #[] c11, .func (.func k12) #[] c12, .func (.func k13) #[] c13, .func (.func k14) #[] c14, .func (.func k16) #[] c16, .func (.func k17) #[] c17, .func (.func k18) #[] c18]) w := run_build w _ _ _ (by kernel_rfl)
theorem cls_one (k6 k7 k9 k4 k5 k10 k11 k12 k13 k14 k16 k17 k18 : Nat) (c6 c7 c9 c4 c5 c10 c11 c12 c13 c14 c16 c17 c18 : Array Value) : (#[.func (.func k6) #[] c6, .func (.func k7) #[] c7, .func (.func k9) #[] c9, .func (.func k4) #[] c4, .func (.func k5) #[] c5, .func (.func k10) #[] c10, .func (.func k11) #[] c11, .func (.func k12) #[] c12, .func (.func k13) #[] c13, .func (.func k14) #[] c14, .func (.func k16) #[] c16, .func (.func k17) #[] c17, .func (.func k18) #[] c18] : Array Value).all (·.oneCell') = true :=
  all_oneCell_toArray (fun v hv => by
    simp only [List.mem_cons, List.not_mem_nil, or_false] at hv
    rcases hv with rfl | rfl | rfl | rfl | rfl | rfl | rfl | rfl | rfl | rfl | rfl | rfl | rfl <;> rfl)
theorem setC_toList (w : World) (b o : Nat) (l : List Value) : w.setCells b o l.toArray.toList = w.setCells b o l := by rw [List.toList_toArray]
theorem infoCC : (Tryd.prog.info? 44).map (·.size) = some 13 := by kernel_rfl
set_option maxRecDepth 100000 in
set_option maxHeartbeats 8000000 in
theorem newClasses_any (w : World) : Calls Tryd.prog 15 #[] w fun e w' => ∃ F : Fns, e = .returned (.agg F.agg.toArray) ∧ Clss (w.heap.size + 1) w' F ∧ Below w.heap.size w w' := by
  have hbc := buildCls
  obtain ⟨w0, hw0⟩ : ∃ w0, w.alloc (.cells #[.nilFunc, .nilFunc, .nilFunc, .nilFunc, .nilFunc, .nilFunc, .nilFunc, .nilFunc, .nilFunc, .nilFunc, .nilFunc, .nilFunc, .nilFunc] 44) = w0 := ⟨_, rfl⟩
  have Hb0 := hide (show Below w.heap.size w w0 from by rw [← hw0]; exact (Below.refl _ _).alloc (Nat.le_refl _) _)
  have HZ := hide (show Blk w0 w.heap.size 44 #[.nilFunc, .nilFunc, .nilFunc, .nilFunc, .nilFunc, .nilFunc, .nilFunc, .nilFunc, .nilFunc, .nilFunc, .nilFunc, .nilFunc, .nilFunc] from by rw [← hw0]; exact Blk.new _ _ _)
  obtain ⟨g0, hg0⟩ : ∃ g, w.heap.size = g := ⟨_, rfl⟩
  rw [hg0] at HZ
  have HS := hide (show g0 + 1 ≤ w0.heap.size from HZ.out.lt)
  go_enter Tryd.func15, Tryd.ntmps15
  go_wp2_with (first
    | (go_at_call 19; refine (between_any 97 122 97 122 rfl rfl (g0 + 1) _ (Nat.le_trans HS.out (Below.refl w0.heap.size w0).size)).mono ?_; rintro e w1 ⟨_, rfl, ⟨k1, c1, rfl, hk1⟩, hb1⟩; have H1 := hide (show Cls (g0 + 1) w1 (.func (.func k1) #[] c1) (fun c => decide (97 ≤ c) && decide (c ≤ 122)) from ⟨k1, c1, rfl, hk1⟩); have D1 := hide hb1; have E1 := hide ((Below.refl w0.heap.size w0).trans (hb1.mono (Below.refl w0.heap.size w0).size)); clear hk1 hb1)
    | (go_at_call 19; refine (between_any 65 90 65 90 rfl rfl (g0 + 1) _ (Nat.le_trans HS.out E1.out.size)).mono ?_; rintro e w2 ⟨_, rfl, ⟨k2, c2, rfl, hk2⟩, hb2⟩; have H2 := hide (show Cls (g0 + 1) w2 (.func (.func k2) #[] c2) (fun c => decide (65 ≤ c) && decide (c ≤ 90)) from ⟨k2, c2, rfl, hk2⟩); have D2 := hide hb2; have E2 := hide (E1.out.trans (hb2.mono E1.out.size)); clear hk2 hb2)
    | (go_at_call 20; refine (among_any [95] (g0 + 1) _ (Nat.le_trans HS.out E2.out.size)).mono ?_; rintro e w3 ⟨_, rfl, ⟨k3, c3, rfl, hk3⟩, hb3⟩; have H3 := hide (show Cls (g0 + 1) w3 (.func (.func k3) #[] c3) (fun c => ([95] : List UInt8).contains c) from ⟨k3, c3, rfl, hk3⟩); have D3 := hide hb3; have E3 := hide (E2.out.trans (hb3.mono E2.out.size)); clear hk3 hb3)
    | (go_at_call 18; have HMa := hide (mem3 (H1.out.below (((D2.out).trans ((D3.out).mono (D2.out).size)).trans ((((Below.refl w3.heap.size w3).alloc (Nat.le_refl _) (.cells #[.func (.func k1) #[] c1, .func (.func k2) #[] c2, .func (.func k3) #[] c3] 42))).mono ((D2.out).trans ((D3.out).mono (D2.out).size)).size))) (H2.out.below ((D3.out).trans ((((Below.refl w3.heap.size w3).alloc (Nat.le_refl _) (.cells #[.func (.func k1) #[] c1, .func (.func k2) #[] c2, .func (.func k3) #[] c3] 42))).mono (D3.out).size))) (H3.out.below (((Below.refl w3.heap.size w3).alloc (Nat.le_refl _) (.cells #[.func (.func k1) #[] c1, .func (.func k2) #[] c2, .func (.func k3) #[] c3] 42))))); refine (either_len (g0 + 1) 3 [.func (.func k1) #[] c1, .func (.func k2) #[] c2, .func (.func k3) #[] c3] [(fun c => decide (97 ≤ c) && decide (c ≤ 122)), (fun c => decide (65 ≤ c) && decide (c ≤ 90)), (fun c => ([95] : List UInt8).contains c)] _ _ rfl (Nat.le_trans HS.out E3.out.size) (Blk.new _ _ _) rfl (Nat.le_of_ble_eq_true rfl) HMa.out).mono ?_; rintro e w4 ⟨_, rfl, ⟨k4, c4, rfl, hk4⟩, hb4⟩; have H4 := hide (show Cls (g0 + 1) w4 (.func (.func k4) #[] c4) (fun c => ([(fun c => decide (97 ≤ c) && decide (c ≤ 122)), (fun c => decide (65 ≤ c) && decide (c ≤ 90)), (fun c => ([95] : List UInt8).contains c)] : List (UInt8 → Bool)).any (fun p => p c)) from ⟨k4, c4, rfl, hk4⟩); have D4 := hide hb4; have E4 := hide ((E3.out.alloc E3.out.size (.cells #[.func (.func k1) #[] c1, .func (.func k2) #[] c2, .func (.func k3) #[] c3] 42)).trans (hb4.mono (E3.out.alloc E3.out.size (.cells #[.func (.func k1) #[] c1, .func (.func k2) #[] c2, .func (.func k3) #[] c3] 42)).size)); clear hk4 hb4)
    | (go_at_call 19; refine (between_any 48 57 48 57 rfl rfl (g0 + 1) _ (Nat.le_trans HS.out E4.out.size)).mono ?_; rintro e w5 ⟨_, rfl, ⟨k5, c5, rfl, hk5⟩, hb5⟩; have H5 := hide (show Cls (g0 + 1) w5 (.func (.func k5) #[] c5) (fun c => decide (48 ≤ c) && decide (c ≤ 57)) from ⟨k5, c5, rfl, hk5⟩); have D5 := hide hb5; have E5 := hide (E4.out.trans (hb5.mono E4.out.size)); clear hk5 hb5)
    | (go_at_call 20; refine (among_any [32, 9, 10, 13, 44] (g0 + 1) _ (Nat.le_trans HS.out E5.out.size)).mono ?_; rintro e w6 ⟨_, rfl, ⟨k6, c6, rfl, hk6⟩, hb6⟩; have H6 := hide (show Cls (g0 + 1) w6 (.func (.func k6) #[] c6) (fun c => ([32, 9, 10, 13, 44] : List UInt8).contains c) from ⟨k6, c6, rfl, hk6⟩); have D6 := hide hb6; have E6 := hide (E5.out.trans (hb6.mono E5.out.size)); clear hk6 hb6)
    | (go_at_call 20; refine (among_any [35] (g0 + 1) _ (Nat.le_trans HS.out E6.out.size)).mono ?_; rintro e w7 ⟨_, rfl, ⟨k7, c7, rfl, hk7⟩, hb7⟩; have H7 := hide (show Cls (g0 + 1) w7 (.func (.func k7) #[] c7) (fun c => ([35] : List UInt8).contains c) from ⟨k7, c7, rfl, hk7⟩); have D7 := hide hb7; have E7 := hide (E6.out.trans (hb7.mono E6.out.size)); clear hk7 hb7)
    | (go_at_call 20; refine (among_any [10] (g0 + 1) _ (Nat.le_trans HS.out E7.out.size)).mono ?_; rintro e w8 ⟨_, rfl, ⟨k8, c8, rfl, hk8⟩, hb8⟩; have H8 := hide (show Cls (g0 + 1) w8 (.func (.func k8) #[] c8) (fun c => ([10] : List UInt8).contains c) from ⟨k8, c8, rfl, hk8⟩); have D8 := hide hb8; have E8 := hide (E7.out.trans (hb8.mono E7.out.size)); clear hk8 hb8)
    | (go_at_call 21; refine (not_any (g0 + 1) _ _ _ (H8.out.below (Below.refl _ _)) (Nat.le_trans HS.out E8.out.size)).mono ?_; rintro e w9 ⟨_, rfl, ⟨k9, c9, rfl, hk9⟩, hb9⟩; have H9 := hide (show Cls (g0 + 1) w9 (.func (.func k9) #[] c9) (fun c => !((fun c => ([10] : List UInt8).contains c) c)) from ⟨k9, c9, rfl, hk9⟩); have D9 := hide hb9; have E9 := hide (E8.out.trans (hb9.mono E8.out.size)); clear hk9 hb9)
    | (go_at_call 18; have HMb := hide (mem2 (H4.out.below ((((((D5.out).trans ((D6.out).mono (D5.out).size)).trans ((D7.out).mono ((D5.out).trans ((D6.out).mono (D5.out).size)).size)).trans ((D8.out).mono (((D5.out).trans ((D6.out).mono (D5.out).size)).trans ((D7.out).mono ((D5.out).trans ((D6.out).mono (D5.out).size)).size)).size)).trans ((D9.out).mono ((((D5.out).trans ((D6.out).mono (D5.out).size)).trans ((D7.out).mono ((D5.out).trans ((D6.out).mono (D5.out).size)).size)).trans ((D8.out).mono (((D5.out).trans ((D6.out).mono (D5.out).size)).trans ((D7.out).mono ((D5.out).trans ((D6.out).mono (D5.out).size)).size)).size)).size)).trans ((((Below.refl w9.heap.size w9).alloc (Nat.le_refl _) (.cells #[.func (.func k4) #[] c4, .func (.func k5) #[] c5] 42))).mono (((((D5.out).trans ((D6.out).mono (D5.out).size)).trans ((D7.out).mono ((D5.out).trans ((D6.out).mono (D5.out).size)).size)).trans ((D8.out).mono (((D5.out).trans ((D6.out).mono (D5.out).size)).trans ((D7.out).mono ((D5.out).trans ((D6.out).mono (D5.out).size)).size)).size)).trans ((D9.out).mono ((((D5.out).trans ((D6.out).mono (D5.out).size)).trans ((D7.out).mono ((D5.out).trans ((D6.out).mono (D5.out).size)).size)).trans ((D8.out).mono (((D5.out).trans ((D6.out).mono (D5.out).size)).trans ((D7.out).mono ((D5.out).trans ((D6.out).mono (D5.out).size)).size)).size)).size)).size))) (H5.out.below (((((D6.out).trans ((D7.out).mono (D6.out).size)).trans ((D8.out).mono ((D6.out).trans ((D7.out).mono (D6.out).size)).size)).trans ((D9.out).mono (((D6.out).trans ((D7.out).mono (D6.out).size)).trans ((D8.out).mono ((D6.out).trans ((D7.out).mono (D6.out).size)).size)).size)).trans ((((Below.refl w9.heap.size w9).alloc (Nat.le_refl _) (.cells #[.func (.func k4) #[] c4, .func (.func k5) #[] c5] 42))).mono ((((D6.out).trans ((D7.out).mono (D6.out).size)).trans ((D8.out).mono ((D6.out).trans ((D7.out).mono (D6.out).size)).size)).trans ((D9.out).mono (((D6.out).trans ((D7.out).mono (D6.out).size)).trans ((D8.out).mono ((D6.out).trans ((D7.out).mono (D6.out).size)).size)).size)).size)))); refine (either_len (g0 + 1) 2 [.func (.func k4) #[] c4, .func (.func k5) #[] c5] [(fun c => ([(fun c => decide (97 ≤ c) && decide (c ≤ 122)), (fun c => decide (65 ≤ c) && decide (c ≤ 90)), (fun c => ([95] : List UInt8).contains c)] : List (UInt8 → Bool)).any (fun p => p c)), (fun c => decide (48 ≤ c) && decide (c ≤ 57))] _ _ rfl (Nat.le_trans HS.out E9.out.size) (Blk.new _ _ _) rfl (Nat.le_of_ble_eq_true rfl) HMb.out).mono ?_; rintro e w10 ⟨_, rfl, ⟨k10, c10, rfl, hk10⟩, hb10⟩; have H10 := hide (show Cls (g0 + 1) w10 (.func (.func k10) #[] c10) (fun c => ([(fun c => ([(fun c => decide (97 ≤ c) && decide (c ≤ 122)), (fun c => decide (65 ≤ c) && decide (c ≤ 90)), (fun c => ([95] : List UInt8).contains c)] : List (UInt8 → Bool)).any (fun p => p c)), (fun c => decide (48 ≤ c) && decide (c ≤ 57))] : List (UInt8 → Bool)).any (fun p => p c)) from ⟨k10, c10, rfl, hk10⟩); have D10 := hide hb10; have E10 := hide ((E9.out.alloc E9.out.size (.cells #[.func (.func k4) #[] c4, .func (.func k5) #[] c5] 42)).trans (hb10.mono (E9.out.alloc E9.out.size (.cells #[.func (.func k4) #[] c4, .func (.func k5) #[] c5] 42)).size)); clear hk10 hb10)
    | (go_at_call 20; refine (among_any [45] (g0 + 1) _ (Nat.le_trans HS.out E10.out.size)).mono ?_; rintro e w11 ⟨_, rfl, ⟨k11, c11, rfl, hk11⟩, hb11⟩; have H11 := hide (show Cls (g0 + 1) w11 (.func (.func k11) #[] c11) (fun c => ([45] : List UInt8).contains c) from ⟨k11, c11, rfl, hk11⟩); have D11 := hide hb11; have E11 := hide (E10.out.trans (hb11.mono E10.out.size)); clear hk11 hb11)
    | (go_at_call 20; refine (among_any [46] (g0 + 1) _ (Nat.le_trans HS.out E11.out.size)).mono ?_; rintro e w12 ⟨_, rfl, ⟨k12, c12, rfl, hk12⟩, hb12⟩; have H12 := hide (show Cls (g0 + 1) w12 (.func (.func k12) #[] c12) (fun c => ([46] : List UInt8).contains c) from ⟨k12, c12, rfl, hk12⟩); have D12 := hide hb12; have E12 := hide (E11.out.trans (hb12.mono E11.out.size)); clear hk12 hb12)
    | (go_at_call 20; refine (among_any [33, 36, 40, 41, 58, 61, 64, 91, 93, 123, 124, 125, 38] (g0 + 1) _ (Nat.le_trans HS.out E12.out.size)).mono ?_; rintro e w13 ⟨_, rfl, ⟨k13, c13, rfl, hk13⟩, hb13⟩; have H13 := hide (show Cls (g0 + 1) w13 (.func (.func k13) #[] c13) (fun c => ([33, 36, 40, 41, 58, 61, 64, 91, 93, 123, 124, 125, 38] : List UInt8).contains c) from ⟨k13, c13, rfl, hk13⟩); have D13 := hide hb13; have E13 := hide (E12.out.trans (hb13.mono E12.out.size)); clear hk13 hb13)
    | (go_at_call 20; refine (among_any [34] (g0 + 1) _ (Nat.le_trans HS.out E13.out.size)).mono ?_; rintro e w14 ⟨_, rfl, ⟨k14, c14, rfl, hk14⟩, hb14⟩; have H14 := hide (show Cls (g0 + 1) w14 (.func (.func k14) #[] c14) (fun c => ([34] : List UInt8).contains c) from ⟨k14, c14, rfl, hk14⟩); have D14 := hide hb14; have E14 := hide (E13.out.trans (hb14.mono E13.out.size)); clear hk14 hb14)
    | (go_at_call 20; refine (among_any [34, 92, 10] (g0 + 1) _ (Nat.le_trans HS.out E14.out.size)).mono ?_; rintro e w15 ⟨_, rfl, ⟨k15, c15, rfl, hk15⟩, hb15⟩; have H15 := hide (show Cls (g0 + 1) w15 (.func (.func k15) #[] c15) (fun c => ([34, 92, 10] : List UInt8).contains c) from ⟨k15, c15, rfl, hk15⟩); have D15 := hide hb15; have E15 := hide (E14.out.trans (hb15.mono E14.out.size)); clear hk15 hb15)
    | (go_at_call 21; refine (not_any (g0 + 1) _ _ _ (H15.out.below (Below.refl _ _)) (Nat.le_trans HS.out E15.out.size)).mono ?_; rintro e w16 ⟨_, rfl, ⟨k16, c16, rfl, hk16⟩, hb16⟩; have H16 := hide (show Cls (g0 + 1) w16 (.func (.func k16) #[] c16) (fun c => !((fun c => ([34, 92, 10] : List UInt8).contains c) c)) from ⟨k16, c16, rfl, hk16⟩); have D16 := hide hb16; have E16 := hide (E15.out.trans (hb16.mono E15.out.size)); clear hk16 hb16)
    | (go_at_call 20; refine (among_any [92] (g0 + 1) _ (Nat.le_trans HS.out E16.out.size)).mono ?_; rintro e w17 ⟨_, rfl, ⟨k17, c17, rfl, hk17⟩, hb17⟩; have H17 := hide (show Cls (g0 + 1) w17 (.func (.func k17) #[] c17) (fun c => ([92] : List UInt8).contains c) from ⟨k17, c17, rfl, hk17⟩); have D17 := hide hb17; have E17 := hide (E16.out.trans (hb17.mono E16.out.size)); clear hk17 hb17)
    | (go_at_call 20; refine (among_any [34, 92, 47, 110, 116] (g0 + 1) _ (Nat.le_trans HS.out E17.out.size)).mono ?_; rintro e w18 ⟨_, rfl, ⟨k18, c18, rfl, hk18⟩, hb18⟩; have H18 := hide (show Cls (g0 + 1) w18 (.func (.func k18) #[] c18) (fun c => ([34, 92, 47, 110, 116] : List UInt8).contains c) from ⟨k18, c18, rfl, hk18⟩); have D18 := hide hb18; have E18 := hide (E17.out.trans (hb18.mono E17.out.size)); clear hk18 hb18)
    | (refine wpList_store_mid rfl 44 (.tmp 0) (.tmp 27) rfl g0 0 #[.func (.func k6) #[] c6, .func (.func k7) #[] c7, .func (.func k9) #[] c9, .func (.func k4) #[] c4, .func (.func k5) #[] c5, .func (.func k10) #[] c10, .func (.func k11) #[] c11, .func (.func k12) #[] c12, .func (.func k13) #[] c13, .func (.func k14) #[] c14, .func (.func k16) #[] c16, .func (.func k17) #[] c17, .func (.func k18) #[] c18] rfl rfl ((HZ.out.below E18.out HZ.out.lt).there 0 13 (by decide)) infoCC (cls_one _ _ _ _ _ _ _ _ _ _ _ _ _ _ _ _ _ _ _ _ _ _ _ _ _ _) ?_; rw [setC_toList]))
  obtain ⟨w', hw'⟩ : ∃ w', w18.setCells g0 0 [.func (.func k6) #[] c6, .func (.func k7) #[] c7, .func (.func k9) #[] c9, .func (.func k4) #[] c4, .func (.func k5) #[] c5, .func (.func k10) #[] c10, .func (.func k11) #[] c11, .func (.func k12) #[] c12, .func (.func k13) #[] c13, .func (.func k14) #[] c14, .func (.func k16) #[] c16, .func (.func k17) #[] c17, .func (.func k18) #[] c18] = w' := ⟨_, rfl⟩
  have hbf : Blk w' g0 44 #[.func (.func k6) #[] c6, .func (.func k7) #[] c7, .func (.func k9) #[] c9, .func (.func k4) #[] c4, .func (.func k5) #[] c5, .func (.func k10) #[] c10, .func (.func k11) #[] c11, .func (.func k12) #[] c12, .func (.func k13) #[] c13, .func (.func k14) #[] c14, .func (.func k16) #[] c16, .func (.func k17) #[] c17, .func (.func k18) #[] c18] := by rw [← hw']; have h := Blk.sets [.func (.func k6) #[] c6, .func (.func k7) #[] c7, .func (.func k9) #[] c9, .func (.func k4) #[] c4, .func (.func k5) #[] c5, .func (.func k10) #[] c10, .func (.func k11) #[] c11, .func (.func k12) #[] c12, .func (.func k13) #[] c13, .func (.func k14) #[] c14, .func (.func k16) #[] c16, .func (.func k17) #[] c17, .func (.func k18) #[] c18] 0 #[.nilFunc, .nilFunc, .nilFunc, .nilFunc, .nilFunc, .nilFunc, .nilFunc, .nilFunc, .nilFunc, .nilFunc, .nilFunc, .nilFunc, .nilFunc] w18 (HZ.out.below E18.out HZ.out.lt); rw [splice_all [.func (.func k6) #[] c6, .func (.func k7) #[] c7, .func (.func k9) #[] c9, .func (.func k4) #[] c4, .func (.func k5) #[] c5, .func (.func k10) #[] c10, .func (.func k11) #[] c11, .func (.func k12) #[] c12, .func (.func k13) #[] c13, .func (.func k14) #[] c14, .func (.func k16) #[] c16, .func (.func k17) #[] c17, .func (.func k18) #[] c18] #[.nilFunc, .nilFunc, .nilFunc, .nilFunc, .nilFunc, .nilFunc, .nilFunc, .nilFunc, .nilFunc, .nilFunc, .nilFunc, .nilFunc, .nilFunc] rfl] at h; exact h
  have hft : Fr (fun k => k < g0 + 1) w18 w' := by rw [← hw']; exact Fr.setCells (F := fun k => k < g0 + 1) (.inl (Nat.lt_succ_self _)) _ _ _ (Fr.refl _ _)
  have hbw : Below w.heap.size w w' := by
    rw [← hw']
    exact (Fr.setCells (F := fun _ => False) (.inr (by rw [hg0]; exact Nat.le_refl _)) _ _ _ (Fr.of_below (Hb0.out.trans (E18.out.mono Hb0.out.size)))).below (Nat.le_refl _) (fun _ h => h.elim)
  rw [hw']
  have Hf := hide hft
  have Hbf := hide hbf
  have Hbw := hide hbw
  clear hft hbf hbw hw'
  have T_w17 := hide (D18.out)
  have T_w16 := hide ((D17.out).trans (T_w17.out.mono (D17.out).size))
  have T_w15 := hide ((D16.out).trans (T_w16.out.mono (D16.out).size))
  have T_w14 := hide ((D15.out).trans (T_w15.out.mono (D15.out).size))
  have T_w13 := hide ((D14.out).trans (T_w14.out.mono (D14.out).size))
  have T_w12 := hide ((D13.out).trans (T_w13.out.mono (D13.out).size))
  have T_w11 := hide ((D12.out).trans (T_w12.out.mono (D12.out).size))
  have T_w10 := hide ((D11.out).trans (T_w11.out.mono (D11.out).size))
  have T_sw10 := hide ((D10.out).trans (T_w10.out.mono (D10.out).size))
  have T_w9 := hide ((((Below.refl w9.heap.size w9).alloc (Nat.le_refl _) (.cells #[.func (.func k4) #[] c4, .func (.func k5) #[] c5] 42))).trans (T_sw10.out.mono (((Below.refl w9.heap.size w9).alloc (Nat.le_refl _) (.cells #[.func (.func k4) #[] c4, .func (.func k5) #[] c5] 42))).size))
  have T_w8 := hide ((D9.out).trans (T_w9.out.mono (D9.out).size))
  have T_w7 := hide ((D8.out).trans (T_w8.out.mono (D8.out).size))
  have T_w6 := hide ((D7.out).trans (T_w7.out.mono (D7.out).size))
  have T_w5 := hide ((D6.out).trans (T_w6.out.mono (D6.out).size))
  have T_w4 := hide ((D5.out).trans (T_w5.out.mono (D5.out).size))
  have T_sw4 := hide ((D4.out).trans (T_w4.out.mono (D4.out).size))
  have T_w3 := hide ((((Below.refl w3.heap.size w3).alloc (Nat.le_refl _) (.cells #[.func (.func k1) #[] c1, .func (.func k2) #[] c2, .func (.func k3) #[] c3] 42))).trans (T_sw4.out.mono (((Below.refl w3.heap.size w3).alloc (Nat.le_refl _) (.cells #[.func (.func k1) #[] c1, .func (.func k2) #[] c2, .func (.func k3) #[] c3] 42))).size))
  have T_w2 := hide ((D3.out).trans (T_w3.out.mono (D3.out).size))
  have T_w1 := hide ((D2.out).trans (T_w2.out.mono (D2.out).size))
  have T_w0 := hide ((D1.out).trans (T_w1.out.mono (D1.out).size))

  have r0 := Hbf.out.cell 0
  have r1 := Hbf.out.cell 1
  have r2 := Hbf.out.cell 2
  have r3 := Hbf.out.cell 3
  have r4 := Hbf.out.cell 4
  have r5 := Hbf.out.cell 5
  have r6 := Hbf.out.cell 6
  have r7 := Hbf.out.cell 7
  have r8 := Hbf.out.cell 8
  have r9 := Hbf.out.cell 9
  have r10 := Hbf.out.cell 10
  have r11 := Hbf.out.cell 11
  have r12 := Hbf.out.cell 12
  refine bodyPost_ret (v := .agg #[.func (.func k6) #[] c6, .func (.func k7) #[] c7, .func (.func k9) #[] c9, .func (.func k4) #[] c4, .func (.func k5) #[] c5, .func (.func k10) #[] c10, .func (.func k11) #[] c11, .func (.func k12) #[] c12, .func (.func k13) #[] c13, .func (.func k14) #[] c14, .func (.func k16) #[] c16, .func (.func k17) #[] c17, .func (.func k18) #[] c18]) (by simp [results, Tryd.results15, go_sem, r0, r1, r2, r3, r4, r5, r6, r7, r8, r9, r10, r11, r12, Result.andThen]) rfl ⟨⟨.func (.func k6) #[] c6, .func (.func k7) #[] c7, .func (.func k9) #[] c9, .func (.func k4) #[] c4, .func (.func k5) #[] c5, .func (.func k10) #[] c10, .func (.func k11) #[] c11, .func (.func k12) #[] c12, .func (.func k13) #[] c13, .func (.func k14) #[] c14, .func (.func k16) #[] c16, .func (.func k17) #[] c17, .func (.func k18) #[] c18⟩, rfl, ?_, Hbw.out⟩
  rw [hg0]
  exact ⟨((H6.out.below T_w6.out).later Hf.out).ext cls_ext0, ((H7.out.below T_w7.out).later Hf.out).ext cls_ext1, ((H9.out.below T_w9.out).later Hf.out).ext cls_ext2, ((H4.out.below T_w4.out).later Hf.out).ext cls_ext3, ((H5.out.below T_w5.out).later Hf.out).ext cls_ext4, ((H10.out.below T_w10.out).later Hf.out).ext cls_ext5, ((H11.out.below T_w11.out).later Hf.out).ext cls_ext6, ((H12.out.below T_w12.out).later Hf.out).ext cls_ext7, ((H13.out.below T_w13.out).later Hf.out).ext cls_ext8, ((H14.out.below T_w14.out).later Hf.out).ext cls_ext9, ((H16.out.below T_w16.out).later Hf.out).ext cls_ext10, ((H17.out.below T_w17.out).later Hf.out).ext cls_ext11, (H18.out.later Hf.out).ext cls_ext12⟩
end Go.Proofs.YtfbkmjjcopjoeaaDoor
