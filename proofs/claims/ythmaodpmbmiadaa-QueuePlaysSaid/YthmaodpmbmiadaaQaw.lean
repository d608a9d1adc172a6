/- The laws' own: a queue that a law has made; awake; a nil queue. -/
import Derived.Test.YthmaodpmbmiadaaQmStr
import Derived.Test.YthmaodpmbmiadaaQmInt
import Derived.Test.YthmaodpmbmiadaaQmU64
namespace Go.Proofs.Ythmaodpmbmiadaa
open Go.RowKit Go.Conc

/-- A queue that a law, begun in w0, has made. -/
structure OnQ (w0 w : World) (t : TypeId) (S : QS) : Prop where
  at_ : QAt w t S
  below : Below w0.heap.size w0 w
  own : ∀ k, S.F k → w0.heap.size ≤ k
theorem OnQ.step {w0 w w' : World} {t : TypeId} {S S' : QS} (h : OnQ w0 w t S) (h' : QAt w' t S') (f : Fr S.F w w') (hq : S'.q = S.q) (hc : S'.c = S.c) : OnQ w0 w' t S' :=
  ⟨h', h.below.trans (f.below h.below.size h.own), fun k hk => h.own k (by
    rcases hk with rfl | rfl
    · exact .inl hq
    · exact .inr hc)⟩
theorem OnQ.drewN {w0 w : World} {t : TypeId} {S : QS} (h : OnQ w0 w t S) (n : Nat) : OnQ w0 (w.drewN n) t S := h.step (h.at_.drewN n) ((Fr.refl _ _).drewN n) rfl rfl
/-- What is new, or not the queue's, is touched. -/
theorem OnQ.fr {w0 w w' : World} {t : TypeId} {S : QS} {F : Nat → Prop} (h : OnQ w0 w t S) (f : Fr F w w') (hF : ∀ k, F k → w0.heap.size ≤ k ∧ ¬ S.F k) : OnQ w0 w' t S :=
  ⟨h.at_.fr f (fun hk => (hF _ hk).2 S.F_q) (fun hk => (hF _ hk).2 S.F_c), h.below.trans (f.below h.below.size (fun k hk => (hF k hk).1)), h.own⟩
theorem OnQ.new {w0 w w' : World} {t : TypeId} {S : QS} (hb : Below w0.heap.size w0 w) (h : QAt w' t S) (hb' : Below w.heap.size w w') (ho : ∀ k, S.F k → w.heap.size ≤ k) : OnQ w0 w' t S :=
  ⟨h, hb.trans (hb'.mono hb.size), fun k hk => Nat.le_trans hb.size (ho k hk)⟩

set_option maxHeartbeats 2000000 in
theorem awake_any (w : World) : Calls Try.prog 9 #[] w fun e w' => e = .returned (.bool true) ∧ Below w.heap.size w w' := by
  go_enter Try.func9, Try.ntmps9
  go_wp2_with fail
  refine (newStr 2 5 w (by omega) (by omega)).mono ?_
  rintro e w1 ⟨S, rfl, hq, hcap, hgone, hl, hb, hF⟩
  have H1 := hide (OnQ.new (Below.refl _ w) hq hb hF)
  have l1 : S.l.length < S.cap := by rw [hl, hcap]; decide
  have g1 : S.gone < 1000000000000 := by rw [hgone]; omega
  have hlast : S.last = 5 := by rw [QS.last, hl, hgone]; rfl
  have L1 := hide l1
  have G1 := hide g1
  have HL := hide hlast
  have Hc := hide hcap
  have Hg := hide hgone
  have Hl := hide hl
  clear hq hb hF l1 g1 hlast hcap hgone hl
  go_wp2_with fail
  refine (putStr S (.string ⟨#[97]⟩) w1 H1.out.at_ L1.out G1.out).mono ?_
  rintro e w2 ⟨rfl, hq2, hf2⟩
  have H2 := hide (H1.out.step hq2 hf2 rfl rfl)
  rw [HL.out]
  clear hq2 hf2
  have l2 : (S.put (.string ⟨#[97]⟩)).l.length < (S.put (.string ⟨#[97]⟩)).cap := by simp only [QS.put, Hl.out]; rw [Hc.out]; decide
  have L2 := hide l2
  clear l2
  go_wp2_with fail
  refine (putStr (S.put (.string ⟨#[97]⟩)) (.string ⟨#[98]⟩) w2 H2.out.at_ L2.out G1.out).mono ?_
  rintro e w3 ⟨rfl, hq3, hf3⟩
  have H3 := hide (H2.out.step hq3 hf3 rfl rfl)
  have hlast2 : (S.put (.string ⟨#[97]⟩)).last = 6 := by simp [QS.last, QS.put, Hl.out, Hg.out]
  rw [hlast2]
  clear hq3 hf3 hlast2
  have l3 : ((S.put (.string ⟨#[97]⟩)).put (.string ⟨#[98]⟩)).cap ≤ ((S.put (.string ⟨#[97]⟩)).put (.string ⟨#[98]⟩)).l.length := by simp only [QS.put, Hl.out]; rw [Hc.out]; decide
  have L3 := hide l3
  clear l3
  go_wp2_with fail
  refine (putFullStr ((S.put (.string ⟨#[97]⟩)).put (.string ⟨#[98]⟩)) (.string ⟨#[99]⟩) w3 H3.out.at_ L3.out).mono ?_
  rintro e w4 ⟨rfl, rfl⟩
  have l4 : 6 ≤ ((S.put (.string ⟨#[97]⟩)).put (.string ⟨#[98]⟩)).last := by simp [QS.last, QS.put, Hl.out, Hg.out]
  have L4 := hide l4
  clear l4
  go_wp2_with fail
  refine (dropStr ((S.put (.string ⟨#[97]⟩)).put (.string ⟨#[98]⟩)) 6 w4 H3.out.at_ G1.out L4.out).mono ?_
  rintro e w5 ⟨rfl, hq5, hf5⟩
  have H5 := hide (H3.out.step hq5 hf5 rfl rfl)
  rw [show 6 - ((S.put (.string ⟨#[97]⟩)).put (.string ⟨#[98]⟩)).gone = 1 from by show 6 - S.gone = 1; rw [Hg.out]]
  clear hq5 hf5
  go_wp2
  go_ret
  exact ⟨rfl, H5.out.below⟩

/-! ### A nil queue -/
set_option maxHeartbeats 1000000 in
theorem putNil (x : Value) (w : World) : Calls Try.prog 20 #[.pointer none, x] w fun e w' => e = .returned (.tuple #[.int .u64 0, .int .i64 6]) ∧ w' = w := by
  go_enter Try.func20, Try.ntmps20
  go_wp2
  go_ret2
  exact ⟨rfl, rfl⟩
theorem takeNil (w : World) : Calls Try.prog 22 #[.pointer none] w fun e w' => e = .returned (.tuple #[.int .i64 0, .int .i64 6]) ∧ w' = w := by
  go_enter Try.func22, Try.ntmps22
  go_wp2
  go_ret2
  exact ⟨rfl, rfl⟩
theorem dropNil (x : Value) (w : World) : Calls Try.prog 25 #[.pointer none, x] w fun e w' => e = .returned (.tuple #[.int .i64 0, .int .i64 6]) ∧ w' = w := by
  go_enter Try.func25, Try.ntmps25
  go_wp2
  go_ret2
  exact ⟨rfl, rfl⟩
theorem goneNil (w : World) : Calls Try.prog 26 #[.pointer none] w fun e w' => e = .returned (.int .u64 0) ∧ w' = w := by
  go_enter Try.func26, Try.ntmps26
  go_wp2
  go_ret
  exact ⟨rfl, rfl⟩
set_option maxHeartbeats 1000000 in
theorem allNil (w : World) : Calls Try.prog 27 #[.pointer none] w fun e w' => e = .returned (.slice none 0 0) ∧ w' = w := by
  go_enter Try.func27, Try.ntmps27
  go_wp2_with fail
  refine (lenNilInt w).mono ?_
  rintro e w1 ⟨rfl, rfl⟩
  go_wp2_with fail
  go_loopw [3, 8] (fun av iv wr => av = .slice none 0 0 ∧ iv = .int .i64 0 ∧ wr = w1) (fun _ _ _ => 0)
  case atStart => exact ⟨rfl, rfl, rfl⟩
  case round =>
    obtain ⟨rfl, rfl, rfl⟩ := hrel
    go_wp2
    go_ret
    exact ⟨rfl, rfl⟩
end Go.Proofs.Ythmaodpmbmiadaa
