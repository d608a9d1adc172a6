/- Package columbaryref03: Great; what Form asks, as plain data. -/
import Derived.Test.YteoimkjocijcjaaVb
namespace Go.Proofs.Yteoimkjocijcjaa
open Go.RowKit

set_option maxHeartbeats 1000000 in
theorem great_any (v : V) (cs : List Value) (w : World) (hv : VC w (Old w) v cs) :
    Calls Try.prog 5 #[.agg cs.toArray] w fun e w' => ∃ b, e = .returned (.bool b) ∧ (b = false → nodes v ≤ 3000) ∧ Below w.heap.size w w' := by
  have hcs : ∃ x0 x1 x2 x3 x4, cs = [x0, x1, x2, x3, x4] := by cases hv; exact ⟨_, _, _, _, _, rfl⟩
  obtain ⟨x0, x1, x2, x3, x4, rfl⟩ := hcs
  have hb := (Below.refl w.heap.size w).alloc (Nat.le_refl _) (.cells #[x0, x1, x2, x3, x4] 27)
  have hv' := hv.later hb
  have hbx := Blk.new w 27 #[x0, x1, x2, x3, x4]
  obtain ⟨w0, hw0⟩ : ∃ w0, w.alloc (.cells #[x0, x1, x2, x3, x4] 27) = w0 := ⟨_, rfl⟩
  rw [hw0] at hb hv' hbx
  have b0 := hbx.cell 0
  have b1 := hbx.cell 1
  have b2 := hbx.cell 2
  have b3 := hbx.cell 3
  have b4 := hbx.cell 4
  have hr : w0.rangeAt w.heap.size 0 [x0, x1, x2, x3, x4] := hbx.range 0 _ (fun j u hu => by simpa using hu)
  have Hr := hide hr
  have Hb := hide hb
  have Hc := hide (count_any 61 v _ 0 3000 w0 (by omega) (by omega) (by omega) hv')
  clear hb hv' hbx hv hr b0 b1 b2 b3 b4
  go_enter Try.func5, Try.ntmps5
  go_wp2_with (first
    | (refine wpList_load_mid rfl 27 (.tmp 1) rfl w.heap.size 0 rfl _ _ Hr.out Try.underlying27 rfl infoV ?_)
    | (go_at_call 16; refine Hc.out.mono ?_; rintro e w2 ⟨r, rfl, h1, h2, hb2⟩; have H2 := hide h2; have Hb2 := hide hb2; clear h2 hb2))
  go_ret
  refine ⟨_, rfl, fun h => ?_, Hb.out.trans (Hb2.out.mono Hb.out.size)⟩
  have h3 : r ≤ 3000 := by
    simp at h
    omega
  have := H2.out h3
  omega

/-- What Form asks of a value itself. -/
structure LocP (v : V) : Prop where
  k : v.kind ≤ 8
  l : v.ls.length ≤ 200
  s : v.s.length ≤ 200
  n : v.kind = 1 ∨ v.kind = 3 ∧ (v.n = 0 ∨ v.n = 1) ∨ v.n = 0
  t : (v.kind = 2 ∨ v.kind = 4 ∨ v.kind = 7 ∨ v.kind = 8) ∨ v.s = []
  e : v.kind = 5 ∨ v.kind = 6 ∨ v.ls = []
  o : v.kind = 6 → v.ks.length = v.ls.length
  o2 : v.kind = 6 ∨ v.ks = []
  x : ∀ x ∈ v.ks, x.length ≤ 32
def formP : Nat → V → Prop
  | 0, _ => False
  | d + 1, v => LocP v ∧ ∀ x ∈ v.ls, formP d x
/-- A call of Form: true only of what has Form. -/
def FPost (d : Nat) (v : V) (w : World) (e : Ending) (w' : World) : Prop := ∃ b, e = .returned (.bool b) ∧ (b = true → formP d v) ∧ Below w.heap.size w w'
/-- A call of Form: true just of what has Form. -/
def FPostI (d : Nat) (v : V) (w : World) (e : Ending) (w' : World) : Prop := ∃ b, e = .returned (.bool b) ∧ (b = true ↔ formP d v) ∧ Below w.heap.size w w'
theorem loc_facts {v : V} {nk nl K : Nat} {nn : Int} {ss : List UInt8} (h : LocP v) (hnk : v.ks.length = nk) (hnl : v.ls.length = nl) (hnn : v.n = nn) (hss : v.s = ss) (hk : v.kind = K) :
    nl ≤ 200 ∧ ss.length ≤ 200 ∧ (K = 1 ∨ K = 3 ∧ (nn = 0 ∨ nn = 1) ∨ nn = 0) ∧ ((K = 2 ∨ K = 4 ∨ K = 7 ∨ K = 8) ∨ ss = []) ∧ (K = 5 ∨ K = 6 ∨ nl = 0) ∧ (K = 6 → nk = nl) ∧ (K = 6 ∨ nk = 0) := by
  subst hnk hnl hnn hss hk
  refine ⟨h.l, h.s, h.n, h.t, ?_, h.o, ?_⟩
  · rcases h.e with h | h | h
    · exact .inl h
    · exact .inr (.inl h)
    · rw [h]; exact .inr (.inr rfl)
  · rcases h.o2 with h | h
    · exact .inl h
    · rw [h]; exact .inr rfl
end Go.Proofs.Yteoimkjocijcjaa
