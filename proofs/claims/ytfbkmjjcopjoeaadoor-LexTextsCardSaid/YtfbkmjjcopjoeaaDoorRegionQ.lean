/- A region that draws its order, by a plan: (false, k): operation k yields the same in every world of S, whenever it comes; (true, k): operation k is the only one that can come, and keeps S. Then what waits for all of these. Plain, over any program. -/
import Derived.Test.YtfbkmjjcopjoeaaDoorRegionP
namespace Go.Proofs.YtfbkmjjcopjoeaaDoor
open Go.RowKit

section
variable {P : Program} {ops : Array Oper} {md : Region.Mode} {Q : Exit → Act → World → Prop} {S : World → Prop}

def planB (md : Region.Mode) (ops : Array Oper) (m g : Nat) : List (Bool × Nat) → Array Bool → Bool
  | [], listed => Region.seqB md ops g m listed
  | (false, k) :: r, listed => (Region.ready md ops listed).contains k && decide (k < m) && Region.free md ops listed k && planB md ops m g r (listed.setIfInBounds k true)
  | (true, k) :: r, listed => decide (Region.ready md ops listed = [k]) && decide (k < m) && planB md ops m g r (listed.setIfInBounds k true)
def plannedB (md : Region.Mode) (ops : Array Oper) (m : Nat) (plan : List (Bool × Nat)) : Bool :=
  Region.noSelect ops && decide (plan.length = m) && decide (m < ops.size) && Region.sinkB md ops m && Region.chainB md ops m && planB md ops m (ops.size - m) plan (Array.replicate ops.size false)

/-- The plan's operations themselves. -/
def steps (ops : Array Oper) (plan : List (Bool × Nat)) : List (Bool × Oper) := plan.filterMap fun x => (ops[x.2]?).map fun o => (x.1, o)
def wpPlan (P : Program) (ops : Array Oper) (Q : Exit → Act → World → Prop) (S : World → Prop) (K : Act → World → Prop) : List (Bool × Oper) → Act → World → Prop
  | [], a, w => K a w
  | (false, o) :: r, a, w => ∃ v, YieldsIf P ops S o v a ∧ wpPlan P ops Q S K r (a.put o.dst v) w
  | (true, o) :: r, a, w => if Region.wanted o (yielded ops a.tmps) = true then o.wp P a w (fun a' w' => S w' ∧ wpPlan P ops Q S K r a' w') Q else S w ∧ wpPlan P ops Q S K r (a.put o.dst undef) w

theorem wpPlan_nil {K : Act → World → Prop} {a : Act} {w : World} (h : K a w) : wpPlan P ops Q S K [] a w := h
theorem wpPlan_read {K : Act → World → Prop} {o : Oper} {r : List (Bool × Oper)} {a : Act} {w : World} {v : Value} (hw : Region.wanted o (yielded ops a.tmps) = true) (hy : ∀ w, S w → (execOp a.eval o).run P w = .ok (.value v) w) (h : wpPlan P ops Q S K r (a.put o.dst v) w) : wpPlan P ops Q S K ((false, o) :: r) a w :=
  ⟨v, .inl ⟨hw, hy⟩, h⟩
theorem wpPlan_does {K : Act → World → Prop} {o : Oper} {r : List (Bool × Oper)} {a : Act} {w : World} (hg : o.guard = none)
    (h : ∀ K' : Act → World → Prop, (∀ a w, S w → wpPlan P ops Q S K r a w → K' a w) → o.wp P a w K' Q) : wpPlan P ops Q S K ((true, o) :: r) a w := by
  have hw : Region.wanted o (yielded ops a.tmps) = true := by simp [Region.wanted, hg]
  unfold wpPlan
  rw [if_pos hw]
  exact h _ (fun _ _ h1 h2 => ⟨h1, h2⟩)
theorem steps_cons {b : Bool} {k : Nat} {o : Oper} {r : List (Bool × Nat)} (h : ops[k]? = some o) : steps ops ((b, k) :: r) = (b, o) :: steps ops r := by
  simp [steps, h]

theorem wpHead_plan {m g : Nat} {Lq : Act → World → Prop} (hsel : Region.noSelect ops = true) (hs : Region.sinkB md ops m = true) (hc : Region.chainB md ops m = true) (hm : m < ops.size)
    (hQ : ∀ (c) (a : Act) (d : Option Tmp) (v : Value) (w : World), Q (.panic c) (a.put d v) w → Q (.panic c) a w) :
    ∀ (plan : List (Bool × Nat)) (listed : Array Bool) (a : Act) (w : World), HeadInv md ops m listed → planB md ops m g plan listed = true → S w → wpPlan P ops Q S Lq (steps ops plan) a w →
    wpHead P md ops Q S m (fun listed' a' w' => Region.seqB md ops g m listed' = true ∧ Lq a' w') plan.length listed a w
  | [], listed, a, w, _, hB, _, h => ⟨by simpa [planB] using hB, h⟩
  | (false, k) :: r, listed, a, w, inv, hB, hS, h => by
    simp only [planB, Bool.and_eq_true, decide_eq_true_eq] at hB
    obtain ⟨⟨⟨hr, hkm⟩, hf⟩, hB'⟩ := hB
    have h0 : ops[k]? = some ops[k] := Array.getElem?_eq_getElem (by omega)
    rw [steps_cons h0] at h
    have hr' : k ∈ Region.ready md ops listed := by simpa using hr
    obtain ⟨v, hy, hK⟩ := h
    have hdone : ∀ listed a w, (Region.seqB md ops g m listed = true ∧ Lq a w) → ∀ j ∈ Region.ready md ops listed, m ≤ j := fun _ _ _ hh => seqB_ready hh.1
    rw [List.length_cons]
    exact wpHead_first h0 (Region.noSelect_spec hsel) (fun c a w => hQ c a _ v w) hs hc hm hkm hdone r.length listed a w inv (Region.free_spec h0 hf) hr' hy hS
      (wpHead_plan hsel hs hc hm hQ r _ _ w (inv.set hr' hkm) hB' hS hK)
  | (true, k) :: r, listed, a, w, inv, hB, hS, h => by
    simp only [planB, Bool.and_eq_true, decide_eq_true_eq] at hB
    obtain ⟨⟨hr, hkm⟩, hB'⟩ := hB
    have h0 : ops[k]? = some ops[k] := Array.getElem?_eq_getElem (by omega)
    have hr' : k ∈ Region.ready md ops listed := by rw [hr]; exact List.mem_singleton.2 rfl
    rw [steps_cons h0] at h
    refine ⟨fun h1 => (by rw [hr] at h1; cases h1), fun i hi => ?_⟩
    rw [hr] at hi
    have hik : i = k := by simpa using hi
    subst hik
    refine ⟨hkm, ?_⟩
    have ih := fun a' w' hS' => wpHead_plan (g := g) (Lq := Lq) hsel hs hc hm hQ r (listed.setIfInBounds i true) a' w' (inv.set hr' hkm) hB' hS'
    unfold wpOp
    simp only [h0]
    unfold wpPlan at h
    split
    · rename_i hw
      rw [if_pos hw] at h
      exact .inl (Oper.wp_mono (fun a' w' h' => ⟨h'.1, ih a' w' h'.1 h'.2⟩) h)
    · rename_i hw
      rw [if_neg hw] at h
      exact ⟨h.1, ih _ _ h.1 h.2⟩

/-- THE LAW. -/
theorem wp_region_planned {id : Nat} {a : Act} {w : World} {l : List Oper} (S : World → Prop) (m : Nat) (plan : List (Bool × Nat)) (hm : P.follows .mixedOrders = true) (hB : plannedB .any l.toArray m plan = true)
    (hQ : ∀ (c) (a : Act) (d : Option Tmp) (v : Value) (w : World), Q (.panic c) (a.put d v) w → Q (.panic c) a w) (hS : S w.drew)
    (h : wpPlan P l.toArray Q S (fun a'' w' => wpList P l.toArray Q (l.drop m) a'' w') (steps l.toArray plan) a w.drew) : (Code.region id l.toArray true).wp P Q a w := by
  simp only [plannedB, Bool.and_eq_true, decide_eq_true_eq] at hB
  obtain ⟨⟨⟨⟨⟨hsel, hnm⟩, hms⟩, hs⟩, hc⟩, hlex⟩ := hB
  have hms' : m < l.length := by simpa using hms
  have hdl : (l.drop m).length = l.toArray.size - m := by simp
  have inv0 : HeadInv .any l.toArray m (Array.replicate l.toArray.size false) :=
    ⟨by simp, fun j oj _ hl => (by rw [getD_replicate_false] at hl; cases hl), fun t _ ht => getD_in (by simpa using ht) (getD_replicate_false _ _)⟩
  have H := wpHead_plan (P := P) (md := .any) (S := S) (Q := Q) (g := l.toArray.size - m) (Lq := fun a'' w' => wpList P l.toArray Q (l.drop m) a'' w') hsel hs hc hms hQ plan _ a w.drew inv0 hlex hS h
  refine wp_region_any hm ?_
  have := wpAny_of_wpHead (Q := Q) (g := l.toArray.size - m) (fun listed a' w' hL => by
    have := wpAny_of_seq (md := .any) (Q' := Q) (l.drop m) m listed a' w' (fun j => by simp [List.getElem?_drop]) (by rw [hdl]; exact hL.1) hL.2
    rwa [hdl] at this) _ _ _ _ H
  rw [hnm, show m + (l.toArray.size - m) = l.toArray.size by omega] at this
  exact this
end
end Go.Proofs.YtfbkmjjcopjoeaaDoor
