/- A region that draws its order, by a plan that may fork: where two operations can come, either comes first, and each has its own plan behind it. Plain, over any program. -/
import Derived.Test.YtfbkmjjcopjoeaaDoorRegionQ
namespace Go.Proofs.YtfbkmjjcopjoeaaDoor
open Go.RowKit

inductive Plan where
  | nil
  | read (k : Nat) (r : Plan)
  | eff (k : Nat) (r : Plan)
  | fork (k1 : Nat) (r1 : Plan) (k2 : Nat) (r2 : Plan)
def Plan.len : Plan → Nat
  | .nil => 0
  | .read _ r => r.len + 1
  | .eff _ r => r.len + 1
  | .fork _ r1 _ _ => r1.len + 1
inductive TreeO where
  | nil
  | read (o : Oper) (r : TreeO)
  | eff (o : Oper) (r : TreeO)
  | fork (o1 : Oper) (r1 : TreeO) (o2 : Oper) (r2 : TreeO)
def Plan.ops (ops : Array Oper) : Plan → TreeO
  | .nil => .nil
  | .read k r => (ops[k]?).elim .nil fun o => .read o (r.ops ops)
  | .eff k r => (ops[k]?).elim .nil fun o => .eff o (r.ops ops)
  | .fork k1 r1 k2 r2 => (ops[k1]?).elim .nil fun o1 => (ops[k2]?).elim .nil fun o2 => .fork o1 (r1.ops ops) o2 (r2.ops ops)

section
variable {P : Program} {ops : Array Oper} {md : Region.Mode} {Q : Exit → Act → World → Prop} {S : World → Prop}

def treeB (md : Region.Mode) (ops : Array Oper) (m g : Nat) : Plan → Array Bool → Bool
  | .nil, listed => Region.seqB md ops g m listed
  | .read k r, listed => (Region.ready md ops listed).contains k && decide (k < m) && Region.free md ops listed k && treeB md ops m g r (listed.setIfInBounds k true)
  | .eff k r, listed => decide (Region.ready md ops listed = [k]) && decide (k < m) && treeB md ops m g r (listed.setIfInBounds k true)
  | .fork k1 r1 k2 r2, listed => decide (Region.ready md ops listed = [k1, k2]) && decide (k1 < m) && decide (k2 < m) && decide (r1.len = r2.len) && treeB md ops m g r1 (listed.setIfInBounds k1 true) && treeB md ops m g r2 (listed.setIfInBounds k2 true)
def treedB (md : Region.Mode) (ops : Array Oper) (m : Nat) (plan : Plan) : Bool :=
  Region.noSelect ops && decide (plan.len = m) && decide (m < ops.size) && Region.sinkB md ops m && Region.chainB md ops m && treeB md ops m (ops.size - m) plan (Array.replicate ops.size false)

def wpEff (P : Program) (ops : Array Oper) (Q : Exit → Act → World → Prop) (S : World → Prop) (o : Oper) (N : Act → World → Prop) (a : Act) (w : World) : Prop :=
  if Region.wanted o (yielded ops a.tmps) = true then o.wp P a w (fun a' w' => S w' ∧ N a' w') Q else S w ∧ N (a.put o.dst undef) w
def wpTree (P : Program) (ops : Array Oper) (Q : Exit → Act → World → Prop) (S : World → Prop) (K : Act → World → Prop) : TreeO → Act → World → Prop
  | .nil, a, w => K a w
  | .read o r, a, w => ∃ v, YieldsIf P ops S o v a ∧ wpTree P ops Q S K r (a.put o.dst v) w
  | .eff o r, a, w => wpEff P ops Q S o (wpTree P ops Q S K r) a w
  | .fork o1 r1 o2 r2, a, w => wpEff P ops Q S o1 (wpTree P ops Q S K r1) a w ∧ wpEff P ops Q S o2 (wpTree P ops Q S K r2) a w

theorem wpTree_nil {K : Act → World → Prop} {a : Act} {w : World} (h : K a w) : wpTree P ops Q S K .nil a w := h
theorem wpTree_read {K : Act → World → Prop} {o : Oper} {r : TreeO} {a : Act} {w : World} {v : Value} (hw : Region.wanted o (yielded ops a.tmps) = true) (hy : ∀ w, S w → (execOp a.eval o).run P w = .ok (.value v) w) (h : wpTree P ops Q S K r (a.put o.dst v) w) : wpTree P ops Q S K (.read o r) a w :=
  ⟨v, .inl ⟨hw, hy⟩, h⟩
theorem wpEff_does {N : Act → World → Prop} {o : Oper} {a : Act} {w : World} (hw : Region.wanted o (yielded ops a.tmps) = true)
    (h : ∀ K' : Act → World → Prop, (∀ a w, S w → N a w → K' a w) → o.wp P a w K' Q) : wpEff P ops Q S o N a w := by
  unfold wpEff
  rw [if_pos hw]
  exact h _ (fun _ _ h1 h2 => ⟨h1, h2⟩)

theorem wpTree_eff {K : Act → World → Prop} {o : Oper} {r : TreeO} {a : Act} {w : World} (h : wpEff P ops Q S o (wpTree P ops Q S K r) a w) : wpTree P ops Q S K (.eff o r) a w := h
theorem wpTree_fork {K : Act → World → Prop} {o1 o2 : Oper} {r1 r2 : TreeO} {a : Act} {w : World} (h1 : wpEff P ops Q S o1 (wpTree P ops Q S K r1) a w) (h2 : wpEff P ops Q S o2 (wpTree P ops Q S K r2) a w) : wpTree P ops Q S K (.fork o1 r1 o2 r2) a w := ⟨h1, h2⟩

theorem wpHead_tree {m g : Nat} {Lq : Act → World → Prop} (hsel : Region.noSelect ops = true) (hs : Region.sinkB md ops m = true) (hc : Region.chainB md ops m = true) (hm : m < ops.size)
    (hQ : ∀ (c) (a : Act) (d : Option Tmp) (v : Value) (w : World), Q (.panic c) (a.put d v) w → Q (.panic c) a w) :
    ∀ (plan : Plan) (listed : Array Bool) (a : Act) (w : World), HeadInv md ops m listed → treeB md ops m g plan listed = true → S w → wpTree P ops Q S Lq (plan.ops ops) a w →
    wpHead P md ops Q S m (fun listed' a' w' => Region.seqB md ops g m listed' = true ∧ Lq a' w') plan.len listed a w
  | .nil, listed, a, w, _, hB, _, h => ⟨by simpa [treeB] using hB, h⟩
  | .read k r, listed, a, w, inv, hB, hS, h => by
    simp only [treeB, Bool.and_eq_true, decide_eq_true_eq] at hB
    obtain ⟨⟨⟨hr, hkm⟩, hf⟩, hB'⟩ := hB
    have h0 : ops[k]? = some ops[k] := Array.getElem?_eq_getElem (by omega)
    have h' : wpTree P ops Q S Lq (.read ops[k] (r.ops ops)) a w := by
      unfold Plan.ops at h
      rw [h0] at h
      exact h
    have hr' : k ∈ Region.ready md ops listed := by simpa using hr
    obtain ⟨v, hy, hK⟩ := h'
    have hdone : ∀ listed a w, (Region.seqB md ops g m listed = true ∧ Lq a w) → ∀ j ∈ Region.ready md ops listed, m ≤ j := fun _ _ _ hh => seqB_ready hh.1
    exact wpHead_first h0 (Region.noSelect_spec hsel) (fun c a w => hQ c a _ v w) hs hc hm hkm hdone r.len listed a w inv (Region.free_spec h0 hf) hr' hy hS
      (wpHead_tree hsel hs hc hm hQ r _ _ w (inv.set hr' hkm) hB' hS hK)
  | .eff k r, listed, a, w, inv, hB, hS, h => by
    simp only [treeB, Bool.and_eq_true, decide_eq_true_eq] at hB
    obtain ⟨⟨hr, hkm⟩, hB'⟩ := hB
    have h0 : ops[k]? = some ops[k] := Array.getElem?_eq_getElem (by omega)
    have h' : wpEff P ops Q S ops[k] (wpTree P ops Q S Lq (r.ops ops)) a w := by
      unfold Plan.ops at h
      rw [h0] at h
      exact h
    have hr' : k ∈ Region.ready md ops listed := by rw [hr]; exact List.mem_singleton.2 rfl
    refine ⟨fun h1 => (by rw [hr] at h1; cases h1), fun i hi => ?_⟩
    rw [hr] at hi
    have hik : i = k := by simpa using hi
    subst hik
    refine ⟨hkm, ?_⟩
    have ih := fun a' w' hS' => wpHead_tree (g := g) (Lq := Lq) hsel hs hc hm hQ r (listed.setIfInBounds i true) a' w' (inv.set hr' hkm) hB' hS'
    unfold wpOp
    simp only [h0]
    unfold wpEff at h'
    split
    · rename_i hw
      rw [if_pos hw] at h'
      exact .inl (Oper.wp_mono (fun a' w' h' => ⟨h'.1, ih a' w' h'.1 h'.2⟩) h')
    · rename_i hw
      rw [if_neg hw] at h'
      exact ⟨h'.1, ih _ _ h'.1 h'.2⟩
  | .fork k1 r1 k2 r2, listed, a, w, inv, hB, hS, h => by
    simp only [treeB, Bool.and_eq_true, decide_eq_true_eq] at hB
    obtain ⟨⟨⟨⟨⟨hr, hk1⟩, hk2⟩, hlen⟩, hB1⟩, hB2⟩ := hB
    have h01 : ops[k1]? = some ops[k1] := Array.getElem?_eq_getElem (by omega)
    have h02 : ops[k2]? = some ops[k2] := Array.getElem?_eq_getElem (by omega)
    have h' : wpEff P ops Q S ops[k1] (wpTree P ops Q S Lq (r1.ops ops)) a w ∧ wpEff P ops Q S ops[k2] (wpTree P ops Q S Lq (r2.ops ops)) a w := by
      unfold Plan.ops at h
      rw [h01, h02] at h
      exact h
    have hr1 : k1 ∈ Region.ready md ops listed := by rw [hr]; simp
    have hr2 : k2 ∈ Region.ready md ops listed := by rw [hr]; simp
    refine ⟨fun h1 => (by rw [hr] at h1; cases h1), fun i hi => ?_⟩
    rw [hr] at hi
    have hik : i = k1 ∨ i = k2 := by simpa using hi
    rcases hik with rfl | rfl
    · refine ⟨hk1, ?_⟩
      have ih := fun a' w' hS' => wpHead_tree (g := g) (Lq := Lq) hsel hs hc hm hQ r1 (listed.setIfInBounds i true) a' w' (inv.set hr1 hk1) hB1 hS'
      have h1 := h'.1
      unfold wpOp
      simp only [h01]
      unfold wpEff at h1
      split
      · rename_i hw
        rw [if_pos hw] at h1
        exact .inl (Oper.wp_mono (fun a' w' h' => ⟨h'.1, ih a' w' h'.1 h'.2⟩) h1)
      · rename_i hw
        rw [if_neg hw] at h1
        exact ⟨h1.1, ih _ _ h1.1 h1.2⟩
    · refine ⟨hk2, ?_⟩
      have ih := fun a' w' hS' => wpHead_tree (g := g) (Lq := Lq) hsel hs hc hm hQ r2 (listed.setIfInBounds i true) a' w' (inv.set hr2 hk2) hB2 hS'
      rw [← hlen] at ih
      have h1 := h'.2
      unfold wpOp
      simp only [h02]
      unfold wpEff at h1
      split
      · rename_i hw
        rw [if_pos hw] at h1
        exact .inl (Oper.wp_mono (fun a' w' h' => ⟨h'.1, ih a' w' h'.1 h'.2⟩) h1)
      · rename_i hw
        rw [if_neg hw] at h1
        exact ⟨h1.1, ih _ _ h1.1 h1.2⟩

/-- THE LAW. -/
theorem wp_region_tree {id : Nat} {a : Act} {w : World} {l : List Oper} (S : World → Prop) (m : Nat) (plan : Plan) (hm : P.follows .mixedOrders = true) (hB : treedB .any l.toArray m plan = true)
    (hQ : ∀ (c) (a : Act) (d : Option Tmp) (v : Value) (w : World), Q (.panic c) (a.put d v) w → Q (.panic c) a w) (hS : S w.drew)
    (h : wpTree P l.toArray Q S (fun a'' w' => wpList P l.toArray Q (l.drop m) a'' w') (plan.ops l.toArray) a w.drew) : (Code.region id l.toArray true).wp P Q a w := by
  simp only [treedB, Bool.and_eq_true, decide_eq_true_eq] at hB
  obtain ⟨⟨⟨⟨⟨hsel, hnm⟩, hms⟩, hs⟩, hc⟩, hlex⟩ := hB
  have hms' : m < l.length := by simpa using hms
  have hdl : (l.drop m).length = l.toArray.size - m := by simp
  have inv0 : HeadInv .any l.toArray m (Array.replicate l.toArray.size false) :=
    ⟨by simp, fun j oj _ hl => (by rw [getD_replicate_false] at hl; cases hl), fun t _ ht => getD_in (by simpa using ht) (getD_replicate_false _ _)⟩
  have H := wpHead_tree (P := P) (md := .any) (S := S) (Q := Q) (g := l.toArray.size - m) (Lq := fun a'' w' => wpList P l.toArray Q (l.drop m) a'' w') hsel hs hc hms hQ plan _ a w.drew inv0 hlex hS h
  refine wp_region_any hm ?_
  have := wpAny_of_wpHead (Q := Q) (g := l.toArray.size - m) (fun listed a' w' hL => by
    have := wpAny_of_seq (md := .any) (Q' := Q) (l.drop m) m listed a' w' (fun j => by simp [List.getElem?_drop]) (by rw [hdl]; exact hL.1) hL.2
    rwa [hdl] at this) _ _ _ _ H
  rw [hnm, show m + (l.toArray.size - m) = l.toArray.size by omega] at this
  exact this
end
end Go.Proofs.YtfbkmjjcopjoeaaDoor
