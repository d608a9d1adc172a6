/- A region that draws its order, by a plan that may fork, to its very end: where the region's last operations are no chain. Plain, over any program. -/
import Derived.Test.YtdkmccilnmdhmaaRegionF
namespace Go.Proofs.Ytdkmccilnmdhmaa
open Go.RowKit

section
variable {P : Program} {ops : Array Oper} {md : Region.Mode} {Q : Exit → Act → World → Prop} {S : World → Prop}

def treedAllB (md : Region.Mode) (ops : Array Oper) (plan : Plan) : Bool :=
  Region.noSelect ops && decide (plan.len = ops.size) && treeB md ops ops.size 0 plan (Array.replicate ops.size false)
theorem wpHead_first_all {m i : Nat} {oi : Oper} {v : Value} {L : Array Bool → Act → World → Prop} (hi : ops[i]? = some oi) (hsel : ∀ (j : Nat) (o : Oper) cs b, ops[j]? = some o → o.op ≠ .select cs b)
    (hQ : ∀ c a w, Q (.panic c) (a.put oi.dst v) w → Q (.panic c) a w)
    (hn : m = ops.size)
    (hdone : ∀ listed a w, L listed a w → ∀ j ∈ Region.ready md ops listed, m ≤ j) :
    ∀ (f : Nat) (listed : Array Bool) (a : Act) (w : World), HeadInv md ops m listed →
      (∀ j oj, ops[j]? = some oj → j ≠ i → listed.getD j true = false → (∀ e ∈ oj.after, Region.binds md e = true → e.on ≠ i) → oi.apart ops oj = true) →
      i ∈ Region.ready md ops listed → YieldsIf P ops S oi v a → S w →
      wpHead P md ops Q S m L f (listed.setIfInBounds i true) (a.put oi.dst v) w → wpHead P md ops Q S m L (f + 1) listed a w := by
  intro f
  induction f with
  | zero =>
    intro listed a w inv _ hr hy hS H
    have hun := (mem_ready.1 hr).1
    refine ⟨fun h => (by rw [h] at hr; cases hr), fun j hj => ?_⟩
    have hjn : j < m := by
      obtain ⟨_, oj, hoj, _⟩ := mem_ready.1 hj
      rw [hn]
      exact (Array.getElem?_eq_some_iff.1 hoj).1
    refine ⟨hjn, ?_⟩
    by_cases hji : j = i
    · subst hji; exact hy.wpOp hi hS ⟨hS, H⟩
    · have := hdone _ _ _ H j (ready_mono hj hji)
      omega
  | succ f ih =>
    intro listed a w inv hfree hr hy hS H
    have hun := (mem_ready.1 hr).1
    refine ⟨fun h => (by rw [h] at hr; cases hr), fun j hj => ?_⟩
    have hjn : j < m := by
      obtain ⟨_, oj, hoj, _⟩ := mem_ready.1 hj
      rw [hn]
      exact (Array.getElem?_eq_some_iff.1 hoj).1
    refine ⟨hjn, ?_⟩
    by_cases hji : j = i
    · subst hji; exact hy.wpOp hi hS ⟨hS, H⟩
    · have h1 := (H.2 j (ready_mono hj hji)).2
      obtain ⟨hjun, oj, hoj, hall⟩ := mem_ready.1 hj
      have hnot : ∀ e ∈ oj.after, Region.binds md e = true → e.on ≠ i := fun e he hb heq => by
        have h1 := hall e he hb
        rw [heq, getD_both hun] at h1
        cases h1
      have h2 := wpOp_putIf hoj (hfree j oj hoj hji hjun hnot) (fun cs b => hsel i oi cs b hi) (fun cs b => hsel j oj cs b hoj) hQ hy h1
      have hfree' : ∀ k ok, ops[k]? = some ok → k ≠ i → (listed.setIfInBounds j true).getD k true = false →
          (∀ e ∈ ok.after, Region.binds md e = true → e.on ≠ i) → oi.apart ops ok = true := fun k ok hk hki hun hno => by
        refine hfree k ok hk hki ?_ hno
        by_cases hjk : j = k
        · subst hjk; exact hjun
        · rw [getD_set_ne true hjk] at hun; exact hun
      refine wpOp_mono (fun a' w' h3 => ⟨h3.2.1, ih (listed.setIfInBounds j true) a' w' (inv.set hj hjn) hfree' (ready_mono hr (Ne.symm hji)) h3.1 h3.2.1 ?_⟩) h2
      rw [Array.setIfInBounds_comm _ _ hji]
      exact h3.2.2

theorem wpHead_tree_all {m g : Nat} {Lq : Act → World → Prop} (hsel : Region.noSelect ops = true) (hm : m = ops.size)
    (hQ : ∀ (c) (a : Act) (d : Option Tmp) (v : Value) (w : World), Q (.panic c) (a.put d v) w → Q (.panic c) a w) :
    ∀ (plan : Plan) (listed : Array Bool) (a : Act) (w : World), HeadInv md ops m listed → treeB md ops m g plan listed = true → S w → wpTree P ops Q S Lq (plan.ops ops) a w →
    wpHead P md ops Q S m (fun listed' a' w' => Region.seqB md ops g m listed' = true ∧ Lq a' w') plan.len listed a w
  | .nil, listed, a, w, _, hB, _, h => ⟨by simpa [treeB] using hB, h⟩
  | .read k r, listed, a, w, inv, hB, hS, h => by
    simp only [treeB, Bool.and_eq_true, decide_eq_true_eq] at hB
    obtain ⟨⟨⟨hr, hkm⟩, hf⟩, hB'⟩ := hB
    have h0 : ops[k]? = some ops[k] := Array.getElem?_eq_getElem (by omega)
    have h' : wpTree P ops Q S Lq (.read ops[k] (r.ops ops)) a w := by
      unfold Plan.ops at h
      rw [h0] at h
      exact h
    have hr' : k ∈ Region.ready md ops listed := by simpa using hr
    obtain ⟨v, hy, hK⟩ := h'
    have hdone : ∀ listed a w, (Region.seqB md ops g m listed = true ∧ Lq a w) → ∀ j ∈ Region.ready md ops listed, m ≤ j := fun _ _ _ hh => seqB_ready hh.1
    exact wpHead_first_all h0 (Region.noSelect_spec hsel) (fun c a w => hQ c a _ v w) hm hdone r.len listed a w inv (Region.free_spec h0 hf) hr' hy hS
      (wpHead_tree_all hsel hm hQ r _ _ w (inv.set hr' hkm) hB' hS hK)
  | .eff k r, listed, a, w, inv, hB, hS, h => by
    simp only [treeB, Bool.and_eq_true, decide_eq_true_eq] at hB
    obtain ⟨⟨hr, hkm⟩, hB'⟩ := hB
    have h0 : ops[k]? = some ops[k] := Array.getElem?_eq_getElem (by omega)
    have h' : wpEff P ops Q S ops[k] (wpTree P ops Q S Lq (r.ops ops)) a w := by
      unfold Plan.ops at h
      rw [h0] at h
      exact h
    have hr' : k ∈ Region.ready md ops listed := by rw [hr]; exact List.mem_singleton.2 rfl
    refine ⟨fun h1 => (by rw [hr] at h1; cases h1), fun i hi => ?_⟩
    rw [hr] at hi
    have hik : i = k := by simpa using hi
    subst hik
    refine ⟨hkm, ?_⟩
    have ih := fun a' w' hS' => wpHead_tree_all (g := g) (Lq := Lq) hsel hm hQ r (listed.setIfInBounds i true) a' w' (inv.set hr' hkm) hB' hS'
    unfold wpOp
    simp only [h0]
    unfold wpEff at h'
    split
    · rename_i hw
      rw [if_pos hw] at h'
      exact .inl (Oper.wp_mono (fun a' w' h' => ⟨h'.1, ih a' w' h'.1 h'.2⟩) h')
    · rename_i hw
      rw [if_neg hw] at h'
      exact ⟨h'.1, ih _ _ h'.1 h'.2⟩
  | .fork k1 r1 k2 r2, listed, a, w, inv, hB, hS, h => by
    simp only [treeB, Bool.and_eq_true, decide_eq_true_eq] at hB
    obtain ⟨⟨⟨⟨⟨hr, hk1⟩, hk2⟩, hlen⟩, hB1⟩, hB2⟩ := hB
    have h01 : ops[k1]? = some ops[k1] := Array.getElem?_eq_getElem (by omega)
    have h02 : ops[k2]? = some ops[k2] := Array.getElem?_eq_getElem (by omega)
    have h' : wpEff P ops Q S ops[k1] (wpTree P ops Q S Lq (r1.ops ops)) a w ∧ wpEff P ops Q S ops[k2] (wpTree P ops Q S Lq (r2.ops ops)) a w := by
      unfold Plan.ops at h
      rw [h01, h02] at h
      exact h
    have hr1 : k1 ∈ Region.ready md ops listed := by rw [hr]; simp
    have hr2 : k2 ∈ Region.ready md ops listed := by rw [hr]; simp
    refine ⟨fun h1 => (by rw [hr] at h1; cases h1), fun i hi => ?_⟩
    rw [hr] at hi
    have hik : i = k1 ∨ i = k2 := by simpa using hi
    rcases hik with rfl | rfl
    · refine ⟨hk1, ?_⟩
      have ih := fun a' w' hS' => wpHead_tree_all (g := g) (Lq := Lq) hsel hm hQ r1 (listed.setIfInBounds i true) a' w' (inv.set hr1 hk1) hB1 hS'
      have h1 := h'.1
      unfold wpOp
      simp only [h01]
      unfold wpEff at h1
      split
      · rename_i hw
        rw [if_pos hw] at h1
        exact .inl (Oper.wp_mono (fun a' w' h' => ⟨h'.1, ih a' w' h'.1 h'.2⟩) h1)
      · rename_i hw
        rw [if_neg hw] at h1
        exact ⟨h1.1, ih _ _ h1.1 h1.2⟩
    · refine ⟨hk2, ?_⟩
      have ih := fun a' w' hS' => wpHead_tree_all (g := g) (Lq := Lq) hsel hm hQ r2 (listed.setIfInBounds i true) a' w' (inv.set hr2 hk2) hB2 hS'
      rw [← hlen] at ih
      have h1 := h'.2
      unfold wpOp
      simp only [h02]
      unfold wpEff at h1
      split
      · rename_i hw
        rw [if_pos hw] at h1
        exact .inl (Oper.wp_mono (fun a' w' h' => ⟨h'.1, ih a' w' h'.1 h'.2⟩) h1)
      · rename_i hw
        rw [if_neg hw] at h1
        exact ⟨h1.1, ih _ _ h1.1 h1.2⟩

/-- THE LAW. -/
theorem wp_region_forest {id : Nat} {a : Act} {w : World} {l : List Oper} (S : World → Prop) (plan : Plan) (hm : P.follows .mixedOrders = true) (hB : treedAllB .any l.toArray plan = true)
    (hQ : ∀ (c) (a : Act) (d : Option Tmp) (v : Value) (w : World), Q (.panic c) (a.put d v) w → Q (.panic c) a w) (hS : S w.drew)
    (h : wpTree P l.toArray Q S (fun a'' w' => wpList P l.toArray Q [] a'' w') (plan.ops l.toArray) a w.drew) : (Code.region id l.toArray true).wp P Q a w := by
  simp only [treedAllB, Bool.and_eq_true, decide_eq_true_eq] at hB
  obtain ⟨⟨hsel, hnm⟩, hlex⟩ := hB
  have inv0 : HeadInv .any l.toArray l.toArray.size (Array.replicate l.toArray.size false) :=
    ⟨by simp, fun j oj _ hl => (by rw [getD_replicate_false] at hl; cases hl), fun t h1 ht => absurd ht (by omega)⟩
  have H := wpHead_tree_all (P := P) (md := .any) (S := S) (Q := Q) (g := 0) (Lq := fun a'' w' => wpList P l.toArray Q [] a'' w') hsel rfl hQ plan _ a w.drew inv0 hlex hS h
  refine wp_region_any hm ?_
  have := wpAny_of_wpHead (Q := Q) (g := 0) (fun listed a' w' hL => wpAny_of_seq (md := .any) (Q' := Q) [] l.toArray.size listed a' w' (fun j => by simp) hL.1 hL.2) _ _ _ _ H
  rw [hnm, Nat.add_zero] at this
  exact this
/-! ### In two stretches: what the first one reads may be written in the second. -/
def afterB (md : Region.Mode) (ops : Array Oper) (n : Nat) : Bool := (List.range ops.size).all fun t => decide (t ≤ n) || Region.waitsFor md ops t n
theorem not_ready_of {listed : Array Bool} {j i : Nat} (h : Region.waitsFor md ops j i = true) (hi : listed.getD i true = false) : j ∉ Region.ready md ops listed := by
  intro hj
  obtain ⟨oj, hoj, e, he, hb, hon⟩ := Region.waitsFor_spec h
  obtain ⟨_, oj', hoj', hall⟩ := mem_ready.1 hj
  rw [hoj] at hoj'
  injection hoj' with hoj'
  subst hoj'
  have h1 := hall e he hb
  rw [hon, getD_both hi] at h1
  cases h1
theorem sink_waits {n : Nat} {listed : Array Bool} (hs : Region.sinkB md ops n = true) (inv : HeadInv md ops n listed) : ∀ (d i : Nat), n - i ≤ d → i < n → listed.getD i true = false → n ∉ Region.ready md ops listed
  | 0, i, h, hi, _ => by omega
  | d + 1, i, h, hi, hl => by
    have h1 := List.all_eq_true.1 hs i (List.mem_range.2 hi)
    obtain ⟨j, hj, hj2⟩ := List.any_eq_true.1 h1
    simp only [Bool.and_eq_true, decide_eq_true_eq] at hj2
    have hjn := List.mem_range.1 hj
    by_cases hjeq : j = n
    · subst hjeq
      exact not_ready_of hj2.2 hl
    · obtain ⟨oj, hoj, e, he, hb, hon⟩ := Region.waitsFor_spec hj2.2
      have hjs : j < ops.size := (Array.getElem?_eq_some_iff.1 hoj).1
      have hjl : listed.getD j false = false := by
        cases hc : listed.getD j false with
        | false => rfl
        | true =>
          have := inv.closed j oj hoj hc e he hb
          rw [hon, getD_both hl] at this
          cases this
      exact sink_waits hs inv d j (by omega) (by omega) (getD_in (by rw [inv.size]; exact hjs) hjl)
theorem tail_waits2 {n : Nat} {listed : Array Bool} (hs : Region.sinkB md ops n = true) (ha : afterB md ops n = true) (hn : n < ops.size) (inv : HeadInv md ops n listed) (i : Nat) (hi : i < n) (hl : listed.getD i true = false) : ∀ j ∈ Region.ready md ops listed, j < n := by
  intro j hj
  rcases Nat.lt_or_ge j n with h | h
  · exact h
  · exfalso
    have hnr := sink_waits hs inv _ i (Nat.le_refl _) hi hl
    by_cases hjn : j = n
    · subst hjn; exact hnr hj
    · obtain ⟨_, oj, hoj, _⟩ := mem_ready.1 hj
      have hjs : j < ops.size := (Array.getElem?_eq_some_iff.1 hoj).1
      have h1 := List.all_eq_true.1 ha j (List.mem_range.2 hjs)
      simp only [Bool.or_eq_true, decide_eq_true_eq] at h1
      rcases h1 with h1 | h1
      · omega
      · exact not_ready_of h1 (inv.tail n (Nat.le_refl _) hn) hj
def treeCB (md : Region.Mode) (ops : Array Oper) (m : Nat) (fin : Array Bool → Bool) : Plan → Array Bool → Bool
  | .nil, listed => fin listed
  | .read k r, listed => (Region.ready md ops listed).contains k && decide (k < m) && Region.free md ops listed k && treeCB md ops m fin r (listed.setIfInBounds k true)
  | .eff k r, listed => decide (Region.ready md ops listed = [k]) && decide (k < m) && treeCB md ops m fin r (listed.setIfInBounds k true)
  | .fork k1 r1 k2 r2, listed => decide (Region.ready md ops listed = [k1, k2]) && decide (k1 < m) && decide (k2 < m) && decide (r1.len = r2.len) && treeCB md ops m fin r1 (listed.setIfInBounds k1 true) && treeCB md ops m fin r2 (listed.setIfInBounds k2 true)
theorem wpHead_first2 {m i : Nat} {oi : Oper} {v : Value} {L : Array Bool → Act → World → Prop} (hi : ops[i]? = some oi) (hsel : ∀ (j : Nat) (o : Oper) cs b, ops[j]? = some o → o.op ≠ .select cs b)
    (hQ : ∀ c a w, Q (.panic c) (a.put oi.dst v) w → Q (.panic c) a w)
    (hT : ∀ listed, HeadInv md ops m listed → listed.getD i true = false → ∀ j ∈ Region.ready md ops listed, j < m)
    (hdone : ∀ listed a w, L listed a w → ∀ j ∈ Region.ready md ops listed, m ≤ j) :
    ∀ (f : Nat) (listed : Array Bool) (a : Act) (w : World), HeadInv md ops m listed →
      (∀ j oj, ops[j]? = some oj → j ≠ i → listed.getD j true = false → (∀ e ∈ oj.after, Region.binds md e = true → e.on ≠ i) → oi.apart ops oj = true) →
      i ∈ Region.ready md ops listed → YieldsIf P ops S oi v a → S w →
      wpHead P md ops Q S m L f (listed.setIfInBounds i true) (a.put oi.dst v) w → wpHead P md ops Q S m L (f + 1) listed a w := by
  intro f
  induction f with
  | zero =>
    intro listed a w inv _ hr hy hS H
    have hun := (mem_ready.1 hr).1
    refine ⟨fun h => (by rw [h] at hr; cases hr), fun j hj => ?_⟩
    have hjn : j < m := hT _ inv hun j hj
    refine ⟨hjn, ?_⟩
    by_cases hji : j = i
    · subst hji; exact hy.wpOp hi hS ⟨hS, H⟩
    · have := hdone _ _ _ H j (ready_mono hj hji)
      omega
  | succ f ih =>
    intro listed a w inv hfree hr hy hS H
    have hun := (mem_ready.1 hr).1
    refine ⟨fun h => (by rw [h] at hr; cases hr), fun j hj => ?_⟩
    have hjn : j < m := hT _ inv hun j hj
    refine ⟨hjn, ?_⟩
    by_cases hji : j = i
    · subst hji; exact hy.wpOp hi hS ⟨hS, H⟩
    · have h1 := (H.2 j (ready_mono hj hji)).2
      obtain ⟨hjun, oj, hoj, hall⟩ := mem_ready.1 hj
      have hnot : ∀ e ∈ oj.after, Region.binds md e = true → e.on ≠ i := fun e he hb heq => by
        have h1 := hall e he hb
        rw [heq, getD_both hun] at h1
        cases h1
      have h2 := wpOp_putIf hoj (hfree j oj hoj hji hjun hnot) (fun cs b => hsel i oi cs b hi) (fun cs b => hsel j oj cs b hoj) hQ hy h1
      have hfree' : ∀ k ok, ops[k]? = some ok → k ≠ i → (listed.setIfInBounds j true).getD k true = false →
          (∀ e ∈ ok.after, Region.binds md e = true → e.on ≠ i) → oi.apart ops ok = true := fun k ok hk hki hun hno => by
        refine hfree k ok hk hki ?_ hno
        by_cases hjk : j = k
        · subst hjk; exact hjun
        · rw [getD_set_ne true hjk] at hun; exact hun
      refine wpOp_mono (fun a' w' h3 => ⟨h3.2.1, ih (listed.setIfInBounds j true) a' w' (inv.set hj hjn) hfree' (ready_mono hr (Ne.symm hji)) h3.1 h3.2.1 ?_⟩) h2
      rw [Array.setIfInBounds_comm _ _ hji]
      exact h3.2.2

theorem wpHead_tree2 {m : Nat} {fin : Array Bool → Bool} {Lq : Act → World → Prop} (hsel : Region.noSelect ops = true) (hms : m < ops.size) (hT : ∀ i, i < m → ∀ listed, HeadInv md ops m listed → listed.getD i true = false → ∀ j ∈ Region.ready md ops listed, j < m) (hfin : ∀ listed, fin listed = true → ∀ j ∈ Region.ready md ops listed, m ≤ j)
    (hQ : ∀ (c) (a : Act) (d : Option Tmp) (v : Value) (w : World), Q (.panic c) (a.put d v) w → Q (.panic c) a w) :
    ∀ (plan : Plan) (listed : Array Bool) (a : Act) (w : World), HeadInv md ops m listed → treeCB md ops m fin plan listed = true → S w → wpTree P ops Q S Lq (plan.ops ops) a w →
    wpHead P md ops Q S m (fun listed' a' w' => fin listed' = true ∧ Lq a' w') plan.len listed a w
  | .nil, listed, a, w, _, hB, _, h => ⟨by simpa [treeCB] using hB, h⟩
  | .read k r, listed, a, w, inv, hB, hS, h => by
    simp only [treeCB, Bool.and_eq_true, decide_eq_true_eq] at hB
    obtain ⟨⟨⟨hr, hkm⟩, hf⟩, hB'⟩ := hB
    have h0 : ops[k]? = some ops[k] := Array.getElem?_eq_getElem (by omega)
    have h' : wpTree P ops Q S Lq (.read ops[k] (r.ops ops)) a w := by
      unfold Plan.ops at h
      rw [h0] at h
      exact h
    have hr' : k ∈ Region.ready md ops listed := by simpa using hr
    obtain ⟨v, hy, hK⟩ := h'
    have hdone : ∀ listed a w, (fin listed = true ∧ Lq a w) → ∀ j ∈ Region.ready md ops listed, m ≤ j := fun _ _ _ hh => hfin _ hh.1
    exact wpHead_first2 h0 (Region.noSelect_spec hsel) (fun c a w => hQ c a _ v w) (hT k hkm) hdone r.len listed a w inv (Region.free_spec h0 hf) hr' hy hS
      (wpHead_tree2 hsel hms hT hfin hQ r _ _ w (inv.set hr' hkm) hB' hS hK)
  | .eff k r, listed, a, w, inv, hB, hS, h => by
    simp only [treeCB, Bool.and_eq_true, decide_eq_true_eq] at hB
    obtain ⟨⟨hr, hkm⟩, hB'⟩ := hB
    have h0 : ops[k]? = some ops[k] := Array.getElem?_eq_getElem (by omega)
    have h' : wpEff P ops Q S ops[k] (wpTree P ops Q S Lq (r.ops ops)) a w := by
      unfold Plan.ops at h
      rw [h0] at h
      exact h
    have hr' : k ∈ Region.ready md ops listed := by rw [hr]; exact List.mem_singleton.2 rfl
    refine ⟨fun h1 => (by rw [hr] at h1; cases h1), fun i hi => ?_⟩
    rw [hr] at hi
    have hik : i = k := by simpa using hi
    subst hik
    refine ⟨hkm, ?_⟩
    have ih := fun a' w' hS' => wpHead_tree2 (fin := fin) (Lq := Lq) hsel hms hT hfin hQ r (listed.setIfInBounds i true) a' w' (inv.set hr' hkm) hB' hS'
    unfold wpOp
    simp only [h0]
    unfold wpEff at h'
    split
    · rename_i hw
      rw [if_pos hw] at h'
      exact .inl (Oper.wp_mono (fun a' w' h' => ⟨h'.1, ih a' w' h'.1 h'.2⟩) h')
    · rename_i hw
      rw [if_neg hw] at h'
      exact ⟨h'.1, ih _ _ h'.1 h'.2⟩
  | .fork k1 r1 k2 r2, listed, a, w, inv, hB, hS, h => by
    simp only [treeCB, Bool.and_eq_true, decide_eq_true_eq] at hB
    obtain ⟨⟨⟨⟨⟨hr, hk1⟩, hk2⟩, hlen⟩, hB1⟩, hB2⟩ := hB
    have h01 : ops[k1]? = some ops[k1] := Array.getElem?_eq_getElem (by omega)
    have h02 : ops[k2]? = some ops[k2] := Array.getElem?_eq_getElem (by omega)
    have h' : wpEff P ops Q S ops[k1] (wpTree P ops Q S Lq (r1.ops ops)) a w ∧ wpEff P ops Q S ops[k2] (wpTree P ops Q S Lq (r2.ops ops)) a w := by
      unfold Plan.ops at h
      rw [h01, h02] at h
      exact h
    have hr1 : k1 ∈ Region.ready md ops listed := by rw [hr]; simp
    have hr2 : k2 ∈ Region.ready md ops listed := by rw [hr]; simp
    refine ⟨fun h1 => (by rw [hr] at h1; cases h1), fun i hi => ?_⟩
    rw [hr] at hi
    have hik : i = k1 ∨ i = k2 := by simpa using hi
    rcases hik with rfl | rfl
    · refine ⟨hk1, ?_⟩
      have ih := fun a' w' hS' => wpHead_tree2 (fin := fin) (Lq := Lq) hsel hms hT hfin hQ r1 (listed.setIfInBounds i true) a' w' (inv.set hr1 hk1) hB1 hS'
      have h1 := h'.1
      unfold wpOp
      simp only [h01]
      unfold wpEff at h1
      split
      · rename_i hw
        rw [if_pos hw] at h1
        exact .inl (Oper.wp_mono (fun a' w' h' => ⟨h'.1, ih a' w' h'.1 h'.2⟩) h1)
      · rename_i hw
        rw [if_neg hw] at h1
        exact ⟨h1.1, ih _ _ h1.1 h1.2⟩
    · refine ⟨hk2, ?_⟩
      have ih := fun a' w' hS' => wpHead_tree2 (fin := fin) (Lq := Lq) hsel hms hT hfin hQ r2 (listed.setIfInBounds i true) a' w' (inv.set hr2 hk2) hB2 hS'
      rw [← hlen] at ih
      have h1 := h'.2
      unfold wpOp
      simp only [h02]
      unfold wpEff at h1
      split
      · rename_i hw
        rw [if_pos hw] at h1
        exact .inl (Oper.wp_mono (fun a' w' h' => ⟨h'.1, ih a' w' h'.1 h'.2⟩) h1)
      · rename_i hw
        rw [if_neg hw] at h1
        exact ⟨h1.1, ih _ _ h1.1 h1.2⟩

def closedB (md : Region.Mode) (ops : Array Oper) (listed : Array Bool) : Bool :=
  (List.range ops.size).all fun j => !listed.getD j false || (ops[j]?).all fun o => o.after.all fun e => !Region.binds md e || listed.getD e.on false
def secondB (md : Region.Mode) (ops : Array Oper) (m : Nat) (plan2 : Plan) (listed : Array Bool) : Bool :=
  decide (Region.ready md ops listed = [m]) && decide (listed.size = ops.size) && closedB md ops listed && treeB md ops ops.size 0 plan2 listed
def staged (md : Region.Mode) (ops : Array Oper) (m : Nat) (plan plan2 : Plan) : Bool :=
  Region.noSelect ops && decide (m < ops.size) && decide (plan.len = m) && decide (plan2.len = ops.size - m) && Region.sinkB md ops m && afterB md ops m && treeCB md ops m (secondB md ops m plan2) plan (Array.replicate ops.size false)
theorem closed_of {listed : Array Bool} (hs : listed.size = ops.size) (h : closedB md ops listed = true) : HeadInv md ops ops.size listed := by
  refine ⟨hs, fun j oj hoj hl e he hb => ?_, fun t h1 h2 => absurd h2 (by omega)⟩
  have hj : j < ops.size := (Array.getElem?_eq_some_iff.1 hoj).1
  have h1 := List.all_eq_true.1 h j (List.mem_range.2 hj)
  rw [hl, hoj] at h1
  simp only [Bool.not_true, Bool.false_or, Option.all_some] at h1
  obtain ⟨i, hi, rfl⟩ := Array.mem_iff_getElem.1 he
  have h2 := Array.all_eq_true.1 h1 i hi
  rw [hb] at h2
  simpa using h2
/-- THE LAW: in two stretches. -/
theorem wp_region_staged {id : Nat} {a : Act} {w : World} {l : List Oper} (S : World → Prop) (m : Nat) (plan plan2 : Plan) (hm : P.follows .mixedOrders = true) (hB : staged .any l.toArray m plan plan2 = true)
    (hQ : ∀ (c) (a : Act) (d : Option Tmp) (v : Value) (w : World), Q (.panic c) (a.put d v) w → Q (.panic c) a w) (hS : S w.drew)
    (h : wpTree P l.toArray Q S (fun a2 w2 => wpTree P l.toArray Q (fun _ => True) (fun a3 w3 => wpList P l.toArray Q [] a3 w3) (plan2.ops l.toArray) a2 w2) (plan.ops l.toArray) a w.drew) : (Code.region id l.toArray true).wp P Q a w := by
  simp only [staged, Bool.and_eq_true, decide_eq_true_eq] at hB
  obtain ⟨⟨⟨⟨⟨⟨hsel, hms⟩, hlen⟩, hlen2⟩, hs⟩, ha⟩, hlex⟩ := hB
  have inv0 : HeadInv .any l.toArray m (Array.replicate l.toArray.size false) :=
    ⟨by simp, fun j oj _ hl => (by rw [getD_replicate_false] at hl; cases hl), fun t _ ht => getD_in (by simpa using ht) (getD_replicate_false _ _)⟩
  have hfin : ∀ listed, secondB .any l.toArray m plan2 listed = true → ∀ j ∈ Region.ready .any l.toArray listed, m ≤ j := by
    intro listed hh j hj
    simp only [secondB, Bool.and_eq_true, decide_eq_true_eq] at hh
    rw [hh.1.1.1] at hj
    have : j = m := by simpa using hj
    omega
  have H := wpHead_tree2 (P := P) (md := .any) (S := S) (Q := Q) (fin := secondB .any l.toArray m plan2) (Lq := fun a2 w2 => wpTree P l.toArray Q (fun _ => True) (fun a3 w3 => wpList P l.toArray Q [] a3 w3) (plan2.ops l.toArray) a2 w2)
    hsel hms (fun i hi listed inv hl => tail_waits2 hs ha hms inv i hi hl) hfin hQ plan _ a w.drew inv0 hlex hS h
  refine wp_region_any hm ?_
  have := wpAny_of_wpHead (Q := Q) (g := l.toArray.size - m) (fun listed a' w' hL => by
    have hL1 := hL.1
    simp only [secondB, Bool.and_eq_true, decide_eq_true_eq] at hL1
    obtain ⟨⟨⟨_, hsz⟩, hcl⟩, hlex2⟩ := hL1
    have H2 := wpHead_tree_all (P := P) (md := .any) (S := fun _ => True) (Q := Q) (g := 0) (Lq := fun a'' w' => wpList P l.toArray Q [] a'' w') hsel rfl hQ plan2 listed a' w' (closed_of hsz hcl) hlex2 trivial hL.2
    have := wpAny_of_wpHead (Q := Q) (g := 0) (fun listed a' w' hL => wpAny_of_seq (md := .any) (Q' := Q) [] l.toArray.size listed a' w' (fun j => by simp) hL.1 hL.2) _ _ _ _ H2
    rw [hlen2, Nat.add_zero] at this
    exact this) _ _ _ _ H
  rw [hlen, show m + (l.toArray.size - m) = l.toArray.size by omega] at this
  exact this
end
end Go.Proofs.Ytdkmccilnmdhmaa
