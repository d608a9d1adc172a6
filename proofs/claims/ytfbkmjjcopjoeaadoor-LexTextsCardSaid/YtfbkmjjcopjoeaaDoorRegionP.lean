/- A region that draws its order, reads and effects in any order of the list: the reads rs yield the same in every world of S; the effects es follow one another and keep S; then what waits for all of these. Plain, over any program. -/
import Derived.Test.YtfbkmjjcopjoeaaDoorRegion
namespace Go.Proofs.YtfbkmjjcopjoeaaDoor
open Go.RowKit

section
variable {P : Program} {ops : Array Oper} {md : Region.Mode} {Q : Exit → Act → World → Prop} {S : World → Prop}

/-- The operations at these places. -/
def opsAt (ops : Array Oper) (ks : List Nat) : List Oper := ks.filterMap fun k => ops[k]?

def rowPB (md : Region.Mode) (ops : Array Oper) (m g : Nat) : List Nat → Array Bool → Bool
  | [], listed => Region.seqB md ops g m listed
  | k :: es, listed => decide (Region.ready md ops listed = [k]) && decide (k < m) && rowPB md ops m g es (listed.setIfInBounds k true)
def headPB (md : Region.Mode) (ops : Array Oper) (m g : Nat) (es : List Nat) : List Nat → Array Bool → Bool
  | [], listed => rowPB md ops m g es listed
  | k :: rs, listed => (Region.ready md ops listed).contains k && decide (k < m) && Region.free md ops listed k && headPB md ops m g es rs (listed.setIfInBounds k true)
def heldPB (md : Region.Mode) (ops : Array Oper) (m : Nat) (rs es : List Nat) : Bool :=
  Region.noSelect ops && decide (rs.length + es.length = m) && decide (m < ops.size) && Region.sinkB md ops m && Region.chainB md ops m && headPB md ops m (ops.size - m) es rs (Array.replicate ops.size false)

theorem opsAt_cons {k : Nat} {o : Oper} {ks : List Nat} (h : ops[k]? = some o) : opsAt ops (k :: ks) = o :: opsAt ops ks := by
  simp [opsAt, h]

theorem wpHead_rowP {m g : Nat} {Lq : Act → World → Prop} (hm : m < ops.size) : ∀ (es : List Nat) (listed : Array Bool) (a : Act) (w : World),
    rowPB md ops m g es listed = true → wpHeld P ops Q S Lq (opsAt ops es) a w →
    wpHead P md ops Q S m (fun listed' a' w' => Region.seqB md ops g m listed' = true ∧ Lq a' w') es.length listed a w
  | [], listed, a, w, hB, h => ⟨by simpa [rowPB] using hB, h⟩
  | k :: es, listed, a, w, hB, h => by
    simp only [rowPB, Bool.and_eq_true, decide_eq_true_eq] at hB
    obtain ⟨⟨hr, hkm⟩, hB'⟩ := hB
    have h0 : ops[k]? = some ops[k] := Array.getElem?_eq_getElem (by omega)
    rw [opsAt_cons h0] at h
    refine ⟨fun h1 => (by rw [hr] at h1; cases h1), fun i hi => ?_⟩
    rw [hr] at hi
    have hik : i = k := by simpa using hi
    subst hik
    refine ⟨hkm, ?_⟩
    have ih := fun a' w' => wpHead_rowP (g := g) (Lq := Lq) hm es (listed.setIfInBounds i true) a' w' hB'
    unfold wpOp
    simp only [h0]
    unfold wpHeld at h
    split
    · rename_i hw
      rw [if_pos hw] at h
      exact .inl (Oper.wp_mono (fun a' w' h' => ⟨h'.1, ih a' w' h'.2⟩) h)
    · rename_i hw
      rw [if_neg hw] at h
      exact ⟨h.1, ih _ _ h.2⟩

theorem wpHead_readsP {m g : Nat} {Lq : Act → World → Prop} (hsel : Region.noSelect ops = true) (hs : Region.sinkB md ops m = true) (hc : Region.chainB md ops m = true) (hm : m < ops.size) (es : List Nat)
    (hQ : ∀ (c) (a : Act) (d : Option Tmp) (v : Value) (w : World), Q (.panic c) (a.put d v) w → Q (.panic c) a w) (w : World) (hS : S w) :
    ∀ (rs : List Nat) (listed : Array Bool) (a : Act), HeadInv md ops m listed →
    headPB md ops m g es rs listed = true → wpReads P ops S (fun a' => wpHeld P ops Q S Lq (opsAt ops es) a' w) (opsAt ops rs) a →
    wpHead P md ops Q S m (fun listed' a' w' => Region.seqB md ops g m listed' = true ∧ Lq a' w') (rs.length + es.length) listed a w
  | [], listed, a, _, hB, h => by
    simp only [List.length_nil, Nat.zero_add]
    exact wpHead_rowP hm es listed a w (by simpa [headPB] using hB) h
  | k :: rs, listed, a, inv, hB, h => by
    simp only [headPB, Bool.and_eq_true, decide_eq_true_eq] at hB
    obtain ⟨⟨⟨hr, hkm⟩, hf⟩, hB'⟩ := hB
    have h0 : ops[k]? = some ops[k] := Array.getElem?_eq_getElem (by omega)
    rw [opsAt_cons h0] at h
    have hr' : k ∈ Region.ready md ops listed := by simpa using hr
    obtain ⟨v, hy, hK⟩ := h
    have hdone : ∀ listed a w, (Region.seqB md ops g m listed = true ∧ Lq a w) → ∀ j ∈ Region.ready md ops listed, m ≤ j := fun _ _ _ hh => seqB_ready hh.1
    rw [List.length_cons, show rs.length + 1 + es.length = (rs.length + es.length) + 1 by omega]
    exact wpHead_first h0 (Region.noSelect_spec hsel) (fun c a w => hQ c a _ v w) hs hc hm hkm hdone (rs.length + es.length) listed a w inv (Region.free_spec h0 hf) hr' hy hS
      (wpHead_readsP hsel hs hc hm es hQ w hS rs _ _ (inv.set hr' hkm) hB' hK)

/-- THE LAW. -/
theorem wp_region_heldP {id : Nat} {a : Act} {w : World} {l : List Oper} (S : World → Prop) (m : Nat) (rs es : List Nat) (hm : P.follows .mixedOrders = true) (hB : heldPB .any l.toArray m rs es = true)
    (hQ : ∀ (c) (a : Act) (d : Option Tmp) (v : Value) (w : World), Q (.panic c) (a.put d v) w → Q (.panic c) a w) (hS : S w.drew)
    (h : wpReads P l.toArray S (fun a' => wpHeld P l.toArray Q S (fun a'' w' => wpList P l.toArray Q (l.drop m) a'' w') (opsAt l.toArray es) a' w.drew) (opsAt l.toArray rs) a) : (Code.region id l.toArray true).wp P Q a w := by
  simp only [heldPB, Bool.and_eq_true, decide_eq_true_eq] at hB
  obtain ⟨⟨⟨⟨⟨hsel, hnm⟩, hms⟩, hs⟩, hc⟩, hlex⟩ := hB
  have hms' : m < l.length := by simpa using hms
  have hdl : (l.drop m).length = l.toArray.size - m := by simp
  have inv0 : HeadInv .any l.toArray m (Array.replicate l.toArray.size false) :=
    ⟨by simp, fun j oj _ hl => (by rw [getD_replicate_false] at hl; cases hl), fun t _ ht => getD_in (by simpa using ht) (getD_replicate_false _ _)⟩
  have H := wpHead_readsP (P := P) (md := .any) (S := S) (Q := Q) (g := l.toArray.size - m) (Lq := fun a'' w' => wpList P l.toArray Q (l.drop m) a'' w') hsel hs hc hms es hQ w.drew hS rs _ a inv0 hlex h
  refine wp_region_any hm ?_
  have := wpAny_of_wpHead (Q := Q) (g := l.toArray.size - m) (fun listed a' w' hL => by
    have := wpAny_of_seq (md := .any) (Q' := Q) (l.drop m) m listed a' w' (fun j => by simp [List.getElem?_drop]) (by rw [hdl]; exact hL.1) hL.2
    rwa [hdl] at this) _ _ _ _ H
  rw [hnm, show m + (l.toArray.size - m) = l.toArray.size by omega] at this
  exact this
end
end Go.Proofs.YtfbkmjjcopjoeaaDoor
