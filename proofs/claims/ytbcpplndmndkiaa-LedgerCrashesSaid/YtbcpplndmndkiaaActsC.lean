/- Layer 2: one call of a script, as the round's own variable; what a round holds. -/
import Derived.Test.YtbcpplndmndkiaaLwC
import Derived.Test.YtbcpplndmndkiaaActsB
namespace Go.Proofs.Ytbcpplndmndkiaa
open Go.RowKit

def actCells (a : ActD) : List Value := [.int .u8 a.kind, .slice a.A a.p.length a.c, .int .u8 a.n, .int .i64 a.keep, .int .i64 a.torn]
theorem infoAct : (Try.prog.info? 36).map (·.size) = some 5 := by kernel_rfl
theorem ActAt.range {w : World} {g o : Nat} {a : ActD} (h : ActAt w g o a) : w.rangeAt g o (actCells a) := by
  intro j v hv
  match j, hv with
  | 0, hv => injection hv with hv; subst hv; exact h.kind
  | 1, hv => injection hv with hv; subst hv; exact h.p
  | 2, hv => injection hv with hv; subst hv; exact h.n
  | 3, hv => injection hv with hv; subst hv; exact h.keep
  | 4, hv => injection hv with hv; subst hv; exact h.torn
theorem actCells_one (a : ActD) : ∀ v ∈ actCells a, v.oneCell' = true := by
  intro v hv
  simp only [actCells, List.mem_cons, List.not_mem_nil, or_false] at hv
  rcases hv with rfl | rfl | rfl | rfl | rfl <;> rfl
def ZA : Array Value := #[.int .u8 0, .slice none 0 0, .int .u8 0, .int .i64 0, .int .i64 0]
theorem zeroA (W : World) : (Go.zeroValue 36).run Try.prog W = .ok (.agg ZA) W := by kernel_rfl

/-- What a round holds: the ledger, the law's own variable, and the call at hand. -/
structure Pl (w0 w : World) (lb b kb ga : Nat) (ac : Array Value) (F : Nat → Prop) (L : Lg) (D : Dk) (k : Kp) : Prop where
  on : LOn w0 w lb b F L D
  kv : KVar w0 w kb k
  blk : Blk w ga 36 ac
  gaw : w0.heap.size ≤ ga
section
variable {w0 w w' : World} {lb b kb ga : Nat} {ac : Array Value} {F F' : Nat → Prop} {L L' : Lg} {D D' : Dk} {k : Kp}
theorem Pl.call (h : Pl w0 w lb b kb ga ac F L D k) (h' : LOn w0 w' lb b F' L' D') (hf : Fr (fun k => F k ∨ k = lb) w w') : Pl w0 w' lb b kb ga ac F' L' D' k :=
  ⟨h', h.kv.call h.on hf, Blk.fr h.blk hf (fun hk => h.on.feet_ne h.blk (by decide) (by decide) (by decide) (by decide) hk), h.gaw⟩
theorem Pl.same (h : Pl w0 w lb b kb ga ac F L D k) (hf : Fr (fun _ => False) w w') : Pl w0 w' lb b kb ga ac F L D k :=
  ⟨h.on.fr (G := fun _ => False) hf (fun _ _ (hg : False) => False.elim hg), h.kv.same hf, Blk.fr h.blk hf (fun h => h), h.gaw⟩
theorem Pl.putK {v0 v1 : Value} {k' : Kp} (h : Pl w0 w lb b kb ga ac F L D k) (hb : Blk w kb 34 #[v0, v1]) (A : Option Addr) (n c : Nat) (hn : k'.recs.length = n) (hr : KRow w A n c k'.recs) (hA : ∀ j, At A j → w0.heap.size ≤ j) :
    Pl w0 ((w.setCell ⟨kb, 0, none⟩ (.string ⟨k'.snap.toArray⟩)).setCell ⟨kb, 1, none⟩ (.slice A n c)) lb b kb ga ac F L D k' :=
  ⟨h.on.putK hb h.kv.kb _ _, KVar.put hb h.kv.kb A n c hn hr hA, Blk.fr h.blk (F := fun k => k = kb) (((Fr.refl _ _).put1 0 _).put1 1 _) (fun e => by
    subst e
    exact Blk.ne_ h.blk hb (by decide) rfl), h.gaw⟩
end
end Go.Proofs.Ytbcpplndmndkiaa
