/- A channel's block, and a queue: a struct of a channel and of a number. Plain, over any program. -/
import Derived.Test.YthmaodpmbmiadaaFrame
import Derived.Conc.LoneSelect
import Derived.Conc.LoneSelectN
namespace Go.Proofs.Ythmaodpmbmiadaa
open Go.RowKit Go.Conc

/-- Block c is an open channel of capacity cap that holds l, the eldest first. -/
def Ch (w : World) (c cap : Nat) (l : List Value) : Prop := ∃ s r, w.heap[c]? = some (.chan cap l.toArray false s r false)

section
variable {F : Nat → Prop} {a w w' : World} {c cap : Nat} {l : List Value}
theorem Ch.lt (h : Ch w c cap l) : c < w.heap.size := by
  obtain ⟨s, r, h⟩ := h
  exact (Array.getElem?_eq_some_iff.1 h).1
theorem Ch.fr (h : Ch w c cap l) (hf : Fr F w w') (hc : ¬ F c) : Ch w' c cap l := by
  have hl := h.lt
  obtain ⟨s, r, h⟩ := h
  exact ⟨s, r, (hf.block c hl hc).trans h⟩
theorem Ch.drew (h : Ch w c cap l) : Ch w.drew c cap l := h
theorem Ch.drewN (h : Ch w c cap l) (n : Nat) : Ch (w.drewN n) c cap l := h
theorem Ch.alloc (h : Ch w c cap l) (o : Obj) : Ch (w.alloc o) c cap l := h.fr (F := fun _ => False) ((Fr.refl _ _).alloc o) (fun h => h)
theorem Ch.setCell (h : Ch w c cap l) {p : Addr} (hp : c ≠ p.block) (u : Value) : Ch (w.setCell p u) c cap l := by
  obtain ⟨s, r, h⟩ := h
  exact ⟨s, r, (Below.heap_setCell w p u c hp).trans h⟩
theorem Ch.new (w : World) (cap : Nat) : Ch (w.alloc (.chan cap #[] false 0 0 false)) w.heap.size cap [] := ⟨0, 0, heap_alloc_new w _⟩
theorem Ch.set_ (hc : c < w.heap.size) (cap : Nat) (l : List Value) (buf : Array Value) (hb : buf = l.toArray) (s r : Nat) : Ch (w.setChan c cap buf false s r false) c cap l := by
  subst hb
  exact ⟨s, r, heap_setChan w c cap _ false s r false hc⟩
theorem Fr.setChan (h : Fr F a w) {c : Nat} (hp : F c ∨ a.heap.size ≤ c) (cap : Nat) (buf : Array Value) (cl : Bool) (s r : Nat) (tm : Bool) : Fr F a (w.setChan c cap buf cl s r tm) :=
  ⟨h.os, h.tape, h.output, by rw [size_setChan]; exact h.size, fun i hi hn => by
    have hne : c ≠ i := by
      rintro rfl
      rcases hp with hp | hp
      · exact hn hp
      · omega
    simp only [World.setChan]
    rw [Array.getElem?_setIfInBounds_ne hne]
    exact h.block i hi hn⟩
theorem Blk.setChan {g : Nat} {t : TypeId} {cs : Array Value} (h : Blk w g t cs) {c : Nat} (hne : g ≠ c) (cap : Nat) (buf : Array Value) (cl : Bool) (s r : Nat) (tm : Bool) : Blk (w.setChan c cap buf cl s r tm) g t cs := by
  unfold Blk at h ⊢
  simp only [World.setChan]
  rw [Array.getElem?_setIfInBounds_ne (fun e => hne e.symm)]
  exact h
theorem Ch.ne_blk {g : Nat} {t : TypeId} {cs : Array Value} (h : Ch w c cap l) (hb : Blk w g t cs) : g ≠ c := by
  rintro rfl
  obtain ⟨s, r, h⟩ := h
  unfold Blk at hb
  rw [hb] at h
  cases h
end

/-- A queue: its block, its channel's block, how many may wait, how many are gone, what waits. -/
structure QS where
  q : Nat
  c : Nat
  cap : Nat
  gone : Nat
  l : List Value
def QS.F (S : QS) : Nat → Prop := fun k => k = S.q ∨ k = S.c
/-- It lies there. -/
structure QAt (w : World) (t : TypeId) (S : QS) : Prop where
  blk : Blk w S.q t #[.chan (some S.c), .int .u64 (S.gone : Int)]
  ch : Ch w S.c S.cap S.l
  room : S.l.length ≤ S.cap
  small : S.cap ≤ 64
theorem QAt.ne {w : World} {t : TypeId} {S : QS} (h : QAt w t S) : S.q ≠ S.c := h.ch.ne_blk h.blk
theorem QAt.fr {F : Nat → Prop} {w w' : World} {t : TypeId} {S : QS} (h : QAt w t S) (hf : Fr F w w') (hq : ¬ F S.q) (hc : ¬ F S.c) : QAt w' t S := ⟨h.blk.fr hf hq, h.ch.fr hf hc, h.room, h.small⟩
theorem QAt.drew {w : World} {t : TypeId} {S : QS} (h : QAt w t S) : QAt w.drew t S := ⟨h.blk, h.ch, h.room, h.small⟩
theorem QAt.drewN {w : World} {t : TypeId} {S : QS} (h : QAt w t S) (n : Nat) : QAt (w.drewN n) t S := ⟨h.blk, h.ch, h.room, h.small⟩
theorem QAt.alloc {w : World} {t : TypeId} {S : QS} (h : QAt w t S) (o : Obj) : QAt (w.alloc o) t S := ⟨h.blk.alloc o, h.ch.alloc o, h.room, h.small⟩
/-- A call that only drew. -/
def DrewQ (v : Value) (w : World) (e : Ending) (w' : World) : Prop := e = .returned v ∧ ∃ n, w' = w.drewN n
/-- What a call on a queue leaves: the queue as S'; all else as it was. -/
def QLeaves (v : Value) (t : TypeId) (S S' : QS) (w : World) (e : Ending) (w' : World) : Prop := e = .returned v ∧ QAt w' t S' ∧ Fr S.F w w'
def QS.put (S : QS) (x : Value) : QS := { S with l := S.l ++ [x] }
def QS.pop (S : QS) : QS := { S with l := S.l.drop 1 }
def QS.drop (S : QS) (n : Nat) : QS := { S with l := S.l.drop n, gone := S.gone + n }
def QS.last (S : QS) : Nat := S.gone + S.l.length
theorem QS.F_q (S : QS) : S.F S.q := .inl rfl
theorem QS.F_c (S : QS) : S.F S.c := .inr rfl
/-- What waits lies in a new row. -/
def QRow (t : TypeId) (w : World) (A : Option Addr) (n c : Nat) (l : List Value) : Prop := l.length = n ∧ w.ownsRow 0 t 1 (.slice A n c) n l
end Go.Proofs.Ythmaodpmbmiadaa
