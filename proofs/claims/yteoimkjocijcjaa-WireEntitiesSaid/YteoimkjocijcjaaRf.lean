/- Package wire: a new reader; the law of numbers and texts. -/
import Derived.Test.YteoimkjocijcjaaRe
namespace Go.Proofs.Yteoimkjocijcjaa
open Go.RowKit

def ReadPost (l : List UInt8) (w : World) (e : Ending) (w' : World) : Prop := ∃ rb, e = .returned (.pointer (some ⟨rb, 0, none⟩)) ∧ Rd w' rb l false ∧ Below w.heap.size w w' ∧ w.heap.size ≤ rb
set_option maxHeartbeats 2000000 in
theorem read_any (A : Option Addr) (n c : Nat) (l : List UInt8) (w : World) (hn : l.length = n) (h : Bytes w A l) (hl : n ≤ 140737488355328) :
    Calls Try.prog 9 #[.slice A n c] w (ReadPost l w) := by
  have hc := clone_any A n c l w hn h hl
  have Hc := hide hc
  have Hn := hide hn
  have Hl := hide hl
  clear hc h hn hl
  go_enter Try.func9, Try.ntmps9
  go_wp2_with fail
  refine Hc.out.mono ?_
  rintro e w1 ⟨A1, c1, rfl, ho, hA, hb⟩
  have Hp := hide (show _ ∧ _ ∧ _ from ⟨ho, hA, hb⟩)
  clear ho hA hb Hc
  go_wp2
  go_ret
  obtain ⟨ho, hA, hb⟩ := Hp.out
  have ho2 := ho.alloc (.cells #[.slice A1 n c1, .bool false] 50)
  refine ⟨w1.heap.size, rfl, ⟨A1, c1, by rw [Hn.out]; exact Blk.new _ _ _, ho2.bytes, fun a ha => ?_, (fun h => by cases h), ?_, by rw [Hn.out]; exact Hl.out⟩, hb.alloc hb.size _, hb.size⟩
  · rcases ho.form with ⟨h0, _⟩ | ⟨g, cur, hA1, hbk, _⟩
    · rw [h0] at ha; cases ha
    · rw [hA1] at ha
      injection ha with ha
      rw [← ha]
      exact ⟨cur, hbk.alloc _⟩
  · rcases ho.form with ⟨_, h0, _, h1⟩ | ⟨g, cur, _, _, h2, _⟩
    · rw [h1]; exact Nat.zero_le _
    · rw [Hn.out]; exact h2

end Go.Proofs.Yteoimkjocijcjaa
