/- Package columbaryref03: Value: what it needs. -/
import Derived.Test.YtdkmccilnmdhmaaVc
import Derived.Test.YtdkmccilnmdhmaaRb
namespace Go.Proofs.Ytdkmccilnmdhmaa
open Go.RowKit

/-- A row under way, in new memory, since w0. -/
structure VO (w0 wr : World) (A : Option Addr) (m c : Nat) (l : List UInt8) : Prop where
  own : OwnB wr A m c l
  new : ∀ k, At A k → w0.heap.size ≤ k
  below : Below w0.heap.size w0 wr
theorem VO.start {w0 wr : World} {A : Option Addr} {m c : Nat} {l : List UInt8} (h : OwnB wr A m c l) (hn : ∀ k, At A k → w0.heap.size ≤ k) (hb : Below w0.heap.size w0 wr) : VO w0 wr A m c l := ⟨h, hn, hb⟩
theorem VO.later {w0 wr w2 : World} {A : Option Addr} {m c : Nat} {l : List UInt8} (h : VO w0 wr A m c l) (hb : Below wr.heap.size wr w2) : VO w0 w2 A m c l :=
  ⟨h.own.below hb, h.new, h.below.trans (hb.mono h.below.size)⟩
theorem VO.join {w0 w2 w4 : World} {A A4 : Option Addr} {m n2 c c4 : Nat} {l l2 : List UInt8} (h : VO w0 w2 A m c l) (ho4 : OwnB w4 A4 (m + n2) c4 (l ++ l2)) (hf4 : Fr (At A) w2 w4) (hn4 : ∀ k, At A4 k → At A k ∨ w2.heap.size ≤ k) : VO w0 w4 A4 (m + n2) c4 (l ++ l2) :=
  ⟨ho4, fun k hk => (hn4 k hk).elim (h.new k) (fun h' => Nat.le_trans h.below.size h'), h.below.trans (hf4.below h.below.size h.new)⟩
theorem VO.post {w w0 wr : World} {A : Option Addr} {m c : Nat} {l : List UInt8} (h : VO w0 wr A m c l) (hw : Below w.heap.size w w0) : ClonePost l l.length w (.returned (.slice A m c)) wr :=
  ⟨A, c, by rw [h.own.1], by rw [h.own.1]; exact h.own, fun k hk => Nat.le_trans hw.size (h.new k hk), hw.trans (h.below.mono hw.size)⟩

theorem enc_n (v : V) (h : v.kind = 1 ∨ v.kind = 3) : encV v = Lib.uvarint v.kind ++ Lib.uvarint (Lib.zigzag v.n) := by
  rw [encV_eq, restB_done v 0 (by unfold V.els; rw [if_neg (by omega), if_neg (by omega)]; exact Nat.le_refl _), List.append_nil, beginB, if_pos h]
theorem enc_s (v : V) (h : v.kind = 2 ∨ v.kind = 4 ∨ v.kind = 7 ∨ v.kind = 8) : encV v = Lib.uvarint v.kind ++ textB v.s := by
  rw [encV_eq, restB_done v 0 (by unfold V.els; rw [if_neg (by omega), if_neg (by omega)]; exact Nat.le_refl _), List.append_nil, beginB, if_neg (by omega), if_pos h]
theorem enc_0 (v : V) (h : v.kind = 0) : encV v = Lib.uvarint 0 := by
  rw [encV_eq, restB_done v 0 (by unfold V.els; rw [if_neg (by omega), if_neg (by omega)]; exact Nat.le_refl _), List.append_nil, beginB, if_neg (by omega), if_neg (by omega), if_neg (by omega), List.append_nil, h]
theorem enc_l (v : V) (h : v.kind = 5 ∨ v.kind = 6) : encV v = (Lib.uvarint v.kind ++ Lib.uvarint v.els) ++ restB v 0 := by
  rw [encV_eq, beginB, if_neg (by omega), if_neg (by omega), if_pos h]
theorem LocP.els {v : V} (h : LocP v) (hk : v.kind = 5 ∨ v.kind = 6) : v.els = v.ls.length := by
  unfold V.els
  by_cases h5 : v.kind = 5
  · rw [if_pos h5]
  · have h6 : v.kind = 6 := by omega
    rw [if_neg h5, if_pos h6]
    have := h.o h6
    omega
end Go.Proofs.Ytdkmccilnmdhmaa
