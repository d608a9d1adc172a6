/- Package ledger: Open. -/
import Derived.Test.YtbcpplndmndkiaaLedF
namespace Go.Proofs.Ytbcpplndmndkiaa
open Go.RowKit

set_option maxHeartbeats 2000000 in
theorem load_off (lb b : Nat) (F : Nat → Prop) (L : Lg) (D : Dk) (w : World) (hl : Led w lb b L) (hd : DiskAt w b F D) (ok : L.Ok D.n) (ho : D.off = true) :
    Calls Try.prog 38 #[.pointer (some ⟨lb, 0, none⟩)] w (Makes (.tuple #[.slice none 0 0, .slice none 0 0, .int .i64 12]) w) := by
  have c1 := hide (inUse_off lb b F L D w hl hd ok ho)
  clear hl hd ok ho
  go_enter Try.func38, Try.ntmps38
  go_wp2_with fail
  refine c1.out.mono ?_
  rintro e w1 ⟨rfl, hb1⟩
  have Hb1 := hide hb1
  clear hb1 c1
  go_wp2
  exact bodyPost_ret (v := .tuple #[.slice none 0 0, .slice none 0 0, .int .i64 12]) (by simp [results, Try.results38, go_sem]) rfl ⟨rfl, Hb1.out⟩

/-- A ledger just opened. -/
def Lg.opened (at_ bl half : Nat) (k : Kp) : Lg := ⟨at_, bl, half, k.enc.length, k.recs.length, false⟩
def OpenPost (b at_ bl half : Nat) (k : Kp) (w : World) (e : Ending) (w' : World) : Prop :=
  ∃ lb A c R d, e = .returned (.tuple #[.pointer (some ⟨lb, 0, none⟩), .slice A k.snap.length c, .slice R k.recs.length d, .int .i64 0]) ∧ OwnB w' A k.snap.length c k.snap ∧ (∀ j, At A j → w.heap.size ≤ j) ∧ RecsAt w' w.heap.size R k.recs.length d k.recs ∧
    Led w' lb b (Lg.opened at_ bl half k) ∧ w.heap.size ≤ lb ∧ Below w.heap.size w w'

/-- What lies on the disk: k, in that half. -/
structure Lays (f : Nat → List UInt8) (at_ bl half : Nat) (k : Kp) : Prop where
  sw : used f at_ bl = half
  area : ∃ rest, areaK f (at_ + half * bl + 1) (bl - 1) = k.enc ++ rest ∧ Quiet rest
theorem Lays.le1 {f : Nat → List UInt8} {at_ bl half : Nat} {k : Kp} (h : Lays f at_ bl half k) : half ≤ 1 := by
  have := h.sw; have := used_lt f at_ bl; omega

set_option maxHeartbeats 2000000 in
theorem open_on (b : Nat) (F : Nat → Prop) (D : Dk) (at_ bl half : Nat) (k : Kp) (w : World) (hd : DiskAt w b F D) (h2 : 2 ≤ bl) (hn : at_ + 2 * bl ≤ D.n) (ho : D.off = false) (hk : Lays (view D.dur D.pend) at_ bl half k) :
    Calls Try.prog 21 #[.pointer (some ⟨b, 0, none⟩), .int .i64 (at_ : Int), .int .i64 ((2 * bl : Nat) : Int)] w (OpenPost b at_ bl half k w) := by
  have hl := hide (len_at b F D w hd)
  have hn4 := hd.wf.hi
  obtain ⟨rest, har, hq⟩ := hk.area
  have Ha := hide har
  have Hq := hide hq
  have Hk := hide hk.sw
  have Hd := hide hd
  have Ho := hide ho
  clear hd ho hk har hq
  obtain ⟨c, hc⟩ : ∃ c : Nat, 2 * bl = c := ⟨_, rfl⟩
  have hm : ((c : Int) % 2 != 0) = false := by rw [bne_eq_false_iff_eq]; omega
  have hc4 : 4 ≤ c := by omega
  have hcn : at_ + c ≤ D.n := by omega
  have hdiv : (c : Int) / 2 = (bl : Int) := by omega
  rw [hc]
  clear hc
  go_enter Try.func21, Try.ntmps21
  go_wp2_with (go_at_call 37; refine hl.out.mono ?_; rintro e w' ⟨rfl, rfl⟩)
  have hl0 : Led (w.alloc (.cells #[.pointer (some ⟨b, 0, none⟩), .int .i64 (at_ : Int), .int .i64 (bl : Int), .int .i64 0, .int .i64 0, .int .i64 0, .bool false] 62)) w.heap.size b ⟨at_, bl, 0, 0, 0, false⟩ := Blk.new _ _ _
  have ok0 : (⟨at_, bl, 0, 0, 0, false⟩ : Lg).Ok D.n := ⟨h2, hn, hn4, Nat.zero_le _, Nat.zero_le _, Nat.le_refl _⟩
  have c1 := load_on w.heap.size b F ⟨at_, bl, 0, 0, 0, false⟩ D half k rest _ hl0 (Hd.out.alloc _) ok0 Ho.out Hk.out Ha.out Hq.out
  refine c1.mono ?_
  rintro e w1 ⟨A, cA, R, dR, rfl, hown, hnew, hrec, hled, hf⟩
  have hsz : w.heap.size ≤ (w.alloc (.cells #[.pointer (some ⟨b, 0, none⟩), .int .i64 (at_ : Int), .int .i64 (bl : Int), .int .i64 0, .int .i64 0, .int .i64 0, .bool false] 62)).heap.size := by simp
  have hfin : OpenPost b at_ bl half k w (.returned (.tuple #[.pointer (some ⟨w.heap.size, 0, none⟩), .slice A k.snap.length cA, .slice R k.recs.length dR, .int .i64 0])) w1 :=
    ⟨w.heap.size, A, cA, R, dR, rfl, hown, fun j hj => Nat.le_trans hsz (hnew j hj), hrec.more hsz, hled, Nat.le_refl _, ((Below.refl _ _).alloc (Nat.le_refl _) _).trans (hf.below hsz (fun j e => by omega))⟩
  have Hfin := hide hfin
  clear hfin hown hnew hrec hled hf hsz c1 ok0 hl0
  go_wp2
  exact bodyPost_ret (v := .tuple #[.pointer (some ⟨w.heap.size, 0, none⟩), .slice A k.snap.length cA, .slice R k.recs.length dR, .int .i64 0]) (by simp [results, Try.results21, go_sem]) rfl Hfin.out

set_option maxHeartbeats 2000000 in
theorem open_none (at_ c : Int) (w : World) :
    Calls Try.prog 21 #[.pointer none, .int .i64 at_, .int .i64 c] w fun e w' => e = .returned (.tuple #[.pointer none, .slice none 0 0, .slice none 0 0, .int .i64 6]) ∧ w = w' := by
  go_enter Try.func21, Try.ntmps21
  go_wp2
  exact bodyPost_ret (v := .tuple #[.pointer none, .slice none 0 0, .slice none 0 0, .int .i64 6]) (by simp [results, Try.results21, go_sem]) rfl ⟨rfl, rfl⟩

set_option maxHeartbeats 2000000 in
theorem open_off (b : Nat) (F : Nat → Prop) (D : Dk) (at_ bl : Nat) (w : World) (hd : DiskAt w b F D) (h2 : 2 ≤ bl) (hn : at_ + 2 * bl ≤ D.n) (ho : D.off = true) :
    Calls Try.prog 21 #[.pointer (some ⟨b, 0, none⟩), .int .i64 (at_ : Int), .int .i64 ((2 * bl : Nat) : Int)] w (Makes (.tuple #[.pointer none, .slice none 0 0, .slice none 0 0, .int .i64 12]) w) := by
  have hl := hide (len_at b F D w hd)
  have hn4 := hd.wf.hi
  have Hd := hide hd
  have Ho := hide ho
  clear hd ho
  obtain ⟨c, hc⟩ : ∃ c : Nat, 2 * bl = c := ⟨_, rfl⟩
  have hm : ((c : Int) % 2 != 0) = false := by rw [bne_eq_false_iff_eq]; omega
  have hc4 : 4 ≤ c := by omega
  have hcn : at_ + c ≤ D.n := by omega
  have hdiv : (c : Int) / 2 = (bl : Int) := by omega
  rw [hc]
  clear hc
  go_enter Try.func21, Try.ntmps21
  go_wp2_with (go_at_call 37; refine hl.out.mono ?_; rintro e w' ⟨rfl, rfl⟩)
  have hl0 : Led (w.alloc (.cells #[.pointer (some ⟨b, 0, none⟩), .int .i64 (at_ : Int), .int .i64 (bl : Int), .int .i64 0, .int .i64 0, .int .i64 0, .bool false] 62)) w.heap.size b ⟨at_, bl, 0, 0, 0, false⟩ := Blk.new _ _ _
  have ok0 : (⟨at_, bl, 0, 0, 0, false⟩ : Lg).Ok D.n := ⟨h2, hn, hn4, Nat.zero_le _, Nat.zero_le _, Nat.le_refl _⟩
  have c1 := load_off w.heap.size b F ⟨at_, bl, 0, 0, 0, false⟩ D _ hl0 (Hd.out.alloc _) ok0 Ho.out
  refine c1.mono ?_
  rintro e w1 ⟨rfl, hb⟩
  have Hb := hide (show Below w.heap.size w w1 from ((Below.refl _ _).alloc (Nat.le_refl _) _).trans (hb.mono (by simp)))
  clear hb c1 ok0 hl0
  go_wp2
  exact bodyPost_ret (v := .tuple #[.pointer none, .slice none 0 0, .slice none 0 0, .int .i64 12]) (by simp [results, Try.results21, go_sem]) rfl ⟨rfl, Hb.out⟩
end Go.Proofs.Ytbcpplndmndkiaa
