/- The laws of layer 2: their own 'open'. -/
import Derived.Test.YtbcpplndmndkiaaLedN
import Derived.Test.YtbcpplndmndkiaaCrc
import Derived.Lib.SlBytesConst
namespace Go.Proofs.Ytbcpplndmndkiaa
open Go.RowKit

def LawOpen (w0 : World) (n bl : Nat) (w : World) (e : Ending) (w' : World) : Prop :=
  ∃ lb b F, e = .returned (.tuple #[.pointer (some ⟨b, 0, none⟩), .pointer (some ⟨lb, 0, none⟩)]) ∧ LOn w0 w' lb b F (Lg.opened 1 bl 0 ⟨[], []⟩) (Dk.new n) ∧ Below w.heap.size w w' ∧ ∀ k, F k ∨ k = lb → w.heap.size ≤ k

set_option maxHeartbeats 1000000 in
theorem lopen_any (bl : Nat) (w0 w : World) (hb : Below w0.heap.size w0 w) (h2 : 2 ≤ bl) (h3 : bl ≤ 2000) :
    Calls Try.prog 15 #[.int .i64 ((2 * bl : Nat) : Int)] w (LawOpen w0 (2 * bl + 1) bl w) := by
  have Hb := hide hb
  clear hb
  go_enter Try.func15, Try.ntmps15
  go_wp2_with fail
  have c0 := new_any (2 * bl + 1) w (by omega) (by omega)
  rw [show (((2 * bl + 1 : Nat)) : Int) = ((2 * bl : Nat) : Int) + 1 by omega] at c0
  refine c0.mono ?_
  rintro e w1 ⟨b, F0, rfl, hd0, hb0, hF0⟩
  have Hd0 := hide hd0
  have HF0 := hide hF0
  have Hb0 := hide hb0
  clear hd0 hb0 hF0 c0
  go_wp2_with fail
  refine (open_lies (w0 := w0) (lies_new (2 * bl + 1) 1 bl h2 (by omega) (by omega)) Hd0.out (Hb.out.trans (Hb0.out.mono Hb.out.size)) (fun k hk => Nat.le_trans Hb.out.size (HF0.out k hk))).mono ?_
  rintro e w2 ⟨lb, A, c, R, d, rfl, _, _, hl, hlb, hb2, _⟩
  have Hl := hide hl
  have Hb2 := hide hb2
  clear hl hb2
  go_wp2
  go_ret2
  exact ⟨lb, b, F0, rfl, Hl.out, Hb0.out.trans (Hb2.out.mono Hb0.out.size), fun k hk => hk.elim (HF0.out k) (fun h => by rw [h]; exact Nat.le_trans Hb0.out.size hlb)⟩

theorem crc_check : crc [49, 50, 51, 52, 53, 54, 55, 56, 57] = 3421780262 := by decide +kernel
/-- Bytes written out in the code, appended. -/
theorem LOn.append_lit {w0 w : World} {lb b : Nat} {F : Nat → Prop} {L : Lg} {D : Dk} {k : Kp} (h : LOn w0 w lb b F L D) (hs : St D L k) (ho : D.ops ≤ 3000000000000000000) (hf : D.fuse = 0) (p : List UInt8) (n c : Nat) (sh : Nat × Nat) (hn : p.length = n) (hnl : n ≤ 4000) (hfit : (k.with_ p).need ≤ L.room) :
    Calls Try.prog 16 #[.pointer (some ⟨lb, 0, none⟩), .slice (some ⟨w.heap.size, 0, none⟩) n c] (w.alloc (.cells (B8s p).toArray 5 sh)) (fun e w' => ∃ L' D', Did D L (k.with_ p) D' L' ∧ Aft w0 0 lb b F L' D' (w.alloc (.cells (B8s p).toArray 5 sh)) e w') :=
  (h.alloc _).append_ok hs ho hf _ n c p hn (bytes_new w _ _ _) hnl hfit
theorem LOn.snapshot_lit {w0 w : World} {lb b : Nat} {F : Nat → Prop} {L : Lg} {D : Dk} {k : Kp} (h : LOn w0 w lb b F L D) (hs : St D L k) (ho : D.ops ≤ 3000000000000000000) (hf : D.fuse = 0) (p : List UInt8) (n c : Nat) (sh : Nat × Nat) (hn : p.length = n) (hnl : n ≤ 4000) (hfit : (⟨p, []⟩ : Kp).need ≤ L.room) :
    Calls Try.prog 19 #[.pointer (some ⟨lb, 0, none⟩), .slice (some ⟨w.heap.size, 0, none⟩) n c] (w.alloc (.cells (B8s p).toArray 5 sh)) (fun e w' => ∃ L' D', Did D L ⟨p, []⟩ D' L' ∧ Aft w0 0 lb b F L' D' (w.alloc (.cells (B8s p).toArray 5 sh)) e w') :=
  (h.alloc _).snapshot_ok hs ho hf _ n c p hn (bytes_new w _ _ _) (by omega) hfit
theorem Did.fuse0 {D D' : Dk} {L L' : Lg} {k : Kp} (h : Did D L k D' L') (hf : D.fuse = 0) : D'.fuse = 0 := by have := h.fuse; omega
theorem Did.room_eq {D D' : Dk} {L L' : Lg} {k : Kp} (h : Did D L k D' L') : L'.room = L.room := by unfold Lg.room; rw [h.bl]
theorem krow_lit (w : World) (l : List UInt8) : KRow (w.alloc (.cells #[.string ⟨l.toArray⟩] 9)) (some ⟨w.heap.size, 0, none⟩) 1 1 [l] :=
  ⟨rfl, by simp, .inr ⟨w.heap.size, 1, #[.string ⟨l.toArray⟩], rfl, Nat.zero_le _, Blk.new w _ _, Nat.le_refl _, by decide, rfl, rfl⟩⟩

set_option maxHeartbeats 4000000 in
theorem awake_any (w : World) : Calls Try.prog 12 #[] w fun e w' => e = .returned (.bool true) ∧ Below w.heap.size w w' := by
  have kc := fun (w : World) (C : Array Value) (n c : Nat) => Lib.run_convert_bytes_const (P := Try.prog) w 22 5 C n c Try.underlying22 Try.underlying5
  go_enter Try.func12, Try.ntmps12
  go_wp2_with fail
  refine (lopen_any 4 w w (Below.refl _ _) (by omega) (by omega)).mono ?_
  rintro e w1 ⟨lb, b, F0, rfl, h0, hb0, hF0⟩
  have s0 := (lies_new 9 1 4 (by omega) (by omega) (by omega)).opened
  obtain ⟨L0, hL0⟩ : ∃ L, L = Lg.opened 1 4 0 ⟨[], []⟩ := ⟨_, rfl⟩
  obtain ⟨D0, hD0⟩ : ∃ D, D = Dk.new 9 := ⟨_, rfl⟩
  rw [show 2 * 4 + 1 = 9 from rfl, ← hL0, ← hD0] at h0
  rw [← hL0, ← hD0] at s0
  have r0 : L0.room = 192 := by rw [hL0]; rfl
  have f0 : D0.fuse = 0 := by rw [hD0]; rfl
  have o0 : D0.ops = 0 := by rw [hD0]; rfl
  have a0 : L0.at_ = 1 := by rw [hL0]; rfl
  have l0 : L0.bl = 4 := by rw [hL0]; rfl
  have H0 := hide h0
  have S0 := hide s0
  clear h0 s0 hb0 hF0 hL0 hD0
  go_wp2_with fail
  refine (H0.out.append_lit S0.out (by omega) f0 [97] 1 1 (1, 2) rfl (by omega) (by rw [r0]; decide)).mono ?_
  rintro e w2 ⟨L1, D1, hd1, F1, rfl, h1, _⟩
  have H1 := hide h1
  have K1 := hide hd1
  have r1 := hd1.room_eq
  have f1 := hd1.fuse0 f0
  have o1 := hd1.ops
  have a1 := hd1.at_
  have l1 := hd1.bl
  clear h1 hd1 H0 S0
  go_wp2_with fail
  refine (H1.out.append_lit K1.out.st (by omega) f1 [98] 1 1 (1, 2) rfl (by omega) (by rw [r1, r0]; decide)).mono ?_
  rintro e w3 ⟨L2, D2, hd2, F2, rfl, h2, _⟩
  have H2 := hide h2
  have K2 := hide hd2
  have r2 := hd2.room_eq
  have f2 := hd2.fuse0 f1
  have o2 := hd2.ops
  have a2 := hd2.at_
  have l2 := hd2.bl
  clear h2 hd2 H1 K1
  go_wp2_with fail
  refine (H2.out.snapshot_lit K2.out.st (by omega) f2 [115] 1 1 (1, 2) rfl (by omega) (by rw [r2, r1, r0]; decide)).mono ?_
  rintro e w4 ⟨L3, D3, hd3, F3, rfl, h3, _⟩
  have H3 := hide h3
  have K3 := hide hd3
  have r3 := hd3.room_eq
  have f3 := hd3.fuse0 f2
  have o3 := hd3.ops
  have a3 := hd3.at_
  have l3 := hd3.bl
  clear h3 hd3 H2 K2
  go_wp2_with fail
  refine (H3.out.append_lit K3.out.st (by omega) f3 [99] 1 1 (1, 2) rfl (by omega) (by rw [r3, r2, r1, r0]; decide)).mono ?_
  rintro e w5 ⟨L4, D4, hd4, F4, rfl, h4, _⟩
  have hl4 := hd4.st.lies
  rw [hd4.at_, a3, a2, a1, a0, hd4.bl, l3, l2, l1, l0] at hl4
  have H4 := hide h4
  have K4 := hide hl4
  clear h4 hd4 H3 K3 hl4
  go_wp2_with fail
  refine (open_lies (w0 := w) K4.out H4.out.disk H4.out.below H4.out.own).mono ?_
  rintro e w6 ⟨lb2, A, c, R, d, rfl, hA, hR, h6, _, hb6, _⟩
  have H6 := hide h6.below
  have HA := hide hA
  have HR := hide hR
  clear hA hR h6 H4 K4
  go_wp2_with fail
  refine (kof_any A _ c [115] w5.heap.size R 1 d [[99]] w6 rfl HA.out HR.out (by omega)).mono ?_
  rintro e w7 ⟨K, kcap, rfl, hk7, _, hb7⟩
  have H7 := hide (H6.out.trans (hb7.mono H6.out.size))
  have K7 := hide hk7
  clear hk7 hb7 H6 HA HR
  go_wp2_with fail
  refine (ksame_any [115] [115] K _ 1 1 kcap 1 [[99]] [[99]] _ (K7.out.fr (F := fun _ => False) ((Fr.refl _ _).alloc _) (fun _ _ h => h)) (krow_lit w7 [99]) (by omega) (by omega)).mono ?_
  rintro e w8 ⟨rfl, hb8⟩
  rw [show sameB [115] [115] [[99]] [[99]] = true by decide]
  have H8 := hide ((H7.out.alloc H7.out.size (.cells #[.string ⟨#[99]⟩] 9)).trans (hb8.mono (Nat.le_trans H7.out.size (by simp))))
  clear hb8 H7 K7
  go_wp2_with fail
  refine (sum_any _ 9 [49, 50, 51, 52, 53, 54, 55, 56, 57] _ (bytes_new w8 _ _ _) (by decide)).mono ?_
  rintro e w9 ⟨rfl, rfl⟩
  rw [crc_check]
  have H9 := hide (H8.out.alloc H8.out.size (.cells (B8s [49, 50, 51, 52, 53, 54, 55, 56, 57]).toArray 5 (9, 10)))
  clear H8
  go_wp2_with fail
  refine (need_any 5 _ (by omega) (by omega)).mono ?_
  rintro e w10 ⟨rfl, rfl⟩
  go_wp2
  go_ret
  exact ⟨rfl, H9.out⟩
end Go.Proofs.Ytbcpplndmndkiaa
