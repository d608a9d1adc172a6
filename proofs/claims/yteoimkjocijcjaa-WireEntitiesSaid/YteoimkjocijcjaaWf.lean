/- The laws of layer 3: their own examples. -/
import Derived.Test.YteoimkjocijcjaaWe
import Derived.Test.YteoimkjocijcjaaLaw
namespace Go.Proofs.Yteoimkjocijcjaa
open Go.RowKit

theorem wt_new (w : World) : Wt (w.alloc (.cells #[.slice none 0 0] 34)) w.heap.size (fun k => k = w.heap.size ∨ At none k) [] := ⟨none, 0, 0, Blk.new _ _ _, OwnB.nil _, rfl⟩
def exV : V := .mk 5 0 [] [] [.mk 1 1 [] [] [], .mk 3 1 [] [] []]
theorem exV_enc : encV exV = [5, 2, 1, 2, 3, 2] := by
  simp [exV, encV, encL, beginB, V.kind, V.els, V.n, V.ls, Lib.uvarint_small, Lib.zigzag]
theorem ex300 : Lib.uvarint 300 = [172, 2] := by
  rw [Lib.uvarint_big (by omega), Lib.uvarint_small (by omega)]
  rfl
/-- string(p) is the bytes' own. -/
theorem str_run {w : World} {A : Option Addr} {n c : Nat} {l : List UInt8} (hn : l.length = n) (h : Bytes w A l) : (convert 32 9 (.slice A n c)).run Try.prog w = .ok (.string ⟨l.toArray⟩) w :=
  run_str_bytes (P := Try.prog) _ 32 9 5 Try.underlying32 Try.underlying5 Try.underlying9 A n c l hn h
set_option maxRecDepth 100000 in
set_option maxHeartbeats 8000000 in
theorem awake_any (w : World) : Calls Try.prog 4 #[] w fun e w' => e = .returned (.bool true) ∧ Below w.heap.size w w' := by
  go_enter Try.func4, Try.ntmps4
  go_upto_region 4 with fail
  obtain ⟨b0, hb0⟩ : ∃ b, b = w.heap.size := ⟨_, rfl⟩
  obtain ⟨wx, hwx⟩ : ∃ wx, wx = ((w.alloc (.cells #[.slice none 0 0] 34)).alloc (.cells #[.slice none 0 0] 34)).alloc (.cells #[.int .u8 1, .int .i64 1, .string ⟨#[]⟩, .slice none 0 0, .slice none 0 0, .int .u8 3, .int .i64 1, .string ⟨#[]⟩, .slice none 0 0, .slice none 0 0] 27) := ⟨_, rfl⟩
  obtain ⟨w1, hw1⟩ : ∃ w1, w1 = wx.alloc (.cells #[.int .u8 5, .int .i64 0, .string ⟨#[]⟩, .slice none 0 0, .slice (some ⟨b0 + 1 + 1, 0, none⟩) 2 2] 27) := ⟨_, rfl⟩
  have hsx : wx.heap.size = b0 + 3 := by rw [hwx, hb0]; simp
  have hs1 : w1.heap.size = b0 + 4 := by rw [hw1]; simp; exact hsx
  have ha : Wt w1 b0 (fun k => k = b0 ∨ At none k) [] := by
    rw [hw1, hwx, hb0]
    exact (((wt_new w).nofr ((Fr.refl _ _).alloc _)).nofr ((Fr.refl _ _).alloc _)).nofr ((Fr.refl _ _).alloc _)
  have hbt : Wt w1 (b0 + 1) (fun k => k = b0 + 1 ∨ At none k) [] := by
    have h := wt_new (w.alloc (.cells #[.slice none 0 0] 34))
    rw [World.size_alloc, ← hb0] at h
    rw [hw1, hwx]
    exact (h.nofr ((Fr.refl _ _).alloc _)).nofr ((Fr.refl _ _).alloc _)
  have hbe : Blk w1 (b0 + 1 + 1) 27 #[.int .u8 1, .int .i64 1, .string ⟨#[]⟩, .slice none 0 0, .slice none 0 0, .int .u8 3, .int .i64 1, .string ⟨#[]⟩, .slice none 0 0, .slice none 0 0] := by
    have h := Blk.new ((w.alloc (.cells #[.slice none 0 0] 34)).alloc (.cells #[.slice none 0 0] 34)) 27 #[.int .u8 1, .int .i64 1, .string ⟨#[]⟩, .slice none 0 0, .slice none 0 0, .int .u8 3, .int .i64 1, .string ⟨#[]⟩, .slice none 0 0, .slice none 0 0]
    rw [World.size_alloc, World.size_alloc, ← hb0] at h
    rw [hw1, hwx]
    exact h.alloc _
  have hbv : Blk w1 (b0 + 1 + 1 + 1) 27 #[.int .u8 5, .int .i64 0, .string ⟨#[]⟩, .slice none 0 0, .slice (some ⟨b0 + 1 + 1, 0, none⟩) 2 2] := by
    have h := Blk.new wx 27 #[.int .u8 5, .int .i64 0, .string ⟨#[]⟩, .slice none 0 0, .slice (some ⟨b0 + 1 + 1, 0, none⟩) 2 2]
    rw [hsx] at h
    rw [hw1]
    exact h
  have hvc : VC w1 (fun k => k = b0 + 1 + 1) exV [.int .u8 5, .int .i64 0, .string ⟨#[]⟩, .slice none 0 0, .slice (some ⟨b0 + 1 + 1, 0, none⟩) 2 2] := by
    refine VC.mk (k := 5) (n := 0) (s := []) (ks := []) (cs := fun j => if j = 0 then [.int .u8 1, .int .i64 1, .string ⟨#[]⟩, .slice none 0 0, .slice none 0 0] else [.int .u8 3, .int .i64 1, .string ⟨#[]⟩, .slice none 0 0, .slice none 0 0]) (by omega) ⟨by omega, by omega⟩ (by simp) (by simp) (by simp) (by simp) (.inl rfl) (.inr ⟨b0 + 1 + 1, 0, rfl, rfl, ?_⟩) ?_
    · intro j x hx
      match j, hx with
      | 0, _ =>
        refine hbe.range _ _ (fun i u hu => ?_)
        match i, hu with
        | 0, hu => exact hu
        | 1, hu => exact hu
        | 2, hu => exact hu
        | 3, hu => exact hu
        | 4, hu => exact hu
      | 1, _ =>
        refine hbe.range _ _ (fun i u hu => ?_)
        match i, hu with
        | 0, hu => exact hu
        | 1, hu => exact hu
        | 2, hu => exact hu
        | 3, hu => exact hu
        | 4, hu => exact hu
    · intro j x hx
      match j, hx with
      | 0, hx =>
        simp only [List.getElem?_cons_zero, Option.some.injEq] at hx
        subst hx
        exact VC.mk (k := 1) (n := 1) (s := []) (ks := []) (ls := []) (cs := fun _ => []) (by omega) ⟨by omega, by omega⟩ (by simp) (by simp) (by simp) (by simp) (.inl rfl) (.inl rfl) (by simp)
      | 1, hx =>
        simp only [List.getElem?_cons_succ, List.getElem?_cons_zero, Option.some.injEq] at hx
        subst hx
        exact VC.mk (k := 3) (n := 1) (s := []) (ks := []) (ls := []) (cs := fun _ => []) (by omega) ⟨by omega, by omega⟩ (by simp) (by simp) (by simp) (by simp) (.inl rfl) (.inl rfl) (by simp)
  have hbel : Below w.heap.size w w1 := by
    rw [hw1, hwx]
    exact ((((Below.refl _ _).alloc (Nat.le_refl _) _).alloc (by simp) _).alloc (by simp; omega) _).alloc (by simp; omega) _
  have hge : w.heap.size ≤ b0 := by omega
  rw [← hb0, ← hwx, ← hw1]
  have hcu := wuint_any b0 _ [] 300 w1 ha (by omega) (by simp)
  rw [List.nil_append, ex300] at hcu
  have Hcu := hide hcu
  have Hbt := hide hbt
  have Hbe := hide hbe
  have Hbv := hide hbv
  have Hvc := hide hvc
  have Hbel := hide hbel
  have Hs1 := hide hs1
  clear hcu hbt hbe hbv hvc hbel hwx hw1 hsx hs1 ha hb0
  go_wp2_with fail
  refine Hcu.out.mono ?_
  rintro e w2 ⟨F2, rfl, h2, f2, n2⟩
  have g2 : Fr (fun k => k = b0) w1 w2 := f2.mono (fun k _ h => h.elim id (fun h => absurd h At.none_not))
  have hcd : Calls Try.prog 8 #[.pointer (some ⟨b0, 0, none⟩)] w2 (ClonePost [172, 2] 2 w2) := done_any b0 F2 [172, 2] w2 h2 (by simp)
  have Hcd := hide hcd
  have G2 := hide g2
  clear h2 f2 n2 g2 hcd Hcu
  go_wp2_with fail
  refine Hcd.out.mono ?_
  rintro e w3 ⟨A3, c3, rfl, ho3, hA3, hb3⟩
  have hst := str_run (n := 2) rfl ho3.bytes (c := c3)
  have g3 : Fr (fun k => k = b0) w1 w3 := G2.out.trans' (Fr.of_below (F := fun _ => False) hb3) (fun _ _ h => h.elim)
  have hbv3 := Hbv.out.fr g3 (by omega)
  have v0 := hbv3.cell 0
  have v1 := hbv3.cell 1
  have v2 := hbv3.cell 2
  have v3 := hbv3.cell 3
  have v4 := hbv3.cell 4
  have hcv := wvalue_any (b0 + 1) _ (fun k => k = b0 + 1 + 1) [] exV _ w3 (Hbt.out.fr g3 (fun k hk e => by subst e; rcases hk with h | h; omega; exact At.none_not h)) (Hvc.out.fr g3 (fun k hk e => by omega)) (fun k hk => ⟨fun h => by subst hk; rcases h with h | h; omega; exact At.none_not h, by have := g3.size; have := Hs1.out; omega⟩) (by rw [exV_enc]; simp)
  rw [List.nil_append, exV_enc] at hcv
  have Hcv := hide hcv
  have G3 := hide g3
  clear ho3 hA3 hb3 g3 hbv3 hcv Hcd G2
  go_wp2_with fail
  refine Hcv.out.mono ?_
  rintro e w4 ⟨F4, rfl, h4, f4, n4⟩
  have g4 : Fr (fun k => k = b0 + 1) w3 w4 := f4.mono (fun k _ h => h.elim id (fun h => absurd h At.none_not))
  have hcd : Calls Try.prog 8 #[.pointer (some ⟨b0 + 1, 0, none⟩)] w4 (ClonePost [5, 2, 1, 2, 3, 2] 6 w4) := done_any (b0 + 1) F4 [5, 2, 1, 2, 3, 2] w4 h4 (by simp)
  have Hcd := hide hcd
  have hb4 : Below w.heap.size w w4 := (Hbel.out.trans (G3.out.below (by have := Hs1.out; omega) (fun k hk => by omega))).trans (g4.below (by have := G3.out.size; have := Hs1.out; omega) (fun k hk => by omega))
  have Hb4 := hide hb4
  clear h4 f4 n4 g4 hcd Hcv v0 v1 v2 v3 v4 hst hb4
  go_wp2_with fail
  refine Hcd.out.mono ?_
  rintro e w5 ⟨A5, c5, rfl, ho5, hA5, hb5⟩
  have hst := str_run (n := 6) rfl ho5.bytes (c := c5)
  have Hb5 := hide (Hb4.out.trans (hb5.mono Hb4.out.size))
  clear ho5 hA5 hb5 Hcd
  go_wp2
  go_ret
  exact ⟨rfl, Hb5.out⟩
end Go.Proofs.Yteoimkjocijcjaa
