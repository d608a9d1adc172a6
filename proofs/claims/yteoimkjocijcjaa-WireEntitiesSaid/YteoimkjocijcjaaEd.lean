/- Package columbaryref03: Entity, SameEntity. -/
import Derived.Test.YteoimkjocijcjaaEb
import Derived.Test.YteoimkjocijcjaaVt
import Derived.Test.YteoimkjocijcjaaVh
import Derived.Test.YteoimkjocijcjaaRb
namespace Go.Proofs.Yteoimkjocijcjaa
open Go.RowKit

theorem buildS (KA LA : Option Addr) (n c m d : Nat) (w : World) : (Instr.build 27 #[(3, .slice KA n c), (4, .slice LA m d)]).run Try.prog w = .ok (.agg #[.int .u8 0, .int .i64 0, .string ⟨#[]⟩, .slice KA n c, .slice LA m d]) w := run_build w _ _ _ (by kernel_rfl)
theorem VC.kind0 {w : World} {G : Nat → Prop} {ks : List (List UInt8)} {ls : List V} {a b c d e : Value} (h : VC w G (.mk 6 0 [] ks ls) [a, b, c, d, e]) : VC w G (.mk 0 0 [] ks ls) [.int .u8 0, .int .i64 0, sv [], d, e] := by
  cases h with
  | mk hk hn hs hks hkl hll hK hA hL => exact .mk (by omega) hn hs hks hkl hll hK hA hL
set_option maxRecDepth 100000 in
set_option maxHeartbeats 4000000 in
theorem r03entity_any (typ eid : List UInt8) (ks : List (List UInt8)) (ls : List V) (KA LA : Option Addr) (kc lc : Nat) (w : World) (hv : VC w (Old w) (.mk 6 0 [] ks ls) [.int .u8 6, .int .i64 0, sv [], .slice KA ks.length kc, .slice LA ls.length lc]) (hf : formP 24 (.mk 6 0 [] ks ls)) (ht : typ.length ≤ 1000) (hi : eid.length ≤ 1000) (hl : (encV (.mk 6 0 [] ks ls)).length ≤ 1000000000) :
    Calls Try.prog 11 #[.agg #[sv typ, sv eid, .slice KA ks.length kc, .slice LA ls.length lc]] w (ClonePost (entB typ eid (.mk 6 0 [] ks ls)) (entB typ eid (.mk 6 0 [] ks ls)).length w) := by
  have hxb := Blk.new w 25 #[sv typ, sv eid, .slice KA ks.length kc, .slice LA ls.length lc]
  have hb1 := (Below.refl w.heap.size w).alloc (Nat.le_refl _) (.cells #[sv typ, sv eid, .slice KA ks.length kc, .slice LA ls.length lc] 25)
  obtain ⟨w1, hw1⟩ : ∃ w1, w.alloc (.cells #[sv typ, sv eid, .slice KA ks.length kc, .slice LA ls.length lc] 25) = w1 := ⟨_, rfl⟩
  rw [hw1] at hxb hb1
  have htb : ∀ s : List UInt8, s.length ≤ 1000 → (textB s).length ≤ 2000 := fun s hs => by
    have := Lib.uvarint_length64 (x := s.length) (by omega)
    rw [textB, List.length_append]
    omega
  obtain ⟨n1, hn1⟩ : ∃ n, (textB typ).length = n := ⟨_, rfl⟩
  obtain ⟨n2, hn2⟩ : ∃ n, (textB eid).length = n := ⟨_, rfl⟩
  obtain ⟨n3, hn3⟩ : ∃ n, (encV (.mk 6 0 [] ks ls)).length = n := ⟨_, rfl⟩
  have h1 := htb typ ht
  have h2 := htb eid hi
  have h3 := hl
  rw [hn1] at h1
  rw [hn2] at h2
  rw [hn3] at h3
  have Hn := hide (show _ ∧ _ ∧ _ from ⟨hn1, hn2, hn3⟩)
  have Hm := hide (show n1 ≤ 2000 ∧ n2 ≤ 2000 ∧ n3 ≤ 1000000000 from ⟨h1, h2, h3⟩)
  have Hl := hide hl
  have Hti := hide (show typ.length ≤ 1000 ∧ eid.length ≤ 1000 from ⟨ht, hi⟩)
  have Hf := hide hf
  have Hv1 := hide (hv.later hb1)
  have B1 := hide hb1
  have Hxb := hide hxb
  have Hs1 := hide (show w1.heap.size = w.heap.size + 1 by rw [← hw1]; simp)
  have Hv := hide hv
  have b0 := hxb.cell 0
  clear hv hf ht hi hl hxb hb1 htb hn1 hn2 hn3 h1 h2 h3
  go_enter Try.func11, Try.ntmps11
  go_wp2_with fail
  refine (rtext_any typ w1 (by have := Hti.out; omega)).mono ?_
  rintro e w2 ⟨A2, c2, rfl, ho2, hA2, hb2⟩
  have B2 := hide (B1.out.trans (hb2.mono B1.out.size))
  have hx2 := Hxb.out.below hb2 Hxb.out.lt
  have Ho2 := hide ho2
  have HA2 := hide hA2
  have Hx2 := hide hx2
  have Hv2 := hide (Hv1.out.later hb2)
  have b1 := hx2.cell 1
  rw [Hn.out.1] at Ho2 ⊢
  clear ho2 hA2 hb2 hx2 b0 hw1 Hxb
  go_wp2_with fail
  refine (rtext_any eid w2 (by have := Hti.out; omega)).mono ?_
  rintro e w3 ⟨A3, c3, rfl, ho3, hA3, hb3⟩
  have B3 := hide (B2.out.trans (hb3.mono B2.out.size))
  have Ho3 := hide ho3
  have Ho23 := hide (Ho2.out.below hb3)
  have hx3 := Hx2.out.below hb3 Hx2.out.lt
  have Hx3 := hide hx3
  have Hv3 := hide (Hv2.out.later hb3)
  have Hs23 := hide hb3.size
  rw [Hn.out.2.1] at Ho3 ⊢
  clear ho3 hA3 hb3 hx3 b1 Ho2 Hx2
  go_upto_region 3 with (refine wpList_append_bytes rfl (.tmp 7) (.tmp 10) 32 rfl Try.underlying32 infoU8 A2 _ c2 _ rfl Ho23.out A3 _ c3 _ rfl Hn.out.2.1 Ho3.out.bytes (by have := Hm.out; have := Hn.out; omega) ?_; intro A4 c4 w4 ho4 hf4 hn4 hs4; have Ho4 := hide ho4; have Hf4 := hide hf4; have Hn4 := hide hn4; clear ho4 hf4 hn4 hs4)
  have Hg2 := hide (show ∀ k, At A2 k → w.heap.size + 1 ≤ k from fun k hk => by have := HA2.out k hk; have := Hs1.out; omega)
  have hA4 : ∀ k, At A4 k → w.heap.size ≤ k := fun k hk => (Hn4.out k hk).elim (fun h => by have := Hg2.out k h; omega) (fun h => Nat.le_trans B3.out.size h)
  have B4 := hide (B3.out.trans (Hf4.out.below B3.out.size (fun k hk => by have := Hg2.out k hk; omega)))
  have hx4 := Hx3.out.fr Hf4.out (fun h => by have := Hg2.out _ h; omega)
  have HA4 := hide hA4
  have Hv4 := hide (Hv.out.later B4.out)
  have b2 := hx4.cell 2
  have b3 := hx4.cell 3
  have be := buildE KA LA ks.length kc ls.length lc
  obtain ⟨m4, hm4⟩ : ∃ m, n1 + n2 = m := ⟨_, rfl⟩
  rw [hm4] at Ho4 ⊢
  have Hm4 := hide hm4
  clear hA4 hx4 hm4 Ho3 Ho23 Hf4 Hn4 Hx3
  go_wp2_with fail
  refine (rval_any 24 (.mk 6 0 [] ks ls) [.int .u8 6, .int .i64 0, sv [], .slice KA ks.length kc, .slice LA ls.length lc] w4 Hv4.out Hf.out Hl.out).mono ?_
  rintro e w5 ⟨A5, c5, rfl, ho5, hA5, hb5⟩
  have B5 := hide (B4.out.trans (hb5.mono B4.out.size))
  have Ho5 := hide ho5
  have Ho45 := hide (Ho4.out.below hb5)
  rw [Hn.out.2.2] at Ho5 ⊢
  clear ho5 hA5 hb5 b2 b3 be Ho4
  go_wp2_with (refine wpList_append_bytes rfl (.tmp 12) (.tmp 18) 32 rfl Try.underlying32 infoU8 A4 _ c4 _ rfl Ho45.out A5 _ c5 _ rfl Hn.out.2.2 Ho5.out.bytes (by have := Hm.out; have := Hm4.out; have := Hn.out; omega) ?_; intro A6 c6 w6 ho6 hf6 hn6 hs6; have Ho6 := hide ho6; have Hf6 := hide hf6; have Hn6 := hide hn6; clear ho6 hf6 hn6 hs6)
  go_ret
  have hL : entB typ eid (.mk 6 0 [] ks ls) = textB typ ++ textB eid ++ encV (.mk 6 0 [] ks ls) := by rw [entB, List.append_assoc]
  have hlen : (entB typ eid (.mk 6 0 [] ks ls)).length = m4 + n3 := by rw [hL, List.length_append, List.length_append, Hn.out.1, Hn.out.2.1, Hn.out.2.2, Hm4.out]
  rw [hlen, hL]
  exact ⟨A6, c6, rfl, Ho6.out, fun k hk => (Hn6.out k hk).elim (HA4.out k) (fun h => Nat.le_trans B5.out.size h), B5.out.trans (Hf6.out.below B5.out.size HA4.out)⟩
set_option maxRecDepth 100000 in
set_option maxHeartbeats 4000000 in
theorem sameEnt_any (typ eid : List UInt8) (ks : List (List UInt8)) (ls : List V) (KA LA KB LB : Option Addr) (kc lc kd ld : Nat) (w : World) (hv : VC w (Old w) (.mk 6 0 [] ks ls) [.int .u8 6, .int .i64 0, sv [], .slice KA ks.length kc, .slice LA ls.length lc]) (hu : VC w (Old w) (.mk 6 0 [] ks ls) [.int .u8 6, .int .i64 0, sv [], .slice KB ks.length kd, .slice LB ls.length ld]) (hn : nodes (.mk 6 0 [] ks ls) ≤ 3000) :
    Calls Try.prog 13 #[.agg #[sv typ, sv eid, .slice KA ks.length kc, .slice LA ls.length lc], .agg #[sv typ, sv eid, .slice KB ks.length kd, .slice LB ls.length ld]] w fun e w' => e = .returned (.bool true) ∧ Below w.heap.size w w' := by
  have hxb := Blk.new w 25 #[sv typ, sv eid, .slice KA ks.length kc, .slice LA ls.length lc]
  have hb1 := (Below.refl w.heap.size w).alloc (Nat.le_refl _) (.cells #[sv typ, sv eid, .slice KA ks.length kc, .slice LA ls.length lc] 25)
  obtain ⟨w1, hw1⟩ : ∃ w1, w.alloc (.cells #[sv typ, sv eid, .slice KA ks.length kc, .slice LA ls.length lc] 25) = w1 := ⟨_, rfl⟩
  rw [hw1] at hxb hb1
  have hs1 : w1.heap.size = w.heap.size + 1 := by rw [← hw1]; simp
  have hx2 := hxb.alloc (.cells #[sv typ, sv eid, .slice KB ks.length kd, .slice LB ls.length ld] 25)
  have hy2 := Blk.new w1 25 #[sv typ, sv eid, .slice KB ks.length kd, .slice LB ls.length ld]
  have hb2 : Below w.heap.size w (w1.alloc (.cells #[sv typ, sv eid, .slice KB ks.length kd, .slice LB ls.length ld] 25)) := hb1.alloc (by omega) _
  obtain ⟨w2, hw2⟩ : ∃ w2, w1.alloc (.cells #[sv typ, sv eid, .slice KB ks.length kd, .slice LB ls.length ld] 25) = w2 := ⟨_, rfl⟩
  rw [hw2] at hx2 hy2 hb2
  rw [hs1] at hy2
  have hww : (w.alloc (.cells #[sv typ, sv eid, .slice KA ks.length kc, .slice LA ls.length lc] 25)).alloc (.cells #[sv typ, sv eid, .slice KB ks.length kd, .slice LB ls.length ld] 25) = w2 := by rw [hw1, hw2]
  have p0 := hx2.cell 0
  have q0 := hy2.cell 0
  have p1 := hx2.cell 1
  have q1 := hy2.cell 1
  have p2 := hx2.cell 2
  have q2 := hy2.cell 2
  have p3 := hx2.cell 3
  have q3 := hy2.cell 3
  have b1 := buildS KA LA ks.length kc ls.length lc
  have b2 := buildS KB LB ks.length kd ls.length ld
  have B2 := hide hb2
  have Hsm := hide (show Calls Try.prog 26 #[.agg #[.int .u8 0, .int .i64 0, .string ⟨#[]⟩, .slice KA ks.length kc, .slice LA ls.length lc], .agg #[.int .u8 0, .int .i64 0, .string ⟨#[]⟩, .slice KB ks.length kd, .slice LB ls.length ld]] w2 (SamePost (.mk 0 0 [] ks ls) (.mk 0 0 [] ks ls) w2) from r3same_any 3000 _ _ _ _ w2 (by rw [nodes_eq] at hn ⊢; exact hn) (hv.later hb2).kind0 (hu.later hb2).kind0)
  clear hv hu hn hxb hb1 hw1 hs1 hx2 hy2 hb2 hw2
  go_enter Try.func13, Try.ntmps13
  go_wp2_with fail
  refine Hsm.out.mono ?_
  rintro e w3 ⟨b, rfl, hb, hbel⟩
  obtain rfl : b = true := hb.2 rfl
  have B3 := hide (B2.out.trans (hbel.mono B2.out.size))
  clear hb hbel
  go_wp2
  go_ret
  exact ⟨rfl, B3.out⟩
end Go.Proofs.Yteoimkjocijcjaa
