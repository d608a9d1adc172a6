/-
  Any entity with Form as bytes, and back; its fields rise: WireEntities answers true for any entity; no condition.
-/
import Derived.Test.YteoimkjocijcjaaWk
import Derived.Test.YteoimkjocijcjaaEc
import Derived.Test.YteoimkjocijcjaaEd
import Derived.Test.YteoimkjocijcjaaVe
import Derived.Test.YteoimkjocijcjaaWf
import Derived.Test.YteoimkjocijcjaaRf
namespace Go.Proofs.Yteoimkjocijcjaa
open Go.RowKit Go.ChangeShapes Go.WideShapes Go.ChangeAt

theorem blk5 {w0 W : World} {g : Nat} {x0 x1 x2 x3 x4 : Value} (hb : Blk w0 g 27 #[x0, x1, x2, x3, x4]) (h : Below w0.heap.size w0 W) : W.cell? ⟨g, 0, none⟩ = some x0 ∧ W.cell? ⟨g, 1, none⟩ = some x1 ∧ W.cell? ⟨g, 2, none⟩ = some x2 ∧ W.cell? ⟨g, 3, none⟩ = some x3 ∧ W.cell? ⟨g, 4, none⟩ = some x4 := by
  have hb' := hb.below h hb.lt
  exact ⟨hb'.cell 0, hb'.cell 1, hb'.cell 2, hb'.cell 3, hb'.cell 4⟩

theorem blk4 {w0 W : World} {g : Nat} {x0 x1 x2 x3 : Value} (hb : Blk w0 g 25 #[x0, x1, x2, x3]) (h : Below w0.heap.size w0 W) : W.cell? ⟨g, 0, none⟩ = some x0 ∧ W.cell? ⟨g, 1, none⟩ = some x1 ∧ W.cell? ⟨g, 2, none⟩ = some x2 ∧ W.cell? ⟨g, 3, none⟩ = some x3 := by
  have hb' := hb.below h hb.lt
  exact ⟨hb'.cell 0, hb'.cell 1, hb'.cell 2, hb'.cell 3⟩
theorem wp_run_valS {P : Program} {o : Oper} {a : Act} {w : World} {K : Act → World → Prop} {Q : Exit → Act → World → Prop} {v : Value} (hr : (execOp a.eval o).run P w = .ok (.value v) w) (h : K (a.put o.dst v) w) : o.wp P a w K Q := by
  unfold Oper.wp
  rw [hr]
  exact h
section
variable {P : Program} {ops : Array Oper} {Q : Exit → Act → World → Prop} {S : World → Prop}
theorem wpTree_skip {K : Act → World → Prop} {o : Oper} {r : TreeO} {a : Act} {w : World} (hw : Region.wanted o (yielded ops a.tmps) = false) (h : wpTree P ops Q S K r (a.put o.dst undef) w) : wpTree P ops Q S K (.read o r) a w :=
  ⟨undef, .inr ⟨hw, rfl⟩, h⟩
theorem wpEff_skip {N : Act → World → Prop} {o : Oper} {a : Act} {w : World} (hw : Region.wanted o (yielded ops a.tmps) = false) (hS : S w) (h : N (a.put o.dst undef) w) : wpEff P ops Q S o N a w := by
  unfold wpEff
  rw [if_neg (by rw [hw]; decide)]
  exact ⟨hS, h⟩
end
theorem IncP.mono {ks : List (List UInt8)} {i j : Nat} (h : IncP ks j) (hij : i ≤ j) : IncP ks i := fun m x y hm => h m x y (by omega)

set_option maxRecDepth 100000 in
set_option maxHeartbeats 8000000 in
theorem went_any (typ eid : List UInt8) (ks : List (List UInt8)) (ls : List V) (KA LA : Option Addr) (kc lc : Nat) (w : World) (hX : VC w (Old w) (.mk 6 0 [] ks ls) [.int .u8 6, .int .i64 0, sv [], .slice KA ks.length kc, .slice LA ls.length lc]) (ht : typ.length ≤ 9223372036854775807) (hi : eid.length ≤ 9223372036854775807) :
    Calls Try.prog 3 #[.agg #[sv typ, sv eid, .slice KA ks.length kc, .slice LA ls.length lc]] w fun e w' => e = .returned (.bool true) ∧ Below w.heap.size w w' := by
  have hx := Blk.new w 25 #[sv typ, sv eid, .slice KA ks.length kc, .slice LA ls.length lc]
  have hb0 := (Below.refl w.heap.size w).alloc (Nat.le_refl _) (.cells #[sv typ, sv eid, .slice KA ks.length kc, .slice LA ls.length lc] 25)
  obtain ⟨w0, hw0⟩ : ∃ w0, w.alloc (.cells #[sv typ, sv eid, .slice KA ks.length kc, .slice LA ls.length lc] 25) = w0 := ⟨_, rfl⟩
  rw [hw0] at hx hb0
  have hs0 : w0.heap.size = w.heap.size + 1 := by rw [← hw0]; simp
  have hx1 := hx.alloc (.cells #[.int .u8 6, .int .i64 0, sv [], .slice KA ks.length kc, .slice LA ls.length lc] 27)
  have ha1 := Blk.new w0 27 #[.int .u8 6, .int .i64 0, sv [], .slice KA ks.length kc, .slice LA ls.length lc]
  have hb1 : Below w.heap.size w (w0.alloc (.cells #[.int .u8 6, .int .i64 0, sv [], .slice KA ks.length kc, .slice LA ls.length lc] 27)) := hb0.alloc hb0.size _
  obtain ⟨w1, hw1⟩ : ∃ w1, w0.alloc (.cells #[.int .u8 6, .int .i64 0, sv [], .slice KA ks.length kc, .slice LA ls.length lc] 27) = w1 := ⟨_, rfl⟩
  rw [hw1] at hx1 ha1 hb1
  have Hb1 := hide hb1
  have Hle := hide (show w.heap.size ≤ w1.heap.size from hb1.size)
  have HX := hide (fun W h => blk4 (W := W) hx1 h)
  have HA := hide (fun W h => blk5 (W := W) ha1 h)
  have HVX := hide (fun (W : World) (h : Below w1.heap.size w1 W) => (hX.later hb1).later h)
  have hkl : ks.length ≤ 9223372036854775807 := by cases hX; assumption
  have HK := hide hX.srow
  have HXV := hide hX
  have c2 := hx.cell 2
  have c3 := hx.cell 3
  have be := buildE KA LA ks.length kc ls.length lc
  have za := zeroV
  clear hx hb0 hx1 ha1 hb1 hX
  go_enter Try.func3, Try.ntmps3
  go_upto_region 2 with (first
    | (refine wpList_store_mid rfl 27 (.tmp 3) (.tmp 14) rfl w0.heap.size 0 #[.int .u8 6, .int .i64 0, sv [], .slice KA ks.length kc, .slice LA ls.length lc] rfl rfl (there_new _ _ _ _ (by show 5 ≤ 5; omega)) (by kernel_rfl) (by rfl) ?_
       rw [show (#[.int .u8 6, .int .i64 0, sv [], .slice KA ks.length kc, .slice LA ls.length lc] : Array Value).toList = [.int .u8 6, .int .i64 0, sv [], .slice KA ks.length kc, .slice LA ls.length lc] from rfl, setCells_new _ _ _ _ (by rfl)]))
  have hw1' : w0.alloc (.cells [.int .u8 6, .int .i64 0, sv [], .slice KA ks.length kc, .slice LA ls.length lc].toArray 27) = w1 := hw1
  try rw [hw1']
  clear c2 c3 be hw0 hw1 hw1'
  rw [hs0] at HA
  clear hs0
  go_wp2_with fail
  refine (awake_any w1).mono ?_
  rintro e w2 ⟨rfl, hb2⟩
  have B2 := hide hb2
  clear hb2
  obtain ⟨qa0, qa1, qa2, qa3, qa4⟩ := HA.out w2 B2.out
  have hc0 := great_any (.mk 6 0 [] ks ls) _ w2 (HVX.out w2 B2.out)
  have Hc0 := hide hc0
  clear hc0
  go_wp2_with fail
  refine Hc0.out.mono ?_
  rintro e w3 ⟨b0, rfl, h0, hb3⟩
  have B3 := hide (B2.out.trans (hb3.mono B2.out.size))
  have H0 := hide h0
  clear hb3 h0 Hc0 qa0 qa1 qa2 qa3 qa4
  cases b0 with
  | true =>
    go_wp2_with fail
    refine (awake_any w3).mono ?_
    rintro e wx ⟨rfl, hbx⟩
    have Hfx := hide (Hb1.out.trans ((B3.out.trans (hbx.mono B3.out.size)).mono Hle.out))
    clear hbx
    go_wp2
    go_ret
    exact ⟨rfl, Hfx.out⟩
  | false =>
  obtain ⟨qa0, qa1, qa2, qa3, qa4⟩ := HA.out w3 B3.out
  have hc1 : Calls Try.prog 6 #[.agg [.int .u8 6, .int .i64 0, sv [], .slice KA ks.length kc, .slice LA ls.length lc].toArray, .int .i64 0] w3 (FPost 24 (.mk 6 0 [] ks ls) w3) := form_any 24 0 (.mk 6 0 [] ks ls) [.int .u8 6, .int .i64 0, sv [], .slice KA ks.length kc, .slice LA ls.length lc] w3 (by omega) (HVX.out w3 B3.out)
  have Hc1 := hide hc1
  clear hc1
  go_wp2_with fail
  refine Hc1.out.mono ?_
  rintro e w4 ⟨b1, rfl, h1, hb4⟩
  have B4 := hide (B3.out.trans (hb4.mono B3.out.size))
  have H1 := hide h1
  clear hb4 h1 Hc1 qa0 qa1 qa2 qa3 qa4
  cases b1 with
  | false =>
    go_wp2_with fail
    refine (awake_any w4).mono ?_
    rintro e wx ⟨rfl, hbx⟩
    have Hfx := hide (Hb1.out.trans ((B4.out.trans (hbx.mono B4.out.size)).mono Hle.out))
    clear hbx
    go_wp2
    go_ret
    exact ⟨rfl, Hfx.out⟩
  | true =>
  obtain ⟨qx0, qx1, qx2, qx3⟩ := HX.out w4 B4.out
  by_cases e1 : 32 < typ.length
  case pos =>
    go_wp2_with fail
    refine (awake_any w4).mono ?_
    rintro e wx ⟨rfl, hbx⟩
    have Hfx := hide (Hb1.out.trans ((B4.out.trans (hbx.mono B4.out.size)).mono Hle.out))
    clear hbx
    go_wp2
    go_ret
    exact ⟨rfl, Hfx.out⟩
  by_cases e2 : 200 < eid.length
  case pos =>
    go_wp2_with fail
    refine (awake_any w4).mono ?_
    rintro e wx ⟨rfl, hbx⟩
    have Hfx := hide (Hb1.out.trans ((B4.out.trans (hbx.mono B4.out.size)).mono Hle.out))
    clear hbx
    go_wp2
    go_ret
    exact ⟨rfl, Hfx.out⟩
  have Hti := hide (show typ.length ≤ 32 ∧ eid.length ≤ 200 from ⟨by omega, by omega⟩)
  have HFX := hide (H1.out (by simp))
  have Hnx := hide (H0.out (by simp))
  have Hlv := hide (show (encV (.mk 6 0 [] ks ls)).length ≤ 1000000 by have h1 := enc_len 24 (.mk 6 0 [] ks ls) HFX.out ⟨_, HVX.out _ B4.out⟩; have := Hnx.out; omega)
  obtain ⟨LX, hLX⟩ : ∃ LX, entB typ eid (.mk 6 0 [] ks ls) = LX := ⟨_, rfl⟩
  have hlx : LX.length ≤ 1100000 := by
    have htb : ∀ s : List UInt8, s.length ≤ 1000 → (textB s).length ≤ 2000 := fun s hs => by
      have := Lib.uvarint_length64 (x := s.length) (by omega)
      rw [textB, List.length_append]
      omega
    have h1 := htb typ (by omega)
    have h2 := htb eid (by omega)
    have := Hlv.out
    rw [← hLX, entB, List.length_append, List.length_append]
    omega
  have Hlx := hide hlx
  have HLX := hide hLX
  clear hLX hlx
  go_upto_region 5 with fail
  clear e1 e2 ht hi qx0 qx1 qx2 qx3
  obtain ⟨w5, hw5⟩ : ∃ w5, w4.alloc (.cells #[.slice none 0 0] 34) = w5 := ⟨_, rfl⟩
  have hwt : Wt w5 w4.heap.size (fun k => k = w4.heap.size ∨ At none k) [] := by rw [← hw5]; exact wt_new w4
  have hb5 : Below w4.heap.size w4 w5 := by rw [← hw5]; exact (Below.refl _ _).alloc (Nat.le_refl _) _
  have hsz5 : w5.heap.size = w4.heap.size + 1 := by rw [← hw5]; simp
  rw [hw5]
  have hB5 := B4.out.trans (hb5.mono B4.out.size)
  obtain ⟨qx0, qx1, qx2, qx3⟩ := HX.out w5 hB5
  have hwv := wentity_any w4.heap.size (fun k => k = w4.heap.size ∨ At none k) (Old w4) [] typ eid ks ls KA LA kc lc w5 hwt ((HVX.out w4 B4.out).fr (F := fun _ => False) (by rw [← hw5]; exact (Fr.refl _ _).alloc _) (fun _ _ h => h)) (fun k hk => ⟨fun h => h.elim (fun e => by have : k < w4.heap.size := hk; omega) (fun h => absurd h At.none_not), by have : k < w4.heap.size := hk; omega⟩) (by have := Hti.out; omega) (by have := Hti.out; omega) (by have := Hlv.out; rw [List.length_nil]; omega)
  rw [List.nil_append, HLX.out] at hwv
  have Hwv := hide hwv
  have HB5 := hide hB5
  clear hwv hB5 hb5 hwt hw5 hsz5
  go_wp2_with fail
  refine Hwv.out.mono ?_
  rintro e wa ⟨Fa, rfl, hwta, hfa, hna⟩
  have hBa : Below w1.heap.size w1 wa := HB5.out.trans (hfa.below HB5.out.size (fun k hk => hk.elim (fun e => by have := B4.out.size; omega) (fun h => absurd h At.none_not)))
  have Hd := hide (done_any w4.heap.size Fa LX wa hwta (by have := Hlx.out; omega))
  have HBa := hide hBa
  clear hwta hfa hna hBa Hwv qx0 qx1 qx2 qx3
  go_wp2_with fail
  refine Hd.out.mono ?_
  rintro e w6 ⟨Ap, cp, rfl, hop, hAp, hb6⟩
  have HOp := hide hop
  have HB6 := hide (HBa.out.trans (hb6.mono HBa.out.size))
  clear hop hAp hb6 Hd
  obtain ⟨n, hn⟩ : ∃ n, ks.length = n := ⟨_, rfl⟩
  have hnl : n ≤ 9223372036854775807 := by rw [← hn]; exact hkl
  have Hn := hide hn
  clear hkl
  go_wp2_with fail
  go_loopw [6, 7] (fun rv iv wr => ∃ (i : Nat) (b : Bool) (q : Nat), 1 ≤ i ∧ i ≤ max 1 n ∧ iv = .int .i64 (i : Int) ∧ rv = .bool b ∧ (b = true ↔ IncP ks i) ∧ w6.drewN q = wr) (fun _ iv _ => max 1 n - (intOf iv).toNat)
  case atStart => exact ⟨1, true, 0, Nat.le_refl _, Nat.le_max_left _ _, rfl, rfl, ⟨fun _ => IncP.one ks (Nat.le_refl _), fun _ => rfl⟩, rfl⟩
  case round =>
  obtain ⟨i, b, q, hi1, him, rfl, rfl, hb, rfl⟩ := hrel
  have Hb := hide hb
  clear hb
  have hbq : Below w1.heap.size w1 (w6.drewN q) := below_drewN HB6.out q
  obtain ⟨qx0, qx1, qx2, qx3⟩ := HX.out w6 HB6.out
  rw [hn] at qx2
  clear hn
  by_cases hin : i < n
  case pos =>
    have Hin := hide hin
    cases b with
    | false =>
      go_upto_region 10 with fail
      go_quiet (fail)
      go_wp2
      go_roundw
      case rel => exact ⟨i + 1, false, _, by omega, by have := Hin.out; omega, by go_num, rfl, ⟨fun h => by simp at h, fun h => Hb.out.2 (h.mono (by omega))⟩, rfl⟩
      case measure => have := Hin.out; simp [intOf]; omega
    | true =>
      obtain ⟨m, hm⟩ : ∃ m, i = m + 1 := ⟨i - 1, by omega⟩
      obtain ⟨x, hx⟩ : ∃ x, ks[m]? = some x := ⟨_, List.getElem?_eq_getElem (by rw [Hn.out]; omega)⟩
      obtain ⟨y, hy⟩ : ∃ y, ks[i]? = some y := ⟨_, List.getElem?_eq_getElem (by rw [Hn.out]; omega)⟩
      obtain ⟨g1, o1, rfl, h1⟩ := HK.out.get hx
      obtain ⟨g2, o2, he, h2⟩ := HK.out.get hy
      injection he with he
      injection he with he1 he2 he3
      subst he1 he2
      have hgl : g1 < w.heap.size := World.block_lt_of_cell? w _ h1
      have h1' : w6.cell? ⟨g1, o1 + m, none⟩ = some (sv x) := ((Hb1.out.trans (HB6.out.mono Hle.out)).cell (p := ⟨g1, o1 + m, none⟩) hgl).trans h1
      have h2' : w6.cell? ⟨g1, o1 + i, none⟩ = some (sv y) := ((Hb1.out.trans (HB6.out.mono Hle.out)).cell (p := ⟨g1, o1 + i, none⟩) hgl).trans h2
      rw [hm] at hy
      have Hx := hide hx
      have Hy := hide hy
      have hsub : (i : Int) - 1 = (m : Int) := by omega
      have Hm := hide hm
      have hmn : m < n := by omega
      have hwr : IntKind.i64.wrap (m : Int) = (m : Int) := by simp [IntKind.wrap, IntKind.bits, IntKind.signed]; omega
      clear hx hy he3 hm h1 h2 hbq hgl
      cases hlt : Op.bytesLess x y with
      | true =>
        go_upto_region 10 with fail
        go_quiet (fail)
        go_wp2
        go_roundw
        case rel => exact ⟨i + 1, true, _, by omega, by have := Hin.out; omega, by go_num, rfl, ⟨fun _ => by have h := Hb.out.1 (by simp); rw [Hm.out] at h ⊢; exact (IncP.succ Hx.out Hy.out).2 ⟨h, hlt⟩, fun _ => rfl⟩, rfl⟩
        case measure => have := Hin.out; simp [intOf]; omega
      | false =>
        go_upto_region 10 with fail
        go_quiet (fail)
        go_wp2
        go_roundw
        case rel => exact ⟨i + 1, false, _, by omega, by have := Hin.out; omega, by go_num, rfl, ⟨fun h => by simp at h, fun h => by have h := h m x y (by have := Hm.out; omega) Hx.out Hy.out; rw [hlt] at h; exact absurd h (by simp)⟩, rfl⟩
        case measure => have := Hin.out; simp [intOf]; omega
  case neg =>
  have Hbn := hide (show b = true ↔ IncP ks ks.length from by
    rw [Hn.out]
    rcases Nat.lt_or_ge n 1 with h | h
    · exact ⟨fun _ => IncP.one ks (by omega), fun _ => Hb.out.2 (IncP.one ks (by omega))⟩
    · rw [show n = i by omega]; exact Hb.out)
  have hop7 := HOp.out.drewN q
  have hrd := read_any Ap LX.length cp LX (w6.drewN q) rfl hop7.bytes (by have := Hlx.out; omega)
  have Hrd := hide hrd
  have Hop6 := hide hop7
  have HB6q := hide hbq
  clear hrd hop7 hbq
  go_wp2_with fail
  clear qx0 qx1 qx2 qx3 hin him hi1 hnl
  refine Hrd.out.mono ?_
  rintro e w7 ⟨rb, rfl, hr7, hb7, hrb⟩
  have hq7 := hr7
  rw [← HLX.out] at hq7
  have Hv := hide (rentityM_any rb typ eid ks ls w7 hq7 HFX.out ⟨_, _, _, HXV.out⟩ Hti.out.1 Hti.out.2)
  have HB7 := hide (HB6q.out.trans (hb7.mono HB6q.out.size))
  have Hop7 := hide (Hop6.out.below hb7)
  have Hrb := hide (show w1.heap.size ≤ rb from Nat.le_trans HB6q.out.size hrb)
  have Hap := hide (show ∀ k, At Ap k → k ≠ rb from fun k hk e => by have := Hop6.out.lt k hk; omega)
  clear hr7 hb7 hrb hq7 Hrd Hop6
  have za := zeroEnt
  go_wp2_with fail
  refine Hv.out.mono ?_
  rintro e w8 ⟨c0, c1, c2, c3, rfl, h18, hf8, hcase⟩
  have Hall8 := hide (show (#[c0, c1, c2, c3] : Array Value).all (·.oneCell') = true from all_oneCell_toArray h18)
  have hB8 : Below w1.heap.size w1 w8 := HB7.out.trans (hf8.below HB7.out.size (fun k hk => by rw [show k = rb from hk]; exact Hrb.out))
  have HB8 := hide hB8
  have Hop8 := hide (Hop7.out.fr hf8 (fun k hk h => Hap.out k hk h))
  rcases hcase with ⟨hinc, rfl, rfl, hv8, hr8⟩ | ⟨hinc, hr8⟩
  · obtain rfl : b = true := Hbn.out.2 hinc
    have Hc23 := hide (show ∃ KB LB kd ld, c2 = .slice KB ks.length kd ∧ c3 = .slice LB ls.length ld by cases hv8; exact ⟨_, _, _, _, rfl, rfl⟩)
    have Hv8 := hide (hv8.mono (G' := Old w8) (fun k hk => hk.2))
    have Hr8 := hide hr8
    clear hinc hv8 hr8 hf8 h18 hB8 Hv Hop7
    go_upto_region 13 with (first
      | (refine wpList_store_mid rfl 25 (.tmp 9) (.tmp 70) rfl w8.heap.size 0 #[sv typ, sv eid, c2, c3] rfl rfl (there_new _ _ _ _ (by show 4 ≤ 4; omega)) (by kernel_rfl) Hall8.out ?_
         rw [show (#[sv typ, sv eid, c2, c3] : Array Value).toList = [sv typ, sv eid, c2, c3] from rfl, setCells_new _ _ _ _ (by rfl)]))
    obtain ⟨w9, hw9⟩ : ∃ w9, w8.alloc (.cells [sv typ, sv eid, c2, c3].toArray 25) = w9 := ⟨_, rfl⟩
    have hb9 : Below w8.heap.size w8 w9 := by rw [← hw9]; exact (Below.refl _ _).alloc (Nat.le_refl _) _
    have hU9 : Blk w9 w8.heap.size 25 #[sv typ, sv eid, c2, c3] := by rw [← hw9]; exact Blk.new _ _ _
    try rw [hw9]
    have B9 := hide (HB8.out.trans (hb9.mono HB8.out.size))
    have Hop9 := hide (Hop8.out.below hb9)
    have HY := hide (fun W h => blk4 (W := W) hU9 h)
    have Hr9 := hide (Hr8.out.fr (F := fun _ => False) (Fr.of_below hb9) (fun _ h => h.elim))
    have HVY := hide (fun (W : World) (h : Below w9.heap.size w9 W) => (Hv8.out.later hb9).later h)
    clear hb9 hU9 hw9 Hop8 Hr8 za
    refine wp_region_tree (fun W => Below w9.heap.size w9 W) 20 (.read 0 (.read 1 (.read 2 (.eff 3 (.eff 4 (.read 5 (.read 6 (.read 7 (.read 8 (.eff 9 (.read 10 (.read 11 (.read 12 (.read 13 (.read 14 (.read 15 (.read 16 (.read 17 (.eff 18 (.read 19 .nil)))))))))))))))))))) (by kernel_rfl) (by kernel_rfl) (fun _ _ d _ _ h => by cases d <;> exact h) (Below.refl _ _).drew ?_
    simp only [Plan.ops, List.getElem?_toArray, List.getElem?_cons_zero, List.getElem?_cons_succ, Option.elim, List.drop_succ_cons, List.drop_zero]
    refine wpTree_read rfl (fun W hW => (by clear hW; go_simp; try with_reducible rfl)) ?_
    simp only [Act.put, List.setIfInBounds_toArray, List.set_cons_zero, List.set_cons_succ]
    refine wpTree_read (v := .string ⟨LX.toArray⟩) rfl (fun W hW => (by
      have hst := str_run (c := cp) rfl (Hop9.out.bytes.below (B := w9.heap.size) hW (Nat.le_refl _))
      clear hW
      go_simp
      try with_reducible rfl)) ?_
    simp only [Act.put, List.setIfInBounds_toArray, List.set_cons_zero, List.set_cons_succ]
    refine wpTree_read (v := .agg #[sv typ, sv eid, .slice KA ks.length kc, .slice LA ls.length lc]) rfl (fun W hW => (by obtain ⟨qx0, qx1, qx2, qx3⟩ := HX.out W (B9.out.trans (hW.mono B9.out.size)); clear hW; go_simp; try with_reducible rfl)) ?_
    simp only [Act.put, List.setIfInBounds_toArray, List.set_cons_zero, List.set_cons_succ]
    refine wpTree_eff (wpEff_does rfl (fun K hK => ?_))
    have hs0 : Below w9.heap.size w9 w9.drew := (Below.refl _ _).drew
    refine wp_call_by 11 #[.agg #[sv typ, sv eid, .slice KA ks.length kc, .slice LA ls.length lc]] (by kernel_rfl) (r03entity_any typ eid ks ls KA LA kc lc w9.drew (HVX.out _ (B9.out.trans (hs0.mono B9.out.size))) HFX.out (by have := Hti.out; omega) (by have := Hti.out; omega) (by have := Hlv.out; omega)) ?_
    rintro e w10 ⟨A10, c10, rfl, ho10, _, hb10⟩
    have hs10 : Below w9.heap.size w9 w10 := hs0.trans (hb10.mono hs0.size)
    refine ⟨_, rfl, hK _ _ hs10 ?_⟩
    clear hK
    simp only [Act.put, List.setIfInBounds_toArray, List.set_cons_zero, List.set_cons_succ]
    rw [HLX.out] at ho10 ⊢
    have hst10 := str_run (c := c10) rfl ho10.bytes
    refine wpTree_eff (wpEff_does rfl (fun K hK => ?_))
    refine wp_run_valS (v := .string ⟨LX.toArray⟩) (by go_simp) ?_
    refine hK _ _ hs10 ?_
    clear hK
    simp only [Act.put, List.setIfInBounds_toArray, List.set_cons_zero, List.set_cons_succ]
    refine wpTree_read (v := .bool true) rfl (fun W hW => (by skip; clear hW; go_simp; try with_reducible rfl)) ?_
    simp only [Act.put, List.setIfInBounds_toArray, List.set_cons_zero, List.set_cons_succ]
    refine wpTree_read rfl (fun W hW => (by clear hW; go_simp; try with_reducible rfl)) ?_
    simp only [Act.put, List.setIfInBounds_toArray, List.set_cons_zero, List.set_cons_succ]
    refine wpTree_read rfl (fun W hW => (by clear hW; go_simp; try with_reducible rfl)) ?_
    refine wpTree_read rfl (fun W hW => (by clear hW; go_simp; try with_reducible rfl)) ?_
    simp only [Act.put, List.setIfInBounds_toArray, List.set_cons_zero, List.set_cons_succ]
    refine wpTree_eff (wpEff_does rfl (fun K hK => ?_))
    have hen : Calls Try.prog 12 #[.pointer (some ⟨rb, 0, none⟩)] w10 fun e w' => e = .returned (.bool true) ∧ w10 = w' := rend_any rb [] false w10 (Hr9.out.fr (F := fun _ => False) (Fr.of_below hs10) (fun _ h => h.elim))
    refine wp_call_by 12 #[.pointer (some ⟨rb, 0, none⟩)] (by kernel_rfl) hen ?_
    rintro e w11 ⟨rfl, rfl⟩
    refine ⟨_, rfl, hK _ _ hs10 ?_⟩
    clear hK
    simp only [Act.put, List.setIfInBounds_toArray, List.set_cons_zero, List.set_cons_succ]
    refine wpTree_read (v := .bool true) rfl (fun W hW => (by skip; clear hW; go_simp; try with_reducible rfl)) ?_
    simp only [Act.put, List.setIfInBounds_toArray, List.set_cons_zero, List.set_cons_succ]
    refine wpTree_read rfl (fun W hW => (by clear hW; go_simp; try with_reducible rfl)) ?_
    simp only [Act.put, List.setIfInBounds_toArray, List.set_cons_zero, List.set_cons_succ]
    refine wpTree_read rfl (fun W hW => (by clear hW; go_simp; try with_reducible rfl)) ?_
    simp only [Act.put, List.setIfInBounds_toArray, List.set_cons_zero, List.set_cons_succ]
    refine wpTree_read rfl (fun W hW => (by clear hW; go_simp; try with_reducible rfl)) ?_
    simp only [Act.put, List.setIfInBounds_toArray, List.set_cons_zero, List.set_cons_succ]
    refine wpTree_read rfl (fun W hW => (by clear hW; go_simp; try with_reducible rfl)) ?_
    simp only [Act.put, List.setIfInBounds_toArray, List.set_cons_zero, List.set_cons_succ]
    refine wpTree_read rfl (fun W hW => (by clear hW; go_simp; try with_reducible rfl)) ?_
    simp only [Act.put, List.setIfInBounds_toArray, List.set_cons_zero, List.set_cons_succ]
    refine wpTree_read (v := .agg #[sv typ, sv eid, .slice KA ks.length kc, .slice LA ls.length lc]) rfl (fun W hW => (by obtain ⟨qx0, qx1, qx2, qx3⟩ := HX.out W (B9.out.trans (hW.mono B9.out.size)); clear hW; go_simp; try with_reducible rfl)) ?_
    refine wpTree_read (v := .agg #[sv typ, sv eid, c2, c3]) rfl (fun W hW => (by obtain ⟨p0, p1, p2, p3⟩ := HY.out W hW; clear hW; go_simp; try with_reducible rfl)) ?_
    simp only [Act.put, List.setIfInBounds_toArray, List.set_cons_zero, List.set_cons_succ]
    refine wpTree_eff (wpEff_does rfl (fun K hK => ?_))
    obtain ⟨KB, LB, kd, ld, rfl, rfl⟩ := Hc23.out
    refine wp_call_by 13 #[.agg #[sv typ, sv eid, .slice KA ks.length kc, .slice LA ls.length lc], .agg #[sv typ, sv eid, .slice KB ks.length kd, .slice LB ls.length ld]] (by kernel_rfl) (sameEnt_any typ eid ks ls KA LA KB LB kc lc kd ld w10 (HVX.out _ (B9.out.trans (hs10.mono B9.out.size))) (HVY.out _ hs10) Hnx.out) ?_
    rintro e w12 ⟨rfl, hbel12⟩
    have hs12 : Below w9.heap.size w9 w12 := hs10.trans (hbel12.mono hs10.size)
    refine ⟨_, rfl, hK _ _ hs12 ?_⟩
    clear hK
    simp only [Act.put, List.setIfInBounds_toArray, List.set_cons_zero, List.set_cons_succ]
    refine wpTree_read rfl (fun W hW => (by clear hW; go_simp; try with_reducible rfl)) ?_
    simp only [Act.put, List.setIfInBounds_toArray, List.set_cons_zero, List.set_cons_succ]
    refine wpTree_nil ?_
    have Hfin := hide (Hb1.out.trans ((B9.out.trans (hs12.mono B9.out.size)).mono Hle.out))
    clear hs10 hs0 hb10 ho10 hst10 hen
    go_wp2
    go_ret
    exact ⟨rfl, Hfin.out⟩
  · obtain rfl : b = false := by
      cases b with
      | true => exact absurd (Hbn.out.1 rfl) hinc
      | false => rfl
    have Hr8 := hide hr8
    clear hinc hr8 hf8 h18 hB8 Hv Hop7
    go_upto_region 13 with (first
      | (refine wpList_store_mid rfl 25 (.tmp 9) (.tmp 70) rfl w8.heap.size 0 #[c0, c1, c2, c3] rfl rfl (there_new _ _ _ _ (by show 4 ≤ 4; omega)) (by kernel_rfl) Hall8.out ?_
         rw [show (#[c0, c1, c2, c3] : Array Value).toList = [c0, c1, c2, c3] from rfl, setCells_new _ _ _ _ (by rfl)]))
    obtain ⟨w9, hw9⟩ : ∃ w9, w8.alloc (.cells [c0, c1, c2, c3].toArray 25) = w9 := ⟨_, rfl⟩
    have hb9 : Below w8.heap.size w8 w9 := by rw [← hw9]; exact (Below.refl _ _).alloc (Nat.le_refl _) _
    have hU9 : Blk w9 w8.heap.size 25 #[c0, c1, c2, c3] := by rw [← hw9]; exact Blk.new _ _ _
    try rw [hw9]
    have B9 := hide (HB8.out.trans (hb9.mono HB8.out.size))
    have Hop9 := hide (Hop8.out.below hb9)
    have HY := hide (fun W h => blk4 (W := W) hU9 h)
    have Hr9 := hide (Hr8.out.fr (F := fun _ => False) (Fr.of_below hb9) (fun _ h => h.elim))
    clear hb9 hU9 hw9 Hop8 Hr8 za
    refine wp_region_tree (fun W => Below w9.heap.size w9 W) 20 (.read 0 (.read 1 (.read 2 (.eff 3 (.eff 4 (.read 5 (.read 6 (.read 7 (.read 8 (.eff 9 (.read 10 (.read 11 (.read 12 (.read 13 (.read 14 (.read 15 (.read 16 (.read 17 (.eff 18 (.read 19 .nil)))))))))))))))))))) (by kernel_rfl) (by kernel_rfl) (fun _ _ d _ _ h => by cases d <;> exact h) (Below.refl _ _).drew ?_
    simp only [Plan.ops, List.getElem?_toArray, List.getElem?_cons_zero, List.getElem?_cons_succ, Option.elim, List.drop_succ_cons, List.drop_zero]
    refine wpTree_read rfl (fun W hW => (by clear hW; go_simp; try with_reducible rfl)) ?_
    simp only [Act.put, List.setIfInBounds_toArray, List.set_cons_zero, List.set_cons_succ]
    refine wpTree_read (v := .string ⟨LX.toArray⟩) rfl (fun W hW => (by
      have hst := str_run (c := cp) rfl (Hop9.out.bytes.below (B := w9.heap.size) hW (Nat.le_refl _))
      clear hW
      go_simp
      try with_reducible rfl)) ?_
    simp only [Act.put, List.setIfInBounds_toArray, List.set_cons_zero, List.set_cons_succ]
    refine wpTree_read (v := .agg #[sv typ, sv eid, .slice KA ks.length kc, .slice LA ls.length lc]) rfl (fun W hW => (by obtain ⟨qx0, qx1, qx2, qx3⟩ := HX.out W (B9.out.trans (hW.mono B9.out.size)); clear hW; go_simp; try with_reducible rfl)) ?_
    simp only [Act.put, List.setIfInBounds_toArray, List.set_cons_zero, List.set_cons_succ]
    refine wpTree_eff (wpEff_does rfl (fun K hK => ?_))
    have hs0 : Below w9.heap.size w9 w9.drew := (Below.refl _ _).drew
    refine wp_call_by 11 #[.agg #[sv typ, sv eid, .slice KA ks.length kc, .slice LA ls.length lc]] (by kernel_rfl) (r03entity_any typ eid ks ls KA LA kc lc w9.drew (HVX.out _ (B9.out.trans (hs0.mono B9.out.size))) HFX.out (by have := Hti.out; omega) (by have := Hti.out; omega) (by have := Hlv.out; omega)) ?_
    rintro e w10 ⟨A10, c10, rfl, ho10, _, hb10⟩
    have hs10 : Below w9.heap.size w9 w10 := hs0.trans (hb10.mono hs0.size)
    refine ⟨_, rfl, hK _ _ hs10 ?_⟩
    clear hK
    simp only [Act.put, List.setIfInBounds_toArray, List.set_cons_zero, List.set_cons_succ]
    rw [HLX.out] at ho10 ⊢
    have hst10 := str_run (c := c10) rfl ho10.bytes
    refine wpTree_eff (wpEff_does rfl (fun K hK => ?_))
    refine wp_run_valS (v := .string ⟨LX.toArray⟩) (by go_simp) ?_
    refine hK _ _ hs10 ?_
    clear hK
    simp only [Act.put, List.setIfInBounds_toArray, List.set_cons_zero, List.set_cons_succ]
    refine wpTree_read (v := .bool true) rfl (fun W hW => (by skip; clear hW; go_simp; try with_reducible rfl)) ?_
    simp only [Act.put, List.setIfInBounds_toArray, List.set_cons_zero, List.set_cons_succ]
    refine wpTree_read rfl (fun W hW => (by clear hW; go_simp; try with_reducible rfl)) ?_
    simp only [Act.put, List.setIfInBounds_toArray, List.set_cons_zero, List.set_cons_succ]
    refine wpTree_read rfl (fun W hW => (by clear hW; go_simp; try with_reducible rfl)) ?_
    refine wpTree_read rfl (fun W hW => (by clear hW; go_simp; try with_reducible rfl)) ?_
    simp only [Act.put, List.setIfInBounds_toArray, List.set_cons_zero, List.set_cons_succ]
    refine wpTree_eff (wpEff_does rfl (fun K hK => ?_))
    have hen : Calls Try.prog 12 #[.pointer (some ⟨rb, 0, none⟩)] w10 fun e w' => e = .returned (.bool false) ∧ w10 = w' := rend_any rb [] true w10 (Hr9.out.fr (F := fun _ => False) (Fr.of_below hs10) (fun _ h => h.elim))
    refine wp_call_by 12 #[.pointer (some ⟨rb, 0, none⟩)] (by kernel_rfl) hen ?_
    rintro e w11 ⟨rfl, rfl⟩
    refine ⟨_, rfl, hK _ _ hs10 ?_⟩
    clear hK
    simp only [Act.put, List.setIfInBounds_toArray, List.set_cons_zero, List.set_cons_succ]
    refine wpTree_read (v := .bool true) rfl (fun W hW => (by skip; clear hW; go_simp; try with_reducible rfl)) ?_
    simp only [Act.put, List.setIfInBounds_toArray, List.set_cons_zero, List.set_cons_succ]
    refine wpTree_read rfl (fun W hW => (by clear hW; go_simp; try with_reducible rfl)) ?_
    simp only [Act.put, List.setIfInBounds_toArray, List.set_cons_zero, List.set_cons_succ]
    refine wpTree_read rfl (fun W hW => (by clear hW; go_simp; try with_reducible rfl)) ?_
    simp only [Act.put, List.setIfInBounds_toArray, List.set_cons_zero, List.set_cons_succ]
    refine wpTree_read rfl (fun W hW => (by clear hW; go_simp; try with_reducible rfl)) ?_
    simp only [Act.put, List.setIfInBounds_toArray, List.set_cons_zero, List.set_cons_succ]
    refine wpTree_read rfl (fun W hW => (by clear hW; go_simp; try with_reducible rfl)) ?_
    simp only [Act.put, List.setIfInBounds_toArray, List.set_cons_zero, List.set_cons_succ]
    refine wpTree_read rfl (fun W hW => (by clear hW; go_simp; try with_reducible rfl)) ?_
    simp only [Act.put, List.setIfInBounds_toArray, List.set_cons_zero, List.set_cons_succ]
    refine wpTree_skip rfl ?_
    simp only [Act.put, List.setIfInBounds_toArray, List.set_cons_zero, List.set_cons_succ]
    refine wpTree_skip rfl ?_
    simp only [Act.put, List.setIfInBounds_toArray, List.set_cons_zero, List.set_cons_succ]
    refine wpTree_eff (wpEff_skip rfl hs10 ?_)
    simp only [Act.put, List.setIfInBounds_toArray, List.set_cons_zero, List.set_cons_succ]
    refine wpTree_read (v := .bool true) rfl (fun W hW => (by skip; clear hW; go_simp; try with_reducible rfl)) ?_
    simp only [Act.put, List.setIfInBounds_toArray, List.set_cons_zero, List.set_cons_succ]
    refine wpTree_nil ?_
    have Hfin := hide (Hb1.out.trans ((B9.out.trans (hs10.mono B9.out.size)).mono Hle.out))
    clear hs10 hs0 hb10 ho10 hst10 hen
    go_wp2
    go_ret
    exact ⟨rfl, Hfin.out⟩

set_option maxRecDepth 100000 in
theorem wireEntities_lifted (os : Os) (started : os.Started) (H : Type) (enc : TypeId × Value → H) :
    ReturnsInHanded {} Try.checked os 3 .any (Rows.wireEntitiesSpec.pre6 enc Try.prog Try.f3 Rows.wireEntitiesRow.domain false) (Rows.wireEntitiesSpec.post enc Try.prog Try.f3 false true false false) := by
  refine returnsInHanded_of_change (C := Try.checked) own0 started (by kernel_rfl) Try.func3
    (ChangeSpec.witness6 (enc := enc) (C := Try.checked) false ⟨#[], #[.agg #[.string ⟨#[]⟩, .string ⟨#[]⟩, .slice none 0 0, .slice none 0 0]], []⟩ 8 (by kernel_rfl) (by kernel_rfl) (by kernel_rfl) (by kernel_rfl)) ?_
  intro W base args ds gs before hval0 hW _ _
  have hval : ∀ (j : Nat) t v, Try.f3.params[j]? = some t → args[j]? = some v → Value.okWide Try.prog W .any base t v := hval0
  have hW' := hW
  obtain ⟨p, q, hA0, hV, rfl, hfz, hnd⟩ := hW
  have hA : DataW.TrodAll enc Try.prog W 0 (fun _ => true) true Try.f3.params.toList args.toList ds p := hA0
  rw [Try.params3] at hA hval
  obtain ⟨v0, d0, rfl, rfl, h0⟩ := trodAll_one hA
  obtain ⟨rfl, rfl⟩ := trodVars_none hV
  obtain ⟨t0, i0, k0, l0, A0, B0, c0, e0, rfl, V0, tl0, il0⟩ := open_ent (hval 0 25 v0 rfl rfl) h0
  clear hA0 hval0
  refine (went_any t0 i0 k0 l0 A0 B0 c0 e0 W V0 tl0 il0).mono fun e W' ⟨he, hb⟩ => ?_
  subst he
  exact ⟨_, rfl, law_close laid0 Try.underlying4 rfl rfl (by rw [Try.params3]; decide +kernel) hW' (fun gs hg => by subst hg; rfl) hb⟩

theorem wireEntities_holds : Rows.WireEntitiesSaid :=
  OpenClaim.holds_of_wide 3 Try.f3 rfl rfl rfl rfl rfl rfl rfl ⟨rfl, rfl, rfl, rfl, rfl⟩ rfl rfl rfl rfl rfl (by kernel_rfl) Try.func3 (by kernel_rfl)
    (of_decide_eq_true (by kernel_rfl)) (by unfold Func.isWrapper; first | (rw [if_pos (by decide +kernel)]; kernel_rfl) | (rw [if_neg (by decide +kernel)]; exact ⟨rfl, rfl⟩))
    (fun os started H enc _ => wireEntities_lifted os started H enc)
end Go.Proofs.Yteoimkjocijcjaa
