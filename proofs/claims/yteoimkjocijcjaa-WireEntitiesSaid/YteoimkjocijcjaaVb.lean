/- Package columbaryref03: how many parts a value has (count, Great). -/
import Derived.Test.YteoimkjocijcjaaVa
import Derived.Deep.CutRange
import Derived.Deep.CutBlock
namespace Go.Proofs.Yteoimkjocijcjaa
open Go.RowKit

mutual
def nodes : V → Nat
  | .mk _ _ _ _ ls => 1 + nodesL ls
def nodesL : List V → Nat
  | [] => 0
  | x :: r => nodes x + nodesL r
end
theorem nodes_eq (v : V) : nodes v = 1 + nodesL v.ls := by cases v; simp [nodes, V.ls]
theorem nodesL_append (a b : List V) : nodesL (a ++ b) = nodesL a + nodesL b := by
  induction a with
  | nil => simp [nodesL]
  | cons x r ih => simp only [List.cons_append, nodesL, ih]; omega
theorem nodesL_take (l : List V) (i : Nat) (x : V) (h : l[i]? = some x) : nodesL (l.take (i + 1)) = nodesL (l.take i) + nodes x := by
  rw [List.take_add_one, h, nodesL_append]; simp [nodesL]
theorem VC.len {w : World} {G : Nat → Prop} {v : V} {cs : List Value} (h : VC w G v cs) : cs.length = 5 := by cases h; rfl
theorem VC.one {w : World} {G : Nat → Prop} {v : V} {cs : List Value} (h : VC w G v cs) : ∀ u ∈ cs, u.oneCell' = true := by
  cases h
  intro u hu
  simp only [List.mem_cons, List.not_mem_nil, or_false] at hu
  rcases hu with rfl | rfl | rfl | rfl | rfl <;> rfl
theorem infoV : (Try.prog.info? 27).map (·.size) = some 5 := by kernel_rfl
/-- A value that was handed in lies in a block of its own. -/
theorem VC.boxed {w : World} {v : V} {cs : List Value} (h : VC w (Old w) v cs) : PV (w.alloc (.cells cs.toArray 27)) (Old (w.alloc (.cells cs.toArray 27))) w.heap.size 0 v := by
  refine ⟨cs, ?_, (Blk.new w 27 cs.toArray).range 0 cs (fun j u hu => by simpa using hu), ?_⟩
  · show w.heap.size < _; simp
  · exact (h.fr (F := fun _ => False) ((Fr.refl _ _).alloc _) (fun _ _ h => h)).mono (fun k hk => by show k < _; simp; exact Nat.lt_succ_of_lt hk)
theorem PV.lt {w : World} {g o : Nat} {v : V} (h : PV w (Old w) g o v) : g < w.heap.size := by
  obtain ⟨cs, h1, _⟩ := h
  exact h1
theorem PV.later {w w' : World} {g o : Nat} {v : V} (h : PV w (Old w) g o v) (hb : Below w.heap.size w w') : PV w' (Old w') g o v := by
  obtain ⟨cs, h1, h2, h3⟩ := h.fr (F := fun _ => False) (Fr.of_below hb) (fun _ _ h => h)
  exact ⟨cs, Nat.lt_of_lt_of_le h1 hb.size, h2, h3.mono (fun k hk => Nat.lt_of_lt_of_le hk hb.size)⟩
theorem VC.later {w w' : World} {v : V} {cs : List Value} (h : VC w (Old w) v cs) (hb : Below w.heap.size w w') : VC w' (Old w') v cs :=
  (h.fr (F := fun _ => False) (Fr.of_below hb) (fun _ _ h => h)).mono (fun _ hk => Nat.lt_of_lt_of_le hk hb.size)

theorem PVat.below {w w' : World} {g o : Nat} {v : V} {KA LA : Option Addr} {kc lc : Nat} (h : PVat w (Old w) g o v KA LA kc lc) (hb : Below w.heap.size w w') (hg : g < w.heap.size) : PVat w' (Old w') g o v KA LA kc lc := by
  have hk : ∀ i, w'.cell? ⟨g, i, none⟩ = w.cell? ⟨g, i, none⟩ := fun i => hb.cell (p := ⟨g, i, none⟩) hg
  refine ⟨(hk _).trans h.c0, (hk _).trans h.c1, (hk _).trans h.c2, (hk _).trans h.c3, (hk _).trans h.c4, h.k, h.n, h.s, h.ks, h.kl, h.ll, ?_, ?_⟩
  · rcases h.K with h | ⟨g', o', h1, h2, h3⟩
    · exact .inl h
    · exact .inr ⟨g', o', h1, Nat.lt_of_lt_of_le h2 hb.size, rangeAt_fr (F := fun _ => False) h3 (Fr.of_below hb) (fun h => h)⟩
  · rcases h.L with h | ⟨g', o', h1, h2⟩
    · exact .inl h
    · exact .inr ⟨g', o', h1, fun j x hx => (h2 j x hx).later hb⟩

def CPost (v : V) (most : Nat) (w : World) (e : Ending) (w' : World) : Prop := ∃ r : Nat, e = .returned (.int .i64 (r : Int)) ∧ r ≤ most + 1 ∧ (r ≤ most → nodes v ≤ r) ∧ Below w.heap.size w w'

set_option maxRecDepth 100000 in
set_option maxHeartbeats 4000000 in
theorem count_any : ∀ (fuel : Nat) (v : V) (cs : List Value) (deep most : Nat) (w : World), 61 ≤ deep + fuel → deep ≤ 61 → most ≤ 3000 → VC w (Old w) v cs →
    Calls Try.prog 16 #[.agg cs.toArray, .int .i64 (deep : Int), .int .i64 (most : Int)] w (CPost v most w) := by
  intro fuel
  induction fuel with
  | zero =>
    intro v cs deep most w hf hd hm hv
    have hcs : ∃ x0 x1 x2 x3 x4, cs = [x0, x1, x2, x3, x4] := by cases hv; exact ⟨_, _, _, _, _, rfl⟩
    obtain ⟨x0, x1, x2, x3, x4, rfl⟩ := hcs
    obtain rfl : deep = 61 := by omega
    clear hv
    have hb := hide ((Below.refl w.heap.size w).alloc (Nat.le_refl _) (.cells #[x0, x1, x2, x3, x4] 27))
    go_enter Try.func16, Try.ntmps16
    go_wp2
    go_ret
    exact ⟨most + 1, by go_num, Nat.le_refl _, fun h => by omega, hb.out⟩
  | succ fuel ih =>
    intro v cs deep most w hf hd hm hv
    have hcs : ∃ x0 x1 x2 x3 x4, cs = [x0, x1, x2, x3, x4] := by cases hv; exact ⟨_, _, _, _, _, rfl⟩
    obtain ⟨x0, x1, x2, x3, x4, rfl⟩ := hcs
    have hpv := hv.boxed
    obtain ⟨w0, hw0⟩ : ∃ w0, w.alloc (.cells [x0, x1, x2, x3, x4].toArray 27) = w0 := ⟨_, rfl⟩
    have Hb0 := hide (show Below w.heap.size w w0 by rw [← hw0]; exact (Below.refl w.heap.size w).alloc (Nat.le_refl _) _)
    rw [hw0] at hpv
    have hw0' : w.alloc (.cells #[x0, x1, x2, x3, x4] 27) = w0 := hw0
    have Hpv := hide hpv
    obtain ⟨KA, LA, kc, lc, hat⟩ := hpv.at_
    have c3 : w0.cell? ⟨w.heap.size, 3, none⟩ = some (.slice KA v.ks.length kc) := by have := hat.c3; simpa using this
    have c4 : w0.cell? ⟨w.heap.size, 4, none⟩ = some (.slice LA v.ls.length lc) := by have := hat.c4; simpa using this
    have hkl := hat.kl
    have hll := hat.ll
    obtain ⟨nk, hnk⟩ : ∃ nk, v.ks.length = nk := ⟨_, rfl⟩
    obtain ⟨nl, hnl⟩ : ∃ nl, v.ls.length = nl := ⟨_, rfl⟩
    rw [hnk] at c3 hkl
    rw [hnl] at c4 hll
    have Hnl := hide hnl
    have Hat := hide hat
    have Hv := hide hv
    clear hv hpv hnk hnl hat hw0
    go_enter Try.func16, Try.ntmps16
    by_cases h60 : 60 < deep
    · clear c3 c4
      go_wp2
      go_ret
      exact ⟨most + 1, by go_num, Nat.le_refl _, fun h => by omega, Hb0.out⟩
    by_cases hk : most < nk
    · go_wp2
      go_ret
      exact ⟨most + 1, by go_num, Nat.le_refl _, fun h => by omega, Hb0.out⟩
    by_cases hl : most < nl
    · go_wp2
      go_ret
      exact ⟨most + 1, by go_num, Nat.le_refl _, fun h => by omega, Hb0.out⟩
    go_wp2_with fail
    clear hw0'
    have Hnk := hide hk
    have Hnlm := hide hl
    clear hk hl c3 c4
    have hwlt : w.heap.size < w0.heap.size := Hpv.out.lt
    have Hwlt := hide hwlt
    clear hwlt
    go_loopw [7, 8] (fun nv iv wr => ∃ i r : Nat, i ≤ nl ∧ nv = .int .i64 (r : Int) ∧ iv = .int .i64 (i : Int) ∧ 1 ≤ r ∧ r ≤ most + 1 ∧ (r ≤ most → 1 + nodesL (v.ls.take i) ≤ r) ∧ Below w0.heap.size w0 wr) (fun _ iv _ => nl - (intOf iv).toNat)
    case atStart => exact ⟨0, 1, Nat.zero_le _, rfl, rfl, Nat.le_refl _, by omega, fun _ => by simp [nodesL], Below.refl _ _⟩
    case round =>
      obtain ⟨i, r, hi, rfl, rfl, hr1, hr2, hr3, hb⟩ := hrel
      have hpr := Hpv.out.later hb
      have hat := Hat.out.below hb Hwlt.out
      have c4 : wr.cell? ⟨w.heap.size, 4, none⟩ = some (.slice LA nl lc) := by have := hat.c4; rw [Hnl.out] at this; simpa using this
      have Hb := hide hb
      have Hr3 := hide hr3
      clear hb hr3 hpr
      by_cases hil : i < nl
      · by_cases hrm : r ≤ most
        · obtain ⟨x, hx⟩ : ∃ x, v.ls[i]? = some x := ⟨_, List.getElem?_eq_getElem (by rw [Hnl.out]; exact hil)⟩
          obtain ⟨g', o', rfl, hL⟩ : ∃ g' o', LA = some ⟨g', o', none⟩ ∧ ∀ j x, v.ls[j]? = some x → PV wr (Old wr) g' (o' + 5 * j) x := by
            rcases hat.L with h | h
            · rw [h] at hx; simp at hx
            · exact h
          obtain ⟨cs', hg', hr', hv'⟩ := hL i x hx
          rw [Nat.mul_comm 5 i] at hr'
          have Hr := hide hr'
          have Hv' := hide hv'
          have Hx := hide hx
          have Hlen := hide hv'.len
          clear hat hL hg' hr' hv' hx
          have hih := ih x cs' (deep + 1) (most - r) wr (by omega) (by omega) (by omega) Hv'.out
          rw [show (((deep + 1 : Nat)) : Int) = (deep : Int) + 1 from by omega, show (((most - r : Nat)) : Int) = (most : Int) - (r : Int) from by omega] at hih
          have Hih := hide hih
          clear hih
          go_wp2_with (first
            | (refine wpList_load_mid rfl 27 (.tmp 43) rfl g' (o' + i * 5) rfl _ _ Hr.out Try.underlying27 rfl (by rw [Hlen.out]; exact infoV) ?_)
            | (go_at_call 16; refine Hih.out.mono ?_; rintro e w2 ⟨r2, rfl, h21, h22, hb2⟩; have Hb2 := hide hb2; have H22 := hide h22; clear hb2 h22))
          go_roundw
          case rel =>
            refine ⟨i + 1, r + r2, by omega, by go_num, by go_num, by omega, by omega, fun h => ?_, Hb.out.trans (Hb2.out.mono Hb.out.size)⟩
            rw [nodesL_take _ _ _ Hx.out]
            have h1 := Hr3.out hrm
            have h2 := H22.out (by omega)
            omega
          case measure => simp [intOf]; omega
        · clear hat
          go_wp2
          go_ret
          exact ⟨r, rfl, hr2, fun h => by omega, Hb0.out.trans (Hb.out.mono (Nat.le_of_lt Hwlt.out))⟩
      · obtain rfl : i = nl := by omega
        clear hat
        go_wp2
        go_ret
        refine ⟨r, rfl, hr2, fun h => ?_, Hb0.out.trans (Hb.out.mono (Nat.le_of_lt Hwlt.out))⟩
        have := Hr3.out h
        rw [← Hnl.out, List.take_length] at this
        rw [nodes_eq]
        exact this
end Go.Proofs.Yteoimkjocijcjaa
