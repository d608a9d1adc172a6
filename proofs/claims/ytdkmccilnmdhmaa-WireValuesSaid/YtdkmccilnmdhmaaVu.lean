/- Package wire: formed. -/
import Derived.Test.YtdkmccilnmdhmaaVc
import Derived.Deep.MidRow
import Derived.Laws.BitsAllLaws
namespace Go.Proofs.Ytdkmccilnmdhmaa
open Go.RowKit

theorem andNot_one (n : Int) (h0 : -9223372036854775808 ≤ n) (h1 : n ≤ 9223372036854775807) (h2 : ¬ n = 0) (h3 : ¬ n = 1) : (bits .andNot .i64 n 1 == 0) = false := by
  rw [beq_eq_false_iff_ne]
  intro h
  have h4 : IntKind.i64.wrap ((BitVec.ofInt 64 n &&& ~~~BitVec.ofInt 64 1).toNat : Int) = 0 := h
  rw [BitVec.toNat_and, BitVec.toNat_not, BitVec.toNat_ofInt, BitVec.toNat_ofInt] at h4
  have e : 2 ^ 64 - 1 - ((1 : Int) % ((2 ^ 64 : Nat) : Int)).toNat = 18446744073709551614 := by decide
  rw [e, nat_hi64_1] at h4
  simp [IntKind.wrap, IntKind.bits, IntKind.signed] at h4
  omega
theorem VC.cells {w : World} {G : Nat → Prop} {v : V} {cs : List Value} (h : VC w G v cs) : ∃ KA LA kc lc, cs = [.int .u8 (v.kind : Int), .int .i64 v.n, sv v.s, .slice KA v.ks.length kc, .slice LA v.ls.length lc] := by
  cases h; exact ⟨_, _, _, _, rfl⟩
/-- What 'formed' asks. -/
def FormedP (d : Nat) (v : V) : Prop := v.ls.length ≤ 200 ∧ v.ks.length = (if v.kind = 6 then v.ls.length else 0) ∧ (∀ x ∈ v.ks, x.length ≤ 32) ∧ ∀ x ∈ v.ls, formP d x
def FdPost (d : Nat) (v : V) (w : World) (e : Ending) (w' : World) : Prop := ∃ b, e = .returned (.bool b) ∧ (b = true ↔ FormedP d v) ∧ Below w.heap.size w w'

set_option maxRecDepth 100000 in
set_option maxHeartbeats 4000000 in
theorem formed_any (d op : Nat) (v : V) (cs : List Value) (w : World) (hv : VC w (Old w) v cs)
    (ih : ∀ (x : V) (cs' : List Value) (w' : World), VC w' (Old w') x cs' → Calls Try.prog 26 #[.agg cs'.toArray, .int .i64 (op : Int)] w' (FPostI d x w')) :
    Calls Try.prog 39 #[.agg cs.toArray, .int .i64 (op : Int)] w (FdPost d v w) := by
  have hpv := hv.boxed
  obtain ⟨KA, LA, kc, lc, rfl⟩ := hv.cells
  have hb0 := (Below.refl w.heap.size w).alloc (Nat.le_refl _) (.cells #[.int .u8 (v.kind : Int), .int .i64 v.n, sv v.s, .slice KA v.ks.length kc, .slice LA v.ls.length lc] 25)
  have hblk := Blk.new w 25 #[.int .u8 (v.kind : Int), .int .i64 v.n, sv v.s, .slice KA v.ks.length kc, .slice LA v.ls.length lc]
  obtain ⟨KA', LA', kc', lc', hat⟩ := hpv.at_
  obtain ⟨w0, hw0⟩ : ∃ w0, w.alloc (.cells #[.int .u8 (v.kind : Int), .int .i64 v.n, sv v.s, .slice KA v.ks.length kc, .slice LA v.ls.length lc] 25) = w0 := ⟨_, rfl⟩
  have hw0' : w.alloc (.cells [.int .u8 (v.kind : Int), .int .i64 v.n, sv v.s, .slice KA v.ks.length kc, .slice LA v.ls.length lc].toArray 25) = w0 := hw0
  rw [hw0'] at hat
  rw [hw0] at hb0 hblk
  obtain ⟨rfl, rfl⟩ : KA = KA' ∧ kc = kc' := by
    have h1 : w0.cell? ⟨w.heap.size, 3, none⟩ = some (.slice KA' v.ks.length kc') := by have := hat.c3; simpa using this
    have h2 := h1.symm.trans (hblk.cell 3)
    simp at h2
    exact ⟨h2.1.symm, h2.2.symm⟩
  obtain ⟨rfl, rfl⟩ : LA = LA' ∧ lc = lc' := by
    have h1 : w0.cell? ⟨w.heap.size, 4, none⟩ = some (.slice LA' v.ls.length lc') := by have := hat.c4; simpa using this
    have h2 := h1.symm.trans (hblk.cell 4)
    simp at h2
    exact ⟨h2.1.symm, h2.2.symm⟩
  have Hb0 := hide hb0
  have hkl := hat.kl
  have hll := hat.ll
  have hsl := hat.s
  have hk255 := hat.k
  have hnr := hat.n
  have c0 := hblk.cell 0
  have c1 := hblk.cell 1
  have c2 := hblk.cell 2
  have c3 := hblk.cell 3
  have c4 := hblk.cell 4
  have Hat := hide hat
  have Ih := hide ih
  have Hwlt := hide (show w.heap.size < w0.heap.size from hblk.lt)
  clear hv ih hb0 hblk hpv hat hw0' hnr
  obtain ⟨kk, hkk⟩ : ∃ kk, v.kind = kk := ⟨_, rfl⟩
  obtain ⟨nk, hnk⟩ : ∃ nk, v.ks.length = nk := ⟨_, rfl⟩
  obtain ⟨nl, hnl⟩ : ∃ nl, v.ls.length = nl := ⟨_, rfl⟩
  rw [hkk] at c0 hk255 hw0
  rw [hnk] at c3 hkl hw0
  rw [hnl] at c4 hll hw0
  rw [hkk, hnk, hnl]
  have Hkk := hide hkk
  have Hnk := hide hnk
  have Hnl := hide hnl
  clear hkk hnk hnl
  go_enter Try.func39, Try.ntmps39
  by_cases h6 : kk = 6
  · subst h6
    have hw0 : w.alloc (.cells #[.int .u8 6, .int .i64 v.n, sv v.s, .slice KA nk kc, .slice LA nl lc] 25) = w0 := hw0
    by_cases e1 : 200 < nl
    case pos =>
      go_wp2
      go_ret
      exact ⟨false, rfl, ⟨fun h => by simp at h, fun hf => by exfalso; have := hf.1; rw [Hnl.out] at this; omega⟩, Hb0.out⟩
    by_cases e2 : nk = nl
    case neg =>
      have e2' : ((nk : Int) == (nl : Int)) = false := by rw [beq_eq_false_iff_ne]; omega
      have e2'' : ((nk : Int) != (nl : Int)) = true := by simp only [bne, e2']; rfl
      have E2 := hide e2
      clear e2
      go_wp2
      go_ret
      exact ⟨false, rfl, ⟨fun h => by simp at h, fun hf => by exfalso; have := hf.2.1; rw [Hnk.out, Hnl.out, Hkk.out, if_pos rfl] at this; exact E2.out this⟩, Hb0.out⟩
    obtain rfl : nl = nk := e2.symm
    have c3' := c3
    clear c3
    have c3 := c3'
    clear c3'
    go_wp2_with fail
    clear hw0
    go_loopw [30] (fun iv wr => ∃ i : Nat, i ≤ nl ∧ iv = .int .i64 (i : Int) ∧ (∀ j, j < i → ∀ y, v.ks[j]? = some y → y.length ≤ 32) ∧ w0 = wr) (fun iv _ => nl - (intOf iv).toNat)
    case atStart => exact ⟨0, Nat.zero_le _, rfl, fun j hj => absurd hj (Nat.not_lt_zero j), rfl⟩
    case round =>
    obtain ⟨i, hi, rfl, hall, rfl⟩ := hrel
    have Hall := hide hall
    clear hall
    by_cases hil : i < nl
    case pos =>
      obtain ⟨y, hy⟩ : ∃ y, v.ks[i]? = some y := ⟨_, List.getElem?_eq_getElem (by rw [Hnk.out]; exact hil)⟩
      obtain ⟨g6, o6, rfl, hK6⟩ : ∃ g' o', KA = some ⟨g', o', none⟩ ∧ w0.cell? ⟨g', o' + i, none⟩ = some (.string ⟨y.toArray⟩) := by
        rcases Hat.out.K with h | ⟨g', o', h1, h2, h3⟩
        · rw [h] at hy; simp at hy
        · exact ⟨g', o', h1, h3 i (sv y) (by rw [List.getElem?_map, hy]; rfl)⟩
      have hyl : y.length ≤ 9223372036854775807 := Hat.out.ks y (List.mem_of_getElem? hy)
      have Hy := hide hy
      clear hy
      by_cases hy32 : 32 < y.length
      case pos =>
        go_wp2
        go_ret
        exact ⟨false, rfl, ⟨fun h => by simp at h, fun hf => by have := hf.2.2.1 y (List.mem_of_getElem? Hy.out); omega⟩, Hb0.out⟩
      go_wp2
      go_roundw
      case rel =>
        refine ⟨i + 1, by omega, by go_num, ?_, by first | rfl | trivial⟩
        intro j hj
        rcases Nat.lt_or_ge j i with h | h
        · exact Hall.out j h
        · obtain rfl : j = i := by omega
          exact fun y' hy' => by rw [Hy.out] at hy'; injection hy' with hy'; subst hy'; omega
      case measure => simp [intOf]; omega
    case neg =>
    obtain rfl : i = nl := by omega
    have HallK := hide Hall.out
    clear Hall hi hil
    go_wp2_with fail
    go_loopw [41] (fun iv wr => ∃ j : Nat, j ≤ i ∧ iv = .int .i64 (j : Int) ∧ (∀ m, m < j → ∀ x, v.ls[m]? = some x → formP d x) ∧ Below w0.heap.size w0 wr) (fun iv _ => i - (intOf iv).toNat)
    case atStart => exact ⟨0, Nat.zero_le _, rfl, fun j hj => absurd hj (Nat.not_lt_zero j), Below.refl _ _⟩
    case round =>
    obtain ⟨j, hj, rfl, hall, hb⟩ := hrel
    have Hb := hide hb
    have Hall := hide hall
    clear hb hall
    by_cases hjl : j < i
    case pos =>
      obtain ⟨x, hx⟩ : ∃ x, v.ls[j]? = some x := ⟨_, List.getElem?_eq_getElem (by rw [Hnl.out]; exact hjl)⟩
      obtain ⟨g', o', rfl, hL⟩ : ∃ g' o', LA = some ⟨g', o', none⟩ ∧ ∀ j x, v.ls[j]? = some x → PV wr (Old wr) g' (o' + 5 * j) x := by
        rcases (Hat.out.below Hb.out Hwlt.out).L with h | h
        · rw [h] at hx; simp at hx
        · exact h
      obtain ⟨cs', hg', hr', hv'⟩ := hL j x hx
      rw [Nat.mul_comm 5 j] at hr'
      have hcs' : ∃ y0 y1 y2 y3 y4, cs' = [y0, y1, y2, y3, y4] := by cases hv'; exact ⟨_, _, _, _, _, rfl⟩
      obtain ⟨y0, y1, y2, y3, y4, rfl⟩ := hcs'
      have hou := hv'.one
      have Hall5 := hide (show (#[y0, y1, y2, y3, y4] : Array Value).all (·.oneCell') = true from all_oneCell_toArray hou)
      have q0 : wr.cell? ⟨g', o' + j * 5, none⟩ = some y0 := hr' 0 _ rfl
      have q1 : wr.cell? ⟨g', o' + j * 5 + 1, none⟩ = some y1 := hr' 1 _ rfl
      have q2 : wr.cell? ⟨g', o' + j * 5 + 2, none⟩ = some y2 := hr' 2 _ rfl
      have q3 : wr.cell? ⟨g', o' + j * 5 + 3, none⟩ = some y3 := hr' 3 _ rfl
      have q4 : wr.cell? ⟨g', o' + j * 5 + 4, none⟩ = some y4 := hr' 4 _ rfl
      have hbn : Below wr.heap.size wr (wr.alloc (.cells [y0, y1, y2, y3, y4].toArray 25)) := (Below.refl _ _).alloc (Nat.le_refl _) _
      have hnb := Blk.new wr 25 #[y0, y1, y2, y3, y4]
      have hv2 := hv'.later hbn
      have Hx := hide hx
      have Hv2 := hide hv2
      have Hbn := hide hbn
      have Hnb := hide hnb
      have Hjl := hide hjl
      clear hL hg' hr' hv' hx hou hbn hnb hv2 hj hjl
      go_upto_region 15 with (first
        | (refine wpList_store_mid rfl 25 (.tmp 9) (.tmp 44) rfl wr.heap.size 0 #[y0, y1, y2, y3, y4] rfl rfl (there_new _ _ _ _ (by show 5 ≤ 5; omega)) (by kernel_rfl) Hall5.out ?_
           rw [show (#[y0, y1, y2, y3, y4] : Array Value).toList = [y0, y1, y2, y3, y4] from rfl, setCells_new _ _ _ _ (by rfl)]))
      obtain ⟨w5, hw5⟩ : ∃ w5, wr.alloc (.cells [y0, y1, y2, y3, y4].toArray 25) = w5 := ⟨_, rfl⟩
      have HW5 := hide (show Below w0.heap.size w0 w5 from by rw [← hw5]; exact Hb.out.trans (Hbn.out.mono Hb.out.size))
      have hnb5 : Blk w5 wr.heap.size 25 #[y0, y1, y2, y3, y4] := by rw [← hw5]; exact Hnb.out
      have Hv5 := hide (show VC w5 (Old w5) x [y0, y1, y2, y3, y4] from by rw [← hw5]; exact Hv2.out)
      rw [hw5]
      clear hw5 q0 q1 q2 q3 q4
      have Hih := hide (Ih.out x _ w5 Hv5.out)
      have q0 := hnb5.cell 0
      have q1 := hnb5.cell 1
      have q2 := hnb5.cell 2
      have q3 := hnb5.cell 3
      have q4 := hnb5.cell 4
      clear hnb5 Hnb Hbn Hv2 Hv5
      go_wp2_with fail
      refine Hih.out.mono ?_
      rintro e w6 ⟨b6, rfl, h6, hb6⟩
      have HW6 := hide (HW5.out.trans (hb6.mono HW5.out.size))
      have H6 := hide h6
      clear hb6 h6 q0 q1 q2 q3 q4 Hih
      cases b6 with
      | false =>
        go_wp2
        go_ret
        exact ⟨false, rfl, ⟨fun h => by simp at h, fun hf => H6.out.2 (hf.2.2.2 x (List.mem_of_getElem? Hx.out))⟩, Hb0.out.trans (HW6.out.mono (Nat.le_of_lt Hwlt.out))⟩
      | true =>
        go_wp2
        go_roundw
        case rel =>
          refine ⟨j + 1, by have := Hjl.out; omega, by go_num, ?_, HW6.out⟩
          intro m hm
          rcases Nat.lt_or_ge m j with h | h
          · exact Hall.out m h
          · obtain rfl : m = j := by omega
            exact fun x' hx' => by rw [Hx.out] at hx'; injection hx' with hx'; subst hx'; exact H6.out.1 (by simp)
        case measure => have := Hjl.out; simp [intOf]; omega
    case neg =>
      obtain rfl : j = i := by omega
      go_wp2
      go_ret
      refine ⟨true, rfl, ⟨fun _ => ⟨by rw [Hnl.out]; omega, by rw [Hnk.out, Hnl.out, Hkk.out]; first | rw [if_pos rfl] | rw [if_neg HN.out], fun y hy => ?_, fun y hy => ?_⟩, fun _ => rfl⟩, Hb0.out.trans (Hb.out.mono (Nat.le_of_lt Hwlt.out))⟩
      · obtain ⟨m, hm⟩ := List.mem_iff_getElem?.1 hy
        exact HallK.out m (by have := (List.getElem?_eq_some_iff.1 hm).1; rw [Hnk.out] at this; omega) y hm
      · obtain ⟨m, hm⟩ := List.mem_iff_getElem?.1 hy
        exact Hall.out m (by have := (List.getElem?_eq_some_iff.1 hm).1; rw [Hnl.out] at this; exact this) y hm
  · have h6' : ((kk : Int) == 6) = false := by rw [beq_eq_false_iff_ne]; omega
    have HN := hide h6
    clear h6
    by_cases e1 : 200 < nl
    case pos =>
      go_wp2
      go_ret
      exact ⟨false, rfl, ⟨fun h => by simp at h, fun hf => by exfalso; have := hf.1; rw [Hnl.out] at this; omega⟩, Hb0.out⟩
    by_cases e2 : nk = 0
    case neg =>
      have e2' : ((nk : Int) == 0) = false := by rw [beq_eq_false_iff_ne]; omega
      have e2'' : ((nk : Int) != 0) = true := by simp only [bne, e2']; rfl
      have e3 : 0 < nk := by omega
      have E2 := hide e2
      clear e2
      go_wp2
      go_ret
      exact ⟨false, rfl, ⟨fun h => by simp at h, fun hf => by exfalso; have := hf.2.1; rw [Hnk.out, Hnl.out, Hkk.out, if_neg HN.out] at this; exact E2.out this⟩, Hb0.out⟩
    obtain rfl : nk = 0 := e2
    have c3' := c3
    clear c3
    have c3 := c3'
    clear c3'
    go_wp2_with fail
    clear hw0
    go_loopw [30] (fun iv wr => ∃ i : Nat, i ≤ 0 ∧ iv = .int .i64 (i : Int) ∧ (∀ j, j < i → ∀ y, v.ks[j]? = some y → y.length ≤ 32) ∧ w0 = wr) (fun iv _ => 0 - (intOf iv).toNat)
    case atStart => exact ⟨0, Nat.zero_le _, rfl, fun j hj => absurd hj (Nat.not_lt_zero j), rfl⟩
    case round =>
    obtain ⟨i, hi, rfl, hall, rfl⟩ := hrel
    have Hall := hide hall
    clear hall
    by_cases hil : i < 0
    case pos => omega
    case neg =>
    have hi0 := hide hi
    have HallK := hide Hall.out
    clear Hall hi
    go_wp2_with fail
    go_loopw [41] (fun iv wr => ∃ j : Nat, j ≤ nl ∧ iv = .int .i64 (j : Int) ∧ (∀ m, m < j → ∀ x, v.ls[m]? = some x → formP d x) ∧ Below w0.heap.size w0 wr) (fun iv _ => nl - (intOf iv).toNat)
    case atStart => exact ⟨0, Nat.zero_le _, rfl, fun j hj => absurd hj (Nat.not_lt_zero j), Below.refl _ _⟩
    case round =>
    obtain ⟨j, hj, rfl, hall, hb⟩ := hrel
    have Hb := hide hb
    have Hall := hide hall
    clear hb hall
    by_cases hjl : j < nl
    case pos =>
      obtain ⟨x, hx⟩ : ∃ x, v.ls[j]? = some x := ⟨_, List.getElem?_eq_getElem (by rw [Hnl.out]; exact hjl)⟩
      obtain ⟨g', o', rfl, hL⟩ : ∃ g' o', LA = some ⟨g', o', none⟩ ∧ ∀ j x, v.ls[j]? = some x → PV wr (Old wr) g' (o' + 5 * j) x := by
        rcases (Hat.out.below Hb.out Hwlt.out).L with h | h
        · rw [h] at hx; simp at hx
        · exact h
      obtain ⟨cs', hg', hr', hv'⟩ := hL j x hx
      rw [Nat.mul_comm 5 j] at hr'
      have hcs' : ∃ y0 y1 y2 y3 y4, cs' = [y0, y1, y2, y3, y4] := by cases hv'; exact ⟨_, _, _, _, _, rfl⟩
      obtain ⟨y0, y1, y2, y3, y4, rfl⟩ := hcs'
      have hou := hv'.one
      have Hall5 := hide (show (#[y0, y1, y2, y3, y4] : Array Value).all (·.oneCell') = true from all_oneCell_toArray hou)
      have q0 : wr.cell? ⟨g', o' + j * 5, none⟩ = some y0 := hr' 0 _ rfl
      have q1 : wr.cell? ⟨g', o' + j * 5 + 1, none⟩ = some y1 := hr' 1 _ rfl
      have q2 : wr.cell? ⟨g', o' + j * 5 + 2, none⟩ = some y2 := hr' 2 _ rfl
      have q3 : wr.cell? ⟨g', o' + j * 5 + 3, none⟩ = some y3 := hr' 3 _ rfl
      have q4 : wr.cell? ⟨g', o' + j * 5 + 4, none⟩ = some y4 := hr' 4 _ rfl
      have hbn : Below wr.heap.size wr (wr.alloc (.cells [y0, y1, y2, y3, y4].toArray 25)) := (Below.refl _ _).alloc (Nat.le_refl _) _
      have hnb := Blk.new wr 25 #[y0, y1, y2, y3, y4]
      have hv2 := hv'.later hbn
      have Hx := hide hx
      have Hv2 := hide hv2
      have Hbn := hide hbn
      have Hnb := hide hnb
      have Hjl := hide hjl
      clear hL hg' hr' hv' hx hou hbn hnb hv2 hj hjl
      go_upto_region 15 with (first
        | (refine wpList_store_mid rfl 25 (.tmp 9) (.tmp 44) rfl wr.heap.size 0 #[y0, y1, y2, y3, y4] rfl rfl (there_new _ _ _ _ (by show 5 ≤ 5; omega)) (by kernel_rfl) Hall5.out ?_
           rw [show (#[y0, y1, y2, y3, y4] : Array Value).toList = [y0, y1, y2, y3, y4] from rfl, setCells_new _ _ _ _ (by rfl)]))
      obtain ⟨w5, hw5⟩ : ∃ w5, wr.alloc (.cells [y0, y1, y2, y3, y4].toArray 25) = w5 := ⟨_, rfl⟩
      have HW5 := hide (show Below w0.heap.size w0 w5 from by rw [← hw5]; exact Hb.out.trans (Hbn.out.mono Hb.out.size))
      have hnb5 : Blk w5 wr.heap.size 25 #[y0, y1, y2, y3, y4] := by rw [← hw5]; exact Hnb.out
      have Hv5 := hide (show VC w5 (Old w5) x [y0, y1, y2, y3, y4] from by rw [← hw5]; exact Hv2.out)
      rw [hw5]
      clear hw5 q0 q1 q2 q3 q4
      have Hih := hide (Ih.out x _ w5 Hv5.out)
      have q0 := hnb5.cell 0
      have q1 := hnb5.cell 1
      have q2 := hnb5.cell 2
      have q3 := hnb5.cell 3
      have q4 := hnb5.cell 4
      clear hnb5 Hnb Hbn Hv2 Hv5
      go_wp2_with fail
      refine Hih.out.mono ?_
      rintro e w6 ⟨b6, rfl, h6, hb6⟩
      have HW6 := hide (HW5.out.trans (hb6.mono HW5.out.size))
      have H6 := hide h6
      clear hb6 h6 q0 q1 q2 q3 q4 Hih
      cases b6 with
      | false =>
        go_wp2
        go_ret
        exact ⟨false, rfl, ⟨fun h => by simp at h, fun hf => H6.out.2 (hf.2.2.2 x (List.mem_of_getElem? Hx.out))⟩, Hb0.out.trans (HW6.out.mono (Nat.le_of_lt Hwlt.out))⟩
      | true =>
        go_wp2
        go_roundw
        case rel =>
          refine ⟨j + 1, by have := Hjl.out; omega, by go_num, ?_, HW6.out⟩
          intro m hm
          rcases Nat.lt_or_ge m j with h | h
          · exact Hall.out m h
          · obtain rfl : m = j := by omega
            exact fun x' hx' => by rw [Hx.out] at hx'; injection hx' with hx'; subst hx'; exact H6.out.1 (by simp)
        case measure => have := Hjl.out; simp [intOf]; omega
    case neg =>
      obtain rfl : j = nl := by omega
      go_wp2
      go_ret
      refine ⟨true, rfl, ⟨fun _ => ⟨by rw [Hnl.out]; omega, by rw [Hnk.out, Hnl.out, Hkk.out]; first | rw [if_pos rfl] | rw [if_neg HN.out], fun y hy => ?_, fun y hy => ?_⟩, fun _ => rfl⟩, Hb0.out.trans (Hb.out.mono (Nat.le_of_lt Hwlt.out))⟩
      · obtain ⟨m, hm⟩ := List.mem_iff_getElem?.1 hy
        exact HallK.out m (by have := (List.getElem?_eq_some_iff.1 hm).1; rw [Hnk.out] at this; omega) y hm
      · obtain ⟨m, hm⟩ := List.mem_iff_getElem?.1 hy
        exact Hall.out m (by have := (List.getElem?_eq_some_iff.1 hm).1; rw [Hnl.out] at this; exact this) y hm
end Go.Proofs.Ytdkmccilnmdhmaa
