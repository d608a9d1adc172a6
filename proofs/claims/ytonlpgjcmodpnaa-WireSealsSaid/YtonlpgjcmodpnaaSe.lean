/- Package wire, and the document's answer: sealed bytes are opened. -/
import Derived.Test.YtonlpgjcmodpnaaSd
namespace Go.Proofs.Ytonlpgjcmodpnaa
open Go.RowKit

set_option maxHeartbeats 1000000 in
theorem equal_any (A B : Option Addr) (n c m d : Nat) (l r : List UInt8) (w : World) (hn : l.length = n) (hm : r.length = m) (h1 : Bytes w A l) (h2 : Bytes w B r) :
    Calls Try.prog 53 #[.slice A n c, .slice B m d] w fun e w' => e = .returned (.bool (decide (l = r))) ∧ w = w' := by
  have hs1 := str_run (c := c) hn h1
  have hs2 := str_run (c := d) hm h2
  clear hn hm h1 h2
  go_enter Try.func53, Try.ntmps53
  go_wp2
  go_ret
  have hd : (l == r) = decide (l = r) := by rw [Bool.eq_iff_iff]; simp
  exact ⟨by rw [← hd]; rfl, rfl⟩
set_option maxHeartbeats 1000000 in
theorem open_short (A : Option Addr) (c : Nat) (l : List UInt8) (w : World) (hl : l.length < 4) :
    Calls Try.prog 36 #[.slice A l.length c] w fun e w' => e = .returned (.tuple #[.pointer none, .int .i64 3]) ∧ w = w' := by
  go_enter Try.func36, Try.ntmps36
  go_wp2
  go_ret2
  exact ⟨rfl, rfl⟩
def OpenedPost (l : List UInt8) (w : World) (e : Ending) (w' : World) : Prop :=
  ((¬ okSeal l ∧ e = .returned (.tuple #[.pointer none, .int .i64 14])) ∨ (okSeal l ∧ ∃ rb, e = .returned (.tuple #[.pointer (some ⟨rb, 0, none⟩), .int .i64 0]) ∧ Rd w' rb (l.take (l.length - 4)) false ∧ w.heap.size ≤ rb)) ∧ Below w.heap.size w w'
set_option maxRecDepth 100000 in
set_option maxHeartbeats 4000000 in
theorem open_long (A : Option Addr) (c : Nat) (l : List UInt8) (w : World) (hb : Bytes w A l) (h4 : 4 ≤ l.length) (hl : l.length ≤ 1000000000) (hc : l.length ≤ c) :
    Calls Try.prog 36 #[.slice A l.length c] w (OpenedPost l w) := by
  obtain ⟨g, o, rfl, hr⟩ : ∃ g o, A = some ⟨g, o, none⟩ ∧ w.rangeAt g o (B8s l) := by
    rcases hb with h | h
    · rw [h] at h4; simp at h4
    · exact h
  obtain ⟨n, hn⟩ : ∃ n, l.length = n + 4 := ⟨l.length - 4, by omega⟩
  have hby : Bytes w (some ⟨g, o, none⟩) l := .inr ⟨g, o, rfl, hr⟩
  have htk : (l.take n).length = n := by rw [List.length_take]; omega
  have hdr : (l.drop n).length = 4 := by rw [List.length_drop]; omega
  have hby1 := hby.take n
  have hby2 := hby.drop n
  have hok : okSeal l ↔ l.drop n = le4 (crc (l.take n)) := by
    unfold okSeal
    rw [hn, show n + 4 - 4 = n by omega]
    exact ⟨fun h => h.2, fun h => ⟨by omega, h⟩⟩
  have hso := sealof_any (some ⟨g, o, none⟩) n (l.take n) w.drew (hby1.fr (F := fun _ => False) (Fr.refl _ _).drew (fun _ _ h => h)) (by omega)
  rw [htk] at hso
  have htn : l.take (l.length - 4) = l.take n := by rw [hn, show n + 4 - 4 = n by omega]
  have Hso := hide hso
  have Hby1 := hide hby1
  have Hby2 := hide hby2
  have Hok := hide hok
  have Htk := hide htk
  have Hdr := hide hdr
  have Htn := hide htn
  have hnc : n + 4 ≤ c := by omega
  have hnb : n ≤ 1000000000 := by omega
  rw [hn]
  clear hso hby1 hby2 hok htk hdr htn hby hr hb h4 hl hc hn
  go_enter Try.func36, Try.ntmps36
  go_upto_region 5 with fail
  refine wp_region_planned (fun W => Below w.heap.size w W) 6 [(false, 0), (false, 1), (false, 2), (false, 3), (true, 4), (true, 5)] (by kernel_rfl) (by kernel_rfl) (fun _ _ d _ _ h => by cases d <;> exact h) (Below.refl _ _).drew ?_
  simp only [steps, List.getElem?_toArray, List.filterMap_cons, List.filterMap_nil, Option.map_some, List.getElem?_cons_zero, List.getElem?_cons_succ, List.drop_succ_cons, List.drop_zero]
  iterate 2 (refine wpPlan_read rfl (fun W hW => (by go_simp; try with_reducible rfl)) ?_)
  refine wpPlan_read (v := .slice (some ⟨g, o + n, none⟩) 4 (c - n)) rfl (fun W hW => (by
    have hne : ¬ c = n := by omega
    clear hW
    go_simp
    try (intro h; omega))) ?_
  refine wpPlan_read rfl (fun W hW => (by go_simp; try with_reducible rfl)) ?_
  simp only [Act.put, List.setIfInBounds_toArray, List.set_cons_zero, List.set_cons_succ]
  refine wpPlan_does rfl (fun K hK => ?_)
  refine wp_call_by 51 #[.slice (some ⟨g, o, none⟩) n n] (by kernel_rfl) Hso.out ?_
  rintro e w1 ⟨g1, rfl, ho1, hb1, hg1⟩
  have hs1 : Below w.heap.size w w1 := (Below.refl _ _).drew.trans hb1
  refine ⟨_, rfl, hK _ _ hs1 ?_⟩
  clear hK hb1
  simp only [Act.put, List.setIfInBounds_toArray, List.set_cons_zero, List.set_cons_succ]
  refine wpPlan_does rfl (fun K hK => ?_)
  refine wp_call_by 53 #[.slice (some ⟨g, o + n, none⟩) 4 (c - n), .slice (some ⟨g1, 0, none⟩) 4 4] (by kernel_rfl) (equal_any _ _ 4 (c - n) 4 4 (l.drop n) _ w1 Hdr.out ho1.1 (Hby2.out.below hs1 (Nat.le_refl _)) ho1.bytes) ?_
  rintro e w2 ⟨rfl, rfl⟩
  refine ⟨_, rfl, hK _ _ hs1 ?_⟩
  clear hK
  refine wpPlan_nil ?_
  have Hs1 := hide hs1
  clear hs1 ho1 hg1
  by_cases hk : okSeal l
  · have hd : decide (l.drop n = le4 (crc (l.take n))) = true := decide_eq_true (Hok.out.1 hk)
    rw [hd]
    simp only [Act.put, List.setIfInBounds_toArray, List.set_cons_zero, List.set_cons_succ]
    have hrd := read_any (some ⟨g, o, none⟩) n n (l.take n) w1 Htk.out (Hby1.out.below Hs1.out (Nat.le_refl _)) (by omega)
    have Hrd := hide hrd
    have Hk := hide hk
    clear hd hrd hk
    go_wp2_with fail
    refine Hrd.out.mono ?_
    rintro e w3 ⟨rb, rfl, hr3, hb3, hrb⟩
    have Hp := hide (show _ ∧ _ ∧ _ from ⟨hr3, hb3, hrb⟩)
    clear hr3 hb3 hrb Hrd
    go_wp2
    go_ret2
    exact ⟨.inr ⟨Hk.out, rb, rfl, by rw [Htn.out]; exact Hp.out.1, Nat.le_trans Hs1.out.size Hp.out.2.2⟩, Hs1.out.trans (Hp.out.2.1.mono Hs1.out.size)⟩
  · have hd : decide (l.drop n = le4 (crc (l.take n))) = false := decide_eq_false (fun h => hk (Hok.out.2 h))
    rw [hd]
    simp only [Act.put, List.setIfInBounds_toArray, List.set_cons_zero, List.set_cons_succ]
    have Hk := hide hk
    clear hd hk
    go_wp2
    go_ret2
    exact ⟨.inl ⟨Hk.out, rfl⟩, Hs1.out⟩
end Go.Proofs.Ytonlpgjcmodpnaa
