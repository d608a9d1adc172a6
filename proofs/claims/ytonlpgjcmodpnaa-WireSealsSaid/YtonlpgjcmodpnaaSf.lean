/- The document's answer: sealed bytes are opened. -/
import Derived.Test.YtonlpgjcmodpnaaSe
import Derived.Test.YtonlpgjcmodpnaaSc
namespace Go.Proofs.Ytonlpgjcmodpnaa
open Go.RowKit

theorem okSeal_whole (l : List UInt8) (n : Nat) (hn : l.length = n + 4) : okSeal l ↔ sealB (l.take n) = l := by
  unfold okSeal sealB
  rw [hn, show n + 4 - 4 = n by omega]
  constructor
  · rintro ⟨_, h⟩
    rw [← h, List.take_append_drop]
  · intro h
    refine ⟨by omega, ?_⟩
    have h2 := congrArg (List.drop n) h
    rw [List.drop_left' (by rw [List.length_take]; omega)] at h2
    exact h2.symm
def ROpenPost (v : Int) (w : World) (e : Ending) (w' : World) : Prop := ∃ A n c, e = .returned (.tuple #[.slice A n c, .int .i64 v]) ∧ Below w.heap.size w w'
set_option maxHeartbeats 1000000 in
theorem ropen_short (A : Option Addr) (c : Nat) (l : List UInt8) (w : World) (hl : l.length < 4) :
    Calls Try.prog 37 #[.slice A l.length c] w (ROpenPost 3 w) := by
  go_enter Try.func37, Try.ntmps37
  go_wp2
  go_ret2
  exact ⟨none, 0, 0, rfl, Below.refl _ _⟩
set_option maxRecDepth 100000 in
set_option maxHeartbeats 4000000 in
theorem ropen_long (A : Option Addr) (c : Nat) (l : List UInt8) (w : World) (hb : Bytes w A l) (h4 : 4 ≤ l.length) (hl : l.length ≤ 1000000000) (hc : l.length ≤ c) (d : Bool) (hd : d = true ↔ okSeal l) :
    Calls Try.prog 37 #[.slice A l.length c] w (ROpenPost (if d then 0 else 14) w) := by
  obtain ⟨n, hn⟩ : ∃ n, l.length = n + 4 := ⟨l.length - 4, by omega⟩
  have htk : (l.take n).length = n := by rw [List.length_take]; omega
  have hby1 := hb.take n
  have hok := okSeal_whole l n hn
  have hso := rseal_any A c (l.take n) w.drew (hby1.fr (F := fun _ => False) (Fr.refl _ _).drew (fun _ _ h => h)) (by omega)
  rw [htk] at hso
  have Hso := hide hso
  have Hby := hide hb
  have Hok := hide hok
  have Hd := hide hd
  have Hn := hide hn
  have hnc : n + 4 ≤ c := by omega
  have hnb : n ≤ 1000000000 := by omega
  rw [hn]
  clear hso hby1 hok htk hb h4 hl hc hn hd
  go_enter Try.func37, Try.ntmps37
  go_upto_region 4 with fail
  refine wp_region_planned (fun W => Below w.heap.size w W) 7 [(false, 0), (false, 1), (false, 2), (false, 5), (false, 6), (true, 3), (true, 4)] (by kernel_rfl) (by kernel_rfl) (fun _ _ d _ _ h => by cases d <;> exact h) (Below.refl _ _).drew ?_
  simp only [steps, List.getElem?_toArray, List.filterMap_cons, List.filterMap_nil, Option.map_some, List.getElem?_cons_zero, List.getElem?_cons_succ, List.drop_succ_cons, List.drop_zero]
  iterate 2 (refine wpPlan_read rfl (fun W hW => (by go_simp; try with_reducible rfl)) ?_)
  refine wpPlan_read (v := .slice A n c) rfl (fun W hW => (by
    clear hW
    go_simp
    try (intro h; omega))) ?_
  refine wpPlan_read rfl (fun W hW => (by go_simp; try with_reducible rfl)) ?_
  refine wpPlan_read (v := .string ⟨l.toArray⟩) rfl (fun W hW => (by
    have hc := str_run (n := n + 4) (c := c) (l := l) Hn.out (Hby.out.below hW (Nat.le_refl _))
    clear hW
    go_simp)) ?_
  simp only [Act.put, List.setIfInBounds_toArray, List.set_cons_zero, List.set_cons_succ]
  refine wpPlan_does rfl (fun K hK => ?_)
  refine wp_call_by 35 #[.slice A n c] (by kernel_rfl) Hso.out ?_
  rintro e w1 ⟨A1, c1, rfl, ho1, hA1, hb1⟩
  have hs1 : Below w.heap.size w w1 := (Below.refl _ _).drew.trans hb1
  refine ⟨_, rfl, hK _ _ hs1 ?_⟩
  clear hK hb1
  simp only [Act.put, List.setIfInBounds_toArray, List.set_cons_zero, List.set_cons_succ]
  have hst := str_run (c := c1) rfl ho1.bytes
  refine wpPlan_does rfl (fun K hK => ?_)
  refine wp_run_val (v := .string ⟨(sealB (l.take n)).toArray⟩) (by go_simp) ?_
  refine hK _ _ hs1 ?_
  clear hK hst ho1 hA1
  simp only [Act.put, List.setIfInBounds_toArray, List.set_cons_zero, List.set_cons_succ]
  refine wpPlan_nil ?_
  have Hs1 := hide hs1
  clear hs1
  obtain ⟨q, hq⟩ : ∃ q, q = sealB (l.take n) := ⟨_, rfl⟩
  rw [← hq]
  have Hq := hide hq
  clear hq
  cases d
  · have hne : ¬ q = l := fun h => by
      have h2 := Hd.out.2 (Hok.out.2 (by rw [← Hq.out]; exact h))
      cases h2
    have hb1 : (q != l) = true := by rw [bne_iff_ne]; exact hne
    have hb2 : (q == l) = false := by rw [beq_eq_false_iff_ne]; exact hne
    clear hne
    go_wp2
    go_ret2
    exact ⟨none, 0, 0, rfl, Hs1.out⟩
  · have he : q = l := by rw [Hq.out]; exact Hok.out.1 (Hd.out.1 rfl)
    subst he
    go_wp2
    go_ret2
    exact ⟨A, n, c, rfl, Hs1.out⟩
end Go.Proofs.Ytonlpgjcmodpnaa
