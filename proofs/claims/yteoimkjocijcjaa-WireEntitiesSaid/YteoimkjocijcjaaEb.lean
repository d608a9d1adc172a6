/- Package wire: Writer.Entity. -/
import Derived.Test.YteoimkjocijcjaaWe
import Derived.Test.YteoimkjocijcjaaRegionF
namespace Go.Proofs.Yteoimkjocijcjaa
open Go.RowKit

/-- The bytes of an entity. -/
def entB (typ eid : List UInt8) (v : V) : List UInt8 := textB typ ++ (textB eid ++ encV v)
theorem buildE (KA LA : Option Addr) (n c m d : Nat) (w : World) : (Instr.build 27 #[(0, .int .u8 6), (3, .slice KA n c), (4, .slice LA m d)]).run Try.prog w = .ok (.agg #[.int .u8 6, .int .i64 0, .string ⟨#[]⟩, .slice KA n c, .slice LA m d]) w := run_build w _ _ _ (by kernel_rfl)
set_option maxRecDepth 100000 in
set_option maxHeartbeats 4000000 in
theorem wentity_any (wb : Nat) (F G : Nat → Prop) (l typ eid : List UInt8) (ks : List (List UInt8)) (ls : List V) (KA LA : Option Addr) (kc lc : Nat) (w : World) (h : Wt w wb F l) (hv : VC w G (.mk 6 0 [] ks ls) [.int .u8 6, .int .i64 0, sv [], .slice KA ks.length kc, .slice LA ls.length lc])
    (hG : ∀ k, G k → ¬ F k ∧ k < w.heap.size) (ht : typ.length ≤ 1000) (hi : eid.length ≤ 1000) (hl : l.length + 5000 + (encV (.mk 6 0 [] ks ls)).length ≤ 100000000000) :
    Calls Try.prog 7 #[.pointer (some ⟨wb, 0, none⟩), .agg #[sv typ, sv eid, .slice KA ks.length kc, .slice LA ls.length lc]] w (WPost wb F (l ++ entB typ eid (.mk 6 0 [] ks ls)) w) := by
  have hxb := Blk.new w 25 #[sv typ, sv eid, .slice KA ks.length kc, .slice LA ls.length lc]
  have f0 : Fr (fun _ => False) w (w.alloc (.cells #[sv typ, sv eid, .slice KA ks.length kc, .slice LA ls.length lc] 25)) := (Fr.refl _ _).alloc _
  obtain ⟨w1, hw1⟩ : ∃ w1, w.alloc (.cells #[sv typ, sv eid, .slice KA ks.length kc, .slice LA ls.length lc] 25) = w1 := ⟨_, rfl⟩
  rw [hw1] at hxb f0
  have hs1 : w1.heap.size = w.heap.size + 1 := by rw [← hw1]; simp
  have htb : ∀ s : List UInt8, s.length ≤ 1000 → (textB s).length ≤ 2000 := fun s hs => by
    have := Lib.uvarint_length64 (x := s.length) (by omega)
    rw [textB, List.length_append]
    omega
  have ht2 := htb typ ht
  have hi2 := htb eid hi
  have hlt : ∀ k, F k → k < w.heap.size := h.lt
  have h1 : Wt w1 wb F l := h.nofr f0
  have hv1 := hv.fr f0 (fun _ _ h => h)
  have Hlt := hide hlt
  have H1 := hide h1
  have Hv1 := hide hv1
  have HG := hide hG
  have Hs1 := hide hs1
  have F0 := hide f0
  have Hxb := hide hxb
  have Hlen := hide (show _ ∧ _ ∧ _ ∧ _ ∧ _ from ⟨hl, ht2, hi2, ht, hi⟩)
  obtain ⟨xb, hx⟩ : ∃ xb, w.heap.size = xb := ⟨_, rfl⟩
  rw [hx] at Hxb
  have Hx := hide hx
  clear h hv hG ht hi hl hxb f0 hs1 htb ht2 hi2 hlt h1 hv1
  go_enter Try.func7, Try.ntmps7
  go_upto_region 1 with fail
  refine wp_region_tree (fun W => Blk W xb 25 #[sv typ, sv eid, .slice KA ks.length kc, .slice LA ls.length lc]) 13 (.read 0 (.read 1 (.read 2 (.read 4 (.read 5 (.read 7 (.read 8 (.read 9 (.read 10 (.read 11 (.eff 3 (.eff 6 (.eff 12 .nil))))))))))))) (by kernel_rfl) (by kernel_rfl) (fun _ _ d _ _ h => by cases d <;> exact h) Hxb.out.drew ?_
  simp only [Plan.ops, List.getElem?_toArray, List.getElem?_cons_zero, List.getElem?_cons_succ, Option.elim, List.drop_succ_cons, List.drop_zero]
  refine wpTree_read rfl (fun W hW => (by clear hW; go_simp; try with_reducible rfl)) ?_
  refine wpTree_read rfl (fun W hW => (by clear hW; go_simp; try with_reducible rfl)) ?_
  simp only [Act.put, List.setIfInBounds_toArray, List.set_cons_zero, List.set_cons_succ]
  refine wpTree_read (v := sv typ) rfl (fun W hW => (by have b0 := hW.cell 0; clear hW; go_simp; try with_reducible rfl)) ?_
  refine wpTree_read rfl (fun W hW => (by clear hW; go_simp; try with_reducible rfl)) ?_
  simp only [Act.put, List.setIfInBounds_toArray, List.set_cons_zero, List.set_cons_succ]
  refine wpTree_read (v := sv eid) rfl (fun W hW => (by have b0 := hW.cell 1; clear hW; go_simp; try with_reducible rfl)) ?_
  refine wpTree_read rfl (fun W hW => (by clear hW; go_simp; try with_reducible rfl)) ?_
  simp only [Act.put, List.setIfInBounds_toArray, List.set_cons_zero, List.set_cons_succ]
  refine wpTree_read (v := .slice KA ks.length kc) rfl (fun W hW => (by have b0 := hW.cell 2; clear hW; go_simp; try with_reducible rfl)) ?_
  refine wpTree_read rfl (fun W hW => (by clear hW; go_simp; try with_reducible rfl)) ?_
  simp only [Act.put, List.setIfInBounds_toArray, List.set_cons_zero, List.set_cons_succ]
  refine wpTree_read (v := .slice LA ls.length lc) rfl (fun W hW => (by have b0 := hW.cell 3; clear hW; go_simp; try with_reducible rfl)) ?_
  simp only [Act.put, List.setIfInBounds_toArray, List.set_cons_zero, List.set_cons_succ]
  refine wpTree_read (v := .agg #[.int .u8 6, .int .i64 0, .string ⟨#[]⟩, .slice KA ks.length kc, .slice LA ls.length lc]) rfl (fun W hW => (by have hb := buildE KA LA ks.length kc ls.length lc; clear hW; go_simp; try with_reducible rfl)) ?_
  simp only [Act.put, List.setIfInBounds_toArray, List.set_cons_zero, List.set_cons_succ]
  refine wpTree_eff (wpEff_does rfl (fun K hK => ?_))
  refine wp_call_by 17 #[.pointer (some ⟨wb, 0, none⟩), sv typ] (by kernel_rfl) (wtext_any wb F l typ w1.drew (H1.out.nofr (Fr.refl _ _).drew) (by have := Hlen.out; omega)) ?_
  rintro e w3 ⟨F3, rfl, h3, f3, n3⟩
  have f3' : Fr F w1 w3 := (Fr.refl F w1).drew.trans' f3 (fun _ _ h => h)
  have hn3 : ∀ k, F3 k → F k ∨ w1.heap.size ≤ k := n3
  have hb3 := Hxb.out.fr f3' (fun h => by have := Hlt.out _ h; have := Hx.out; omega)
  refine ⟨_, rfl, hK _ _ hb3 ?_⟩
  clear hK n3 f3
  simp only [Act.put, List.setIfInBounds_toArray, List.set_cons_zero, List.set_cons_succ]
  refine wpTree_eff (wpEff_does rfl (fun K hK => ?_))
  refine wp_call_by 17 #[.pointer (some ⟨wb, 0, none⟩), sv eid] (by kernel_rfl) (wtext_any wb F3 (l ++ textB typ) eid w3 h3 (by have := Hlen.out; rw [List.length_append]; omega)) ?_
  rintro e w6 ⟨F6, rfl, h6, f6, n6⟩
  have hn6 : ∀ k, F6 k → F k ∨ w1.heap.size ≤ k := fun k hk => (n6 k hk).elim (hn3 k) (fun h => .inr (Nat.le_trans f3'.size h))
  have f6' : Fr F w1 w6 := f3'.trans' f6 (fun k hk h => (hn3 k h).elim id (fun h' => by omega))
  have hb6 := Hxb.out.fr f6' (fun h => by have := Hlt.out _ h; have := Hx.out; omega)
  refine ⟨_, rfl, hK _ _ hb6 ?_⟩
  clear hK n6 f6 h3
  simp only [Act.put, List.setIfInBounds_toArray, List.set_cons_zero, List.set_cons_succ]
  refine wpTree_eff (wpEff_does rfl (fun K hK => ?_))
  refine wp_call_by 15 #[.pointer (some ⟨wb, 0, none⟩), .agg #[.int .u8 6, .int .i64 0, .string ⟨#[]⟩, .slice KA ks.length kc, .slice LA ls.length lc]] (by kernel_rfl) (wvalue_any wb F6 G (l ++ textB typ ++ textB eid) (.mk 6 0 [] ks ls) [.int .u8 6, .int .i64 0, sv [], .slice KA ks.length kc, .slice LA ls.length lc] w6 h6 (Hv1.out.fr f6' (fun k hk => (HG.out k hk).1)) (fun k hk => ⟨fun h => (hn6 k h).elim (HG.out k hk).1 (fun h' => by have := (HG.out k hk).2; have := Hs1.out; omega), by have := (HG.out k hk).2; have := Hs1.out; have := f6'.size; omega⟩) (by have := Hlen.out; simp only [List.length_append]; omega)) ?_
  rintro e w9 ⟨F9, rfl, h9, f9, n9⟩
  have hn9 : ∀ k, F9 k → F k ∨ w1.heap.size ≤ k := fun k hk => (n9 k hk).elim (hn6 k) (fun h => .inr (Nat.le_trans f6'.size h))
  have f9' : Fr F w1 w9 := f6'.trans' f9 (fun k hk h => (hn6 k h).elim id (fun h' => by omega))
  have hb9 := Hxb.out.fr f9' (fun h => by have := Hlt.out _ h; have := Hx.out; omega)
  refine ⟨_, rfl, hK _ _ hb9 ?_⟩
  clear hK n9 f9 h6
  simp only [Act.put, List.setIfInBounds_toArray, List.set_cons_zero, List.set_cons_succ]
  refine wpTree_nil ?_
  have H9 := hide (show WPost wb F (l ++ entB typ eid (.mk 6 0 [] ks ls)) w (.returned (.pointer (some ⟨wb, 0, none⟩))) w9 from ⟨F9, rfl, by rw [entB, ← List.append_assoc, ← List.append_assoc]; exact h9, (F0.out.mono (fun _ _ h => h.elim)).trans' f9' (fun _ _ h => h), fun k hk => (hn9 k hk).imp id (fun h => by have := Hs1.out; omega)⟩)
  clear h9 f9' hn9 hb9 hb6 hb3 f6' f3' hn6 hn3
  go_wp2
  go_ret
  exact H9.out
end Go.Proofs.Yteoimkjocijcjaa
