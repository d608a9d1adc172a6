/- Layer 1: the document's own answer: Read in all cases, Write, New. -/
import Derived.Test.YtfplafdpdfhpiaaRefB
namespace Go.Proofs.Ytfplafdpdfhpiaa
open Go.RowKit

section
variable {P : Program}
/-- A struct literal as one operation, its run known. -/
theorem wp_build_of {o : Oper} {a : Act} {w : World} {K : Act → World → Prop} {Q : Exit → Act → World → Prop} (t : TypeId) (parts : Array (Nat × Operand)) (ho : o.op = .build t parts)
    (ps : Array (Nat × Value)) (hps' : (parts.toList.map fun x => (x.1, a.eval x.2)) = ps.toList) (cells : Array Value) (hr : (Instr.build t ps).run P w = .ok (.agg cells) w)
    (h : K (a.put o.dst (.agg cells)) w) : o.wp P a w K Q := by
  have hps : (parts.map fun (i, x) => (i, a.eval x)) = ps := by
    apply Array.toList_inj.1
    rw [Array.toList_map]
    exact hps'
  subst hps
  unfold Oper.wp execOp
  simp only [ho, Sem.run_bind, hr, Result.andThen_ok]
  exact h
/-- A slice literal of one element of one cell. -/
theorem wp_buildSlice_val {o : Oper} {a : Act} {w : World} {K : Act → World → Prop} {Q : Exit → Act → World → Prop} (t : TypeId) (x : Operand) (ho : o.op = .buildSlice t 1 #[(0, x)])
    (v : Value) (hx : a.eval x = v) (hv : v.cells = #[v]) (e : TypeId) (bytes : Nat) (z : Value) (hu : P.underlying t = some (.slice e)) (hi : (P.info? e).map (fun i => (i.zero, i.size, i.bytes)) = some (some z, 1, bytes))
    (h : K (a.put o.dst (.slice (some ⟨w.heap.size, 0, none⟩) 1 1)) (w.alloc (.cells #[v] e))) : o.wp P a w K Q := by
  have hr : (Instr.buildSlice t 1 #[(0, v)]).run P w = .ok (.slice (some ⟨w.heap.size, 0, none⟩) 1 1) (w.alloc (.cells #[v] e)) := by
    obtain ⟨i, hi', hz, hs, hb⟩ := info_parts hi
    refine run_buildSlice w t e 1 _ #[v] i z hu hi' hz (by omega) (by omega) ?_
    have hf := Great.fill_whole (s := i.size) (by omega) [v] ((Array.range (1 * i.size)).map (z.cells[· % z.cells.size]!)) (by intro u hu'; simp only [List.mem_singleton] at hu'; subst hu'; rw [hv, hs]; rfl) (by simp)
    simpa [hv] using hf
  unfold Oper.wp execOp
  simp only [ho, List.map_toArray, List.map_cons, List.map_nil, hx, Sem.run_bind, hr, Result.andThen_ok]
  exact h
end

def RReadPost (D : Dk) (i : Int) (w : World) (e : Ending) (w' : World) : Prop :=
  (refuse D i ≠ 0 ∧ e = .returned (.tuple #[.string ⟨#[]⟩, .int .i64 (refuse D i)]) ∨ refuse D i = 0 ∧ e = .returned (.tuple #[.string ⟨(view D.dur D.pend i.toNat).toArray⟩, .int .i64 0])) ∧ w' = w

set_option maxHeartbeats 400000 in
theorem rread_all (rb : Nat) (sv lv : Value) (D : Dk) (i : Int) (w : World) (h : RefIn w rb sv lv D) (hl : D.pend.length < 1000000) :
    Calls Try.prog 21 #[.pointer (some ⟨rb, 0, none⟩), .int .i64 i] w (RReadPost D i w) := by
  by_cases hr : refuse D i = 0
  · obtain ⟨h0, h1, h2⟩ := refuse_zero hr
    have := rread_ok rb sv lv D i.toNat w h h2 (by omega) hl
    rw [Int.toNat_of_nonneg h0] at this
    exact this.mono fun e w' ⟨he, hw⟩ => ⟨.inr ⟨hr, he⟩, hw⟩
  · obtain ⟨sa, sc, rfl⟩ := rown_form h.sure
    have c0 : w.cell? ⟨rb, 0, none⟩ = some (.slice sa D.n sc) := h.str.cell 0
    have c4 : w.cell? ⟨rb, 4, none⟩ = some (.bool D.off) := h.str.cell 4
    have hn := h.wf.hi
    clear h
    by_cases h1 : i < 0
    · have e1 : refuse D i = 1 := by unfold refuse; rw [if_pos (.inl h1)]
      have E1 := hide e1
      have Hr := hide hr
      clear e1 hr
      go_enter Try.func21, Try.ntmps21
      go_wp2
      go_ret2
      exact ⟨.inl ⟨Hr.out, by rw [E1.out]; rfl⟩, rfl⟩
    · by_cases h2 : (D.n : Int) ≤ i
      · have e1 : refuse D i = 1 := by unfold refuse; rw [if_pos (.inr h2)]
        have E1 := hide e1
        have Hr := hide hr
        clear e1 hr
        go_enter Try.func21, Try.ntmps21
        go_wp2
        go_ret2
        exact ⟨.inl ⟨Hr.out, by rw [E1.out]; rfl⟩, rfl⟩
      · have ho : D.off = true := by
          cases hd : D.off with
          | true => rfl
          | false => exact absurd (by unfold refuse; rw [if_neg (by omega), hd]; rfl) hr
        have e1 : refuse D i = 12 := by unfold refuse; rw [if_neg (by omega), ho]; rfl
        have E1 := hide e1
        have Hr := hide hr
        rw [ho] at c4
        clear e1 hr
        go_enter Try.func21, Try.ntmps21
        go_wp2
        go_ret2
        exact ⟨.inl ⟨Hr.out, by rw [E1.out]; rfl⟩, rfl⟩

/-- the slice of what waits, with one write more, is stored in its field. -/
theorem RefIn.append {w w3 : World} {rb : Nat} {sv lv lv' : Value} {D : Dk} (h : RefIn w rb sv lv D) (i : Nat) (hi : i < D.n) (p : List UInt8) (hp : p.length ≤ 64)
    (hf : Fr (fun k => lv.ownBlock = some k) w w3) (hown : w3.ownsRow 0 66 2 lv' (D.pend.length + 1) (lcells D.pend ++ [.int .i64 (i : Int), .string ⟨(pad p).toArray⟩])) :
    RefIn (w3.setCell ⟨rb, 1, none⟩ lv') rb sv lv' (D.wrote i p) := by
  have h3 : Blk w3 rb 42 #[sv, lv, .int .i64 (D.ops : Int), .int .i64 (D.fuse : Int), .bool D.off] := h.str.fr hf h.ne_l
  have hg : Fr (fun k => k = rb) w3 (w3.setCell ⟨rb, 1, none⟩ lv') := (Fr.refl _ _).put1 1 _
  have e : (D.wrote i p).pend.length = D.pend.length + 1 := by simp [Dk.wrote]
  have e2 : lcells (D.wrote i p).pend = lcells D.pend ++ [.int .i64 (i : Int), .string ⟨(pad p).toArray⟩] := lcells_snoc _ _ _
  refine ⟨h.wf.wrote i hi p hp, ?_, own_fr (own_fr h.sure hf (fun k hk e => h.ne_sl k hk e)) hg (fun k hk e => h.ne_s (by rw [hk, e])), ?_⟩
  · have hb := h3.set_ 1 lv'
    simpa [Dk.wrote] using hb
  · rw [e, e2]
    exact own_fr hown hg (fun k hk e => own_blk_ne hown h3 (by decide) (by rw [hk, e]))

theorem buildRW (i : Int) (s : ByteArray) (w : World) : (Instr.build 66 #[(0, .int .i64 i), (1, .string s)]).run Try.prog w = .ok (.agg #[.int .i64 i, .string s]) w := run_build w _ _ _ (by kernel_rfl)

set_option maxRecDepth 10000 in
set_option maxHeartbeats 1000000 in
theorem rwrite_ok (w0 : World) (rb : Nat) (sv lv : Value) (D : Dk) (i : Nat) (A : Option Addr) (c : Nat) (p : List UInt8) (w : World) (h : RefIn w rb sv lv D) (ho : D.off = false) (hi : i < D.n) (hp : p.length ≤ 64)
    (hb : Bytes w0 A p) (hw : Below w0.heap.size w0 w) (hF : ∀ k, rfeet rb sv lv k → w0.heap.size ≤ k) (hops : D.ops < 4611686018427387904) (hfu : D.fuse ≤ 9223372036854775807) (hl : D.pend.length < 999999) :
    Calls Try.prog 14 #[.pointer (some ⟨rb, 0, none⟩), .int .i64 i, .slice A p.length c] w (RLeaves (.int .i64 (begunE D)) rb (rfeet rb sv lv) (D.wrote i p).begun w) := by
  have hr : refuse D (i : Int) = 0 := by unfold refuse; rw [if_neg (by omega), ho]; rfl
  obtain ⟨la, lc, rfl⟩ := rown_form h.l
  have c1 : w.cell? ⟨rb, 1, none⟩ = some (.slice la D.pend.length lc) := h.str.cell 1
  have hn4 := h.wf.hi
  have hcv : ∀ W : World, Bytes W A p → (convert 31 9 (.slice A p.length c)).run Try.prog W = .ok (.string ⟨p.toArray⟩) W := fun W hW => run_str_bytes _ _ _ 5 Try.underlying31 Try.underlying5 Try.underlying9 _ p.length c _ rfl hW
  have Hr := hide hr
  have H := hide h
  have Hb := hide hb
  have Hw := hide hw
  have HF := hide hF
  have Hcv := hide hcv
  clear hr h hb hw hF hcv
  go_enter Try.func14, Try.ntmps14
  go_upto_region 6 with (go_at_call 21; refine (rread_all _ _ _ D _ _ H.out (by omega)).mono ?_; rintro e w1 ⟨⟨hn, _⟩ | ⟨_, rfl⟩, rfl⟩; exact absurd Hr.out hn)
  refine wp_region_heldS (fun W => W.cell? ⟨rb, 1, none⟩ = some (.slice la D.pend.length lc) ∧ Bytes W A p) 8 12 (by kernel_rfl) (by kernel_rfl) (fun _ _ d _ _ h => by cases d <;> exact h) ⟨c1, Hb.out.below Hw.out.drew (Nat.le_refl _)⟩ ?_
  simp only [List.take_succ_cons, List.take_zero, List.drop_succ_cons, List.drop_zero]
  iterate 4 (refine wpReads_yield rfl (fun W hW => (by go_simp; try with_reducible rfl)) ?_)
  refine wpReads_yield rfl (fun W hW => (by obtain ⟨hW1, _⟩ := hW; go_simp; try with_reducible rfl)) ?_
  iterate 2 (refine wpReads_yield rfl (fun W hW => (by go_simp; try with_reducible rfl)) ?_)
  refine wpReads_yield rfl (fun W hW => (by have hW2 := Hcv.out W hW.2; go_simp; try with_reducible rfl)) ?_
  refine wpReads_nil ?_
  simp only [Act.put, List.setIfInBounds_toArray, List.set_cons_zero, List.set_cons_succ]
  -- full
  refine wpHeld_cons rfl (fun K hK => ?_)
  refine wp_call_of 26 #[.string ⟨p.toArray⟩] (by first | kernel_rfl | (go_simp; done) | simp) (rfull p _ hp) ?_
  rintro e w2 ⟨rfl, hb2⟩
  have hbw : Below w1.heap.size w1 w2 := (Below.refl _ _).drew.trans hb2
  have hr2 : RefIn w2 rb sv (.slice la D.pend.length lc) D := H.out.below hbw
  have hw2 : Below w0.heap.size w0 w2 := Hw.out.trans (hbw.mono Hw.out.size)
  refine ⟨_, rfl, hK _ _ ⟨hr2.str.cell 1, Hb.out.below hw2 (Nat.le_refl _)⟩ ?_⟩
  clear hK
  have Hr2 := hide hr2
  have Hw2 := hide hw2
  have Hbw := hide hbw
  clear hr2 hw2 hbw hb2 c1
  simp only [Act.put, List.setIfInBounds_toArray, List.set_cons_zero, List.set_cons_succ]
  -- the struct
  refine wpHeld_cons rfl (fun K hK => ?_)
  refine wp_build_of 66 #[(0, .tmp 26), (1, .tmp 29)] rfl #[(0, .int .i64 (i : Int)), (1, .string ⟨(pad p).toArray⟩)] rfl _ (buildRW _ _ _) ?_
  refine hK _ _ ⟨Hr2.out.str.cell 1, Hb.out.below Hw2.out (Nat.le_refl _)⟩ ?_
  clear hK
  simp only [Act.put, List.setIfInBounds_toArray, List.set_cons_zero, List.set_cons_succ]
  -- the row of one
  refine wpHeld_cons rfl (fun K hK => ?_)
  refine wp_buildSlice_one 40 (.tmp 30) rfl _ rfl 66 2 24 (.agg #[.int .i64 0, .string ⟨#[]⟩]) Try.underlying40 infoRW (by decide) (by decide) rfl ?_
  obtain ⟨w3, hw3⟩ : ∃ w3, w3 = w2.alloc (.cells #[.int .i64 (i : Int), .string ⟨(pad p).toArray⟩] 66) := ⟨_, rfl⟩
  rw [← hw3]
  have hf3 : Fr (fun _ => False) w2 w3 := by rw [hw3]; exact (Fr.refl _ _).alloc _
  have hb3 : Below w0.heap.size w0 w3 := by rw [hw3]; exact Hw2.out.alloc Hw2.out.size _
  have hx3 : Blk w3 w2.heap.size 66 #[.int .i64 (i : Int), .string ⟨(pad p).toArray⟩] := by rw [hw3]; exact Blk.new _ _ _
  clear hw3
  have hr3 := Hr2.out.fr hf3 (fun _ _ hh => hh)
  refine hK _ _ ⟨hr3.str.cell 1, Hb.out.below hb3 (Nat.le_refl _)⟩ ?_
  clear hK
  have Hr3 := hide hr3
  have Hb3 := hide hb3
  have Hf3 := hide hf3
  have Hx3 := hide hx3
  clear hr3 hb3 hf3 hx3
  simp only [Act.put, List.setIfInBounds_toArray, List.set_cons_zero, List.set_cons_succ]
  -- append
  refine wpHeld_cons rfl (fun K hK => ?_)
  refine wp_append_at w3 (.tmp 25) (.tmp 31) 40 rfl 0 66 (.agg #[.int .i64 0, .string ⟨#[]⟩]) 2 24 Try.underlying40 infoRW rfl (by decide) la D.pend.length lc _ rfl Hr3.out.l
    ⟨w2.heap.size, 0, none⟩ 1 1 [.int .i64 (i : Int), .string ⟨(pad p).toArray⟩] rfl rfl (fun j u hu => ?_) (by intro u hu; simp only [List.mem_cons, List.not_mem_nil, or_false] at hu; rcases hu with rfl | rfl <;> rfl) (by simp only [maxLen]; omega) (by omega) (Nat.zero_le _) ?_
  · rw [Addr.add_mid, Nat.zero_add, Hx3.out.cell]
    rw [← hu]
    exact List.getElem?_toArray
  intro a' c' w4 hown hf4 hnew0
  have s4 := Hr3.out.str.fr hf4 Hr3.out.ne_l
  have hb4 : Below w0.heap.size w0 w4 := Hb3.out.trans (hf4.below Hb3.out.size (fun k hk => HF.out k (.inr (.inr hk))))
  refine hK _ _ ⟨s4.cell 1, Hb.out.below hb4 (Nat.le_refl _)⟩ ?_
  clear hK
  refine wpHeld_nil ?_
  simp only [Act.put, List.setIfInBounds_toArray, List.set_cons_zero, List.set_cons_succ]
  have k1 : w4.cell? ⟨rb, 1, none⟩ = some (.slice la D.pend.length lc) := s4.cell 1
  have z1 : w4.frozen? ⟨rb, 1, none⟩ = false := s4.frozen 1
  have Hr5 := hide (Hr3.out.append i hi p hp hf4 hown)
  have hf5 : Fr (rfeet rb sv (.slice la D.pend.length lc)) w1 (w4.setCell ⟨rb, 1, none⟩ (.slice a' (D.pend.length + 1) c')) :=
    Fr.setCell (p := ⟨rb, 1, none⟩) (((Fr.of_below Hbw.out).trans' ((Hf3.out.mono (F' := fun k => (Value.slice la D.pend.length lc).ownBlock = some k) (fun _ _ h => h.elim)).trans' hf4 (fun _ _ h => h)) (fun _ _ h => .inr (.inr h)))) (.inl (.inl rfl)) _
  have hnew : ∀ k, (Value.slice a' (D.pend.length + 1) c').ownBlock = some k → (Value.slice la D.pend.length lc).ownBlock = some k ∨ w1.heap.size ≤ k := fun k hk =>
    (hnew0 k hk).imp id (fun h => Nat.le_trans Hbw.out.size (Nat.le_trans Hf3.out.size h))
  have Hf5 := hide hf5
  have Hnew := hide hnew
  clear hown hf4 hnew0 s4 hb4 hf5 hnew
  go_wp2_with (go_at_call 29; refine (rbegin _ _ _ (D.wrote i p) _ Hr5.out ho hops hfu).mono ?_; rintro e w7 ⟨rfl, hd7, hf7⟩; have Hd7 := hide hd7; have Hf7 := hide hf7; clear hd7 hf7)
  go_ret
  refine ⟨rfeet rb sv (.slice a' (D.pend.length + 1) c'), rfl, ⟨_, _, Hd7.out, rfl⟩, Hf5.out.trans' Hf7.out (fun _ _ e => .inl e), ?_⟩
  rintro k (rfl | hk | hk)
  · exact .inl (.inl rfl)
  · exact .inl (.inr (.inl hk))
  · exact (Hnew.out k hk).imp (fun h => .inr (.inr h)) id

end Go.Proofs.Ytfplafdpdfhpiaa
