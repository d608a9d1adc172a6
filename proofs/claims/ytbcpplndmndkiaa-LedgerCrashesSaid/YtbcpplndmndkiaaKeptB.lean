/- The document's answer for the ledger: With, Of. -/
import Derived.Test.YtbcpplndmndkiaaKept
namespace Go.Proofs.Ytbcpplndmndkiaa
open Go.RowKit

/-- A slice whose cells are these. -/
def Src (w : World) (B : Option Addr) (m : Nat) (news : List Value) : Prop := news.length = m ∧ (news = [] ∨ ∃ g o, B = some ⟨g, o, none⟩ ∧ w.rangeAt g o news)
theorem KRow.src {w : World} {A : Option Addr} {n c : Nat} {ls : List (List UInt8)} (h : KRow w A n c ls) : Src w A n (ls.map sv) := by
  refine ⟨by rw [List.length_map]; exact h.1, ?_⟩
  rcases h.2.2 with ⟨he, h0⟩ | ⟨g, cap, cur, he, _⟩
  · exact .inl (List.eq_nil_of_length_eq_zero (by rw [List.length_map, h.1, h0]))
  · injection he with h1 h2 h3
    subst h1
    refine .inr ⟨g, 0, rfl, fun j v hv => ?_⟩
    have hc := h.2.cells (g := g) rfl j v hv
    rwa [Addr.add_mid] at hc
theorem sv_one (ls : List (List UInt8)) : ∀ v ∈ ls.map sv, v.oneCell' = true := by
  intro v hv
  obtain ⟨l, _, rfl⟩ := List.mem_map.1 hv
  rfl

section
variable {P : Program}
/-- append of one-cell elements, whatever the source. -/
theorem wp_append_cells {o : Oper} {a : Act} {w : World} {K : Act → World → Prop} {Q : Exit → Act → World → Prop} (s x : Operand) (t e : TypeId) (z : Value) (bytes : Nat)
    (ho : o.op = .call { callee := .builtin .append, args := #[s, x], argTypes := #[t, t] })
    (ht : P.underlying t = some (.slice e)) (hi : (P.info? e).map (fun i => (i.zero, i.size, i.bytes)) = some (some z, 1, bytes)) (hz : z.cells.size = 1)
    (A : Option Addr) (n c : Nat) (xs : List Value) (hs : a.eval s = .slice A n c) (hown : w.ownsRow 0 e 1 (.slice A n c) n xs)
    (B : Option Addr) (m d : Nat) (news : List Value) (hx : a.eval x = .slice B m d) (hsrc : Src w B m news) (h1 : ∀ v ∈ news, v.oneCell' = true) (h63 : n + m ≤ 1000000000000) (hby : bytes ≤ 100)
    (h : ∀ A' c' w', w'.ownsRow 0 e 1 (.slice A' (n + m) c') (n + m) (xs ++ news) → Fr (At A) w w' → (∀ k, At A' k → At A k ∨ w.heap.size ≤ k) → K (a.put o.dst (.slice A' (n + m) c')) w') : o.wp P a w K Q := by
  obtain ⟨hm, hsrc⟩ := hsrc
  have hb : (n + m) * bytes ≤ 140737488355328 := Nat.le_trans (Nat.mul_le_mul h63 hby) (by omega)
  rcases B with _ | ad
  · obtain rfl : news = [] := by
      rcases hsrc with h | ⟨g, o', he, _⟩
      · exact h
      · cases he
    obtain rfl : m = 0 := by simpa using hm.symm
    obtain ⟨i, hi', _, _, _⟩ := info_parts hi
    have hr := run_append_nil_src (P := P) w t o.type _ i ht hi' 0 1 (.slice A n c) n xs hown d
    unfold Oper.wp execOp
    simp only [ho, resolve, invoke, builtin, Sem.run_bind, Sem.run_pure, Result.andThen_ok, List.map_toArray, List.map_cons, List.map_nil, hs, hx, hr]
    rw [List.append_nil] at h
    exact h A c w hown (Fr.refl _ _) (fun _ hk => .inl hk)
  · have hcells : ∀ j u, news[j]? = some u → w.cell? (ad.add j) = some u := by
      intro j u hu
      rcases hsrc with rfl | ⟨g, o', he, hr⟩
      · simp at hu
      · cases he
        rw [Addr.add_mid]
        exact hr j u hu
    refine wp_append_at w s x t ho 0 _ z 1 bytes ht hi hz (by decide) A n c xs hs hown ad m d news hx (by rw [hm, Nat.mul_one]) hcells h1 (by simp only [maxLen]; omega) hb (Nat.zero_le _) ?_
    intro A' c'' w' ho' hf hn
    exact h A' c'' w' ho' (hf.mono (fun k _ hk => at_own.1 hk)) (fun k hk => (hn k (at_own.2 hk)).imp at_own.1 id)
theorem wpList_append_cells {ops : Array Oper} {rest : List Oper} {o : Oper} {a : Act} {w : World} {Q : Exit → Act → World → Prop} (hgd : o.guard = none) (s x : Operand) (t e : TypeId) (z : Value) (bytes : Nat)
    (ho : o.op = .call { callee := .builtin .append, args := #[s, x], argTypes := #[t, t] })
    (ht : P.underlying t = some (.slice e)) (hi : (P.info? e).map (fun i => (i.zero, i.size, i.bytes)) = some (some z, 1, bytes)) (hz : z.cells.size = 1)
    (A : Option Addr) (n c : Nat) (xs : List Value) (hs : a.eval s = .slice A n c) (hown : w.ownsRow 0 e 1 (.slice A n c) n xs)
    (B : Option Addr) (m d : Nat) (news : List Value) (hx : a.eval x = .slice B m d) (hsrc : Src w B m news) (h1 : ∀ v ∈ news, v.oneCell' = true) (h63 : n + m ≤ 1000000000000) (hby : bytes ≤ 100)
    (h : ∀ A' c' w', w'.ownsRow 0 e 1 (.slice A' (n + m) c') (n + m) (xs ++ news) → Fr (At A) w w' → (∀ k, At A' k → At A k ∨ w.heap.size ≤ k) → wpList P ops Q rest (a.put o.dst (.slice A' (n + m) c')) w') : wpList P ops Q (o :: rest) a w :=
  wpList_plain hgd fun _ hK => wp_append_cells s x t e z bytes ho ht hi hz A n c xs hs hown B m d news hx hsrc h1 h63 hby fun A' c' w' h1 h2 h3 => hK _ _ (h A' c' w' h1 h2 h3)
theorem wp_buildSlice_cell {o : Oper} {a : Act} {w : World} {K : Act → World → Prop} {Q : Exit → Act → World → Prop} (t : TypeId) (x : Operand) (ho : o.op = .buildSlice t 1 #[(0, x)]) (v : Value) (hx : a.eval x = v) (hv : v.cells = #[v]) (e : TypeId) (bytes : Nat) (z : Value)
    (hu : P.underlying t = some (.slice e)) (hi : (P.info? e).map (fun i => (i.zero, i.size, i.bytes)) = some (some z, 1, bytes))
    (h : K (a.put o.dst (.slice (some ⟨w.heap.size, 0, none⟩) 1 1)) (w.alloc (.cells #[v] e))) : o.wp P a w K Q := by
  have hr := run_buildSlice_cell (P := P) w t e bytes z v hv hu hi
  unfold Oper.wp execOp
  simp only [ho, List.map_toArray, List.map_cons, List.map_nil, hx, Sem.run_bind, hr, Result.andThen_ok]
  exact h
end

def WithPost (s : List UInt8) (ls : List (List UInt8)) (w : World) (e : Ending) (w' : World) : Prop :=
  ∃ A c, e = .returned (.agg #[.string ⟨s.toArray⟩, .slice A ls.length c]) ∧ KRow w' A ls.length c ls ∧ (∀ k, At A k → w.heap.size ≤ k) ∧ Below w.heap.size w w'
theorem buildK (s : ByteArray) (A : Option Addr) (n c : Nat) (w : World) : (Instr.build 34 #[(0, .string s), (1, .slice A n c)]).run Try.prog w = .ok (.agg #[.string s, .slice A n c]) w := run_build w _ _ _ (by kernel_rfl)

set_option maxRecDepth 100000 in
set_option maxHeartbeats 4000000 in
theorem kwith_any (s : List UInt8) (A : Option Addr) (n c : Nat) (ls : List (List UInt8)) (B : Option Addr) (m d : Nat) (p : List UInt8) (w : World) (hk : KRow w A n c ls) (hn : n ≤ 1000000000) (hm : p.length = m) (hb : Bytes w B p) :
    Calls Try.prog 17 #[.agg #[.string ⟨s.toArray⟩, .slice A n c], .slice B m d] w (WithPost s (ls ++ [p]) w) := by
  have Hk := hide hk
  have Hb := hide hb
  have Hm := hide hm
  have Hn := hide hk.1
  clear hk hb hm
  go_enter Try.func17, Try.ntmps17
  have hsrc : Src ((w.alloc (.cells #[.string ⟨s.toArray⟩, .slice A n c] 34)).alloc (.cells #[.string ⟨#[]⟩, .slice none 0 0] 34)) A n (ls.map sv) :=
    (Hk.out.fr (F := fun _ => False) (((Fr.refl _ _).alloc _).alloc _) (fun _ _ h => h)).src
  have Hsrc := hide hsrc
  have hb0 : Blk ((w.alloc (.cells #[.string ⟨s.toArray⟩, .slice A n c] 34)).alloc (.cells #[.string ⟨#[]⟩, .slice none 0 0] 34)) w.heap.size 34 #[.string ⟨s.toArray⟩, .slice A n c] := (Blk.new _ _ _).alloc _
  have hb1 : Blk ((w.alloc (.cells #[.string ⟨s.toArray⟩, .slice A n c] 34)).alloc (.cells #[.string ⟨#[]⟩, .slice none 0 0] 34)) (w.heap.size + 1) 34 #[.string ⟨#[]⟩, .slice none 0 0] := by
    have h := Blk.new (w.alloc (.cells #[.string ⟨s.toArray⟩, .slice A n c] 34)) 34 #[.string ⟨#[]⟩, .slice none 0 0]
    rwa [World.size_alloc] at h
  have hbel : Below w.heap.size w ((w.alloc (.cells #[.string ⟨s.toArray⟩, .slice A n c] 34)).alloc (.cells #[.string ⟨#[]⟩, .slice none 0 0] 34)) := ((Below.refl _ _).alloc (Nat.le_refl _) _).alloc (by simp) _
  have hsz : ((w.alloc (.cells #[.string ⟨s.toArray⟩, .slice A n c] 34)).alloc (.cells #[.string ⟨#[]⟩, .slice none 0 0] 34)).heap.size = w.heap.size + 2 := by simp
  have B0 := hide hb0
  have B1 := hide hb1
  have Hbel := hide hbel
  have Hsz := hide hsz
  clear hsrc hb0 hb1 hbel hsz
  go_upto_region 3 with (refine wpList_append_cells rfl (.tmp 6) (.tmp 8) 32 9 (.string ⟨#[]⟩) 16 rfl Try.underlying32 infoStr rfl none 0 0 [] rfl (World.ownsRow_nil _ _ _ _) A n c (ls.map sv) rfl Hsrc.out (sv_one ls) (by omega) (by omega) ?_; intro A1 c1 w1 hown1 hf1 hn1)
  rw [Nat.zero_add, List.nil_append] at hown1
  have hsz1 := hf1.size
  rw [Hsz.out] at hsz1
  have b0 : Blk w1 w.heap.size 34 #[.string ⟨s.toArray⟩, .slice A n c] := B0.out.fr hf1 (fun h => At.none_not h)
  have b1 : Blk w1 (w.heap.size + 1) 34 #[.string ⟨#[]⟩, .slice none 0 0] := B1.out.fr hf1 (fun h => At.none_not h)
  have hfw : Below w.heap.size w w1 := Hbel.out.trans (hf1.below (by rw [Hsz.out]; omega) (fun k hk => absurd hk At.none_not))
  have hb1' : Bytes w1 B p := Hb.out.below hfw (Nat.le_refl _)
  have hn1' : ∀ k, At A1 k → w.heap.size + 2 ≤ k := fun k hk => (hn1 k hk).elim (fun h => absurd h At.none_not) (fun h => by rw [Hsz.out] at h; exact h)
  have hown1' : w1.ownsRow 0 9 1 (.slice A1 n c1) n (ls.map sv) := hown1
  have q0 : w1.cell? ⟨w.heap.size, 0, none⟩ = some (.string ⟨s.toArray⟩) := b0.cell 0
  have Hb1 := hide hb1'
  have HB1 := hide b1
  have HB0 := hide b0
  have Hfw := hide hfw
  have Hown1 := hide hown1'
  have Hn1 := hide hn1'
  clear hb1' b0 b1 hfw hown1 hown1' hn1 hn1' hf1 B0 B1 Hbel Hsz Hsrc
  refine wp_region_planned (fun W => W.cell? ⟨w.heap.size, 0, none⟩ = some (.string ⟨s.toArray⟩) ∧ Bytes W B p) 8 [(false, 0), (false, 1), (false, 2), (false, 3), (false, 4), (true, 5), (true, 6), (false, 7)] (by kernel_rfl) (by kernel_rfl) (fun _ _ d _ _ h => by cases d <;> exact h) ⟨q0, Hb1.out.fr (F := fun _ => False) (Fr.refl _ _).drew (fun _ _ h => h)⟩ ?_
  simp only [steps, List.getElem?_toArray, List.filterMap_cons, List.filterMap_nil, Option.map_some, List.getElem?_cons_zero, List.getElem?_cons_succ, List.drop_succ_cons, List.drop_zero]
  refine wpPlan_read rfl (fun W hW => (by go_simp; try with_reducible rfl)) ?_
  refine wpPlan_read rfl (fun W hW => (by obtain ⟨hW1, hW2⟩ := hW; go_simp; try with_reducible rfl)) ?_
  refine wpPlan_read rfl (fun W hW => (by go_simp; try with_reducible rfl)) ?_
  refine wpPlan_read rfl (fun W hW => (by go_simp; try with_reducible rfl)) ?_
  refine wpPlan_read (v := .string ⟨p.toArray⟩) rfl (fun W hW => (by
    have hc := run_str_bytes (P := Try.prog) W 22 9 5 Try.underlying22 Try.underlying5 Try.underlying9 B m d p Hm.out hW.2
    clear hW
    go_simp)) ?_
  simp only [Act.put, List.setIfInBounds_toArray, List.set_cons_zero, List.set_cons_succ]
  refine wpPlan_does rfl (fun K hK => ?_)
  refine wp_buildSlice_cell 32 (.tmp 14) rfl (.string ⟨p.toArray⟩) rfl rfl 9 16 (.string ⟨#[]⟩) Try.underlying32 infoStr ?_
  obtain ⟨w2, hw2⟩ : ∃ w2, w2 = w1.drew.alloc (.cells #[.string ⟨p.toArray⟩] 9) := ⟨_, rfl⟩
  rw [← hw2]
  have f2 : Fr (fun _ => False) w1 w2 := by rw [hw2]; exact (Fr.refl _ _).drew.alloc _
  have n2 : Blk w2 w1.heap.size 9 #[.string ⟨p.toArray⟩] := by rw [hw2]; exact Blk.new _ _ _
  have hs2 : w1.heap.size < w2.heap.size := by rw [hw2, World.size_alloc]; exact Nat.lt_succ_self _
  refine hK _ _ ⟨(HB0.out.fr f2 (fun h => h)).cell 0, Hb1.out.fr f2 (fun _ _ h => h)⟩ ?_
  clear hK
  simp only [Act.put, List.setIfInBounds_toArray, List.set_cons_zero, List.set_cons_succ]
  refine wpPlan_does rfl (fun K hK => ?_)
  have hsrc2 : Src w2 (some ⟨w1.drew.heap.size, 0, none⟩) 1 [sv p] := ⟨rfl, .inr ⟨w1.heap.size, 0, rfl, n2.range 0 _ (fun j v hv => by rw [Nat.zero_add]; simpa using hv)⟩⟩
  refine wp_append_cells (.tmp 12) (.tmp 15) 32 9 (.string ⟨#[]⟩) 16 rfl Try.underlying32 infoStr rfl A1 n c1 _ rfl (own_fr Hown1.out f2 (fun _ _ h => h)) (some ⟨w1.drew.heap.size, 0, none⟩) 1 1 [sv p] rfl hsrc2 (sv_one [p]) (by omega) (by omega) ?_
  intro A3 c3 w3 hown3 hf3 hn3
  have hA1 : ∀ k, At A1 k → w.heap.size + 2 ≤ k := Hn1.out
  have hfw3 : Below w.heap.size w w3 := (Hfw.out.trans (f2.below (by have := Hfw.out.size; omega) (fun _ h => False.elim h))).trans (hf3.below (by have := Hfw.out.size; omega) (fun k hk => by have := hA1 k hk; omega))
  refine hK _ _ ⟨((HB0.out.fr f2 (fun h => h)).fr hf3 (fun h => by have := hA1 _ h; omega)).cell 0, Hb.out.below hfw3 (Nat.le_refl _)⟩ ?_
  clear hK
  simp only [Act.put, List.setIfInBounds_toArray, List.set_cons_zero, List.set_cons_succ]
  refine wpPlan_read (v := .agg #[.string ⟨s.toArray⟩, .slice A3 (n + 1) c3]) rfl (fun W hW => (by
    have hbk := buildK ⟨s.toArray⟩ A3 (n + 1) c3 W
    clear hW
    unfold execOp
    simp only [List.map_toArray, List.map_cons, List.map_nil, Sem.run_bind]
    exact (congrArg (fun r => Result.andThen r _) hbk).trans rfl)) ?_
  refine wpPlan_nil ?_
  simp only [Act.put, List.setIfInBounds_toArray, List.set_cons_zero, List.set_cons_succ]
  have b3 : Blk w3 (w.heap.size + 1) 34 #[.string ⟨#[]⟩, .slice none 0 0] := (HB1.out.fr f2 (fun h => h)).fr hf3 (fun h => by have := hA1 _ h; omega)
  have z30 : w3.frozen? ⟨w.heap.size + 1, 0, none⟩ = false := b3.frozen 0
  have z31 : w3.frozen? ⟨w.heap.size + 1, 1, none⟩ = false := b3.frozen 1
  have c30 : w3.cell? ⟨w.heap.size + 1, 0, none⟩ = some (.string ⟨#[]⟩) := b3.cell 0
  have c31 : w3.cell? ⟨w.heap.size + 1, 1, none⟩ = some (.slice none 0 0) := b3.cell 1
  have b5 := (b3.set_ 0 (.string ⟨s.toArray⟩)).set_ 1 (.slice A3 (n + 1) c3)
  have hst : Fr (fun k => k = w.heap.size + 1) w3 ((w3.setCell ⟨w.heap.size + 1, 0, none⟩ (.string ⟨s.toArray⟩)).setCell ⟨w.heap.size + 1, 1, none⟩ (.slice A3 (n + 1) c3)) := ((Fr.refl _ _).put1 0 _).put1 1 _
  have hn3' : ∀ k, At A3 k → w.heap.size + 2 ≤ k := fun k hk => (hn3 k hk).elim (hA1 k) (fun h => by have := Hfw.out.size; omega)
  obtain ⟨w5, hw5⟩ : ∃ w5, w5 = (w3.setCell ⟨w.heap.size + 1, 0, none⟩ (.string ⟨s.toArray⟩)).setCell ⟨w.heap.size + 1, 1, none⟩ (.slice A3 (n + 1) c3) := ⟨_, rfl⟩
  rw [← hw5] at b5 hst
  have d0 : w5.cell? ⟨w.heap.size + 1, 0, none⟩ = some (.string ⟨s.toArray⟩) := b5.cell 0
  have d1 : w5.cell? ⟨w.heap.size + 1, 1, none⟩ = some (.slice A3 (n + 1) c3) := b5.cell 1
  have hl1 : (ls ++ [p]).length = n + 1 := by rw [List.length_append, Hn.out]; rfl
  have hfin : WithPost s (ls ++ [p]) w (.returned (.agg #[.string ⟨s.toArray⟩, .slice A3 (n + 1) c3])) w5 := by
    refine ⟨A3, c3, by rw [hl1], ?_, fun k hk => by have := hn3' k hk; omega, hfw3.trans (hst.below (by have := hfw3.size; omega) (fun k hk => by omega))⟩
    rw [hl1]
    refine KRow.fr (w := w3) ⟨hl1, ?_⟩ hst (fun k hk e => by have := hn3' k hk; omega)
    have := hown3
    rwa [List.map_append]
  have Hfin := hide hfin
  clear hfin b5 hst hn3' hl1 hfw3 hown3 hf3 hn3 hA1 hsrc2 f2 n2 hs2 b3
  go_wp2
  rw [← hw5]
  exact bodyPost_ret (v := .agg #[.string ⟨s.toArray⟩, .slice A3 (n + 1) c3]) (by simp [results, Try.results17, go_sem, d0, d1]) rfl Hfin.out
end Go.Proofs.Ytbcpplndmndkiaa
