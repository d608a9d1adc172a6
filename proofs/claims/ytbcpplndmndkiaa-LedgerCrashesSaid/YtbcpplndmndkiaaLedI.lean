/- Package ledger: write: a text, 64 bytes at a time, to blocks that follow one another. -/
import Derived.Test.YtbcpplndmndkiaaLedH
namespace Go.Proofs.Ytbcpplndmndkiaa
open Go.RowKit
attribute [local go_sem] Oper.semAt_some

/-- Writes to blocks that follow one another, each of which begins well. -/
def Dk.putL (D : Dk) (i : Nat) : List (List UInt8) → Dk
  | [] => D
  | c :: r => Dk.putL ((D.wrote i c).begun) (i + 1) r
theorem putL_snoc (D : Dk) (i : Nat) (cs : List (List UInt8)) (c : List UInt8) : D.putL i (cs ++ [c]) = ((D.putL i cs).wrote (i + cs.length) c).begun := by
  induction cs generalizing D i with
  | nil => rfl
  | cons x r ih =>
    show Dk.putL _ (i + 1) (r ++ [c]) = ((Dk.putL _ (i + 1) r).wrote _ c).begun
    rw [ih, List.length_cons, show i + 1 + r.length = i + (r.length + 1) from by omega]
theorem putL_n (cs : List (List UInt8)) : ∀ (D : Dk) (i : Nat), (D.putL i cs).n = D.n := by
  induction cs with
  | nil => exact fun _ _ => rfl
  | cons c r ih => exact fun D i => ih _ _
theorem putL_fuse (cs : List (List UInt8)) : ∀ (D : Dk) (i : Nat), (D.putL i cs).fuse = D.fuse - cs.length := by
  induction cs with
  | nil => exact fun _ _ => rfl
  | cons c r ih => exact fun D i => by rw [Dk.putL, ih]; show D.fuse - 1 - r.length = _; rw [List.length_cons]; omega
theorem putL_ops (cs : List (List UInt8)) : ∀ (D : Dk) (i : Nat), (D.putL i cs).ops = D.ops + cs.length := by
  induction cs with
  | nil => exact fun _ _ => rfl
  | cons c r ih => exact fun D i => by rw [Dk.putL, ih]; show D.ops + 1 + r.length = _; rw [List.length_cons]; omega
theorem putL_pend_len (cs : List (List UInt8)) : ∀ (D : Dk) (i : Nat), (D.putL i cs).pend.length = D.pend.length + cs.length := by
  induction cs with
  | nil => exact fun _ _ => rfl
  | cons c r ih => exact fun D i => by rw [Dk.putL, ih]; show (D.pend ++ [_]).length + r.length = _; rw [List.length_append, List.length_cons, List.length_cons, List.length_nil]; omega
theorem putL_off (cs : List (List UInt8)) : ∀ (D : Dk) (i : Nat), D.off = false → (D.fuse = 0 ∨ cs.length < D.fuse) → (D.putL i cs).off = false := by
  induction cs with
  | nil => exact fun _ _ h _ => h
  | cons c r ih =>
    intro D i h hf
    rw [List.length_cons] at hf
    refine ih _ _ ?_ ?_
    · show (D.off || D.fuse == 1) = false
      rw [h, Bool.false_or, beq_eq_false_iff_ne]
      omega
    · show D.fuse - 1 = 0 ∨ r.length < D.fuse - 1
      omega

/-- The chunks of a text. -/
def chunksOf (l : List UInt8) : List (List UInt8) := (List.range (nch l.length)).map (chunk l)
theorem chunksOf_len (l : List UInt8) : (chunksOf l).length = nch l.length := by simp [chunksOf]
theorem firstIx_map {m : Nat} (f : Nat → List UInt8) : ∀ k, k ≤ m → (firstIx m k).map (fun x => f x.1) = (List.range k).map f
  | 0, _ => rfl
  | k + 1, h => by rw [firstIx_succ (by omega), List.map_append, firstIx_map f k (by omega), List.range_succ, List.map_append]; rfl
theorem chunk_len (l : List UInt8) (k : Nat) : (chunk l k).length = min 64 (l.length - 64 * k) := by rw [chunk, List.length_take, List.length_drop]

/-- How write ends: the error, the disk. -/
def Dk.writeE' (D : Dk) (l : List UInt8) : Int := if 1 ≤ D.fuse ∧ D.fuse ≤ nch l.length then 12 else 0
def Dk.writeD' (D : Dk) (i : Nat) (l : List UInt8) : Dk := if 1 ≤ D.fuse ∧ D.fuse ≤ nch l.length then D.putL i ((chunksOf l).take D.fuse) else D.putL i (chunksOf l)

/-- What holds between two rounds. -/
structure WrI (W0 : World) (b bf br first m : Nat) (F : Nat → Prop) (D : Dk) (l : List UInt8) (pre : List (Ix m)) (q : Nat) (r : Int) (W : World) : Prop where
  le : pre.length ≤ m
  one : Blk W bf 3 #[.int .i64 ((first + q : Nat) : Int)]
  res : Blk W br 37 #[.int .i64 r]
  disk : ∃ F', DiskAt W b F' (D.putL first (pre.map fun x => chunk l x.1)) ∧ ∀ k, F' k → F k ∨ W0.heap.size ≤ k
  fr : Fr (fun k => F k ∨ k = bf ∨ k = br) W0 W

theorem noncell_ne {W : World} {k r : Nat} {t : TypeId} {cs : Array Value} (h : Blk W k t cs) {o : Obj} (ho : W.heap[r]? = some o) (hc : o.isCells = false) : k ≠ r := by
  rintro rfl
  unfold Blk at h
  rw [h] at ho
  cases ho
  cases hc
theorem blk_noncell {W W' : World} {k : Nat} {t : TypeId} {cs : Array Value} (h : Blk W k t cs) {row : Option Nat} (hg : W.grownBy W' row) (hr : ∀ r, row = some r → ∃ o : Obj, W.heap[r]? = some o ∧ o.isCells = false) : Blk W' k t cs :=
  h.grown hg (fun e => by
    obtain ⟨o, ho, hc⟩ := hr k e.symm
    exact noncell_ne h ho hc rfl)
theorem foot_blk {W : World} {b : Nat} {F : Nat → Prop} {D : Dk} (h : DiskAt W b F D) : ∀ k, F k → ∃ t cs, Blk W k t cs := by
  obtain ⟨bd, bl, pv, h, rfl⟩ := h
  rintro k (rfl | rfl | rfl | hk)
  · exact ⟨_, _, h.str⟩
  · obtain ⟨cs, h1, _⟩ := h.dur; exact ⟨_, _, h1⟩
  · obtain ⟨cs, h1, _⟩ := h.lat; exact ⟨_, _, h1⟩
  · rcases h.pen.2 with ⟨h0, _⟩ | ⟨g, cap, cur, h0, _, hg, _⟩
    · rw [h0] at hk; cases hk
    · rw [h0] at hk
      have : g = k := by simpa [Value.ownBlock] using hk
      subst this
      exact ⟨_, _, hg⟩
theorem disk_noncell {W W' : World} {b : Nat} {F : Nat → Prop} {D : Dk} (h : DiskAt W b F D) {row : Option Nat} (hg : W.grownBy W' row) (hr : ∀ r, row = some r → ∃ o : Obj, W.heap[r]? = some o ∧ o.isCells = false) : DiskAt W' b F D := by
  refine h.fr (G := fun k => row = some k) ((Fr.refl _ _).grown hg (fun g hg => .inl hg)) (fun k hk e => ?_)
  obtain ⟨t, cs, hb⟩ := foot_blk h k hk
  obtain ⟨o, ho, hc⟩ := hr k e
  exact noncell_ne hb ho hc rfl
theorem wrI_step {W0 : World} {b bf br first m : Nat} {F : Nat → Prop} {D : Dk} {l : List UInt8} {pre : List (Ix m)} {q : Nat} {r : Int} {W W' : World} {row : Option Nat} (hs : WrI W0 b bf br first m F D l pre q r W) (hg : W.grownBy W' row)
    (hr : ∀ r, row = some r → W0.heap.size ≤ r ∧ ∃ o : Obj, W.heap[r]? = some o ∧ o.isCells = false) : WrI W0 b bf br first m F D l pre q r W' := by
  have hr' : ∀ r, row = some r → ∃ o : Obj, W.heap[r]? = some o ∧ o.isCells = false := fun r e => (hr r e).2
  obtain ⟨F', hd, hF⟩ := hs.disk
  exact ⟨hs.le, blk_noncell hs.one hg hr', blk_noncell hs.res hg hr', ⟨F', disk_noncell hd hg hr', hF⟩, hs.fr.grown hg (fun g e => .inr (hr g e).1)⟩

set_option maxRecDepth 100000 in
set_option maxHeartbeats 4000000 in
theorem write_text (lb b : Nat) (F : Nat → Prop) (L : Lg) (D : Dk) (first g o n c : Nat) (l : List UInt8) (w : World) (hl : Led w lb b L) (hd : DiskAt w b F D) (hoff : D.off = false) (hF : ¬ F lb) (hlen : l.length = n) (hb : Bytes w (some ⟨g, o, none⟩) l) (hg : ¬ F g) (hg' : g < w.heap.size)
    (hn : n ≤ 10000000) (hnc : n ≤ c) (hfit : first + nch n ≤ D.n) (hops : D.ops + nch n < 4611686018427387904) (hfu : D.fuse ≤ 9223372036854775807) (hpl : D.pend.length + nch n < 999999) :
    Calls Try.prog 44 #[.pointer (some ⟨lb, 0, none⟩), .int .i64 (first : Int), .slice (some ⟨g, o, none⟩) n c] w (Leaves (D.writeE' l) b F (D.writeD' first l) w) := by
  have hn4 := hd.wf.hi
  have hFlt := hd.lt
  have hllt := Blk.lt hl
  have Hl := hide hl
  have Hd := hide hd
  have Hoff := hide hoff
  have HF := hide hF
  have Hlen := hide hlen
  have Hb := hide hb
  have Hg := hide hg
  have HFlt := hide hFlt
  clear hl hd hoff hF hlen hb hg hFlt
  refine (callsIn_wide (n := 3)).1 ?_
  refine callsIn_of_wp_marks Try.func44 rfl trivial ?_ rfl
  simp only [Try.ntmps44, List.size_toArray, List.length_cons, List.length_nil, Nat.reduceAdd, Nat.reduceSub, Array.replicate_succ, Array.replicate_zero, List.push_toArray, List.append_toArray, List.nil_append, List.cons_append]
  gi_wp2_with (refine ⟨trivial, ?_⟩; gi_at_call 49; refine (callsIn_wide.2 (chunkOf_any (some ⟨g, o, none⟩) n c _)).mono ?_; rintro e w' ⟨rfl, rfl⟩)
  obtain ⟨W0, hW0⟩ : ∃ W0, W0 = ((((w.alloc (.cells #[.pointer (some ⟨lb, 0, none⟩)] 29)).alloc (.cells #[.int .i64 (first : Int)] 3)).alloc (.cells #[.int .i64 0] 37)).alloc (.cells #[.slice (some ⟨g, o, none⟩) n c] 22)).alloc (.cells #[.int .i64 64] 3) := ⟨_, rfl⟩
  have hsz : W0.heap.size = w.heap.size + 1 + 1 + 1 + 1 + 1 := by rw [hW0]; simp
  have hfr0 : Fr (fun _ => False) w W0 := by rw [hW0]; exact (((((Fr.refl _ _).alloc _).alloc _).alloc _).alloc _).alloc _
  have q0 : Blk W0 w.heap.size 29 #[.pointer (some ⟨lb, 0, none⟩)] := by rw [hW0]; exact ((((Blk.new w _ _).alloc _).alloc _).alloc _).alloc _
  have q1 : Blk W0 (w.heap.size + 1) 3 #[.int .i64 (first : Int)] := by
    rw [hW0]
    have h := Blk.new (w.alloc (.cells #[.pointer (some ⟨lb, 0, none⟩)] 29)) 3 #[.int .i64 (first : Int)]
    rw [World.size_alloc] at h
    exact ((h.alloc _).alloc _).alloc _
  have q2 : Blk W0 (w.heap.size + 1 + 1) 37 #[.int .i64 0] := by
    rw [hW0]
    have h := Blk.new ((w.alloc (.cells #[.pointer (some ⟨lb, 0, none⟩)] 29)).alloc (.cells #[.int .i64 (first : Int)] 3)) 37 #[.int .i64 0]
    rw [World.size_alloc, World.size_alloc] at h
    exact (h.alloc _).alloc _
  have q3 : Blk W0 (w.heap.size + 1 + 1 + 1) 22 #[.slice (some ⟨g, o, none⟩) n c] := by
    rw [hW0]
    have h := Blk.new (((w.alloc (.cells #[.pointer (some ⟨lb, 0, none⟩)] 29)).alloc (.cells #[.int .i64 (first : Int)] 3)).alloc (.cells #[.int .i64 0] 37)) 22 #[.slice (some ⟨g, o, none⟩) n c]
    rw [World.size_alloc, World.size_alloc, World.size_alloc] at h
    exact h.alloc _
  have q4 : Blk W0 (w.heap.size + 1 + 1 + 1 + 1) 3 #[.int .i64 64] := by
    rw [hW0]
    have h := Blk.new ((((w.alloc (.cells #[.pointer (some ⟨lb, 0, none⟩)] 29)).alloc (.cells #[.int .i64 (first : Int)] 3)).alloc (.cells #[.int .i64 0] 37)).alloc (.cells #[.slice (some ⟨g, o, none⟩) n c] 22)) 3 #[.int .i64 64]
    rw [World.size_alloc, World.size_alloc, World.size_alloc, World.size_alloc] at h
    exact h
  rw [← hW0]
  have hl0 : Led W0 lb b L := Blk.fr Hl.out hfr0 (fun h => h)
  have hd0 : DiskAt W0 b F D := Hd.out.fr hfr0 (fun _ _ h => h)
  have hb0 : Bytes W0 (some ⟨g, o, none⟩) l := Hb.out.fr hfr0 (fun _ _ h => h)
  have Q0 := hide q0
  have Q1 := hide q1
  have Q2 := hide q2
  have Q3 := hide q3
  have Q4 := hide q4
  have Hsz := hide hsz
  have Hfr0 := hide hfr0
  have Hl0 := hide hl0
  have Hd0 := hide hd0
  have Hb0 := hide hb0
  clear q0 q1 q2 q3 q4 hsz hfr0 hl0 hd0 hb0 hW0
  refine wpIn_rangeFunc_ownG rfl (by omega) (gf := 51) (lb := #[.pointer (some ⟨w.heap.size + 1 + 1 + 1, 0, none⟩), .pointer (some ⟨w.heap.size + 1 + 1 + 1 + 1, 0, none⟩)]) rfl trivial (enters_of Try.func51 (by kernel_rfl) rfl)
    (chunk_stops 2 (by omega) (w.heap.size + 1 + 1 + 1) (w.heap.size + 1 + 1 + 1 + 1) g o n c hn hnc W0 (Blk.lt Q3.out) (Blk.lt Q4.out) Q3.out Q4.out)
    (fun h k => ⟨k.1.trans h.1, k.2.trans h.2⟩) (fun W r o o' hr h _ _ => ⟨World.putObj_heap_other (by have := Hsz.out; omega), World.putObj_heap_other (by have := Hsz.out; omega)⟩) (Below.refl _ _) (fun _ => rfl)
    (fun pre W => WrI W0 b (w.heap.size + 1) (w.heap.size + 1 + 1) first (nch n) F D l pre pre.length 0 W ∧ (D.fuse = 0 ∨ pre.length < D.fuse))
    (fun c pre W => c = .ret ∧ (∃ q, WrI W0 b (w.heap.size + 1) (w.heap.size + 1 + 1) first (nch n) F D l pre q 12 W) ∧ 1 ≤ D.fuse ∧ D.fuse = pre.length)
    (fun s A B row hs hg hr => ⟨wrI_step hs.1 hg hr, hs.2⟩)
    (fun cc s A B row hs hg hr => ⟨hs.1, hs.2.1.elim (fun q h => ⟨q, wrI_step h hg hr⟩), hs.2.2⟩)
    ⟨⟨Nat.zero_le _, Q1.out, Q2.out, ⟨F, Hd0.out, fun k hk => .inl hk⟩, Fr.refl _ _⟩, by
      rcases Nat.eq_zero_or_pos D.fuse with h | h
      · exact .inl h
      · exact .inr h⟩
    (fun x => { tmps := #[.pointer (some ⟨lb, 0, none⟩), .int .i64 (first : Int), .slice (some ⟨g, o, none⟩) n c, .pointer (some ⟨w.heap.size, 0, none⟩), .pointer (some ⟨w.heap.size + 1, 0, none⟩), undef, .pointer (some ⟨w.heap.size + 1 + 1, 0, none⟩),
      .slice (some ⟨g, o + 64 * x.1, none⟩) (min 64 (n - 64 * x.1)) (min 64 (n - 64 * x.1)), undef, .slice (some ⟨g, o, none⟩) n c, .func (.func 51) #[] #[.pointer (some ⟨w.heap.size + 1 + 1 + 1, 0, none⟩), .pointer (some ⟨w.heap.size + 1 + 1 + 1 + 1, 0, none⟩)],
      .slice (some ⟨g, o + 64 * x.1, none⟩) (min 64 (n - 64 * x.1)) (min 64 (n - 64 * x.1)), undef, undef, undef, undef, undef, undef, undef, undef, undef, undef, undef, undef], defers := [] }) ?assign ?body ?done ?stop
  case assign =>
    intro l' x W K hK
    dsimp only [encCh]
    gi_wp2
    exact hK
  case body =>
    rintro l' pre x W ⟨hI, hfuse⟩ hlt
    obtain ⟨F', hd', hF'⟩ := hI.disk
    have hs0 := Hsz.out
    have hFn : ∀ k, k < W0.heap.size → w.heap.size ≤ k → k ≠ w.heap.size + 1 → k ≠ w.heap.size + 1 + 1 → ¬ (F k ∨ k = w.heap.size + 1 ∨ k = w.heap.size + 1 + 1) := by
      rintro k _ h1 h2 h3 (h | h | h)
      · have := HFlt.out k h; omega
      · exact h2 h
      · exact h3 h
    have r0 : Blk W w.heap.size 29 #[.pointer (some ⟨lb, 0, none⟩)] := Blk.fr Q0.out hI.fr (hFn _ (by omega) (Nat.le_refl _) (by omega) (by omega))
    have r3 : Blk W (w.heap.size + 1 + 1 + 1) 22 #[.slice (some ⟨g, o, none⟩) n c] := Blk.fr Q3.out hI.fr (hFn _ (by omega) (by omega) (by omega) (by omega))
    have r4 : Blk W (w.heap.size + 1 + 1 + 1 + 1) 3 #[.int .i64 64] := Blk.fr Q4.out hI.fr (hFn _ (by omega) (by omega) (by omega) (by omega))
    have rl : Led W lb b L := Blk.fr Hl0.out hI.fr (by
      rintro (h | h | h)
      · exact HF.out h
      · omega
      · omega)
    have rb : Bytes W (some ⟨g, o, none⟩) l := Hb0.out.fr hI.fr (by
      rintro a ha
      cases ha
      rintro (h | h | h)
      · exact Hg.out h
      · simp only at h; omega
      · simp only at h; omega)
    have e0 : W.cell? ⟨w.heap.size, 0, none⟩ = some (.pointer (some ⟨lb, 0, none⟩)) := r0.cell 0
    have el : W.cell? ⟨lb, 0, none⟩ = some (.pointer (some ⟨b, 0, none⟩)) := rl.cell 0
    have e1 : W.cell? ⟨w.heap.size + 1, 0, none⟩ = some (.int .i64 ((first + pre.length : Nat) : Int)) := hI.one.cell 0
    have hch : (chunk l x.1).length = min 64 (n - 64 * x.1) := by rw [chunk_len, Hlen.out]
    have hcb : Bytes W (some ⟨g, o + 64 * x.1, none⟩) (chunk l x.1) := (rb.drop (64 * x.1)).take 64
    have hrf : refuse (D.putL first (pre.map fun x => chunk l x.1)) ((first + pre.length : Nat) : Int) = 0 := by
      unfold refuse
      rw [if_neg (by rw [putL_n]; omega), putL_off _ _ _ Hoff.out (by rw [List.length_map]; exact hfuse)]
      rfl
    have hsm : (D.putL first (pre.map fun x => chunk l x.1)).Small := ⟨by rw [putL_ops, List.length_map]; omega, by rw [putL_fuse]; omega, by rw [putL_pend_len, List.length_map]; omega⟩
    have hwc := write_all b F' _ ((first + pre.length : Nat) : Int) (some ⟨g, o + 64 * x.1, none⟩) (min 64 (n - 64 * x.1)) (min 64 (n - 64 * x.1)) (chunk l x.1) W.drew (hd'.fr (G := fun _ => False) (Fr.refl _ _).drew (fun _ _ h => h)) hch (hcb.fr (F := fun _ => False) (Fr.refl _ _).drew (fun _ _ h => h)) hsm
    have hwe : (D.putL first (pre.map fun x => chunk l x.1)).writeE ((first + pre.length : Nat) : Int) (chunk l x.1).length = if D.fuse = pre.length + 1 then 12 else 0 := by
      unfold Dk.writeE
      rw [if_neg (by rw [hrf]; simp), if_neg (by rw [hch]; omega), begunE, putL_fuse, List.length_map]
      split
      · rw [if_pos (by omega)]
      · rw [if_neg (by omega)]
    have hwd : (D.putL first (pre.map fun x => chunk l x.1)).writeD ((first + pre.length : Nat) : Int) (chunk l x.1) = D.putL first ((pre ++ [x]).map fun x => chunk l x.1) := by
      unfold Dk.writeD
      rw [if_neg (by rw [hrf]; simp), if_neg (by rw [hch]; omega), List.map_append, List.map_cons, List.map_nil, putL_snoc, List.length_map, Int.toNat_natCast]
    rw [hwe, hwd] at hwc
    have Hwc := hide hwc
    have HI := hide hI
    have Hd' := hide hd'
    have HF' := hide hF'
    have Hfuse := hide hfuse
    have R3 := hide r3
    have R4 := hide r4
    clear hwc hwe hwd hI hd' hF' hfuse r0 r3 r4 rl rb hch hcb hrf hsm hFn hs0
    gi_wp2
    refine wpIn_region_planned (fun V => V.cell? ⟨w.heap.size, 0, none⟩ = some (.pointer (some ⟨lb, 0, none⟩)) ∧ V.cell? ⟨lb, 0, none⟩ = some (.pointer (some ⟨b, 0, none⟩)) ∧ V.cell? ⟨w.heap.size + 1, 0, none⟩ = some (.int .i64 ((first + pre.length : Nat) : Int))) 7 [(false, 0), (false, 1), (false, 2), (false, 3), (false, 4), (false, 5), (true, 6)] (by kernel_rfl) (by kernel_rfl) (by kernel_rfl) (by rintro ⟨_, _, h⟩; exact h) (fun _ _ d _ _ h => by cases d <;> exact h) ⟨e0, el, e1⟩ ?_
    simp only [steps, List.getElem?_toArray, List.filterMap_cons, List.filterMap_nil, Option.map_some, List.getElem?_cons_zero, List.getElem?_cons_succ, List.drop_succ_cons, List.drop_zero]
    refine wpPlan_read rfl (fun V hV => (by obtain ⟨hV1, hV2, hV3⟩ := hV; go_simp; try with_reducible rfl)) ?_
    refine wpPlan_read rfl (fun V hV => (by go_simp; try with_reducible rfl)) ?_
    refine wpPlan_read rfl (fun V hV => (by go_simp; try with_reducible rfl)) ?_
    refine wpPlan_read rfl (fun V hV => (by obtain ⟨hV1, hV2, hV3⟩ := hV; go_simp; try with_reducible rfl)) ?_
    refine wpPlan_read (v := .int .i64 ((first + pre.length : Nat) : Int)) rfl (fun V hV => (by obtain ⟨hV1, hV2, hV3⟩ := hV; go_simp; try with_reducible rfl)) ?_
    refine wpPlan_read rfl (fun V hV => (by go_simp; try with_reducible rfl)) ?_
    simp only [Act.put, List.setIfInBounds_toArray, List.set_cons_zero, List.set_cons_succ]
    refine wpPlan_does rfl (fun K hK => ?_)
    refine wp_call_by 45 #[.pointer (some ⟨b, 0, none⟩), .int .i64 ((first + pre.length : Nat) : Int), .slice (some ⟨g, o + 64 * x.1, none⟩) (min 64 (n - 64 * x.1)) (min 64 (n - 64 * x.1))] (by kernel_rfl) Hwc.out ?_
    rintro e W2 ⟨F2, rfl, hd2, hf2, hn2⟩
    have hs0 := Hsz.out
    have hfw : Fr F' W W2 := ((Fr.refl (F') W).drew).trans' hf2 (fun _ _ h => h)
    have nF : ∀ k, k < W0.heap.size → ¬ F k → ¬ F' k := fun k hk hn h => (HF'.out k h).elim hn (fun h => by omega)
    have nFw : ∀ k, w.heap.size ≤ k → ¬ F k := fun k hk h => by have := HFlt.out k h; omega
    have p0 : W2.cell? ⟨w.heap.size, 0, none⟩ = some (.pointer (some ⟨lb, 0, none⟩)) := (hfw.cell (p := ⟨w.heap.size, 0, none⟩) (World.block_lt_of_cell? W _ e0) (nF _ (by simp only; omega) (nFw _ (Nat.le_refl _)))).trans e0
    have pl : W2.cell? ⟨lb, 0, none⟩ = some (.pointer (some ⟨b, 0, none⟩)) := (hfw.cell (p := ⟨lb, 0, none⟩) (World.block_lt_of_cell? W _ el) (nF _ (by simp only; omega) HF.out)).trans el
    have s1 : Blk W2 (w.heap.size + 1) 3 #[.int .i64 ((first + pre.length : Nat) : Int)] := HI.out.one.fr hfw (nF _ (by omega) (nFw _ (by omega)))
    have s2 : Blk W2 (w.heap.size + 1 + 1) 37 #[.int .i64 0] := HI.out.res.fr hfw (nF _ (by omega) (nFw _ (by omega)))
    have p1 : W2.cell? ⟨w.heap.size + 1, 0, none⟩ = some (.int .i64 ((first + pre.length : Nat) : Int)) := s1.cell 0
    refine ⟨_, rfl, hK _ _ ⟨p0, pl, p1⟩ ?_⟩
    clear hK
    refine wpPlan_nil ?_
    simp only [Act.put, List.setIfInBounds_toArray, List.set_cons_zero, List.set_cons_succ]
    have hF2 : ∀ k, F2 k → F k ∨ W0.heap.size ≤ k := fun k hk => (hn2 k hk).elim (HF'.out k) (fun h => .inr (Nat.le_trans HI.out.fr.size h))
    have hfr2 : Fr (fun k => F k ∨ k = w.heap.size + 1 ∨ k = w.heap.size + 1 + 1) W0 W2 := HI.out.fr.trans' hfw (fun k hk h => .inl ((HF'.out k h).elim id (fun h => by omega)))
    have hkf2 : KeepsFrom W0.heap.size W W2 := ⟨hfw.size, fun k o hB hk ho => (hfw.block k (Array.getElem?_eq_some_iff.1 hk).1 (fun hF => by
      obtain ⟨t, cs, hb⟩ := foot_blk Hd'.out k hF
      exact noncell_ne hb hk ho rfl)).trans hk⟩
    have k3 : W2.heap[w.heap.size + 1 + 1 + 1]? = W.heap[w.heap.size + 1 + 1 + 1]? := hfw.block _ (Blk.lt R3.out) (nF _ (by omega) (nFw _ (by omega)))
    have k4 : W2.heap[w.heap.size + 1 + 1 + 1 + 1]? = W.heap[w.heap.size + 1 + 1 + 1 + 1]? := hfw.block _ (Blk.lt R4.out) (nF _ (by omega) (nFw _ (by omega)))
    have z1 : W2.frozen? ⟨w.heap.size + 1, 0, none⟩ = false := s1.frozen 0
    have z2 : W2.frozen? ⟨w.heap.size + 1 + 1, 0, none⟩ = false := s2.frozen 0
    have u2 : W2.cell? ⟨w.heap.size + 1 + 1, 0, none⟩ = some (.int .i64 0) := s2.cell 0
    have hple := HI.out.le
    have S1 := hide s1
    have S2 := hide s2
    have Hd2 := hide hd2
    have HF2 := hide hF2
    have Hfr2 := hide hfr2
    have Hkf2 := hide hkf2
    have K3 := hide k3
    have K4 := hide k4
    clear s1 s2 hd2 hf2 hn2 hfw nF hF2 hfr2 hkf2 k3 k4 hs0 Hwc HI Hd' HF' R3 R4 e0 el e1 pl p0
    by_cases hfz : D.fuse = pre.length + 1
    · rw [if_pos hfz]
      have Hfz := hide hfz
      clear hfz
      go_wp2
      gi_wp2
      have hst : Fr (fun k => F k ∨ k = w.heap.size + 1 ∨ k = w.heap.size + 1 + 1) W2 (W2.setCell ⟨w.heap.size + 1 + 1, 0, none⟩ (.int .i64 12)) := (Fr.refl _ _).setCell (p := ⟨w.heap.size + 1 + 1, 0, none⟩) (.inl (.inr (.inr rfl))) _
      have hlen : (pre ++ [x]).length = pre.length + 1 := by rw [List.length_append]; rfl
      refine ⟨Hkf2.out.trans ((KeepsOthers.setCell _ _ _).from _), rfl, ⟨pre.length, ⟨by omega, S1.out.far (p := ⟨w.heap.size + 1 + 1, 0, none⟩) (by simp only; omega) _, S2.out.set_ 0 _, ⟨F2, ?_, HF2.out⟩, Hfr2.out.trans' hst (fun _ _ h => h)⟩⟩, by have := Hfz.out; omega, by rw [hlen]; exact Hfz.out⟩
      exact Hd2.out.fr (G := fun k => k = w.heap.size + 1 + 1) ((Fr.refl _ _).put1 0 _) (fun k hk e => by
        rcases HF2.out k hk with h | h
        · have := HFlt.out k h; omega
        · have := Hsz.out; omega)
    · rw [if_neg hfz]
      have Hfz := hide hfz
      clear hfz
      go_wp2
      gi_wp2
      have hst : Fr (fun k => F k ∨ k = w.heap.size + 1 ∨ k = w.heap.size + 1 + 1) W2 (W2.setCell ⟨w.heap.size + 1, 0, none⟩ (.int .i64 (((first + pre.length : Nat) : Int) + 1))) := (Fr.refl _ _).setCell (p := ⟨w.heap.size + 1, 0, none⟩) (.inl (.inr (.inl rfl))) _
      have hlen : (pre ++ [x]).length = pre.length + 1 := by rw [List.length_append]; rfl
      have hput : ((first + pre.length : Nat) : Int) + 1 = ((first + (pre ++ [x]).length : Nat) : Int) := by rw [hlen]; omega
      have hs0 := Hsz.out
      have hset : ∀ k, k ≠ w.heap.size + 1 → (W2.setCell ⟨w.heap.size + 1, 0, none⟩ (.int .i64 (((first + pre.length : Nat) : Int) + 1))).heap[k]? = W2.heap[k]? := fun k hk => Below.heap_setCell W2 ⟨w.heap.size + 1, 0, none⟩ _ k hk
      refine ⟨Hkf2.out.trans ((KeepsOthers.setCell _ _ _).from _), ⟨(hset _ (by omega)).trans K3.out, (hset _ (by omega)).trans K4.out⟩, ⟨by omega, ?_, S2.out.far (p := ⟨w.heap.size + 1, 0, none⟩) (by simp only; omega) _, ⟨F2, ?_, HF2.out⟩, Hfr2.out.trans' hst (fun _ _ h => h)⟩, ?_⟩
      · rw [← hput]
        exact S1.out.set_ 0 _
      · exact Hd2.out.fr (G := fun k => k = w.heap.size + 1) ((Fr.refl _ _).put1 0 _) (fun k hk e => by
          rcases HF2.out k hk with h | h
          · have := HFlt.out k h; omega
          · omega)
      · have := Hfz.out
        rcases Hfuse.out with h | h
        · exact .inl h
        · rw [hlen]; exact .inr (by omega)
  case done =>
    rintro Dd xs W hDd rfl ⟨hI, hfuse⟩ hK
    obtain ⟨F', hd', hF'⟩ := hI.disk
    have hs0 := Hsz.out
    have z2 : W.frozen? ⟨w.heap.size + 1 + 1, 0, none⟩ = false := hI.res.frozen 0
    have u2 : W.cell? ⟨w.heap.size + 1 + 1, 0, none⟩ = some (.int .i64 0) := hI.res.cell 0
    gi_wp2
    refine ⟨by simp, .inl ⟨_, _, rfl, run_takeDeferred (((KeepsOthers.setCell _ _ _).same Dd _ hK rfl)), ?_⟩⟩
    have hne : w.heap.size + 1 + 1 ≠ Dd := by omega
    have hset : Fr (fun k => F k ∨ k = w.heap.size + 1 ∨ k = w.heap.size + 1 + 1) W (W.setCell ⟨w.heap.size + 1 + 1, 0, none⟩ (.int .i64 0)) := (Fr.refl _ _).setCell (p := ⟨w.heap.size + 1 + 1, 0, none⟩) (.inl (.inr (.inr rfl))) _
    have hI2 : WrI W0 b (w.heap.size + 1) (w.heap.size + 1 + 1) first (nch n) F D l (firstIx (nch n) (nch n)) (firstIx (nch n) (nch n)).length 0 (W.setCell ⟨w.heap.size + 1 + 1, 0, none⟩ (.int .i64 0)) :=
      ⟨hI.le, hI.one.far (p := ⟨w.heap.size + 1 + 1, 0, none⟩) (by simp only; omega) _, hI.res.set_ 0 _, ⟨F', hd'.fr (G := fun k => k = w.heap.size + 1 + 1) ((Fr.refl _ _).put1 0 _) (fun k hk e => by
        rcases hF' k hk with h | h
        · have := HFlt.out k h; omega
        · omega), hF'⟩, hI.fr.trans' hset (fun _ _ h => h)⟩
    have hK2 := ((KeepsOthers.setCell W ⟨w.heap.size + 1 + 1, 0, none⟩ (.int .i64 0)).same Dd _ hK rfl)
    have hI3 := wrI_step hI2 (grownBy_putObj' (W.setCell ⟨w.heap.size + 1 + 1, 0, none⟩ (.int .i64 0)) Dd (.deferred none)) (fun r e => by cases e; exact ⟨hDd, _, hK2, rfl⟩)
    obtain ⟨W9, hW9⟩ : ∃ W9, W9 = (W.setCell ⟨w.heap.size + 1 + 1, 0, none⟩ (.int .i64 0)).putObj Dd (.deferred none) := ⟨_, rfl⟩
    rw [← hW9] at hI3 ⊢
    have c9 : W9.cell? ⟨w.heap.size + 1 + 1, 0, none⟩ = some (.int .i64 0) := hI3.res.cell 0
    have hmap := firstIx_map (m := nch n) (chunk l) (nch n) (Nat.le_refl _)
    have hco : chunksOf l = (List.range (nch n)).map (chunk l) := by rw [chunksOf, Hlen.out]
    have hfl := firstIx_len (m := nch n) (nch n) (Nat.le_refl _)
    have hno : ¬ (1 ≤ D.fuse ∧ D.fuse ≤ nch l.length) := by rw [Hlen.out]; rw [hfl] at hfuse; omega
    have hfin : Leaves (D.writeE' l) b F (D.writeD' first l) w (.returned (.int .i64 0)) W9 := by
      obtain ⟨F9, hd9, hF9⟩ := hI3.disk
      rw [hmap, ← hco] at hd9
      unfold Dk.writeE' Dk.writeD'
      rw [if_neg hno, if_neg hno]
      refine ⟨F9, rfl, hd9, ?_, fun k hk => (hF9 k hk).imp id (fun h => by omega)⟩
      refine ⟨hI3.fr.os.trans Hfr0.out.os, hI3.fr.tape.trans Hfr0.out.tape, hI3.fr.output.trans Hfr0.out.output, Nat.le_trans Hfr0.out.size hI3.fr.size, fun k hk hn => ?_⟩
      exact (hI3.fr.block k (by omega) (by rintro (h | h | h) <;> first | exact hn h | omega)).trans (Hfr0.out.block k hk (fun h => h))
    refine ⟨.int .i64 0, ?_, hfin⟩
    simp [results, Try.results44, go_sem, c9]
  case stop =>
    rintro Dd cc pre W hDd ⟨k, hk, rfl⟩ ⟨rfl, ⟨q, hI⟩, hf1, hf2⟩ hK
    have hs0 := Hsz.out
    have z2 : W.frozen? ⟨w.heap.size + 1 + 1, 0, none⟩ = false := hI.res.frozen 0
    have u2 : W.cell? ⟨w.heap.size + 1 + 1, 0, none⟩ = some (.int .i64 12) := hI.res.cell 0
    have hI3 := wrI_step hI (grownBy_putObj' W Dd (.deferred none)) (fun r e => by cases e; exact ⟨hDd, _, hK, rfl⟩)
    gi_wp2
    refine ⟨by simp, .inl ⟨_, _, rfl, run_takeDeferred hK, ?_⟩⟩
    obtain ⟨W9, hW9⟩ : ∃ W9, W9 = W.putObj Dd (.deferred none) := ⟨_, rfl⟩
    rw [← hW9] at hI3 ⊢
    have c9 : W9.cell? ⟨w.heap.size + 1 + 1, 0, none⟩ = some (.int .i64 12) := hI3.res.cell 0
    have hmap := firstIx_map (m := nch n) (chunk l) k hk
    have hfl := firstIx_len (m := nch n) k hk
    have hco : (chunksOf l).take k = (List.range k).map (chunk l) := by rw [chunksOf, Hlen.out, ← List.map_take, List.take_range, Nat.min_eq_left hk]
    rw [hfl] at hf2
    have hyes : 1 ≤ D.fuse ∧ D.fuse ≤ nch l.length := by rw [Hlen.out]; omega
    have hfin : Leaves (D.writeE' l) b F (D.writeD' first l) w (.returned (.int .i64 12)) W9 := by
      obtain ⟨F9, hd9, hF9⟩ := hI3.disk
      rw [hmap, ← hco] at hd9
      unfold Dk.writeE' Dk.writeD'
      rw [if_pos hyes, if_pos hyes, hf2]
      refine ⟨F9, rfl, hd9, ?_, fun k hk => (hF9 k hk).imp id (fun h => by omega)⟩
      refine ⟨hI3.fr.os.trans Hfr0.out.os, hI3.fr.tape.trans Hfr0.out.tape, hI3.fr.output.trans Hfr0.out.output, Nat.le_trans Hfr0.out.size hI3.fr.size, fun k hk hn => ?_⟩
      exact (hI3.fr.block k (by omega) (by rintro (h | h | h) <;> first | exact hn h | omega)).trans (Hfr0.out.block k hk (fun h => h))
    refine ⟨.int .i64 12, ?_, hfin⟩
    simp [results, Try.results44, go_sem, c9]

end Go.Proofs.Ytbcpplndmndkiaa
