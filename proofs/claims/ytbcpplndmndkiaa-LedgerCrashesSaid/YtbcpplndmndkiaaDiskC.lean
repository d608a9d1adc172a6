/- Package block: Write, Read. -/
import Derived.Test.YtbcpplndmndkiaaDiskB
import Derived.Test.YtbcpplndmndkiaaRegion
import Derived.Deep.Cut
namespace Go.Proofs.Ytbcpplndmndkiaa
open Go.RowKit

def pad (p : List UInt8) : List UInt8 := over zero64 p
/-- What Write makes of the disk ahead of begin. -/
def Dk.wrote (D : Dk) (i : Nat) (p : List UInt8) : Dk := { D with pend := D.pend ++ [(i, pad p)] }

def ZWi (i : Int) : Array Value := #[.int .i64 i] ++ Array.replicate 64 (.int .u8 0)
theorem infoWz : (Try.prog.info? 74).map (fun i => (i.zero, i.size, i.bytes)) = some (some (.agg ZW), 65, 72) := by kernel_rfl
theorem buildW (i : Int) (w : World) : (Instr.build 74 #[(0, .int .i64 i)]).run Try.prog w = .ok (.agg (ZWi i)) w := run_build w _ _ _ (by kernel_rfl)
theorem ZWi_size (i : Int) : (ZWi i).size = 65 := by simp [ZWi]
theorem ZWi_one (i : Int) : (ZWi i).all (·.oneCell') = true := by
  rw [Array.all_eq_true_iff_forall_mem]
  intro v hv
  simp only [ZWi, Array.mem_append, Array.mem_replicate, List.mem_toArray, List.mem_singleton] at hv
  rcases hv with rfl | ⟨_, rfl⟩ <;> rfl

theorem pad_len (p : List UInt8) (h : p.length ≤ 64) : (pad p).length = 64 := by
  rw [pad, over_len] <;> simp [zero64, h]
theorem ZWi_get (i : Int) (k : Nat) (h1 : 1 ≤ k) (h2 : k < 65) : (ZWi i)[k]? = some (B8 0) := by
  unfold ZWi
  rw [Array.getElem?_append_right (by simpa using h1), Array.getElem?_replicate, if_pos (by simp; omega)]
  rfl
theorem splice_ZWi (i : Int) (p : List UInt8) (h : p.length ≤ 64) : Array.splice (ZWi i) 1 (B8s (p.take 64)) = (Value.int .i64 i :: B8s (pad p)).toArray := by
  rw [List.take_of_length_le h]
  apply Array.ext_getElem?
  intro k
  rw [splice_get _ _ _ _ (by rw [B8s_length, ZWi_size]; omega), B8s_length]
  show _ = (Value.int .i64 i :: B8s (pad p)).toArray[k]?
  rw [@List.getElem?_toArray Value (Value.int .i64 i :: B8s (pad p)) k]
  have hpl := pad_len p h
  by_cases h0 : k = 0
  · subst h0
    rw [if_neg (by omega)]
    simp [ZWi]
  · obtain ⟨m, rfl⟩ : ∃ m, k = m + 1 := ⟨k - 1, by omega⟩
    rw [List.getElem?_cons_succ]
    by_cases h1 : m < p.length
    · rw [if_pos (by omega), show m + 1 - 1 = m from by omega, B8s_get, B8s_get, pad, over, List.getElem?_append_left h1]
    · rw [if_neg (by omega), B8s_get]
      by_cases h2 : m < 64
      · rw [ZWi_get i _ (by omega) (by omega), pad, over, List.getElem?_append_right (by omega), List.getElem?_drop, zero64, List.getElem?_replicate, if_pos (by omega)]
        rfl
      · rw [Array.getElem?_eq_none (by rw [ZWi_size]; omega), List.getElem?_eq_none (by omega)]
        rfl

theorem own_form {w : World} {base : Nat} {e : TypeId} {size n : Nat} {v : Value} {xs : List Value} (h : w.ownsRow base e size v n xs) : ∃ a c, v = .slice a n c := by
  rcases h.2 with ⟨rfl, rfl⟩ | ⟨g, cap, cur, rfl, _⟩
  · exact ⟨none, 0, rfl⟩
  · exact ⟨_, _, rfl⟩
theorem ownsRow_drew {w : World} {base : Nat} {e : TypeId} {size n : Nat} {v : Value} {xs : List Value} (h : w.ownsRow base e size v n xs) : w.drew.ownsRow base e size v n xs := h
theorem pcells_snoc (l : List (Nat × List UInt8)) (i : Nat) (c : List UInt8) : pcells (l ++ [(i, c)]) = pcells l ++ (Value.int .i64 (i : Int) :: B8s c) := by simp [pcells]
theorem Dk.Wf.wrote {D : Dk} (h : D.Wf) (i : Nat) (hi : i < D.n) (p : List UInt8) (hp : p.length ≤ 64) : (D.wrote i p).Wf := by
  refine ⟨h.lo, h.hi, h.dlen, fun q hq => ?_, fun q hq => ?_⟩
  · rcases List.mem_append.1 hq with hq | hq
    · exact h.pat q hq
    · rw [List.mem_singleton.1 hq]; exact hi
  · rcases List.mem_append.1 hq with hq | hq
    · exact h.plen q hq
    · rw [List.mem_singleton.1 hq]; exact pad_len p hp
/-- the slice of what waits, with one write more, is stored in its field. -/
theorem DiskL.append {w w3 : World} {b bd bl : Nat} {pv pv' : Value} {D : Dk} {lat : Nat → List UInt8} (h : DiskL w b bd bl pv D lat) (i : Nat) (hi : i < D.n) (p : List UInt8) (hp : p.length ≤ 64)
    (hf : Fr (fun k => pv.ownBlock = some k) w w3) (hown : w3.ownsRow 0 74 65 pv' (D.pend.length + 1) (pcells D.pend ++ (Value.int .i64 (i : Int) :: B8s (pad p)))) :
    DiskL (w3.setCell ⟨b, 2, none⟩ pv') b bd bl pv' (D.wrote i p) lat := by
  have h3 : Blk w3 b 68 (dcells D bd bl pv) := h.str.fr hf (own_ne_str h)
  have hg : Fr (fun k => k = b) w3 (w3.setCell ⟨b, 2, none⟩ pv') := (Fr.refl _ _).put1 2 _
  obtain ⟨cs, hd1, hd2⟩ := h.dur
  obtain ⟨cl, hl1, hl2⟩ := h.lat
  refine ⟨h.wf.wrote i hi p hp, h.llen, ?_, ⟨cs, (hd1.fr hf (own_ne_dur h)).fr hg (hd1.ne_ h.str (by decide)), hd2⟩, ⟨cl, (hl1.fr hf (own_ne_lat h)).fr hg (hl1.ne_ h.str (by decide)), hl2⟩, ?_, h.ne⟩
  · have hb := h3.set_ 2 pv'
    simpa [dcells, Dk.wrote] using hb
  · have e : (D.wrote i p).pend.length = D.pend.length + 1 := by simp [Dk.wrote]
    rw [e]
    have e2 : pcells (D.wrote i p).pend = pcells D.pend ++ (Value.int .i64 (i : Int) :: B8s (pad p)) := pcells_snoc _ _ _
    rw [e2]
    exact own_fr hown hg (fun k hk e => own_blk_ne hown h3 (by decide) (by rw [hk, e]))
theorem DiskL.overLat {w : World} {b bd bl : Nat} {pv : Value} {D : Dk} {lat : Nat → List UInt8} (h : DiskL w b bd bl pv D lat) (i : Nat) (hi : i < D.n) (t : List UInt8) (ht : t.length = 64) :
    DiskL (w.setCells bl (i * 64) (B8s t)) b bd bl pv D (upd lat i t) := by
  have hl := h.llen i
  have hf : Fr (fun k => k = bl) w (w.setCells bl (i * 64) (B8s t)) := (Fr.refl _ _).puts1 _ _
  obtain ⟨cs, hd1, _⟩ := h.lat
  refine ⟨h.wf, upd_len h.llen i _ ht, h.str.fr hf (fun e => ?_), h.dur.fr hf h.ne, ?_, own_fr h.pen hf (fun k hk e => own_ne_lat h (by rw [hk, e])), h.ne⟩
  · exact hd1.ne_ h.str (by decide) e.symm
  · have := h.lat.over i hi t (by omega) hl
    rwa [over_all _ _ (by omega)] at this

set_option maxRecDepth 10000 in
set_option maxHeartbeats 1000000 in
theorem write_any (b : Nat) (F : Nat → Prop) (D : Dk) (i : Nat) (A : Option Addr) (c : Nat) (p : List UInt8) (w : World) (h : DiskAt w b F D) (ho : D.off = false) (hi : i < D.n) (hp : p.length ≤ 64) (hb : Bytes w A p)
    (hops : D.ops < 4611686018427387904) (hfu : D.fuse ≤ 9223372036854775807) (hl : D.pend.length < 999999) :
    Calls Try.prog 45 #[.pointer (some ⟨b, 0, none⟩), .int .i64 i, .slice A p.length c] w (Leaves (begunE D) b F (D.wrote i p).begun w) := by
  obtain ⟨bd, bl, pv, h, rfl⟩ := h
  have hr : refuse D i = 0 := by unfold refuse; rw [if_neg (by omega), ho]; rfl
  have Hr := hide hr
  have H := hide h
  have hn4 := h.wf.hi
  obtain ⟨a, cp, rfl⟩ := pen_form h.pen
  have Hb := hide hb
  clear hr ho h hb
  have zw := zeroW
  have Bw := hide (buildW (i : Int))
  have hiz : (Try.prog.info? 74).map (·.size) = some (ZWi i).size := by rw [ZWi_size]; kernel_rfl
  have Hiz := hide hiz
  clear hiz
  go_enter Try.func45, Try.ntmps45
  go_upto_region 6 with (go_at_call 39; refine (refusal_any _ _ _ _ D _ _ H.out _).mono ?_; rintro e w1 ⟨rfl, rfl⟩; rw [Hr.out])
  go_upto_region 7 with (first
      | (refine wpList_build_run rfl 74 #[(0, .tmp 18)] rfl #[(0, .int .i64 (i : Int))] rfl (ZWi i) (Bw.out w) ?_)
      | (refine wpList_store_mid rfl 74 (.tmp 8) (.tmp 19) rfl w.heap.size 0 _ rfl rfl (there_new _ _ _ _ (by rw [ZW_size, ZWi_size]; exact Nat.le_refl _)) Hiz.out (ZWi_one _) ?_
         rw [setCells_new _ _ _ _ (by rw [Array.length_toList, ZWi_size, ZW_size]), Array.toArray_toList]))
  go_upto_region 8 with (first
      | (refine wpList_copy_bytes rfl (.tmp 21) (.tmp 22) 22 22 rfl 5 Try.underlying22 (by kernel_rfl) w.heap.size 1 64 64 A p.length c rfl rfl p rfl (Hb.out.fr (F := fun _ => False) ((Fr.refl _ _).alloc _) (fun _ _ h => h)) ((Blk.new w _ _).there 1 _ (by rw [ZWi_size]; omega)) ?_
         rw [setCells_new_at, splice_ZWi _ _ hp]))
  simp only [Act.put, List.setIfInBounds_toArray, List.set_cons_zero, List.set_cons_succ]
  obtain ⟨w1, hw1⟩ : ∃ w1, w1 = w.alloc (.cells (Value.int .i64 (i : Int) :: B8s (pad p)).toArray 74) := ⟨_, rfl⟩
  rw [← hw1]
  have hd1 : DiskL w1 b bd bl (.slice a D.pend.length cp) D (view D.dur D.pend) := by rw [hw1]; exact DiskL.alloc H.out _
  have hf1 : Fr (fun _ => False) w w1 := by rw [hw1]; exact (Fr.refl _ _).alloc _
  have hx : Blk w1 w.heap.size 74 (Value.int .i64 (i : Int) :: B8s (pad p)).toArray := by rw [hw1]; exact Blk.new _ _ _
  clear hw1
  have e2 : w1.cell? ⟨b, 2, none⟩ = some (.slice a D.pend.length cp) := hd1.str.cell 2
  have hwl : (Value.int .i64 (i : Int) :: B8s (pad p)).length = 65 := by rw [List.length_cons, B8s_length, pad_len p hp]
  have hrx : w1.drew.rangeAt w.heap.size 0 (Value.int .i64 (i : Int) :: B8s (pad p)) := hx.drew.range 0 _ (fun j v hv => by
    rw [List.getElem?_toArray, Nat.zero_add]
    exact hv)
  have hiw : (Try.prog.info? 74).map (·.size) = some (Value.int .i64 (i : Int) :: B8s (pad p)).length := by rw [hwl]; kernel_rfl
  have Hiw := hide hiw
  have Hwl := hide hwl
  have Hd1 := hide hd1
  have Hf1 := hide hf1
  have Hx := hide hx
  have Hrx := hide hrx
  clear hd1 hf1 hrx hx hwl hiw
  refine wp_region_heldS (fun W => W.cell? ⟨b, 2, none⟩ = some (.slice a D.pend.length cp) ∧ W.rangeAt w.heap.size 0 (Value.int .i64 (i : Int) :: B8s (pad p))) 6 8 (by kernel_rfl) (by kernel_rfl) (fun _ _ d _ _ h => by cases d <;> exact h) ⟨e2, Hrx.out⟩ ?_
  simp only [List.take_succ_cons, List.take_zero, List.drop_succ_cons, List.drop_zero]
  iterate 4 (refine wpReads_yield rfl (fun W hW => (by go_simp; try with_reducible rfl)) ?_)
  refine wpReads_yield rfl (fun W hW => (by obtain ⟨hW1, _⟩ := hW; go_simp; try with_reducible rfl)) ?_
  refine wpReads_cons _ (yieldsIf_load_mid rfl 74 (.tmp 8) rfl w.heap.size 0 rfl _ _ (fun W hW => hW.2) Try.underlying74 rfl Hiw.out) ?_
  refine wpReads_nil ?_
  simp only [Act.put, List.setIfInBounds_toArray, List.set_cons_zero, List.set_cons_succ]
  refine wpHeld_cons rfl (fun K hK => ?_)
  refine wp_buildSlice_one 66 (.tmp 29) rfl _ rfl 74 65 72 (.agg ZW) Try.underlying66 infoWz (by decide) (by decide) (by rw [List.size_toArray]; exact Hwl.out) ?_
  refine hK _ _ ⟨?_, ?_⟩ ?_
  · show (w1.alloc _).cell? _ = _
    rw [World.cell?_alloc_lt _ _ _ Hd1.out.str.lt]
    exact e2
  · exact World.rangeAt_alloc Hrx.out _
  clear hK
  simp only [Act.put, List.setIfInBounds_toArray, List.set_cons_zero, List.set_cons_succ]
  obtain ⟨w2, hw2⟩ : ∃ w2, w2 = w1.drew.alloc (.cells (Value.int .i64 (i : Int) :: B8s (pad p)).toArray 74) := ⟨_, rfl⟩
  rw [← hw2]
  have hf2 : Fr (fun _ => False) w1 w2 := by rw [hw2]; exact (Fr.refl _ _).drew.alloc _
  have hx2 : Blk w2 w1.drew.heap.size 74 (Value.int .i64 (i : Int) :: B8s (pad p)).toArray := by rw [hw2]; exact Blk.new _ _ _
  have Hd2 := hide (DiskL.fr Hd1.out hf2 (fun _ _ hh => hh))
  have Hx1 := hide (Blk.fr Hx.out hf2 (fun hh => hh))
  have Hf2 := hide hf2
  have Hx2 := hide hx2
  clear hw2 hf2 hx2
  refine wpHeld_cons rfl (fun K hK => ?_)
  refine wp_append_at w2 (.tmp 28) (.tmp 30) 66 rfl 0 74 (.agg ZW) 65 72 Try.underlying66 infoWz ZW_size (by decide) a D.pend.length cp _ rfl Hd2.out.pen
    ⟨w1.drew.heap.size, 0, none⟩ 1 1 (Value.int .i64 (i : Int) :: B8s (pad p)) rfl (by rw [Hwl.out]) (fun j u hu => ?_) (wcells_one (i, pad p)) (by simp only [maxLen]; omega) (by omega) (Nat.zero_le _) ?_
  · rw [Addr.add_mid, Nat.zero_add, Hx2.out.cell, List.getElem?_toArray]
    exact hu
  intro a' c' w3 hown hf3 hnew0
  have hold : (Value.slice a D.pend.length cp).ownBlock ≠ some w.heap.size := by
    intro he
    have := (World.ownsRow.lt H.out.pen _ he).2
    omega
  have s3 := (Hd2.out.str.fr hf3 (own_ne_str Hd2.out))
  have x3 := Blk.fr Hx1.out hf3 hold
  refine hK _ _ ⟨s3.cell 2, x3.range 0 _ (fun j v hv => ?_)⟩ ?_
  · rw [List.getElem?_toArray, Nat.zero_add]; exact hv
  clear hK
  refine wpHeld_nil ?_
  simp only [Act.put, List.setIfInBounds_toArray, List.set_cons_zero, List.set_cons_succ]
  have k2 : w3.cell? ⟨b, 2, none⟩ = some (.slice a D.pend.length cp) := s3.cell 2
  have z2 : w3.frozen? ⟨b, 2, none⟩ = false := s3.frozen 2
  have Hd4 := hide (Hd2.out.append i hi p hp hf3 hown)
  have Hx3 := hide x3
  have Hf3 := hide hf3
  clear hown hf3 hold s3 x3
  go_upto_region 9 with fail
  -- the field holds the new slice
  obtain ⟨w4, hw4⟩ : ∃ w4, w4 = w3.setCell ⟨b, 2, none⟩ (.slice a' (D.pend.length + 1) c') := ⟨_, rfl⟩
  rw [← hw4]
  have hd4 : DiskL w4 b bd bl (.slice a' (D.pend.length + 1) c') (D.wrote i p) (view D.dur D.pend) := by rw [hw4]; exact Hd4.out
  have hx4 : Blk w4 w.heap.size 74 (Value.int .i64 (i : Int) :: B8s (pad p)).toArray := by
    rw [hw4]
    exact Hx3.out.far (p := ⟨b, 2, none⟩) (fun e => by have := (Blk.lt (DiskL.str H.out)); simp only at e; omega) _
  have hf4 : Fr (feet b bd bl (.slice a D.pend.length cp)) w w4 := by
    rw [hw4]
    refine (((Hf1.out.trans' Hf2.out (fun _ _ h => h)).mono (fun _ _ h => h.elim)).trans' Hf3.out (fun _ _ h => .inr (.inr (.inr h)))).setCell (p := ⟨b, 2, none⟩) (.inl (.inl rfl)) _
  have hnew : ∀ k, (Value.slice a' (D.pend.length + 1) c').ownBlock = some k → (Value.slice a D.pend.length cp).ownBlock = some k ∨ w.heap.size ≤ k := by
    intro k hk
    rcases hnew0 k hk with h | h
    · exact .inl h
    · exact .inr (Nat.le_trans Hf1.out.size (Nat.le_trans Hf2.out.size h))
  have e1 : w4.cell? ⟨b, 1, none⟩ = some (.slice (some ⟨bl, 0, none⟩) D.n D.n) := hd4.str.cell 1
  have hrx4 : w4.drew.rangeAt w.heap.size 1 (B8s (pad p)) := hx4.drew.range 1 _ (fun j v hv => by
    rw [List.getElem?_toArray, Nat.add_comm, List.getElem?_cons_succ]
    exact hv)
  have hil : (Try.prog.info? 72).map (·.size) = some (B8s (pad p)).length := by rw [B8s_length, pad_len p hp]; kernel_rfl
  have Hd5 := hide hd4
  have Hf5 := hide hf4
  have Hnew := hide hnew
  have Hrx4 := hide hrx4
  have Hil := hide hil
  clear hw4 hd4 hx4 hf4 hnew hrx4 hil k2 z2 Hd4 Hx3 Hf3 Hf2 Hf1
  refine wp_region_tail 8 (by kernel_rfl) (by kernel_rfl) ?_
  simp only [List.take_succ_cons, List.take_zero, List.drop_succ_cons, List.drop_zero]
  iterate 6 still_step
  refine wpStill_load_mid rfl 72 (.tmp 39) rfl w.heap.size 1 rfl _ _ Hrx4.out Try.underlying72 rfl Hil.out ?_
  still_step
  refine wpStill_nil ?_
  refine wpList_store_mid rfl 72 (.tmp 41) (.tmp 40) rfl bl (i * 64) _ rfl rfl (by rw [List.size_toArray, B8s_length, pad_len p hp]; exact Hd5.out.lat.there i hi 0 64 (by omega)) (by rw [List.size_toArray]; exact Hil.out) (all_oneCell_toArray (B8s_one (pad p))) ?_
  rw [List.toList_toArray]
  have hd6 : DiskL (w4.drew.setCells bl (i * 64) (B8s (pad p))) b bd bl (.slice a' (D.pend.length + 1) c') (D.wrote i p) (view (D.wrote i p).dur (D.wrote i p).pend) := by
    have := (DiskL.fr Hd5.out (F := fun _ => False) ((Fr.refl _ _).drew) (fun _ _ hh => hh)).overLat i hi (pad p) (pad_len p hp)
    rw [← view_snoc] at this
    exact this
  have hf6 : Fr (feet b bd bl (.slice a D.pend.length cp)) w (w4.drew.setCells bl (i * 64) (B8s (pad p))) := Fr.setCells (F := feet b bd bl (.slice a D.pend.length cp)) (.inl (.inr (.inr (.inl rfl)))) _ _ _ Hf5.out.drew
  obtain ⟨w6, hw6⟩ : ∃ w6, w6 = w4.drew.setCells bl (i * 64) (B8s (pad p)) := ⟨_, rfl⟩
  rw [← hw6] at hd6 hf6 ⊢
  have Hd6 := hide hd6
  have Hf6 := hide hf6
  clear hd6 hf6 hw6 Hd5 Hf5
  simp only [Act.put]
  go_wp2_with (go_at_call 40; refine (begin_any _ _ _ _ (D.wrote i p) _ _ Hd6.out hops hfu).mono ?_; rintro e w7 ⟨rfl, hd7, hf7⟩; have Hd7 := hide hd7; have Hf7 := hide hf7; clear hd7 hf7)
  go_ret
  refine ⟨feet b bd bl (.slice a' (D.pend.length + 1) c'), rfl, ⟨bd, bl, _, Hd7.out, rfl⟩, Hf6.out.trans' Hf7.out (fun _ _ e => .inl e), ?_⟩
  rintro k (rfl | rfl | rfl | hk)
  · exact .inl (.inl rfl)
  · exact .inl (.inr (.inl rfl))
  · exact .inl (.inr (.inr (.inl rfl)))
  · rcases Hnew.out k hk with h | h
    · exact .inl (.inr (.inr (.inr h)))
    · exact .inr h

/-! ### Write that is refused -/
set_option maxHeartbeats 400000 in
theorem write_nil (i : Int) (A : Option Addr) (l c : Nat) (w : World) :
    Calls Try.prog 45 #[.pointer none, .int .i64 i, .slice A l c] w fun e w' => e = .returned (.int .i64 6) ∧ w = w' := by
  go_enter Try.func45, Try.ntmps45
  go_wp2_with (go_at_call 39; refine (refusal_nil _ _).mono ?_; rintro e w1 ⟨rfl, rfl⟩)
  go_ret
  exact ⟨rfl, rfl⟩

set_option maxHeartbeats 400000 in
theorem write_refused (b : Nat) (F : Nat → Prop) (D : Dk) (i : Int) (A : Option Addr) (l c : Nat) (w : World) (h : DiskAt w b F D) (hr : refuse D i ≠ 0) :
    Calls Try.prog 45 #[.pointer (some ⟨b, 0, none⟩), .int .i64 i, .slice A l c] w fun e w' => e = .returned (.int .i64 (refuse D i)) ∧ w = w' := by
  obtain ⟨bd, bl, pv, h, rfl⟩ := h
  have H := hide h
  have hn : ((refuse D i) != 0) = true := by rw [bne_iff_ne]; exact hr
  clear h hr
  generalize hx : refuse D i = x at *
  have Hx := hide hx
  clear hx
  go_enter Try.func45, Try.ntmps45
  go_wp2_with (go_at_call 39; refine (refusal_any _ _ _ _ D _ _ H.out _).mono ?_; rintro e w1 ⟨rfl, rfl⟩; rw [Hx.out])
  go_ret
  exact ⟨rfl, rfl⟩

set_option maxHeartbeats 400000 in
theorem write_long (b : Nat) (F : Nat → Prop) (D : Dk) (i : Int) (A : Option Addr) (l c : Nat) (w : World) (h : DiskAt w b F D) (hr : refuse D i = 0) (hl : 64 < l) :
    Calls Try.prog 45 #[.pointer (some ⟨b, 0, none⟩), .int .i64 i, .slice A l c] w fun e w' => e = .returned (.int .i64 2) ∧ w = w' := by
  obtain ⟨bd, bl, pv, h, rfl⟩ := h
  have H := hide h
  have Hx := hide hr
  clear h hr
  go_enter Try.func45, Try.ntmps45
  go_wp2_with (go_at_call 39; refine (refusal_any _ _ _ _ D _ _ H.out _).mono ?_; rintro e w1 ⟨rfl, rfl⟩; rw [Hx.out])
  go_ret
  exact ⟨rfl, rfl⟩

/-! ### Read -/
set_option maxHeartbeats 400000 in
theorem read_nil (i : Int) (w : World) :
    Calls Try.prog 28 #[.pointer none, .int .i64 i] w fun e w' => e = .returned (.tuple #[.slice none 0 0, .int .i64 6]) ∧ w = w' := by
  go_enter Try.func28, Try.ntmps28
  go_wp2_with (go_at_call 39; refine (refusal_nil _ _).mono ?_; rintro e w1 ⟨rfl, rfl⟩)
  go_ret2
  exact ⟨rfl, rfl⟩

set_option maxHeartbeats 400000 in
theorem read_refused (b : Nat) (F : Nat → Prop) (D : Dk) (i : Int) (w : World) (h : DiskAt w b F D) (hr : refuse D i ≠ 0) :
    Calls Try.prog 28 #[.pointer (some ⟨b, 0, none⟩), .int .i64 i] w fun e w' => e = .returned (.tuple #[.slice none 0 0, .int .i64 (refuse D i)]) ∧ w = w' := by
  obtain ⟨bd, bl, pv, h, rfl⟩ := h
  have H := hide h
  have hn : ((refuse D i) != 0) = true := by rw [bne_iff_ne]; exact hr
  clear h hr
  generalize hx : refuse D i = x at *
  have Hx := hide hx
  clear hx
  go_enter Try.func28, Try.ntmps28
  go_wp2_with (go_at_call 39; refine (refusal_any _ _ _ _ D _ _ H.out _).mono ?_; rintro e w1 ⟨rfl, rfl⟩; rw [Hx.out])
  go_ret2
  exact ⟨rfl, rfl⟩

def mk64 : Array Value := madeCells (Value.int .u8 0).cells 64
theorem mk64_size : mk64.size = 64 := size_madeCells _ _
theorem infoU8 : (Try.prog.info? 5).map (fun i => (i.zero, i.size, i.bytes)) = some (some (.int .u8 0), 1, 1) := by kernel_rfl

set_option maxRecDepth 10000 in
set_option maxHeartbeats 400000 in
theorem read_any (b : Nat) (F : Nat → Prop) (D : Dk) (i : Nat) (w : World) (h : DiskAt w b F D) (ho : D.off = false) (hi : i < D.n) :
    Calls Try.prog 28 #[.pointer (some ⟨b, 0, none⟩), .int .i64 i] w fun e w' =>
      e = .returned (.tuple #[.slice (some ⟨w.heap.size, 0, none⟩) 64 64, .int .i64 0]) ∧ w' = w.alloc (.cells (B8s (view D.dur D.pend i)).toArray 5) := by
  obtain ⟨bd, bl, pv, h, rfl⟩ := h
  have hr : refuse D i = 0 := by unfold refuse; rw [if_neg (by omega), ho]; rfl
  have Hr := hide hr
  have H := hide h
  have hn4 := h.wf.hi
  have hmk : ∀ W : World, (Instr.makeSlice 22 (.int .i64 64) (.int .i64 64)).run Try.prog W = .ok (.slice (some ⟨W.heap.size, 0, none⟩) 64 64) (W.alloc (.cells mk64 5)) := fun W =>
    run_make_all (P := Try.prog) 22 5 (.int .u8 0) 1 1 Try.underlying22 infoU8 .i64 .i64 64 (by omega) (by omega) (by omega) W
  have c1 : (w.alloc (.cells mk64 5)).cell? ⟨b, 1, none⟩ = some (.slice (some ⟨bl, 0, none⟩) D.n D.n) := (h.str.alloc _).cell 1
  have hv := h.wf.vlen i
  have hsrc : Bytes (w.alloc (.cells mk64 5)) (some ⟨bl, i * 64, none⟩) (view D.dur D.pend i) := .inr ⟨bl, i * 64, rfl, ((DiskL.alloc h _).lat).range i hi hv⟩
  have Hv := hide hv
  have Hsrc := hide hsrc
  clear hr ho h hv hsrc
  go_enter Try.func28, Try.ntmps28
  go_upto_region 5 with (go_at_call 39; refine (refusal_any _ _ _ _ D _ _ H.out _).mono ?_; rintro e w1 ⟨rfl, rfl⟩; rw [Hr.out])
  go_upto_region 6 with (refine wpList_copy_bytes rfl (.tmp 15) (.tmp 22) 22 22 rfl 5 Try.underlying22 (by kernel_rfl) w.heap.size 0 64 64 (some ⟨bl, i * 64, none⟩) 64 64 rfl rfl _ Hv.out Hsrc.out ((Blk.new w _ _).there 0 _ (by rw [mk64_size]; omega)) ?_
                         rw [setCells_new _ _ _ _ (by rw [B8s_length, List.length_take, Hv.out, mk64_size]; rfl), List.take_of_length_le (by rw [Hv.out]; exact Nat.le_refl _)])
  simp only [Act.put, List.setIfInBounds_toArray, List.set_cons_zero, List.set_cons_succ]
  go_wp2
  go_ret2
  exact ⟨rfl, rfl⟩

end Go.Proofs.Ytbcpplndmndkiaa
