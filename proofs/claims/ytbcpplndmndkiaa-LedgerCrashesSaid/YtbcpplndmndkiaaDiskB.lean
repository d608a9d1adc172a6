/- Package block: what the calls do. -/
import Derived.Test.YtbcpplndmndkiaaDisk
import Derived.Deep.RegionHeld3
import Derived.RegionTactic
namespace Go.Proofs.Ytbcpplndmndkiaa
open Go.RowKit

/-- What begin makes of the counts. -/
def Dk.begun (D : Dk) : Dk := { D with ops := D.ops + 1, fuse := D.fuse - 1, off := D.off || D.fuse == 1 }
def begunE (D : Dk) : Int := if D.fuse = 1 then 12 else 0

theorem DiskL.put {w w' : World} {b bd bl : Nat} {pv : Value} {D D' : Dk} {lat : Nat → List UInt8} (h : DiskL w b bd bl pv D lat) (hw : D'.Wf) (hn : D'.n = D.n) (hd : D'.dur = D.dur) (hp : D'.pend = D.pend)
    (hs : Blk w' b 68 (dcells D' bd bl pv)) (hf : Fr (fun k => k = b) w w') (hpb : pv.ownBlock ≠ some b) : DiskL w' b bd bl pv D' lat := by
  have key : ∀ g f, Arr w g D.n f → Arr w' g D'.n f := by
    rintro g f ⟨cs, h1, h2, h3⟩
    refine ⟨cs, h1.fr hf ?_, by rw [hn]; exact h2, by rw [hn]; exact h3⟩
    exact h1.ne_ h.str (by decide)
  refine ⟨hw, h.llen, hs, ?_, key _ _ h.lat, ?_, h.ne⟩
  · rw [hd]; exact key _ _ h.dur
  · rw [hp]
    exact h.pen.kept (row := some b) ⟨hf.os, hf.tape, hf.output, hf.size, fun k hk hne => hf.block k hk (fun e => hne (by rw [e]))⟩ (.inr hpb)

theorem Arr.fr {F : Nat → Prop} {w w' : World} {g n : Nat} {f : Nat → List UInt8} (h : Arr w g n f) (hf : Fr F w w') (hg : ¬ F g) : Arr w' g n f := by
  obtain ⟨cs, h1, h2, h3⟩ := h
  exact ⟨cs, h1.fr hf hg, h2, h3⟩
theorem own_fr {F : Nat → Prop} {w w' : World} {base : Nat} {e : TypeId} {size n : Nat} {v : Value} {xs : List Value} (h : w.ownsRow base e size v n xs) (hf : Fr F w w') (hg : ∀ k, v.ownBlock = some k → ¬ F k) : w'.ownsRow base e size v n xs := by
  refine ⟨h.1, ?_⟩
  rcases h.2 with hn | ⟨g, cap, cur, rfl, hb, hgg, rest⟩
  · exact .inl hn
  · exact .inr ⟨g, cap, cur, rfl, hb, (hf.block g (Array.getElem?_eq_some_iff.1 hgg).1 (hg g rfl)).trans hgg, rest⟩
/-- What is apart from the disk leaves it as it is. -/
theorem DiskL.fr {F : Nat → Prop} {w w' : World} {b bd bl : Nat} {pv : Value} {D : Dk} {lat : Nat → List UInt8} (h : DiskL w b bd bl pv D lat) (hf : Fr F w w') (ha : ∀ k, feet b bd bl pv k → ¬ F k) : DiskL w' b bd bl pv D lat :=
  ⟨h.wf, h.llen, h.str.fr hf (ha _ (.inl rfl)), h.dur.fr hf (ha _ (.inr (.inl rfl))), h.lat.fr hf (ha _ (.inr (.inr (.inl rfl)))), own_fr h.pen hf (fun k hk => ha k (.inr (.inr (.inr hk)))), h.ne⟩
theorem DiskL.alloc {w : World} {b bd bl : Nat} {pv : Value} {D : Dk} {lat : Nat → List UInt8} (h : DiskL w b bd bl pv D lat) (o : Obj) : DiskL (w.alloc o) b bd bl pv D lat := h.fr (F := fun _ => False) ((Fr.refl _ _).alloc o) (fun _ _ hh => hh)
theorem own_ne_str {w : World} {b bd bl : Nat} {pv : Value} {D : Dk} {lat : Nat → List UInt8} (h : DiskL w b bd bl pv D lat) : pv.ownBlock ≠ some b := own_blk_ne h.pen h.str (by decide)

set_option maxHeartbeats 400000 in
theorem begin_any (b bd bl : Nat) (pv : Value) (D : Dk) (lat : Nat → List UInt8) (w : World) (h : DiskL w b bd bl pv D lat) (ho : D.ops < 4611686018427387904) (hfu : D.fuse ≤ 9223372036854775807) :
    Calls Try.prog 40 #[.pointer (some ⟨b, 0, none⟩)] w fun e w' => e = .returned (.int .i64 (begunE D)) ∧ DiskL w' b bd bl pv D.begun lat ∧ Fr (fun k => k = b) w w' := by
  obtain ⟨n, dur, pend, ops, fuse, off⟩ := D
  have c3 : w.cell? ⟨b, 3, none⟩ = some (.int .i64 ops) := h.str.cell 3
  have c4 : w.cell? ⟨b, 4, none⟩ = some (.int .i64 fuse) := h.str.cell 4
  have z : ∀ i, w.frozen? ⟨b, i, none⟩ = false := h.str.frozen
  have z3 := z 3
  have z4 := z 4
  have z5 := z 5
  have c5 : w.cell? ⟨b, 5, none⟩ = some (.bool off) := h.str.cell 5
  have H := hide h
  have hwf := hide h.wf
  clear h z
  simp only at ho hfu
  have close : ∀ (fuse' : Nat) (off' : Bool) (w' : World), Blk w' b 68 (dcells ⟨n, dur, pend, ops + 1, fuse', off'⟩ bd bl pv) → Fr (fun k => k = b) w w' →
      DiskL w' b bd bl pv ⟨n, dur, pend, ops + 1, fuse', off'⟩ lat ∧ Fr (fun k => k = b) w w' := fun fuse' off' w' hs hf =>
    ⟨H.out.put ⟨hwf.out.lo, hwf.out.hi, hwf.out.dlen, hwf.out.pat, hwf.out.plen⟩ rfl rfl rfl hs hf (own_ne_str H.out), hf⟩
  have Cl := hide close
  clear close
  rcases Nat.lt_or_ge 1 fuse with hf | hf
  · go_enter Try.func40, Try.ntmps40
    go_wp2
    go_ret
    refine ⟨?_, ?_⟩
    · show Ending.returned (.int .i64 0) = _
      rw [begunE, if_neg (by simp only; omega)]
    have e : Dk.begun ⟨n, dur, pend, ops, fuse, off⟩ = ⟨n, dur, pend, ops + 1, fuse - 1, off⟩ := by
      simp only [Dk.begun, Dk.mk.injEq, true_and]
      rw [show (fuse == 1) = false from by simp; omega, Bool.or_false]
    rw [e]
    refine Cl.out _ _ _ ?_ (((Fr.refl _ _).put1 3 _).put1 4 _)
    have hb := (H.out.str.set_ 3 (.int .i64 ((ops : Int) + 1))).set_ 4 (.int .i64 ((fuse : Int) - 1))
    simpa [dcells, show ((fuse - 1 : Nat) : Int) = (fuse : Int) - 1 from by omega] using hb
  · rcases Nat.eq_zero_or_pos fuse with hz | hz
    · subst hz
      go_enter Try.func40, Try.ntmps40
      go_wp2
      go_ret
      refine ⟨rfl, ?_⟩
      have e : Dk.begun ⟨n, dur, pend, ops, 0, off⟩ = ⟨n, dur, pend, ops + 1, 0, off⟩ := by simp [Dk.begun]
      rw [e]
      refine Cl.out _ _ _ ?_ ((Fr.refl _ _).put1 3 _)
      have hb := H.out.str.set_ 3 (.int .i64 ((ops : Int) + 1))
      simpa [dcells] using hb
    · obtain rfl : fuse = 1 := by omega
      go_enter Try.func40, Try.ntmps40
      go_wp2
      go_ret
      refine ⟨rfl, ?_⟩
      have e : Dk.begun ⟨n, dur, pend, ops, 1, off⟩ = ⟨n, dur, pend, ops + 1, 0, true⟩ := by simp [Dk.begun]
      rw [e]
      refine Cl.out _ _ _ ?_ ((((Fr.refl _ _).put1 3 _).put1 4 _).put1 5 _)
      have hb := ((H.out.str.set_ 3 (.int .i64 ((ops : Int) + 1))).set_ 4 (.int .i64 0)).set_ 5 (.bool true)
      simpa [dcells] using hb

set_option maxHeartbeats 400000 in
theorem arm_nil (n : Int) (w : World) :
    Calls Try.prog 26 #[.pointer none, .int .i64 n] w fun e w' => e = .returned (.int .i64 6) ∧ w = w' := by
  go_enter Try.func26, Try.ntmps26
  go_wp2
  go_ret
  exact ⟨rfl, rfl⟩

set_option maxHeartbeats 400000 in
theorem arm_neg (b : Nat) (m : Int) (w : World) (hm : m < 0) :
    Calls Try.prog 26 #[.pointer (some ⟨b, 0, none⟩), .int .i64 m] w fun e w' => e = .returned (.int .i64 1) ∧ w = w' := by
  go_enter Try.func26, Try.ntmps26
  go_wp2
  go_ret
  exact ⟨rfl, rfl⟩

set_option maxHeartbeats 400000 in
theorem arm_any (b bd bl : Nat) (pv : Value) (D : Dk) (lat : Nat → List UInt8) (m : Int) (w : World) (h : DiskL w b bd bl pv D lat) (hm : 0 ≤ m) :
    Calls Try.prog 26 #[.pointer (some ⟨b, 0, none⟩), .int .i64 m] w fun e w' =>
      e = .returned (.int .i64 0) ∧ DiskL w' b bd bl pv { D with fuse := m.toNat } lat ∧ Fr (fun k => k = b) w w' := by
  obtain ⟨n, dur, pend, ops, fuse, off⟩ := D
  have c4 : w.cell? ⟨b, 4, none⟩ = some (.int .i64 fuse) := h.str.cell 4
  have z4 := h.str.frozen 4
  have H := hide h
  have hwf := hide h.wf
  clear h
  go_enter Try.func26, Try.ntmps26
  go_wp2
  go_ret
  have hf : Fr (fun k => k = b) w (w.setCell ⟨b, 4, none⟩ (.int .i64 m)) := (Fr.refl _ _).put1 4 _
  refine ⟨rfl, H.out.put ⟨hwf.out.lo, hwf.out.hi, hwf.out.dlen, hwf.out.pat, hwf.out.plen⟩ rfl rfl rfl ?_ hf (own_ne_str H.out), hf⟩
  have hb := H.out.str.set_ 4 (.int .i64 m)
  simpa [dcells, show (m.toNat : Int) = m from by omega] using hb

set_option maxHeartbeats 400000 in
theorem new_bad (n : Int) (w : World) (hn : n < 1 ∨ 4096 < n) :
    Calls Try.prog 27 #[.int .i64 n] w fun e w' => e = .returned (.tuple #[.pointer none, .int .i64 1]) ∧ w = w' := by
  rcases hn with hn | hn
  · go_enter Try.func27, Try.ntmps27
    go_wp2
    go_ret2
    exact ⟨rfl, rfl⟩
  · have h1 : ¬ n < 1 := by omega
    go_enter Try.func27, Try.ntmps27
    go_wp2
    go_ret2
    exact ⟨rfl, rfl⟩

def Z8 : Value := .agg (Array.replicate 64 (.int .u8 0))
theorem infoC : (Try.prog.info? 72).map (fun i => (i.zero, i.size, i.bytes)) = some (some Z8, 64, 64) := by kernel_rfl
theorem infoW : (Try.prog.info? 74).map (fun i => (i.size, i.bytes)) = some (65, 72) := by kernel_rfl
def mkC (n : Nat) : Array Value := madeCells Z8.cells (n * 64)

theorem mkC_size (n : Nat) : (mkC n).size = n * 64 := size_madeCells _ _
theorem mkC_get (n k : Nat) (hk : k < n * 64) : (mkC n)[k]? = some (B8 0) := by
  have hz : ∀ m, m < 64 → (Z8.cells)[m]! = B8 0 := by
    intro m hm
    show (Array.replicate 64 (Value.int .u8 0))[m]! = _
    rw [getElem!_pos (Array.replicate 64 (Value.int .u8 0)) m (by simpa using hm)]
    simp [B8]
  have hs : Z8.cells.size = 64 := rfl
  unfold mkC madeCells
  rw [Array.getElem?_map, Array.getElem?_range, if_pos hk]
  simp only [Option.map_some]
  rw [hs, hz _ (Nat.mod_lt _ (by omega))]
def zero64 : List UInt8 := List.replicate 64 0
theorem arr_new {w : World} {g n : Nat} (h : Blk w g 72 (mkC n)) : Arr w g n (fun _ => zero64) := by
  refine ⟨_, h, mkC_size n, fun i hi j hj => ?_⟩
  rw [mkC_get n _ (by omega)]
  unfold zero64
  rw [List.getElem?_replicate, if_pos hj]
  rfl
def Dk.new (n : Nat) : Dk := ⟨n, fun _ => zero64, [], 0, 0, false⟩
theorem Dk.new_wf {n : Nat} (h1 : 1 ≤ n) (h2 : n ≤ 4096) : (Dk.new n).Wf := ⟨h1, h2, fun _ => List.length_replicate, by simp [Dk.new], by simp [Dk.new]⟩

/-- A new disk. -/
def NewPost (n : Nat) (w : World) (e : Ending) (w' : World) : Prop :=
  ∃ b F, e = .returned (.tuple #[.pointer (some ⟨b, 0, none⟩), .int .i64 0]) ∧ DiskAt w' b F (Dk.new n) ∧ Below w.heap.size w w' ∧ ∀ k, F k → w.heap.size ≤ k

set_option maxHeartbeats 400000 in
theorem new_any (n : Nat) (w : World) (h1 : 1 ≤ n) (h2 : n ≤ 4096) :
    Calls Try.prog 27 #[.int .i64 n] w (NewPost n w) := by
  have hmk : ∀ W : World, (Instr.makeSlice 65 (.int .i64 (n : Int)) (.int .i64 (n : Int))).run Try.prog W = .ok (.slice (some ⟨W.heap.size, 0, none⟩) n n) (W.alloc (.cells (mkC n) 72)) := fun W =>
    run_make_all (P := Try.prog) 65 72 Z8 64 64 Try.underlying65 infoC .i64 .i64 n (by omega) (by omega) (by omega) W
  have fin : ∀ (bd bl : Nat), (bd = w.heap.size ∧ bl = w.heap.size + 1 ∨ bl = w.heap.size ∧ bd = w.heap.size + 1) → NewPost n w (.returned (.tuple #[.pointer (some ⟨w.heap.size + 1 + 1, 0, none⟩), .int .i64 0]))
      (((w.alloc (.cells (mkC n) 72)).alloc (.cells (mkC n) 72)).alloc (.cells #[.slice (some ⟨bd, 0, none⟩) n n, .slice (some ⟨bl, 0, none⟩) n n, .slice none 0 0, .int .i64 0, .int .i64 0, .bool false] 68)).drew := by
    intro bd bl hb
    have e1 : (w.alloc (.cells (mkC n) 72)).heap.size = w.heap.size + 1 := by simp
    have e2 : ((w.alloc (.cells (mkC n) 72)).alloc (.cells (mkC n) 72)).heap.size = w.heap.size + 1 + 1 := by simp
    have b0 := ((Blk.new w 72 (mkC n)).alloc (.cells (mkC n) 72)).alloc (.cells #[.slice (some ⟨bd, 0, none⟩) n n, .slice (some ⟨bl, 0, none⟩) n n, .slice none 0 0, .int .i64 0, .int .i64 0, .bool false] 68)
    have b1 := (Blk.new (w.alloc (.cells (mkC n) 72)) 72 (mkC n)).alloc (.cells #[.slice (some ⟨bd, 0, none⟩) n n, .slice (some ⟨bl, 0, none⟩) n n, .slice none 0 0, .int .i64 0, .int .i64 0, .bool false] 68)
    have b2 := Blk.new ((w.alloc (.cells (mkC n) 72)).alloc (.cells (mkC n) 72)) 68 #[.slice (some ⟨bd, 0, none⟩) n n, .slice (some ⟨bl, 0, none⟩) n n, .slice none 0 0, .int .i64 0, .int .i64 0, .bool false]
    rw [e1] at b1
    rw [e2] at b2
    refine ⟨w.heap.size + 1 + 1, feet (w.heap.size + 1 + 1) bd bl (.slice none 0 0), rfl, ⟨bd, bl, .slice none 0 0, ⟨Dk.new_wf h1 h2, fun _ => List.length_replicate, b2, ?_, ?_, World.ownsRow_nil _ _ _ _, by omega⟩, rfl⟩, ?_, ?_⟩
    · rcases hb with ⟨rfl, rfl⟩ | ⟨rfl, rfl⟩
      · exact arr_new b0
      · exact arr_new b1
    · rcases hb with ⟨rfl, rfl⟩ | ⟨rfl, rfl⟩
      · exact arr_new b1
      · exact arr_new b0
    · exact ((((Below.refl _ _).alloc (Nat.le_refl _) _).alloc (by simp) _).alloc (by simp; omega) _).drew
    · rintro k (rfl | rfl | rfl | h)
      · omega
      · omega
      · omega
      · simp [Value.ownBlock] at h
  have Fin := hide fin
  clear fin
  go_enter Try.func27, Try.ntmps27
  go_wp2
  go_region
  all_goals
    go_wp2
    go_ret2
    refine Fin.out _ _ ?_
    omega

theorem pcells_len (l : List (Nat × List UInt8)) (h : ∀ p ∈ l, p.2.length = 64) : (pcells l).length = l.length * 65 := by
  induction l with
  | nil => rfl
  | cons p r ih =>
    have h1 := h p List.mem_cons_self
    have h2 := ih (fun q hq => h q (List.mem_cons_of_mem _ hq))
    simp only [pcells, List.flatMap_cons, List.length_append, List.length_cons, B8s_length] at h2 ⊢
    omega
/-- The cells of the k-th write. -/
theorem pcells_get (l : List (Nat × List UInt8)) : (∀ p ∈ l, p.2.length = 64) → ∀ (k : Nat) (p : Nat × List UInt8), l[k]? = some p → ∀ j, j < 65 → (pcells l)[k * 65 + j]? = (Value.int .i64 (p.1 : Int) :: B8s p.2)[j]? := by
  induction l with
  | nil => intro _ k p hk; simp at hk
  | cons q r ih =>
    intro h k p hk j hj
    have hq := h q List.mem_cons_self
    have hlen : (Value.int .i64 (q.1 : Int) :: B8s q.2).length = 65 := by simp [B8s_length, hq]
    show (((Value.int .i64 (q.1 : Int) :: B8s q.2)) ++ pcells r)[k * 65 + j]? = _
    cases k with
    | zero =>
      simp only [List.getElem?_cons_zero, Option.some.injEq] at hk
      subst hk
      rw [List.getElem?_append_left (by omega), Nat.zero_mul, Nat.zero_add]
    | succ k =>
      rw [List.getElem?_append_right (by omega), hlen, show (k + 1) * 65 + j - 65 = k * 65 + j from by omega]
      exact ih (fun x hx => h x (List.mem_cons_of_mem _ hx)) k p (by simpa using hk) j hj

theorem pcells_one (l : List (Nat × List UInt8)) (h : ∀ p ∈ l, p.2.length = 64) (k : Nat) (p : Nat × List UInt8) (hk : l[k]? = some p) : ((Value.int .i64 (p.1 : Int) :: B8s p.2).length = 65) := by
  have := h p (List.mem_of_getElem? hk)
  simp [B8s_length, this]
theorem wcells_one (p : Nat × List UInt8) : ∀ v ∈ Value.int .i64 (p.1 : Int) :: B8s p.2, v.oneCell' = true := by
  intro v hv
  rcases List.mem_cons.1 hv with rfl | hv
  · rfl
  · exact B8s_one _ v hv
/-- the k-th write lies in the slice of what waits. -/
theorem pend_range {w : World} {g cap : Nat} {l : List (Nat × List UInt8)} (h : w.ownsRow 0 74 65 (.slice (some ⟨g, 0, none⟩) l.length cap) l.length (pcells l)) (hl : ∀ p ∈ l, p.2.length = 64)
    (k : Nat) (p : Nat × List UInt8) (hk : l[k]? = some p) : w.rangeAt g (k * 65) (Value.int .i64 (p.1 : Int) :: B8s p.2) := by
  intro j v hv
  have hj : j < 65 := by
    have := (List.getElem?_eq_some_iff.1 hv).1
    rwa [pcells_one l hl k p hk] at this
  have hc := h.cells (g := g) rfl (k * 65 + j) v (by rw [pcells_get l hl k p hk j hj]; exact hv)
  rwa [Addr.add_mid, Nat.zero_add] at hc

def ZW : Array Value := #[.int .i64 0] ++ Array.replicate 64 (.int .u8 0)
theorem zeroW (w : World) : (zeroValue 74).run Try.prog w = .ok (.agg ZW) w := by kernel_rfl
theorem ZW_size : ZW.size = 65 := by kernel_rfl

theorem Arr.there {w : World} {g n : Nat} {f : Nat → List UInt8} (h : Arr w g n f) (i : Nat) (hi : i < n) (o k : Nat) (hk : o + k ≤ 64) : w.there g (i * 64 + o) k := by
  obtain ⟨cs, h1, h2, _⟩ := h
  exact h1.there _ _ (by omega)
theorem Arr.range {w : World} {g n : Nat} {f : Nat → List UInt8} (h : Arr w g n f) (i : Nat) (hi : i < n) (hl : (f i).length = 64) : w.rangeAt g (i * 64) (B8s (f i)) := by
  obtain ⟨cs, h1, h2, h3⟩ := h
  refine h1.range _ _ (fun j v hv => ?_)
  rw [B8s_get] at hv
  have hj : j < 64 := by
    rcases Nat.lt_or_ge j 64 with h | h
    · exact h
    · rw [List.getElem?_eq_none (by omega)] at hv; cases hv
  rw [h3 i hi j hj]; exact hv
/-- the first bytes of block i written over. -/
def over (c : List UInt8) (t : List UInt8) : List UInt8 := t ++ c.drop t.length
theorem over_len (c t : List UInt8) (h : t.length ≤ c.length) : (over c t).length = c.length := by simp [over]; omega
theorem over_all (c t : List UInt8) (h : c.length = t.length) : over c t = t := by simp [over, h]
theorem Arr.over {w : World} {g n : Nat} {f : Nat → List UInt8} (h : Arr w g n f) (i : Nat) (hi : i < n) (t : List UInt8) (ht : t.length ≤ 64) (hl : (f i).length = 64) : Arr (w.setCells g (i * 64) (B8s t)) g n (upd f i (over (f i) t)) := by
  obtain ⟨cs, h1, h2, h3⟩ := h
  refine ⟨_, Blk.sets _ _ _ _ h1, by rw [splice_size]; exact h2, fun k hk j hj => ?_⟩
  rw [splice_get _ _ _ _ (by rw [B8s_length]; omega), B8s_length]
  by_cases hki : k = i
  · subst hki
    have e : upd f k (Go.Proofs.Ytbcpplndmndkiaa.over (f k) t) k = Go.Proofs.Ytbcpplndmndkiaa.over (f k) t := if_pos rfl
    rw [e]
    by_cases hjt : j < t.length
    · rw [if_pos (by omega), show k * 64 + j - k * 64 = j from by omega, B8s_get, Go.Proofs.Ytbcpplndmndkiaa.over, List.getElem?_append_left hjt]
    · rw [if_neg (by omega), h3 k hk j hj, Go.Proofs.Ytbcpplndmndkiaa.over, List.getElem?_append_right (by omega), List.getElem?_drop, show t.length + (j - t.length) = j from by omega]
  · rw [if_neg (by omega), h3 k hk j hj]
    have e : upd f i (Go.Proofs.Ytbcpplndmndkiaa.over (f i) t) k = f k := if_neg hki
    rw [e]
theorem Dk.Wf.setDur {D : Dk} (h : D.Wf) (f : Nat → List UInt8) (hf : ∀ i, (f i).length = 64) : ({ D with dur := f } : Dk).Wf := ⟨h.lo, h.hi, hf, h.pat, h.plen⟩
theorem upd_len {f : Nat → List UInt8} (h : ∀ i, (f i).length = 64) (i : Nat) (c : List UInt8) (hc : c.length = 64) : ∀ k, (upd f i c k).length = 64 := fun k => by
  unfold upd; split
  · exact hc
  · exact h k
/-- the first bytes of a durable block written over. -/
theorem DiskL.over {w : World} {b bd bl : Nat} {pv : Value} {D : Dk} {lat : Nat → List UInt8} (h : DiskL w b bd bl pv D lat) (i : Nat) (hi : i < D.n) (t : List UInt8) (ht : t.length ≤ 64) (hp : pv.ownBlock ≠ some bd) :
    DiskL (w.setCells bd (i * 64) (B8s t)) b bd bl pv { D with dur := upd D.dur i (Go.Proofs.Ytbcpplndmndkiaa.over (D.dur i) t) } lat := by
  have hl := h.wf.dlen i
  have hf : Fr (fun k => k = bd) w (w.setCells bd (i * 64) (B8s t)) := (Fr.refl _ _).puts1 _ _
  obtain ⟨cs, hd1, _⟩ := h.dur
  refine ⟨h.wf.setDur _ (upd_len h.wf.dlen i _ (by rw [over_len _ _ (by omega)]; exact hl)), h.llen, h.str.fr hf (fun e => ?_), h.dur.over i hi t ht hl, h.lat.fr hf (fun e => h.ne e.symm), own_fr h.pen hf (fun k hk e => hp (by rw [hk, e])), h.ne⟩
  exact hd1.ne_ h.str (by decide) e.symm
theorem own_ne_dur {w : World} {b bd bl : Nat} {pv : Value} {D : Dk} {lat : Nat → List UInt8} (h : DiskL w b bd bl pv D lat) : pv.ownBlock ≠ some bd := by
  obtain ⟨cs, hd1, _⟩ := h.dur
  exact own_blk_ne h.pen hd1 (by decide)
theorem own_ne_lat {w : World} {b bd bl : Nat} {pv : Value} {D : Dk} {lat : Nat → List UInt8} (h : DiskL w b bd bl pv D lat) : pv.ownBlock ≠ some bl := by
  obtain ⟨cs, hd1, _⟩ := h.lat
  exact own_blk_ne h.pen hd1 (by decide)
theorem view_take_succ (f : Nat → List UInt8) (l : List (Nat × List UInt8)) (k : Nat) (p : Nat × List UInt8) (h : l[k]? = some p) : view f (l.take (k + 1)) = upd (view f (l.take k)) p.1 p.2 := by
  rw [List.take_add_one, h, Option.toList_some, ← view_snoc]

/-- The loop of settle: behind k rounds. -/
def SetRel (b bd bl : Nat) (pv : Value) (D : Dk) (lat : Nat → List UInt8) (m : Nat) (w : World) (i : Value) (wr : World) : Prop :=
  ∃ k : Nat, k ≤ m ∧ i = .int .i64 k ∧ DiskL wr b bd bl pv { D with dur := view D.dur (D.pend.take k) } lat ∧ Fr (fun k => k = bd) w wr

set_option maxHeartbeats 400000 in
theorem settle_any (b bd bl : Nat) (pv : Value) (D : Dk) (lat : Nat → List UInt8) (m : Nat) (w : World) (h : DiskL w b bd bl pv D lat) (hm : m ≤ D.pend.length) (hl : D.pend.length < 1000000) :
    Calls Try.prog 36 #[.pointer (some ⟨b, 0, none⟩), .int .i64 m] w fun e w' =>
      e = .returned (.tuple #[]) ∧ DiskL w' b bd bl pv { D with dur := view D.dur (D.pend.take m) } lat ∧ Fr (fun k => k = bd) w w' := by
  rcases h.pen.2 with ⟨rfl, h0⟩ | ⟨g, cap, cur, rfl, _, hg, hcap, _, hcs, hct⟩
  · obtain rfl : m = 0 := by omega
    have c2 : w.cell? ⟨b, 2, none⟩ = some (.slice none 0 0) := h.str.cell 2
    have H := hide h
    clear h h0 hm hl
    go_enter Try.func36, Try.ntmps36
    go_wp2
    refine wp_loop_rounds 1 ?_
    rw [rounds_succ]
    go_wp2
    go_end0
    exact ⟨rfl, by simpa [view] using H.out, Fr.refl _ _⟩
  clear hg hcs hct
  have c2 : w.cell? ⟨b, 2, none⟩ = some (.slice (some ⟨g, 0, none⟩) D.pend.length cap) := h.str.cell 2
  have H := hide h
  clear h
  go_enter Try.func36, Try.ntmps36
  go_wp2
  go_loopw [13] (fun i wr => SetRel b bd bl (.slice (some ⟨g, 0, none⟩) D.pend.length cap) D lat m w i wr) (fun i _ => m - (intOf i).toNat)
  case atStart => exact ⟨0, Nat.zero_le _, rfl, by simpa [view] using H.out, Fr.refl _ _⟩
  case round =>
    obtain ⟨k, hk, rfl, hd, hf⟩ := hrel
    have Hd := hide hd
    have Hf := hide hf
    have d2 : wr.cell? ⟨b, 2, none⟩ = some (.slice (some ⟨g, 0, none⟩) D.pend.length cap) := hd.str.cell 2
    have d0 : wr.cell? ⟨b, 0, none⟩ = some (.slice (some ⟨bd, 0, none⟩) D.n D.n) := hd.str.cell 0
    by_cases hlt : k < m
    · obtain ⟨p, hp⟩ : ∃ p, D.pend[k]? = some p := ⟨_, List.getElem?_eq_getElem (by omega)⟩
      have hr : wr.rangeAt g (k * 65) (Value.int .i64 (p.1 : Int) :: B8s p.2) := pend_range hd.pen hd.wf.plen k p hp
      have hcl : (Value.int .i64 (p.1 : Int) :: B8s p.2).length = 65 := pcells_one _ H.out.wf.plen k p hp
      have hiw : (Try.prog.info? 74).map (·.size) = some (Value.int .i64 (p.1 : Int) :: B8s p.2).length := by rw [hcl]; kernel_rfl
      have hil : (Try.prog.info? 72).map (·.size) = some (B8s p.2).length := by rw [B8s_length, H.out.wf.plen p (List.mem_of_getElem? hp)]; kernel_rfl
      have hpn := H.out.wf.pat p (List.mem_of_getElem? hp)
      have hn4 := H.out.wf.hi
      have Hr := hide hr
      have Hp := hide hp
      have Hiw := hide hiw
      have Hil := hide hil
      have Hcl := hide hcl
      have Hpl := hide (H.out.wf.plen p (List.mem_of_getElem? hp))
      have zw := zeroW
      clear hr hp hiw hcl hd hf hil
      go_wp2_with (first
        | (refine wpList_load_mid rfl 74 (.tmp 15) rfl g (k * 65) rfl _ _ Hr.out Try.underlying74 rfl Hiw.out ?_)
        | (refine wpList_store_mid rfl 74 (.tmp 5) (.tmp 16) rfl wr.heap.size 0 _ rfl rfl (there_new _ _ _ _ (by rw [ZW_size, List.size_toArray, Hcl.out]; exact Nat.le_refl _)) (by rw [List.size_toArray]; exact Hiw.out) (all_oneCell_toArray (wcells_one p)) ?_
           rw [List.toList_toArray, setCells_new _ _ _ _ (by rw [Hcl.out, ZW_size])]))
      obtain ⟨w1, hw1⟩ : ∃ w1, w1 = wr.alloc (.cells (Value.int .i64 (p.1 : Int) :: B8s p.2).toArray 74) := ⟨_, rfl⟩
      rw [← hw1]
      have hd1 : DiskL w1 b bd bl (.slice (some ⟨g, 0, none⟩) D.pend.length cap) { D with dur := view D.dur (D.pend.take k) } lat := by rw [hw1]; exact Hd.out.alloc _
      have hf1 : Fr (fun k => k = bd) w w1 := by rw [hw1]; exact Hf.out.alloc _
      have hx : Blk w1 wr.heap.size 74 (Value.int .i64 (p.1 : Int) :: B8s p.2).toArray := by rw [hw1]; exact Blk.new _ _ _
      clear hw1 d2 d0
      have e0 : w1.cell? ⟨b, 0, none⟩ = some (.slice (some ⟨bd, 0, none⟩) D.n D.n) := hd1.str.cell 0
      have x0 : w1.cell? ⟨wr.heap.size, 0, none⟩ = some (.int .i64 (p.1 : Int)) := hx.cell 0
      have hrx : w1.drew.rangeAt wr.heap.size 1 (B8s p.2) := hx.drew.range 1 _ (fun j v hv => by
        rw [List.getElem?_toArray, Nat.add_comm, List.getElem?_cons_succ]
        exact hv)
      have Hd1 := hide hd1
      have Hf1 := hide hf1
      have Hrx := hide hrx
      clear hd1 hf1 hrx hx Hd Hf Hr
      refine wp_region_tail 9 (by kernel_rfl) (by kernel_rfl) ?_
      simp only [List.take_succ_cons, List.take_zero, List.drop_succ_cons, List.drop_zero]
      iterate 7 still_step
      refine wpStill_load_mid rfl 72 (.tmp 23) rfl wr.heap.size 1 rfl _ _ Hrx.out Try.underlying72 rfl Hil.out ?_
      still_step
      refine wpStill_nil ?_
      go_wp2_with (first
        | (refine wpList_store_mid rfl 72 (.tmp 25) (.tmp 24) rfl bd (p.1 * 64) _ rfl rfl (by rw [List.size_toArray, B8s_length]; have := Hpl.out; have := Hd1.out.dur.there p.1 hpn 0 p.2.length (by omega); simpa using this) (by rw [List.size_toArray]; exact Hil.out) (all_oneCell_toArray (B8s_one p.2)) ?_
           rw [List.toList_toArray]))
      have Hfin : DiskL (w1.drew.setCells bd (p.1 * 64) (B8s p.2)) b bd bl (.slice (some ⟨g, 0, none⟩) D.pend.length cap) { D with dur := view D.dur (D.pend.take (k + 1)) } lat := by
        rw [view_take_succ _ _ _ _ Hp.out]
        have hq := (Hd1.out.fr (F := fun _ => False) ((Fr.refl _ _).drew) (fun _ _ hh => hh)).over p.1 hpn p.2 (by have := Hpl.out; omega) (own_ne_dur Hd1.out)
        rw [over_all _ _ (by rw [Hpl.out]; exact Hd1.out.wf.dlen p.1)] at hq
        exact hq
      go_roundw
      case rel => exact ⟨k + 1, by omega, by go_num, Hfin, Hf1.out.drew.puts1 _ _⟩
      case measure => simp [intOf]; omega
    · go_wp2
      go_end0
      obtain rfl : k = m := by omega
      exact ⟨rfl, Hd.out, Hf.out⟩

/-! ### Sync, Write, Read -/
def Dk.synced (D : Dk) : Dk := { D with dur := view D.dur D.pend, pend := [] }
/-- the field of what waits, struck out. -/
theorem DiskL.strike {w : World} {b bd bl : Nat} {pv : Value} {D : Dk} {lat : Nat → List UInt8} (h : DiskL w b bd bl pv D lat) :
    DiskL (w.setCell ⟨b, 2, none⟩ (.slice none 0 0)) b bd bl (.slice none 0 0) { D with pend := [] } lat ∧ Fr (fun k => k = b) w (w.setCell ⟨b, 2, none⟩ (.slice none 0 0)) := by
  have hf : Fr (fun k => k = b) w (w.setCell ⟨b, 2, none⟩ (.slice none 0 0)) := (Fr.refl _ _).put1 2 _
  obtain ⟨cs, hd1, hd2⟩ := h.dur
  obtain ⟨cl, hl1, hl2⟩ := h.lat
  refine ⟨⟨⟨h.wf.lo, h.wf.hi, h.wf.dlen, by simp, by simp⟩, h.llen, ?_, ⟨cs, hd1.fr hf (hd1.ne_ h.str (by decide)), hd2⟩, ⟨cl, hl1.fr hf (hl1.ne_ h.str (by decide)), hl2⟩, World.ownsRow_nil _ _ _ _, h.ne⟩, hf⟩
  have hb := h.str.set_ 2 (.slice none 0 0)
  simpa [dcells] using hb

/-- What a call leaves: its error, the disk behind it, all but the disk's own blocks as it was. -/
def Leaves (e0 : Int) (b : Nat) (F : Nat → Prop) (D : Dk) (w : World) (e : Ending) (w' : World) : Prop :=
  ∃ F', e = .returned (.int .i64 e0) ∧ DiskAt w' b F' D ∧ Fr F w w' ∧ ∀ k, F' k → F k ∨ w.heap.size ≤ k

theorem sync_nil (w : World) :
    Calls Try.prog 29 #[.pointer none] w fun e w' => e = .returned (.int .i64 6) ∧ w = w' := by
  go_enter Try.func29, Try.ntmps29
  go_wp2
  go_ret
  exact ⟨rfl, rfl⟩

set_option maxHeartbeats 400000 in
theorem sync_off (b : Nat) (F : Nat → Prop) (D : Dk) (w : World) (h : DiskAt w b F D) (ho : D.off = true) :
    Calls Try.prog 29 #[.pointer (some ⟨b, 0, none⟩)] w fun e w' => e = .returned (.int .i64 12) ∧ w = w' := by
  obtain ⟨bd, bl, pv, h, rfl⟩ := h
  have c5 : w.cell? ⟨b, 5, none⟩ = some (.bool true) := by rw [← ho]; exact h.str.cell 5
  clear h ho
  go_enter Try.func29, Try.ntmps29
  go_wp2
  go_ret
  exact ⟨rfl, rfl⟩

set_option maxHeartbeats 400000 in
theorem sync_any (b : Nat) (F : Nat → Prop) (D : Dk) (w : World) (h : DiskAt w b F D) (ho : D.off = false) (hops : D.ops < 4611686018427387904) (hfu : D.fuse ≤ 9223372036854775807) (hl : D.pend.length < 1000000) :
    Calls Try.prog 29 #[.pointer (some ⟨b, 0, none⟩)] w (Leaves (begunE D) b F (if D.fuse = 1 then D.begun else D.begun.synced) w) := by
  obtain ⟨bd, bl, pv, h, rfl⟩ := h
  have c5 : w.cell? ⟨b, 5, none⟩ = some (.bool false) := by rw [← ho]; exact h.str.cell 5
  clear ho
  have H := hide h
  clear h
  by_cases hf : D.fuse = 1
  · have he : begunE D = 12 := if_pos hf
    have hD : (if D.fuse = 1 then D.begun else D.begun.synced) = D.begun := if_pos hf
    rw [hD, he]
    have He := hide he
    clear hf he hD
    go_enter Try.func29, Try.ntmps29
    go_wp2_with (go_at_call 40; refine (begin_any _ _ _ _ D _ _ H.out hops hfu).mono ?_; rintro e w1 ⟨rfl, hd, hfr⟩; have Hd := hide hd; have Hfr := hide hfr; clear hd hfr; rw [He.out])
    go_ret
    exact ⟨feet b bd bl pv, rfl, ⟨bd, bl, pv, Hd.out, rfl⟩, Hfr.out.mono (fun _ _ e => .inl e), fun _ hk => .inl hk⟩
  · have he : begunE D = 0 := if_neg hf
    have hD : (if D.fuse = 1 then D.begun else D.begun.synced) = D.begun.synced := if_neg hf
    rw [hD, he]
    have He := hide he
    clear hf he hD
    obtain ⟨a, c, rfl⟩ := pen_form H.out.pen
    go_enter Try.func29, Try.ntmps29
    go_wp2_with (first
      | (go_at_call 40; refine (begin_any _ _ _ _ D _ _ H.out hops hfu).mono ?_; rintro e w1 ⟨rfl, hd, hfr⟩; have k2 : w1.cell? ⟨b, 2, none⟩ = some (.slice a D.pend.length c) := hd.str.cell 2; have Hd := hide hd; have Hfr := hide hfr; clear hd hfr; rw [He.out])
      | (go_at_call 36; refine (settle_any _ _ _ _ D.begun _ D.pend.length _ Hd.out (Nat.le_refl _) hl).mono ?_; rintro e w2 ⟨rfl, hd2, hfr2⟩; have k3 : w2.cell? ⟨b, 2, none⟩ = some (.slice a D.pend.length c) := hd2.str.cell 2; have z3 : w2.frozen? ⟨b, 2, none⟩ = false := hd2.str.frozen 2; have Hd2 := hide hd2; have Hfr2 := hide hfr2; clear hd2 hfr2 k2))
    go_ret
    have hs := Hd2.out.strike
    rw [show D.begun.pend.take D.pend.length = D.pend from List.take_length] at hs
    refine ⟨feet b bd bl (.slice none 0 0), rfl, ⟨bd, bl, _, hs.1, rfl⟩, ?_, ?_⟩
    · refine ((Hfr.out.mono (fun _ _ e => .inl e)).trans' Hfr2.out (fun _ _ e => .inr (.inl e))).trans' hs.2 (fun _ _ e => .inl e)
    · rintro k (rfl | rfl | rfl | hk)
      · exact .inl (.inl rfl)
      · exact .inl (.inr (.inl rfl))
      · exact .inl (.inr (.inr (.inl rfl)))
      · cases hk

end Go.Proofs.Ytbcpplndmndkiaa
