/- Package wire, and the document's answer: sums behind bytes. -/
import Derived.Test.YtonlpgjcmodpnaaRf
import Derived.Test.YtonlpgjcmodpnaaCrc
import Derived.Test.YtonlpgjcmodpnaaRegionQ
namespace Go.Proofs.Ytonlpgjcmodpnaa
open Go.RowKit

def le4 (s : Nat) : List UInt8 := [UInt8.ofNat (s % 256), UInt8.ofNat (s / 256 % 256), UInt8.ofNat (s / 65536 % 256), UInt8.ofNat (s / 16777216 % 256)]
def sealB (l : List UInt8) : List UInt8 := l ++ le4 (crc l)
theorem crc_lt (l : List UInt8) : crc l < 4294967296 := by
  unfold crc
  have h := crcFold_lt l (s := 4294967295) (by omega)
  exact Nat.xor_lt_two_pow (n := 32) h (by omega)

section
variable {P : Program}
/-- append of bytes onto a slice without spare room: a new row. -/
theorem wpList_append_full {ops : Array Oper} {rest : List Oper} {o : Oper} {a : Act} {w : World} {Q : Exit → Act → World → Prop} (hgd : o.guard = none) (s x : Operand) (t : TypeId)
    (ho : o.op = .call { callee := .builtin .append, args := #[s, x], argTypes := #[t, t] })
    (ht : P.underlying t = some (.slice 5)) (hi : (P.info? 5).map (fun i => (i.zero, i.size, i.bytes)) = some (some (.int .u8 0), 1, 1))
    (A : Option Addr) (n : Nat) (l : List UInt8) (hA : A = none → n = 0) (hs : a.eval s = .slice A n n) (hn : l.length = n) (hl : Bytes w A l)
    (b : Addr) (m d : Nat) (r : List UInt8) (hx : a.eval x = .slice (some b) m d) (hm : r.length = m) (hb : Bytes w (some b) r) (h0 : 0 < m) (h63 : n + m ≤ 140737488355328)
    (h : ∀ c' w', OwnB w' (some ⟨w.heap.size, 0, none⟩) (n + m) c' (l ++ r) → Below w.heap.size w w' → wpList P ops Q rest (a.put o.dst (.slice (some ⟨w.heap.size, 0, none⟩) (n + m) c')) w') : wpList P ops Q (o :: rest) a w := by
  obtain ⟨i, hi', hz, hss, hbb⟩ := info_parts hi
  have cells : ∀ (ad : Addr) (k : List UInt8), Bytes w (some ad) k → ∀ j u, (B8s k)[j]? = some u → w.cell? (ad.add j) = some u := by
    intro ad k hk j u hu
    rcases hk with rfl | ⟨g, o', he, hr⟩
    · simp [B8s] at hu
    · cases he
      rw [Addr.add_mid]
      exact hr j u hu
  refine wpList_plain hgd fun K hK => ?_
  have fin : ∀ (cap : Nat), n + m ≤ cap → cap ≤ maxLen → OwnB (w.drew.alloc (.cells ((B8s l).toArray ++ (B8s r).toArray ++ Builtin.zeroCells (Value.int .u8 0).cells (cap - (n + m))) 5)) (some ⟨w.heap.size, 0, none⟩) (n + m) cap (l ++ r) := by
    intro cap hc hcm
    have hlen : (l ++ r).length = n + m := by rw [List.length_append, hn, hm]
    refine ⟨hlen, by rw [B8s_length, hlen, Nat.mul_one], .inr ⟨w.heap.size, cap, _, rfl, Nat.zero_le _, heap_alloc_new w.drew _, hc, hcm, ?_, ?_⟩⟩
    · have hz1 : (Value.int IntKind.u8 0).cells.size = 1 := rfl
      simp only [Array.size_append, List.size_toArray, size_zeroCells, hz1, B8s_length, hn, hm]
      omega
    · simp only [Array.toList_append, Nat.mul_one]
      rw [show B8s (l ++ r) = B8s l ++ B8s r by simp [B8s]]
      rw [List.take_left' (by rw [List.length_append, B8s_length, B8s_length, hn, hm])]
  have h63' : n + m ≤ maxLen := by simp only [maxLen]; omega
  rcases A with _ | ad
  · obtain rfl := hA rfl
    obtain rfl : l = [] := List.eq_nil_of_length_eq_zero hn
    have hr := run_append_nil (P := P) w t o.type _ i (.int .u8 0) ht hi' hz b m d (B8s r) (by rw [B8s_length, hss, hm, Nat.mul_one]) (cells b r hb) h0 (by omega) (by rw [hbb]; omega)
    unfold Oper.wp execOp
    simp only [ho, resolve, invoke, builtin, Sem.run_bind, Sem.run_pure, Result.andThen_ok, List.map_toArray, List.map_cons, List.map_nil, hs, hx, hr]
    have hf := fin (grownCap w m 0 5) (by have := grownCap_ge w m 0 5; omega) (grownCap_le_maxLen w m 0 5 (by omega))
    simp only [B8s, List.map_nil, Nat.zero_add, List.nil_append, Array.empty_append] at hf
    refine hK _ _ (h _ _ (by rw [Nat.zero_add, List.nil_append]; exact hf) ((Below.refl _ _).drew.alloc (Nat.le_refl _) _) |> fun q => by rw [Nat.zero_add] at q; exact q)
  · have hr := run_append_grow (P := P) w t o.type _ i (.int .u8 0) ht hi' hz ad n n (B8s l) (by rw [B8s_length, hss, hn, Nat.mul_one]) (cells ad l hl) b m d (B8s r) (by rw [B8s_length, hss, hm, Nat.mul_one]) (cells b r hb) (by omega) (by omega) (by rw [hbb]; exact growslice_fits (by omega) (by omega))
    unfold Oper.wp execOp
    simp only [ho, resolve, invoke, builtin, Sem.run_bind, Sem.run_pure, Result.andThen_ok, List.map_toArray, List.map_cons, List.map_nil, hs, hx, hr]
    exact hK _ _ (h _ _ (fin _ (grownCap_ge w (n + m) n 5) (grownCap_le_maxLen w (n + m) n 5 h63')) ((Below.refl _ _).drew.alloc (Nat.le_refl _) _))
end

theorem made_bytes (n : Nat) : madeCells (Value.int .u8 0).cells n = (B8s (List.replicate n 0)).toArray := by
  apply Array.ext_getElem?
  intro i
  have : (Value.int .u8 0).cells = #[.int .u8 0] := rfl
  rw [this]
  unfold madeCells
  have e : (B8s (List.replicate n 0)).toArray[i]? = if i < n then some (B8 0) else none := by
    rw [List.getElem?_toArray, B8s_get, List.getElem?_replicate]
    split <;> rfl
  rw [e, Array.getElem?_map]
  by_cases h : i < n
  · rw [Array.getElem?_range, if_pos h, if_pos h]
    simp [B8, Nat.mod_one]
  · rw [Array.getElem?_eq_none (by simpa using h), if_neg h]
    rfl

theorem mk_run (kl kc : IntKind) (n : Nat) (hn : n ≤ 1000000) (W : World) :
    (Instr.makeSlice 25 (.int kl (n : Int)) (.int kc (n : Int))).run Try.prog W = .ok (.slice (some ⟨W.heap.size, 0, none⟩) n n) (W.alloc (.cells (B8s (List.replicate n 0)).toArray 5)) := by
  have h := run_make_all (P := Try.prog) 25 5 (.int .u8 0) 1 1 Try.underlying25 infoU8 kl kc (n : Int) (by omega) (by omega) (by omega) W
  rw [Nat.mul_one, made_bytes, Int.toNat_natCast] at h
  exact h
def le4c (s k : Nat) : Array Value := (B8s ((le4 s).take k ++ List.replicate (4 - k) 0)).toArray
theorem le4c_0 (s : Nat) : (le4c s 0).setIfInBounds 0 (.int .u8 ((s : Int) % 256)) = le4c s 1 := by
  have h : (UInt8.ofNat (s % 256)).toNat = s % 256 := by simp
  have h2 : (.int .u8 ((s : Int) % 256) : Value) = B8 (UInt8.ofNat (s % 256)) := by rw [B8, h]; congr 1
  rw [h2]
  rfl
theorem le4c_1 (s : Nat) : (le4c s 1).setIfInBounds 1 (.int .u8 ((s : Int) / 256 % 256)) = le4c s 2 := by
  have h : (UInt8.ofNat (s / 256 % 256)).toNat = s / 256 % 256 := by simp
  have h2 : (.int .u8 ((s : Int) / 256 % 256) : Value) = B8 (UInt8.ofNat (s / 256 % 256)) := by rw [B8, h]; congr 1
  rw [h2]
  rfl
theorem le4c_2 (s : Nat) : (le4c s 2).setIfInBounds 2 (.int .u8 ((s : Int) / 65536 % 256)) = le4c s 3 := by
  have h : (UInt8.ofNat (s / 65536 % 256)).toNat = s / 65536 % 256 := by simp
  have h2 : (.int .u8 ((s : Int) / 65536 % 256) : Value) = B8 (UInt8.ofNat (s / 65536 % 256)) := by rw [B8, h]; congr 1
  rw [h2]
  rfl
theorem le4c_3 (s : Nat) (hs : s < 4294967296) : (le4c s 3).setIfInBounds 3 (.int .u8 ((s : Int) / 16777216)) = le4c s 4 := by
  have h : (UInt8.ofNat (s / 16777216 % 256)).toNat = s / 16777216 % 256 := by simp
  have h2 : (.int .u8 ((s : Int) / 16777216) : Value) = B8 (UInt8.ofNat (s / 16777216 % 256)) := by rw [B8, h]; congr 1; omega
  rw [h2]
  rfl
def SealOfPost (l : List UInt8) (w : World) (e : Ending) (w' : World) : Prop := ∃ g, e = .returned (.slice (some ⟨g, 0, none⟩) 4 4) ∧ OwnB w' (some ⟨g, 0, none⟩) 4 4 (le4 (crc l)) ∧ Below w.heap.size w w' ∧ w.heap.size ≤ g
set_option maxRecDepth 100000 in
set_option maxHeartbeats 4000000 in
theorem sealof_any (A : Option Addr) (c : Nat) (l : List UInt8) (w : World) (hb : Bytes w A l) (hl : l.length ≤ 140737488355328) :
    Calls Try.prog 51 #[.slice A l.length c] w (SealOfPost l w) := by
  have hmk : ∀ W : World, (Instr.makeSlice 25 (.int .i64 4) (.int .i64 4)).run Try.prog W = .ok (.slice (some ⟨W.heap.size, 0, none⟩) 4 4) (W.alloc (.cells #[.int .u8 0, .int .u8 0, .int .u8 0, .int .u8 0] 5)) := fun W => mk_run .i64 .i64 4 (by omega) W
  have hs := sum_any A c l w hb (by simp only [maxLen]; omega)
  have hlt := crc_lt l
  obtain ⟨s, hsd⟩ : ∃ s, s = crc l := ⟨_, rfl⟩
  rw [← hsd] at hs hlt
  have Hs := hide hs
  have Hsd := hide hsd
  clear hs hsd hb
  go_enter Try.func51, Try.ntmps51
  go_wp2_with fail
  refine Hs.out.mono ?_
  rintro e w' ⟨rfl, rfl⟩
  clear Hs
  go_upto_block 0 with fail
  obtain ⟨g, hg⟩ : ∃ g, g = w.heap.size := ⟨_, rfl⟩
  obtain ⟨w1, hw1⟩ : ∃ w1, w1 = w.alloc (.cells #[.int .u8 0, .int .u8 0, .int .u8 0, .int .u8 0] 5) := ⟨_, rfl⟩
  have hb1 : Blk w1 g 5 (le4c s 0) := by rw [hw1, hg]; exact Blk.new _ _ _
  have hbel : Below w.heap.size w w1 := by rw [hw1]; exact (Below.refl _ _).alloc (Nat.le_refl _) _
  rw [← hg, ← hw1]
  have B1 := hide hb1
  have Hbel := hide hbel
  have Hg := hide hg
  clear hb1 hbel hw1 hg hmk
  go_wp2_with fail
  go_loopw [9] (fun x wr => ∃ k : Nat, k ≤ 4 ∧ x = .int .i64 (k : Int) ∧ Blk wr g 5 (le4c s k) ∧ Below w.heap.size w wr) (fun x _ => 4 - (intOf x).toNat)
  case atStart => exact ⟨0, by omega, rfl, B1.out, Hbel.out⟩
  case round =>
    obtain ⟨k, hk, rfl, hb, hbl⟩ := hrel
    have hc : k = 0 ∨ k = 1 ∨ k = 2 ∨ k = 3 ∨ k = 4 := by omega
    have Hb := hide hb
    have Hbl := hide hbl
    clear hb hbl hk B1 Hbel
    rcases hc with rfl | rfl | rfl | rfl | rfl
    · have d0 : wr.cell? ⟨g, 0, none⟩ = some (.int .u8 0) := Hb.out.cell 0
      have z0 := Hb.out.frozen 0
      have hset := Hb.out.set_ 0 (.int .u8 ((s : Int) % 256))
      rw [le4c_0] at hset
      have Hset := hide hset
      clear hset
      go_wp2
      go_roundw
      case rel => exact ⟨1, by omega, rfl, Hset.out, Hbl.out.setCell (by have := Hg.out; simp only; omega) _⟩
      case measure => simp [intOf]
    · have d0 : wr.cell? ⟨g, 1, none⟩ = some (.int .u8 0) := Hb.out.cell 1
      have z0 := Hb.out.frozen 1
      have hset := Hb.out.set_ 1 (.int .u8 ((s : Int) / 256 % 256))
      rw [le4c_1] at hset
      have Hset := hide hset
      clear hset
      go_wp2
      go_roundw
      case rel => exact ⟨2, by omega, rfl, Hset.out, Hbl.out.setCell (by have := Hg.out; simp only; omega) _⟩
      case measure => simp [intOf]
    · have d0 : wr.cell? ⟨g, 2, none⟩ = some (.int .u8 0) := Hb.out.cell 2
      have z0 := Hb.out.frozen 2
      have hset := Hb.out.set_ 2 (.int .u8 ((s : Int) / 65536 % 256))
      rw [le4c_2] at hset
      have Hset := hide hset
      clear hset
      go_wp2
      go_roundw
      case rel => exact ⟨3, by omega, rfl, Hset.out, Hbl.out.setCell (by have := Hg.out; simp only; omega) _⟩
      case measure => simp [intOf]
    · have d0 : wr.cell? ⟨g, 3, none⟩ = some (.int .u8 0) := Hb.out.cell 3
      have z0 := Hb.out.frozen 3
      have hset := Hb.out.set_ 3 (.int .u8 ((s : Int) / 16777216))
      rw [le4c_3 s hlt] at hset
      have Hset := hide hset
      clear hset
      go_wp2
      go_roundw
      case rel => exact ⟨4, by omega, rfl, Hset.out, Hbl.out.setCell (by have := Hg.out; simp only; omega) _⟩
      case measure => simp [intOf]
    · go_wp2
      go_ret
      have hfin : OwnB wr (some ⟨g, 0, none⟩) 4 4 (le4 (crc l)) := by
        rw [← Hsd.out]
        have h := OwnB.of_blk (L := le4 s) Hb.out 4 (Nat.le_refl _) (by simp [maxLen, le4])
        exact h
      exact ⟨g, rfl, hfin, Hbl.out, by have := Hg.out; omega⟩

set_option maxRecDepth 100000 in
set_option maxHeartbeats 4000000 in
theorem sealed_any (wb : Nat) (F : Nat → Prop) (l : List UInt8) (w : World) (h : Wt w wb F l) (hl : l.length ≤ 1000000000) :
    Calls Try.prog 34 #[.pointer (some ⟨wb, 0, none⟩)] w (ClonePost (sealB l) (sealB l).length w) := by
  obtain ⟨A, n, c, hb, ho, rfl⟩ := h
  have hn := ho.1
  subst hn
  have c0 := hb.cell 0
  have hAn : A = none → l.length = 0 ∧ c = 0 := fun hA => by
    rcases ho.form with ⟨_, h1, h2, _⟩ | ⟨g, _, h1, _⟩
    · exact ⟨h1, h2⟩
    · rw [hA] at h1; cases h1
  have hlc : l.length ≤ c := by
    rcases ho.form with ⟨_, h1, _, _⟩ | ⟨_, _, _, _, h1, _⟩
    · rw [h1]; exact Nat.zero_le _
    · exact h1
  have hby := ho.bytes
  have hso := sealof_any A c l w.drew (ho.drew.bytes) (by omega)
  have Hby := hide hby
  have Hso := hide hso
  have Hb := hide hb
  have Hl := hide hl
  have HAn := hide hAn
  obtain ⟨n, hn⟩ : ∃ n, n = l.length := ⟨_, rfl⟩
  rw [← hn] at c0 hlc hl
  have hso2 := Hso.out
  rw [← hn] at hso2
  have Hso2 := hide hso2
  have Hn := hide hn
  clear hb ho hby hso hAn hn hso2 Hso
  go_enter Try.func34, Try.ntmps34
  go_upto_region 4 with fail
  refine wp_region_planned (fun W => Below w.heap.size w W) 12 [(false, 0), (false, 1), (false, 2), (false, 3), (false, 4), (false, 5), (false, 6), (false, 7), (false, 8), (false, 9), (false, 10), (true, 11)] (by kernel_rfl) (by kernel_rfl) (fun _ _ d _ _ h => by cases d <;> exact h) (Below.refl _ _).drew ?_
  simp only [steps, List.getElem?_toArray, List.filterMap_cons, List.filterMap_nil, Option.map_some, List.getElem?_cons_zero, List.getElem?_cons_succ, List.drop_succ_cons, List.drop_zero]
  iterate 3 (refine wpPlan_read rfl (fun W hW => (by go_simp; try with_reducible rfl)) ?_)
  refine wpPlan_read (v := .slice A n c) rfl (fun W hW => (by
    have q0 : W.cell? ⟨wb, 0, none⟩ = some (.slice A n c) := by rw [Hn.out]; exact (Hb.out.below hW (Hb.out.lt)).cell 0
    go_simp)) ?_
  iterate 2 (refine wpPlan_read rfl (fun W hW => (by go_simp; try with_reducible rfl)) ?_)
  refine wpPlan_read (v := .slice A n n) rfl (fun W hW => (by go_simp; try with_reducible rfl)) ?_
  iterate 3 (refine wpPlan_read rfl (fun W hW => (by go_simp; try with_reducible rfl)) ?_)
  refine wpPlan_read (v := .slice A n c) rfl (fun W hW => (by
    have q0 : W.cell? ⟨wb, 0, none⟩ = some (.slice A n c) := by rw [Hn.out]; exact (Hb.out.below hW (Hb.out.lt)).cell 0
    go_simp)) ?_
  simp only [Act.put, List.setIfInBounds_toArray, List.set_cons_zero, List.set_cons_succ]
  refine wpPlan_does rfl (fun K hK => ?_)
  refine wp_call_by 51 #[.slice A n c] (by kernel_rfl) Hso2.out ?_
  rintro e w1 ⟨g, rfl, ho1, hb1, hg1⟩
  have hs1 : Below w.heap.size w w1 := (Below.refl _ _).drew.trans hb1
  refine ⟨_, rfl, hK _ _ hs1 ?_⟩
  clear hK hb1
  refine wpPlan_nil ?_
  simp only [Act.put, List.setIfInBounds_toArray, List.set_cons_zero, List.set_cons_succ]
  have Hs1 := hide hs1
  have Ho1 := hide ho1
  have Hby1 := hide (Hby.out.below hs1 (Nat.le_refl _))
  clear hs1 ho1 hg1
  have hnm : n + 4 ≤ 140737488355328 := by omega
  have Hnm := hide hnm
  clear hnm
  refine wpList_append_full rfl (.tmp 17) (.tmp 22) 25 rfl Try.underlying25 infoU8 A n l (fun h => by have := (HAn.out h).1; have := Hn.out; omega) rfl Hn.out.symm Hby1.out ⟨g, 0, none⟩ 4 4 _ rfl rfl Ho1.out.bytes (by omega) Hnm.out ?_
  intro c' w' ho' hb'
  have Ho2 := hide ho'
  have Hb2 := hide hb'
  clear ho' hb'
  go_wp2
  go_ret
  have hlen : (sealB l).length = n + 4 := by rw [sealB, List.length_append, Hn.out]; rfl
  refine ⟨_, c', by rw [hlen]; rfl, by rw [hlen]; exact Ho2.out, fun k hk => ?_, Hs1.out.trans (Hb2.out.mono Hs1.out.size)⟩
  rw [At.some_iff] at hk
  simp only at hk
  have := Hs1.out.size
  omega
end Go.Proofs.Ytonlpgjcmodpnaa
