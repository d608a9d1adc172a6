/- Package wire: the writer of signed numbers, of texts, of a value without its elements; what was written. -/
import Derived.Test.YteoimkjocijcjaaWb
import Derived.Test.YteoimkjocijcjaaOwnS
import Derived.Lib.LazyBuf
namespace Go.Proofs.Yteoimkjocijcjaa
open Go.RowKit

theorem zig_pos {n : Int} (h0 : 0 ≤ n) (h1 : n ≤ 9223372036854775807) : bits .xor .u64 (n * 2) (n / 9223372036854775808) = ((Lib.zigzag n : Nat) : Int) := by
  rw [show n / 9223372036854775808 = 0 by omega, Lib.zigzag_nonneg h0, u64_xor _ _ (by omega) (by omega) (by omega) (by omega)]
  simp
  omega
theorem zig_neg {n : Int} (h0 : -9223372036854775808 ≤ n) (h1 : n < 0) : bits .xor .u64 (IntKind.u64.wrap (IntKind.u64.wrap n * 2)) (IntKind.u64.wrap (n / 9223372036854775808)) = ((Lib.zigzag n : Nat) : Int) := by
  have h := Lib.zigzag_neg h0 h1
  have e : IntKind.u64.wrap (n / 9223372036854775808) = IntKind.u64.max := by
    rw [show n / 9223372036854775808 = -1 by omega]
    decide
  have b1 : 0 ≤ IntKind.u64.wrap (IntKind.u64.wrap n * 2) ∧ IntKind.u64.wrap (IntKind.u64.wrap n * 2) < 18446744073709551616 := by
    rw [IntKind.wrap_u64, IntKind.wrap_u64]; omega
  have b2 : (0 : Int) ≤ IntKind.u64.max ∧ IntKind.u64.max < 18446744073709551616 := by decide
  rw [e, ← h, u64_xor _ _ b1.1 b1.2 b2.1 b2.2, u64_xor _ _ b2.1 b2.2 b1.1 b1.2, Nat.xor_comm]

set_option maxRecDepth 100000 in
set_option maxHeartbeats 2000000 in
theorem wint_any (wb : Nat) (F : Nat → Prop) (l : List UInt8) (n : Int) (w : World) (h : Wt w wb F l) (h0 : -9223372036854775808 ≤ n) (h1 : n ≤ 9223372036854775807) (hl : l.length + 10 ≤ 140737488355328) :
    Calls Try.prog 33 #[.pointer (some ⟨wb, 0, none⟩), .int .i64 n] w (WPost wb F (l ++ Lib.uvarint (Lib.zigzag n)) w) := by
  have H := hide h
  have Hl := hide hl
  have hz := Lib.zigzag_lt h0 h1
  have Hz := hide hz
  clear h hl hz
  by_cases hn : 0 ≤ n
  · go_enter Try.func33, Try.ntmps33
    go_wp2_with fail
    rw [zig_pos hn h1]
    refine (wuint_any wb F l _ w H.out Hz.out Hl.out).mono ?_
    rintro e w1 ⟨F1, rfl, h2, h3, h4⟩
    have Hp := hide (show _ ∧ _ ∧ _ from ⟨h2, h3, h4⟩)
    clear h2 h3 h4
    go_wp2
    go_ret
    exact ⟨F1, rfl, Hp.out.1, Hp.out.2.1, Hp.out.2.2⟩
  · have hn' : n < 0 := by omega
    go_enter Try.func33, Try.ntmps33
    go_wp2_with fail
    rw [zig_neg h0 hn']
    refine (wuint_any wb F l _ w H.out Hz.out Hl.out).mono ?_
    rintro e w1 ⟨F1, rfl, h2, h3, h4⟩
    have Hp := hide (show _ ∧ _ ∧ _ from ⟨h2, h3, h4⟩)
    clear h2 h3 h4
    go_wp2
    go_ret
    exact ⟨F1, rfl, Hp.out.1, Hp.out.2.1, Hp.out.2.2⟩

set_option maxRecDepth 100000 in
set_option maxHeartbeats 2000000 in
theorem wtext_any (wb : Nat) (F : Nat → Prop) (l s : List UInt8) (w : World) (h : Wt w wb F l) (hl : l.length + 10 + s.length ≤ 140737488355328) :
    Calls Try.prog 17 #[.pointer (some ⟨wb, 0, none⟩), sv s] w (WPost wb F (l ++ textB s) w) := by
  have hs : s.length ≤ 140737488355328 := by omega
  have H := hide h
  have Hl := hide hl
  clear h hl
  go_enter Try.func17, Try.ntmps17
  go_wp2_with fail
  refine (wuint_any wb F l s.length w H.out (by omega) (by have := Hl.out; omega)).mono ?_
  rintro e w1 ⟨F1, rfl, ⟨A, m, c, hb, ho, rfl⟩, h3, h4⟩
  have c0 := hb.cell 0
  have z0 := hb.frozen 0
  have Hb := hide hb
  have Ho := hide ho
  have H3 := hide h3
  have H4 := hide h4
  clear hb ho h3 h4
  have hm : m = (l ++ Lib.uvarint s.length).length := Ho.out.1.symm
  have hm2 : m + s.length ≤ 140737488355328 := by
    have h1 := Lib.uvarint_length64 (x := s.length) (by omega)
    have h2 := Hl.out
    rw [hm, List.length_append]
    omega
  have Hm2 := hide hm2
  clear hm hm2
  go_wp2_with (refine wpList_append_str rfl (.tmp 16) (.tmp 17) 32 9 rfl Try.underlying32 Try.underlying9 infoU8 A m c _ rfl Ho.out s rfl Hm2.out ?_; intro A4 c4 w4 ho4 hf4 hn4; have hb4 := Hb.out.fr hf4 (own_ne_blk Ho.out Hb.out (by decide)); have c4' := hb4.cell 0; have z4 := hb4.frozen 0; have Ho4 := hide ho4; have Hf4 := hide hf4; have Hn4 := hide hn4; clear ho4 hf4 hn4 hb4)
  go_ret
  obtain ⟨h1, h2, h3⟩ := wt_stored Hb.out Ho.out (Fr.refl _ _) Hf4.out Hn4.out Ho4.out
  refine ⟨_, rfl, ?_, H3.out.trans' h2 (fun i hi h => (H4.out i h).elim id (fun hh => by omega)), fun k hk => (h3 k hk).elim (fun h => H4.out k h) (fun h => by have := H3.out.size; exact .inr (by omega))⟩
  rw [textB, ← List.append_assoc]
  exact h1

section
variable {P : Program}
theorem run_buildSlice_empty (w : World) (t e : TypeId) (bytes : Nat) (z : Value) (hu : P.underlying t = some (.slice e)) (hi : (P.info? e).map (fun i => (i.zero, i.size, i.bytes)) = some (some z, 1, bytes)) :
    (Instr.buildSlice t 0 #[]).run P w = .ok (.slice (some ⟨w.heap.size, 0, none⟩) 0 0) (w.alloc (.cells #[] e)) := by
  obtain ⟨i, hi', hz, hs, hb⟩ := info_parts hi
  simp [Instr.buildSlice, run_underlying hu, sizeOf, typeInfo, hi', Instr.fill, newRow]
  have : Array.map (fun _ => default) (Array.range 0) = (#[] : Array Value) := by simp [Array.range]
  first | rfl | rw [this] | simp [Array.range]
theorem wpList_build_empty {ops : Array Oper} {rest : List Oper} {o : Oper} {a : Act} {w : World} {Q : Exit → Act → World → Prop} (hg : o.guard = none) (t e : TypeId) (bytes : Nat) (z : Value) (ho : o.op = .buildSlice t 0 #[])
    (hu : P.underlying t = some (.slice e)) (hi : (P.info? e).map (fun i => (i.zero, i.size, i.bytes)) = some (some z, 1, bytes))
    (h : wpList P ops Q rest (a.put o.dst (.slice (some ⟨w.heap.size, 0, none⟩) 0 0)) (w.alloc (.cells #[] e))) : wpList P ops Q (o :: rest) a w := by
  refine wpList_plain hg fun K hK => ?_
  unfold Oper.wp execOp
  simp only [ho, List.map_toArray, List.map_nil, Sem.run_bind, run_buildSlice_empty w t e bytes z hu hi, Result.andThen_ok]
  exact hK _ _ h
end

/-- What Clone tells: bytes of its own. -/
def ClonePost (l : List UInt8) (n : Nat) (w : World) (e : Ending) (w' : World) : Prop :=
  ∃ A c, e = .returned (.slice A n c) ∧ OwnB w' A n c l ∧ (∀ k, At A k → w.heap.size ≤ k) ∧ Below w.heap.size w w'

set_option maxRecDepth 100000 in
set_option maxHeartbeats 2000000 in
theorem clone_any (A : Option Addr) (n c : Nat) (l : List UInt8) (w : World) (hn : l.length = n) (hb : Bytes w A l) (hl : n ≤ 140737488355328) :
    Calls Try.prog 18 #[.slice A n c] w (ClonePost l n w) := by
  subst hn
  rcases A with _ | a
  · obtain rfl : l = [] := by
      rcases hb with h | ⟨_, _, h, _⟩
      · exact h
      · cases h
    clear hb
    have he := Go.run_eql_slice_nil (P := Try.prog) w 32 5 none 0 c Try.underlying32
    go_enter Try.func18, Try.ntmps18
    go_wp2
    go_ret
    exact ⟨none, 0, rfl, OwnB.nil _, fun k hk => absurd hk At.none_not, Below.refl _ _⟩
  · have Hb := hide hb
    clear hb
    go_enter Try.func18, Try.ntmps18
    have hz : OwnB (w.alloc (.cells #[] 5)) (some ⟨w.heap.size, 0, none⟩) 0 0 [] := OwnB.of_blk (L := []) (Blk.new w 5 #[]) 0 (Nat.le_refl _) (by simp [maxLen])
    have hsrc := Hb.out.fr (F := fun _ => False) ((Fr.refl _ _).alloc (.cells #[] 5)) (fun _ _ h => h)
    have Hz := hide hz
    have Hsrc := hide hsrc
    clear hz hsrc
    have he := Go.run_eql_slice_nil (P := Try.prog) w 32 5 (some a) l.length c Try.underlying32
    go_wp2_with (first
      | (refine wpList_build_empty rfl 32 5 1 (.int .u8 0) rfl Try.underlying32 infoU8 ?_)
      | (refine wpList_append_bytes rfl (.tmp 5) (.tmp 6) 32 rfl Try.underlying32 infoU8 _ 0 0 [] rfl Hz.out (some a) l.length c l rfl rfl Hsrc.out (by omega) ?_; intro A' c' w' ho hf hn2 _))
    go_ret
    rw [Nat.zero_add, List.nil_append] at ho
    refine ⟨A', c', by simp, ho, fun k hk => ?_, ((Below.refl _ _).alloc (Nat.le_refl _) _).trans (hf.below (by simp) (fun k hk => ?_))⟩
    · rcases hn2 k hk with h | h
      · rw [At.some_iff] at h; simp only at h; omega
      · exact Nat.le_trans (by simp) h
    · rw [At.some_iff] at hk; simp only at hk; omega
end Go.Proofs.Yteoimkjocijcjaa
