/- Package wire: the reader of numbers and texts, of any bytes. -/
import Derived.Test.YteoimkjocijcjaaRb
import Derived.Lib.VarintBits
namespace Go.Proofs.Yteoimkjocijcjaa
open Go.RowKit

/-- A reader at block rb: what is left, and whether there was a fault. -/
def Rd (w : World) (rb : Nat) (l : List UInt8) (bad : Bool) : Prop :=
  ∃ A c, Blk w rb 50 #[.slice A l.length c, .bool bad] ∧ Bytes w A l ∧ (∀ a, A = some a → ∃ cs, Blk w a.block 5 cs) ∧ (bad = true → l = []) ∧ l.length ≤ c ∧ l.length ≤ 140737488355328
def RPost (rb : Nat) (v : Value) (l : List UInt8) (bad : Bool) (w : World) (e : Ending) (w' : World) : Prop := e = .returned v ∧ Rd w' rb l bad ∧ Fr (fun k => k = rb) w w'
theorem Rd.fr {w w' : World} {rb : Nat} {l : List UInt8} {bad : Bool} {F : Nat → Prop} (h : Rd w rb l bad) (hf : Fr F w w') (hF : ∀ k, F k → w.heap.size ≤ k) : Rd w' rb l bad := by
  obtain ⟨A, c, hb, hy, hne, hbd, hc, hm⟩ := h
  refine ⟨A, c, hb.fr hf (fun h => by have := hF _ h; have := hb.lt; omega), ?_, (fun a ha => (hne a ha).imp fun cs h => h.fr hf (fun h' => by have := hF _ h'; have := h.lt; omega)), hbd, hc, hm⟩
  rcases hy with h | ⟨g, o, rfl, h⟩
  · exact .inl h
  · refine .inr ⟨g, o, rfl, fun j v hv => ?_⟩
    have h1 := h j v hv
    have hlt : g < w.heap.size := World.block_lt_of_cell? w (a := ⟨g, o + j, none⟩) h1
    exact (hf.cell (p := ⟨g, o + j, none⟩) hlt (fun h => by have h2 : w.heap.size ≤ g := hF _ h; omega)).trans h1
/-- Blocks that are no bytes are written. -/
theorem Rd.apart {w w' : World} {rb : Nat} {l : List UInt8} {bad : Bool} {F : Nat → Prop} (h : Rd w rb l bad) (hf : Fr F w w') (hrb : ¬ F rb) (hF : ∀ k, F k → w.heap.size ≤ k ∨ ∃ t cs, t ≠ 5 ∧ Blk w k t cs) : Rd w' rb l bad := by
  obtain ⟨A, c, hb, hy, hne, hbd, hc, hm⟩ := h
  have hnot : ∀ a, A = some a → ¬ F a.block := by
    intro a ha h
    obtain ⟨cs, hcs⟩ := hne a ha
    rcases hF _ h with h' | ⟨t, ds, ht, hds⟩
    · have := hcs.lt; omega
    · exact hds.ne_ hcs ht rfl
  refine ⟨A, c, hb.fr hf hrb, ?_, (fun a ha => (hne a ha).imp fun cs h => h.fr hf (hnot a ha)), hbd, hc, hm⟩
  rcases hy with h | ⟨g, o, rfl, h⟩
  · exact .inl h
  · refine .inr ⟨g, o, rfl, fun j v hv => ?_⟩
    have h1 := h j v hv
    exact (hf.cell (p := ⟨g, o + j, none⟩) (World.block_lt_of_cell? w (a := ⟨g, o + j, none⟩) h1) (hnot ⟨g, o, none⟩ rfl)).trans h1
theorem Rd.failed {w : World} {rb : Nat} {l : List UInt8} {bad : Bool} (h : Rd w rb l bad) : Rd ((w.setCell ⟨rb, 1, none⟩ (.bool true)).setCell ⟨rb, 0, none⟩ (.slice none 0 0)) rb [] true := by
  obtain ⟨A, c, hb, _⟩ := h
  exact ⟨none, 0, (hb.set_ 1 _).set_ 0 _, .inl rfl, (fun a ha => by cases ha), fun _ => rfl, Nat.le_refl _, by simp⟩

set_option maxHeartbeats 1000000 in
theorem rbad_any (rb : Nat) (l : List UInt8) (bad : Bool) (w : World) (h : Rd w rb l bad) : Calls Try.prog 23 #[.pointer (some ⟨rb, 0, none⟩)] w fun e w' => e = .returned (.bool bad) ∧ w = w' := by
  obtain ⟨A, c, hb, _⟩ := h
  have c1 := hb.cell 1
  clear hb
  go_enter Try.func23, Try.ntmps23
  go_wp2
  go_ret
  exact ⟨rfl, rfl⟩
set_option maxHeartbeats 1000000 in
theorem rfail_any (rb : Nat) (l : List UInt8) (bad : Bool) (w : World) (h : Rd w rb l bad) : Calls Try.prog 22 #[.pointer (some ⟨rb, 0, none⟩)] w (RPost rb (.tuple #[]) [] true w) := by
  have H := hide h.failed
  obtain ⟨A, c, hb, _⟩ := h
  have c0 := hb.cell 0
  have c1 := hb.cell 1
  have z0 := hb.frozen 0
  have z1 := hb.frozen 1
  clear hb
  go_enter Try.func22, Try.ntmps22
  go_wp2
  go_end0
  exact ⟨rfl, H.out, ((Fr.refl _ _).put1 1 _).put1 0 _⟩
set_option maxHeartbeats 1000000 in
theorem rend_any (rb : Nat) (l : List UInt8) (bad : Bool) (w : World) (h : Rd w rb l bad) : Calls Try.prog 12 #[.pointer (some ⟨rb, 0, none⟩)] w fun e w' => e = .returned (.bool (!bad && decide (l = []))) ∧ w = w' := by
  have hbad := rbad_any rb l bad w h
  obtain ⟨A, c, hb, _, _, hbl, hc, hm⟩ := h
  have c0 := hb.cell 0
  have Hbad := hide hbad
  clear hb hbad
  cases bad
  · obtain ⟨n, hn⟩ : ∃ n, n = l.length := ⟨_, rfl⟩
    have hd : decide (l = []) = decide (n = 0) := by rw [hn]; simp
    rw [hd]
    rw [← hn] at c0
    clear hd hn hc hm hbl
    by_cases h0 : n = 0
    · subst h0
      go_enter Try.func12, Try.ntmps12
      go_wp2_with (go_at_call 23; refine Hbad.out.mono ?_; rintro e w' ⟨rfl, rfl⟩)
      go_ret
      exact ⟨rfl, rfl⟩
    · have hb : ((n : Int) == 0) = false := by rw [beq_eq_false_iff_ne]; omega
      rw [decide_eq_false h0]
      clear h0
      go_enter Try.func12, Try.ntmps12
      go_wp2_with (go_at_call 23; refine Hbad.out.mono ?_; rintro e w' ⟨rfl, rfl⟩)
      go_ret
      exact ⟨rfl, rfl⟩
  · go_enter Try.func12, Try.ntmps12
    go_wp2_with (go_at_call 23; refine Hbad.out.mono ?_; rintro e w' ⟨rfl, rfl⟩)
    go_ret
    exact ⟨rfl, rfl⟩
set_option maxHeartbeats 1000000 in
theorem rnext_none (rb : Nat) (bad : Bool) (w : World) (h : Rd w rb [] bad) : Calls Try.prog 34 #[.pointer (some ⟨rb, 0, none⟩)] w (RPost rb (.int .u8 0) [] true w) := by
  have hbad := rbad_any rb [] bad w h
  have hf := rfail_any rb [] bad w h
  obtain ⟨A, c, hb, _, _, hbl, hc, hm⟩ := h
  have c0 : w.cell? ⟨rb, 0, none⟩ = some (.slice A 0 c) := hb.cell 0
  have Hbad := hide hbad
  have Hf := hide hf
  clear hb hbad hf
  cases bad
  all_goals
    go_enter Try.func34, Try.ntmps34
    go_wp2_with (first
      | (go_at_call 23; refine Hbad.out.mono ?_; rintro e w' ⟨rfl, rfl⟩)
      | (go_at_call 22; refine Hf.out.mono ?_; rintro e w' ⟨rfl, hr, hf⟩))
    go_ret
    exact ⟨rfl, hr, hf⟩
set_option maxHeartbeats 1000000 in
theorem rnext_some (rb : Nat) (b : UInt8) (l : List UInt8) (w : World) (h : Rd w rb (b :: l) false) : Calls Try.prog 34 #[.pointer (some ⟨rb, 0, none⟩)] w (RPost rb (.int .u8 (b.toNat : Int)) l false w) := by
  have hbad := rbad_any rb _ _ w h
  obtain ⟨A, c, hb, hy, hnb, hbl, hc, hm⟩ := h
  have hne : ∀ a, A = some a → a.block ≠ rb := fun a ha => (hnb a ha).choose_spec.ne_ hb (by decide)
  obtain ⟨g, o, rfl, hr⟩ : ∃ g o, A = some ⟨g, o, none⟩ ∧ w.rangeAt g o (B8s (b :: l)) := by
    rcases hy with h | h
    · cases h
    · exact h
  rw [List.length_cons] at hc hm
  have c0 : w.cell? ⟨rb, 0, none⟩ = some (.slice (some ⟨g, o, none⟩) (l.length + 1) c) := hb.cell 0
  have z0 := hb.frozen 0
  have d0 : w.cell? ⟨g, o, none⟩ = some (.int .u8 (b.toNat : Int)) := hr 0 _ rfl
  have Hbad := hide hbad
  have Hb := hide hb
  have Hr := hide hr
  have Hne := hide hne
  have Hnb := hide hnb
  clear hb hbad hr hy hne hbl hnb
  go_enter Try.func34, Try.ntmps34
  go_wp2_with (go_at_call 23; refine Hbad.out.mono ?_; rintro e w' ⟨rfl, rfl⟩)
  all_goals
    go_ret
    refine ⟨rfl, ⟨_, _, Hb.out.set_ 0 _, ?_, ?_, (fun h => by cases h), by omega, by omega⟩, (Fr.refl _ _).put1 0 _⟩
    · first
        | exact .inl (List.eq_nil_of_length_eq_zero (by omega))
        | (refine .inr ⟨g, o + 1, rfl, fun j v hv => ?_⟩
           have h1 := Hr.out (j + 1) v (by rw [B8s_get] at hv ⊢; rw [List.getElem?_cons_succ]; exact hv)
           rw [show o + 1 + j = o + (j + 1) by omega]
           rw [(((Fr.refl _ _).put1 (b := rb) 0 _).cell (p := ⟨g, o + (j + 1), none⟩) (World.block_lt_of_cell? w (a := ⟨g, o + (j + 1), none⟩) h1) (fun e => Hne.out _ rfl e))]
           exact h1)
    · intro a ha
      injection ha with ha
      rw [← ha]
      exact (Hnb.out ⟨g, o, none⟩ rfl).imp fun cs h => h.far (p := ⟨rb, 0, none⟩) (Hne.out ⟨g, o, none⟩ rfl) _

/-! ### Numbers -/
/-- The i-th byte of a number, and what follows. -/
def rdU : Nat → Nat → List UInt8 → Option (Nat × List UInt8)
  | _, _, [] => none
  | i, acc, b :: r => if (0 < i ∧ b.toNat = 0) ∨ (9 ≤ i ∧ 1 < b.toNat) then none else if b.toNat < 128 then some (acc + b.toNat * 128 ^ i, r) else rdU (i + 1) (acc + (b.toNat - 128) * 128 ^ i) r
def rdUint (most : Nat) (l : List UInt8) : Option (Nat × List UInt8) :=
  match rdU 0 0 l with
  | some (n, r) => if n ≤ most then some (n, r) else none
  | none => none
theorem rdU_enc (n : Nat) : ∀ (i acc : Nat) (r : List UInt8), (i = 0 ∨ 0 < n) → n * 128 ^ i < 18446744073709551616 → rdU i acc (Lib.uvarint n ++ r) = some (acc + n * 128 ^ i, r) := by
  induction n using Nat.strongRecOn with
  | _ n ih =>
    intro i acc r h0 hb
    have h9 : 9 ≤ i → n ≤ 1 := fun h => by
      have hp : 128 ^ 9 ≤ 128 ^ i := Nat.pow_le_pow_right (by omega) h
      have h1 : n * 128 ^ 9 ≤ n * 128 ^ i := Nat.mul_le_mul_left _ hp
      have h2 : (128 : Nat) ^ 9 = 9223372036854775808 := by decide
      rw [h2] at h1
      omega
    by_cases h128 : n < 128
    · have hx : (n.toUInt8).toNat = n := by simp; omega
      rw [Lib.uvarint_small h128, List.cons_append, List.nil_append, rdU, hx, if_neg, if_pos h128]
      rintro (⟨h1, h2⟩ | ⟨h1, h2⟩)
      · omega
      · have := h9 h1; omega
    · have hx : ((n % 128 + 128).toUInt8).toNat = n % 128 + 128 := by simp; omega
      have hi : ¬ 9 ≤ i := fun h => by have := h9 h; omega
      rw [Lib.uvarint_big (by omega), List.cons_append, rdU, hx, if_neg (by omega), if_neg (by omega), ih (n / 128) (by omega) (i + 1) _ r (.inr (by omega))]
      · have e : acc + (n % 128 + 128 - 128) * 128 ^ i + n / 128 * 128 ^ (i + 1) = acc + n * 128 ^ i := by
          rw [Nat.pow_succ, show n % 128 + 128 - 128 = n % 128 by omega]
          have hn : n = n % 128 + 128 * (n / 128) := by omega
          conv => rhs; rw [hn, Nat.add_mul, Nat.mul_comm 128 (n / 128), Nat.mul_assoc, Nat.mul_comm 128 (128 ^ i)]
          omega
        rw [e]
      · have h1 : n / 128 * 128 ^ (i + 1) ≤ n * 128 ^ i := by
          rw [Nat.pow_succ, Nat.mul_comm (128 ^ i) 128, ← Nat.mul_assoc]
          exact Nat.mul_le_mul_right _ (Nat.div_mul_le_self n 128)
        omega
theorem rdUint_enc (n most : Nat) (r : List UInt8) (hn : n < 18446744073709551616) : rdUint most (Lib.uvarint n ++ r) = if n ≤ most then some (n, r) else none := by
  rw [rdUint, rdU_enc n 0 0 r (.inl rfl) (by simpa using hn)]
  simp
theorem rdU_mono (l : List UInt8) : ∀ (i acc : Nat) (v : Nat) (r x : List UInt8), rdU i acc l = some (v, r) → rdU i acc (l ++ x) = some (v, r ++ x) := by
  induction l with
  | nil => intro i acc v r x h; simp [rdU] at h
  | cons b l ih =>
    intro i acc v r x h
    rw [rdU] at h
    rw [List.cons_append, rdU]
    split at h
    · cases h
    · rename_i h1
      rw [if_neg h1]
      split at h
      · rename_i h2
        rw [if_pos h2]
        simp only [Option.some.injEq, Prod.mk.injEq] at h ⊢
        exact ⟨h.1, by rw [h.2]⟩
      · rename_i h2
        rw [if_neg h2]
        exact ih _ _ _ _ _ h
theorem rdUint_mono {most : Nat} {l : List UInt8} {v : Nat} {r : List UInt8} (h : rdUint most l = some (v, r)) (x : List UInt8) : rdUint most (l ++ x) = some (v, r ++ x) := by
  unfold rdUint at h ⊢
  rcases hu : rdU 0 0 l with _ | ⟨n, q⟩
  · rw [hu] at h; cases h
  · rw [hu] at h
    rw [rdU_mono l 0 0 n q x hu]
    simp only at h ⊢
    split at h
    · rename_i h1
      rw [if_pos h1]
      simp only [Option.some.injEq, Prod.mk.injEq] at h ⊢
      exact ⟨h.1, by rw [h.2]⟩
    · cases h
/-- What a read leaves: the number and the rest, or nothing, and a fault. -/
def UPost (rb : Nat) (k : IntKind) (x : Option (Int × List UInt8)) (w : World) (e : Ending) (w' : World) : Prop :=
  RPost rb (.int k ((x.map (·.1)).getD 0)) ((x.map (·.2)).getD []) x.isNone w e w'
end Go.Proofs.Yteoimkjocijcjaa
