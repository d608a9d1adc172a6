/- Package ledger: entry. -/
import Derived.Test.YtbcpplndmndkiaaLedC
namespace Go.Proofs.Ytbcpplndmndkiaa
open Go.RowKit

def EntryPost (body : List UInt8) (t : Nat) (w : World) (e : Ending) (w' : World) : Prop :=
  ∃ A c, e = .returned (.tuple #[.slice A body.length c, .int .i64 (t : Int)]) ∧ OwnB w' A body.length c body ∧ (∀ k, At A k → w.heap.size ≤ k) ∧ Below w.heap.size w w'

theorem or_nat (k : Nat) (hk : k < 7) (y x : Nat) (hy : y < 256 ^ k) (hx : x % 256 ^ k = 0) (hx2 : x < 18446744073709551616) : bits .or .u64 (y : Int) (x : Int) = ((y + x : Nat) : Int) := by
  rw [Int.natCast_add]
  have h0 : (0 : Int) ≤ (y : Int) := Int.natCast_nonneg _
  have h1 : (0 : Int) ≤ (x : Int) := Int.natCast_nonneg _
  have h2 : (x : Int) < 18446744073709551616 := by omega
  obtain rfl | rfl | rfl | rfl | rfl | rfl | rfl : k = 0 ∨ k = 1 ∨ k = 2 ∨ k = 3 ∨ k = 4 ∨ k = 5 ∨ k = 6 := by omega
  · exact u64_orv0 (y := (y : Int)) (x := (x : Int)) h0 (by omega) h1 (by omega) h2
  · exact u64_or8 (y := (y : Int)) (x := (x : Int)) h0 (by omega) h1 (by omega) h2
  · exact u64_or16 (y := (y : Int)) (x := (x : Int)) h0 (by omega) h1 (by omega) h2
  · exact u64_or24 (y := (y : Int)) (x := (x : Int)) h0 (by omega) h1 (by omega) h2
  · exact u64_or32 (y := (y : Int)) (x := (x : Int)) h0 (by omega) h1 (by omega) h2
  · exact u64_or40 (y := (y : Int)) (x := (x : Int)) h0 (by omega) h1 (by omega) h2
  · exact u64_or48 (y := (y : Int)) (x := (x : Int)) h0 (by omega) h1 (by omega) h2
theorem or_join (n k : Nat) (x : Int) (y : Int) (hk : k < 7) (hy : y = ((n % 256 ^ k : Nat) : Int)) (hx : x = ((n / 256 ^ k % 256 * 256 ^ k : Nat) : Int)) : bits .or .u64 y x = ((n % 256 ^ (k + 1) : Nat) : Int) := by
  have hm : n % 256 ^ (k + 1) = n % 256 ^ k + n / 256 ^ k % 256 * 256 ^ k := by
    rw [Nat.pow_succ, Nat.mod_mul, Nat.mul_comm (256 ^ k)]
  rw [hm]
  subst hy hx
  have hp : 256 ^ k ≤ 281474976710656 := Nat.pow_le_pow_right (n := 256) (by omega) (show k ≤ 6 by omega)
  refine or_nat k hk _ _ (Nat.mod_lt _ (Nat.pow_pos (by omega))) (Nat.mul_mod_left _ _) ?_
  have h1 : n / 256 ^ k % 256 ≤ 255 := by omega
  have := Nat.mul_le_mul h1 hp
  omega

set_option maxHeartbeats 2000000 in
theorem entry_any (g o c : Nat) (L : List UInt8) (N a : Nat) (m : UInt8) (body rest : List UInt8) (w : World) (hN : L.length = N) (hb : Bytes w (some ⟨g, o, none⟩) L) (hd' : L.drop a = hd m body.length ++ body ++ rest) (hl : N ≤ 10000000) (hc : N ≤ c) :
    Calls Try.prog 48 #[.slice (some ⟨g, o, none⟩) N c, .int .i64 (a : Int)] w (EntryPost body (a + 8 + body.length) w) := by
  have hlen : N = a + 8 + body.length + rest.length ∧ a ≤ N := by
    have h1 := congrArg List.length hd'
    rw [List.length_drop, List.length_append, List.length_append, hd_len] at h1
    omega
  have hle : ∀ k, k < 7 → ∃ x : UInt8, L[a + (1 + k)]? = some x ∧ x.toNat = body.length / 256 ^ k % 256 := by
    intro k hk
    refine ⟨UInt8.ofNat (body.length / 256 ^ k), ?_, by rw [UInt8.toNat_ofNat']⟩
    rw [← List.getElem?_drop, hd', List.append_assoc, List.getElem?_append_left (by rw [hd_len]; omega), hd, Nat.add_comm, List.getElem?_cons_succ, le7]
    simp [hk]
  have hbody : (L.drop (a + 8)).take body.length = body := by
    have h2 : (L.drop a).drop 8 = body ++ rest := by rw [hd', List.append_assoc, List.drop_append_of_le_length (by rw [hd_len]; exact Nat.le_refl _), List.drop_eq_nil_of_le (by rw [hd_len]; exact Nat.le_refl _), List.nil_append]
    rw [List.drop_drop] at h2
    rw [h2, List.take_left]
  have hcell : ∀ k, k < 7 → w.cell? ⟨g, o + (a + (1 + k)), none⟩ = some (.int .u8 ((body.length / 256 ^ k % 256 : Nat) : Int)) := by
    intro k hk
    obtain ⟨x, hx, hv⟩ := hle k hk
    rcases hb with rfl | ⟨g', o', he, hr⟩
    · simp at hx
    · cases he
      rw [hr (a + (1 + k)) (B8 x) (by rw [B8s_get, hx]; rfl), B8, hv]
  have Hlen := hide hlen.1
  have ha := hlen.2
  have hnb : body.length ≤ N := by omega
  have Hcell := hide hcell
  have Hbody := hide hbody
  have Hb := hide hb
  clear hlen hle hbody hcell hb hd'
  go_enter Try.func48, Try.ntmps48
  go_wp2
  go_loop [10, 6, 7] (fun i n _ => ∃ k : Nat, k ≤ 7 ∧ i = .int .i64 k ∧ n = .int .u64 ((body.length % 256 ^ k : Nat) : Int)) (fun i _ _ => 7 - (intOf i).toNat)
  case atStart => exact ⟨0, by omega, rfl, by rw [Nat.pow_zero, Nat.mod_one]; rfl⟩
  case round =>
    obtain ⟨k, hk, rfl, rfl⟩ := hrel
    by_cases hlt : k < 7
    · have hc := Hcell.out k hlt
      have Ho := hide (or_join body.length k)
      have hl2 := Hlen.out
      clear Hcell
      obtain rfl | rfl | rfl | rfl | rfl | rfl | rfl : k = 0 ∨ k = 1 ∨ k = 2 ∨ k = 3 ∨ k = 4 ∨ k = 5 ∨ k = 6 := by omega
      all_goals
        go_wp2
        go_round
        case rel => exact ⟨_, by omega, (rfl : _ = Value.int .i64 (((_ + 1 : Nat)) : Int)), congrArg (Value.int .u64) (Ho.out _ _ (by omega) (by omega) (by omega))⟩
        case measure => simp [intOf]
    · obtain rfl : k = 7 := by omega
      have e7 : ((body.length % 256 ^ 7 : Nat) : Int) = (body.length : Int) := by omega
      have hle : a + 8 + body.length ≤ N := by have := Hlen.out; omega
      have hb0 : c = a + 8 → Bytes w (some ⟨g, o, none⟩) body := fun h => .inl (List.eq_nil_of_length_eq_zero (by omega))
      have hb1 : Bytes w (some ⟨g, o + (a + 8), none⟩) body := by
        have h := (Hb.out.drop (a + 8)).take body.length
        rwa [Hbody.out] at h
      rw [e7]
      have H0 := hide hb0
      have H1 := hide hb1
      clear e7 hb0 hb1
      by_cases hca : c = a + 8
      · have hc2 := clone_any (some ⟨g, o, none⟩) body.length 0 body w rfl (H0.out hca) (by omega)
        have Hc := hide hc2
        clear hc2
        go_wp2_with fail
        refine Hc.out.mono ?_
        rintro e w' ⟨A, c', rfl, hbb, hnew, hbel⟩
        go_wp2
        go_ret2
        exact ⟨A, c', rfl, hbb, hnew, hbel⟩
      · have hc2 := clone_any (some ⟨g, o + (a + 8), none⟩) body.length (c - (a + 8)) body w rfl H1.out (by omega)
        have Hc := hide hc2
        clear hc2
        go_wp2_with fail
        refine Hc.out.mono ?_
        rintro e w' ⟨A, c', rfl, hbb, hnew, hbel⟩
        go_wp2
        go_ret2
        exact ⟨A, c', rfl, hbb, hnew, hbel⟩
end Go.Proofs.Ytbcpplndmndkiaa
