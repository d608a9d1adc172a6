/- The document's answer for the wire: numbers and texts. -/
import Derived.Test.YtdkmccilnmdhmaaWf
namespace Go.Proofs.Ytdkmccilnmdhmaa
open Go.RowKit

theorem OwnB.below {w w' : World} {A : Option Addr} {n c : Nat} {l : List UInt8} (h : OwnB w A n c l) (hb : Below w.heap.size w w') : OwnB w' A n c l := h.fr (F := fun _ => False) (Fr.of_below hb) (fun _ _ h => h)
theorem bytes_of_str (w : World) (s : List UInt8) : ∃ c w2, (convert 9 30 (sv s)).run Try.prog w = .ok (.slice (some ⟨w.heap.size, 0, none⟩) s.length c) w2 ∧ Bytes w2 (some ⟨w.heap.size, 0, none⟩) s ∧ Below w.heap.size w w2 ∧ w.heap.size < w2.heap.size := by
  have hr := run_bytes_of_string (P := Try.prog) w 9 30 5 ⟨s.toArray⟩ Try.underlying9 Try.underlying30 Try.underlying5
  refine ⟨_, _, hr, .inr ⟨w.heap.size, 0, rfl, fun j v hv => ?_⟩, (Below.refl _ _).drew.alloc (Nat.le_refl _) _, by simp⟩
  show (w.drew.alloc _).cell? ⟨w.drew.heap.size, 0 + j, none⟩ = _
  rw [cell_of_row _ _ _ _ _ _ (heap_alloc_new w.drew _), Nat.zero_add, bytesRow, Array.getElem?_append_left]
  · rw [B8s_get] at hv
    simpa [B8] using hv
  · rw [B8s_get] at hv
    rcases Nat.lt_or_ge j s.length with h | h
    · simpa using h
    · rw [List.getElem?_eq_none h] at hv; cases hv
set_option maxRecDepth 100000 in
set_option maxHeartbeats 2000000 in
theorem ruint_any (k : Nat) : ∀ (n : Nat) (w : World), n ≤ k → n < 18446744073709551616 → Calls Try.prog 32 #[.int .u64 (n : Int)] w (ClonePost (Lib.uvarint n) (Lib.uvarint n).length w) := by
  induction k with
  | zero =>
    intro n w hk hn
    obtain rfl : n = 0 := by omega
    go_enter Try.func32, Try.ntmps32
    go_wp2_with fail
    go_ret
    have h := OwnB.of_blk (L := [0]) (Blk.new w 5 (B8s [0]).toArray) 1 (Nat.le_refl _) (by simp [maxLen])
    refine ⟨some ⟨w.heap.size, 0, none⟩, 1, by rw [Lib.uvarint_small (by omega)]; rfl, by rw [Lib.uvarint_small (by omega)]; exact h, fun k hk => by rw [At.some_iff] at hk; simp only at hk; omega, (Below.refl _ _).alloc (Nat.le_refl _) _⟩
  | succ k ih =>
    intro n w hk hn
    by_cases h128 : n < 128
    · have hx : (UInt8.ofNat n).toNat = n := by simp; omega
      have h := OwnB.of_blk (L := [UInt8.ofNat n]) (Blk.new w 5 (B8s [UInt8.ofNat n]).toArray) 1 (Nat.le_refl _) (by simp [maxLen])
      rw [show (B8s [UInt8.ofNat n]).toArray = #[.int .u8 (n : Int)] by simp [B8s, B8, hx]] at h
      have H := hide h
      have Hn := hide hn
      clear hx h hn
      go_enter Try.func32, Try.ntmps32
      go_wp2_with fail
      go_ret
      refine ⟨some ⟨w.heap.size, 0, none⟩, 1, by rw [Lib.uvarint_small h128]; rfl, by rw [Lib.uvarint_small h128]; exact H.out, fun k hk => by rw [At.some_iff] at hk; simp only at hk; omega, (Below.refl _ _).alloc (Nat.le_refl _) _⟩
    · have hx : (UInt8.ofNat (n % 128 + 128)).toNat = n % 128 + 128 := by simp; omega
      have h := OwnB.of_blk (L := [UInt8.ofNat (n % 128 + 128)]) (Blk.new w 5 (B8s [UInt8.ofNat (n % 128 + 128)]).toArray) 1 (Nat.le_refl _) (by simp [maxLen])
      rw [show (B8s [UInt8.ofNat (n % 128 + 128)]).toArray = #[.int .u8 ((n : Int) % 128 + 128)] by simp only [B8s, B8, List.map_cons, List.map_nil, hx]; rfl] at h
      have hu := Lib.uvarint_big (x := n) (by omega)
      have hc := ih (n / 128) (w.alloc (.cells #[.int .u8 ((n : Int) % 128 + 128)] 5)) (by omega) (by omega)
      rw [show ((n / 128 : Nat) : Int) = (n : Int) / 128 by omega] at hc
      have hwr : IntKind.u64.wrap ((n : Int) / 128) = (n : Int) / 128 := by rw [IntKind.wrap_u64]; omega
      have hlen := Lib.uvarint_length64 (x := n / 128) (by omega)
      have Hlen := hide hlen
      have H := hide h
      have Hu := hide hu
      have Hc := hide hc
      have Hn := hide hn
      clear hx h hu hc hlen ih hn
      go_enter Try.func32, Try.ntmps32
      go_wp2_with fail
      with_reducible (refine Hc.out.mono ?_)
      rintro e w1 ⟨A1, c1, rfl, ho1, hA1, hb1⟩
      have hown := H.out.below hb1
      have Ho1 := hide ho1
      have Hown := hide hown
      have Hb1 := hide hb1
      have hm2 : 1 + (Lib.uvarint (n / 128)).length ≤ 140737488355328 := by have := Hlen.out; omega
      have Hm2 := hide hm2
      clear ho1 hA1 hown hb1 hm2 Hc
      go_wp2_with (refine wpList_append_bytes rfl (.tmp 14) (.tmp 17) 30 rfl Try.underlying30 infoU8 (some ⟨w.heap.size, 0, none⟩) 1 1 [UInt8.ofNat (n % 128 + 128)] rfl Hown.out A1 _ c1 _ rfl rfl Ho1.out.bytes Hm2.out ?_; intro A4 c4 w4 ho4 hf4 hn4 hs4; have Ho4 := hide ho4; have Hf4 := hide hf4; have Hn4 := hide hn4; clear ho4 hf4 hn4 hs4)
      go_ret
      have hlu : (Lib.uvarint n).length = 1 + (Lib.uvarint (n / 128)).length := by rw [Hu.out, List.length_cons]; omega
      refine ⟨A4, c4, by rw [hlu]; rfl, ?_, fun k hk => ?_, ?_⟩
      · rw [hlu, Hu.out]
        exact Ho4.out
      · rcases Hn4.out k hk with h | h
        · rw [At.some_iff] at h; simp only at h; omega
        · have := Hb1.out.size
          rw [World.size_alloc] at this
          omega
      · exact (((Below.refl _ _).alloc (Nat.le_refl _) _).trans (Hb1.out.mono (by simp))).trans (Hf4.out.below (by have := Hb1.out.size; rw [World.size_alloc] at this; omega) (fun k hk => by rw [At.some_iff] at hk; simp only at hk; omega))

set_option maxRecDepth 100000 in
set_option maxHeartbeats 2000000 in
theorem rint_any (n : Int) (w : World) (h0 : -9223372036854775808 ≤ n) (h1 : n ≤ 9223372036854775807) :
    Calls Try.prog 33 #[.int .i64 n] w (ClonePost (Lib.uvarint (Lib.zigzag n)) (Lib.uvarint (Lib.zigzag n)).length w) := by
  have hz := Lib.zigzag_lt h0 h1
  have hc := ruint_any _ (Lib.zigzag n) w (Nat.le_refl _) hz
  by_cases hn : n < 0
  · rw [show ((Lib.zigzag n : Nat) : Int) = -(n + 1) * 2 + 1 by unfold Lib.zigzag; rw [if_neg (by omega)]; omega] at hc
    have Hc := hide hc
    clear hc hz
    go_enter Try.func33, Try.ntmps33
    go_wp2_with fail
    with_reducible (refine Hc.out.mono ?_)
    rintro e w1 ⟨A1, c1, rfl, ho1, hA1, hb1⟩
    have Hp := hide (show _ ∧ _ ∧ _ from ⟨ho1, hA1, hb1⟩)
    clear ho1 hA1 hb1 Hc
    go_wp2
    go_ret
    exact ⟨A1, c1, rfl, Hp.out.1, Hp.out.2.1, Hp.out.2.2⟩
  · rw [show ((Lib.zigzag n : Nat) : Int) = n * 2 by unfold Lib.zigzag; rw [if_pos (by omega)]; omega] at hc
    have Hc := hide hc
    clear hc hz
    go_enter Try.func33, Try.ntmps33
    go_wp2_with fail
    with_reducible (refine Hc.out.mono ?_)
    rintro e w1 ⟨A1, c1, rfl, ho1, hA1, hb1⟩
    have Hp := hide (show _ ∧ _ ∧ _ from ⟨ho1, hA1, hb1⟩)
    clear ho1 hA1 hb1 Hc
    go_wp2
    go_ret
    exact ⟨A1, c1, rfl, Hp.out.1, Hp.out.2.1, Hp.out.2.2⟩

set_option maxRecDepth 100000 in
set_option maxHeartbeats 2000000 in
theorem rtext_any (s : List UInt8) (w : World) (hs : s.length ≤ 1000000000) :
    Calls Try.prog 34 #[sv s] w (ClonePost (textB s) (textB s).length w) := by
  have hc := ruint_any _ s.length w (Nat.le_refl _) (by omega)
  have hlen := Lib.uvarint_length64 (x := s.length) (by omega)
  have Hlen := hide hlen
  have Hc := hide hc
  clear hc hlen
  go_enter Try.func34, Try.ntmps34
  go_wp2_with fail
  with_reducible (refine Hc.out.mono ?_)
  rintro e w1 ⟨A1, c1, rfl, ho1, hA1, hb1⟩
  obtain ⟨cc, w2, hr, hby, hb2, hlt⟩ := bytes_of_str w1 s
  have hown := ho1.below hb2
  have Hown := hide hown
  have Hby := hide hby
  have Hb2 := hide hb2
  have Hb1 := hide hb1
  have HA1 := hide hA1
  have Hlt := hide hlt
  have hm2 : (Lib.uvarint s.length).length + s.length ≤ 140737488355328 := by have := Hlen.out; omega
  have Hm2 := hide hm2
  clear ho1 hA1 hb1 hby hb2 hown hm2 Hc hlt
  go_wp2_with (refine wpList_append_bytes rfl (.tmp 8) (.tmp 10) 30 rfl Try.underlying30 infoU8 A1 _ c1 _ rfl Hown.out (some ⟨w1.heap.size, 0, none⟩) s.length cc s rfl rfl Hby.out Hm2.out ?_; intro A4 c4 w4 ho4 hf4 hn4 hs4; have Ho4 := hide ho4; have Hf4 := hide hf4; have Hn4 := hide hn4; clear ho4 hf4 hn4 hs4)
  go_ret
  have hlu : (textB s).length = (Lib.uvarint s.length).length + s.length := by rw [textB, List.length_append]
  refine ⟨A4, c4, by rw [hlu]; rfl, by rw [hlu]; exact Ho4.out, fun k hk => ?_, ?_⟩
  · rcases Hn4.out k hk with h | h
    · exact HA1.out k h
    · have := Hb1.out.size
      have := Hb2.out.size
      omega
  · exact (Hb1.out.trans (Hb2.out.mono Hb1.out.size)).trans (Hf4.out.below (by have := Hb1.out.size; have := Hb2.out.size; omega) (fun k hk => HA1.out k hk))
end Go.Proofs.Ytdkmccilnmdhmaa
