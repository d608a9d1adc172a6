/- The document's answer: sealed bytes. -/
import Derived.Test.YtonlpgjcmodpnaaSa
namespace Go.Proofs.Ytonlpgjcmodpnaa
open Go.RowKit

def SRel (w : World) (l : List UInt8) (s : Nat) (x i : Value) (wr : World) : Prop :=
  ∃ (k : Nat) (A : Option Addr) (c : Nat), k ≤ 4 ∧ x = .slice A (l.length + k) c ∧ i = .int .i64 (k : Int) ∧ OwnB wr A (l.length + k) c (l ++ (le4 s).take k) ∧ (∀ j, At A j → w.heap.size ≤ j) ∧ Below w.heap.size w wr
theorem le4_byte (m : Nat) : (UInt8.ofNat (m % 256)).toNat = m % 256 := by simp
set_option maxRecDepth 100000 in
set_option maxHeartbeats 4000000 in
theorem rseal_any (A : Option Addr) (c : Nat) (l : List UInt8) (w : World) (hb : Bytes w A l) (hl : l.length ≤ 1000000000) :
    Calls Try.prog 35 #[.slice A l.length c] w (ClonePost (sealB l) (sealB l).length w) := by
  have hlt := crc_lt l
  obtain ⟨s, hsd⟩ : ∃ s, s = crc l := ⟨_, rfl⟩
  rw [← hsd] at hlt
  have Hsd := hide hsd
  have Hb := hide hb
  clear hb hsd
  obtain ⟨n, hn⟩ : ∃ n, n = l.length := ⟨_, rfl⟩
  have hm0 : 0 + n ≤ 140737488355328 := by omega
  have Hm0 := hide hm0
  have Hn := hide hn
  have hnl : n ≤ 1000000000 := by omega
  rw [← hn]
  clear hm0 hn hl
  go_enter Try.func35, Try.ntmps35
  go_wp2_with (refine wpList_append_bytes rfl (.tmp 6) (.tmp 7) 25 rfl Try.underlying25 infoU8 none 0 0 [] rfl (OwnB.nil _) A n c l rfl Hn.out.symm Hb.out Hm0.out ?_; intro A4 c4 w4 ho4 hf4 hn4 hs4; have Ho4 := hide ho4; have Hf4 := hide hf4; have Hn4 := hide hn4; clear ho4 hf4 hn4 hs4)
  have hbel4 : Below w.heap.size w w4 := Hf4.out.below (Nat.le_refl _) (fun k hk => absurd hk At.none_not)
  have hs := refsum_any A c l w4 (Hb.out.below hbel4 (Nat.le_refl _)) (by have := Hn.out; simp only [maxLen]; omega)
  rw [← Hsd.out, ← Hn.out] at hs
  have Hs := hide hs
  have hrel : SRel w l s (.slice A4 (0 + n) c4) (.int .i64 0) w4 := by
    refine ⟨0, A4, c4, by omega, by rw [Hn.out]; simp, rfl, ?_, fun j hj => (Hn4.out j hj).elim (fun h => absurd h At.none_not) id, hbel4⟩
    have := Ho4.out
    rw [Nat.zero_add] at this
    rw [← Hn.out]
    simpa using this
  rw [Nat.zero_add] at hrel
  have Hrel := hide hrel
  clear hrel hbel4 hs Ho4 Hf4 Hn4 Hm0
  go_wp2_with fail
  refine Hs.out.mono ?_
  rintro e w5 ⟨rfl, rfl⟩
  clear Hs
  go_wp2_with fail
  go_loopw [3, 5] (fun x i wr => SRel w l s x i wr) (fun _ i _ => 4 - (intOf i).toNat)
  case atStart => exact Hrel.out
  case round =>
    obtain ⟨k, A1, c1, hk, rfl, rfl, ho, hA, hbl⟩ := hrel
    have hc : k = 0 ∨ k = 1 ∨ k = 2 ∨ k = 3 ∨ k = 4 := by omega
    have Ho := hide ho
    have HA := hide hA
    have Hbl := hide hbl
    clear ho hA hbl hk Hrel
    rw [← Hn.out]
    rcases hc with rfl | rfl | rfl | rfl | rfl
    · have hx := le4_byte (s)
      have hcell : (B8s [UInt8.ofNat ((s) % 256)]).toArray = #[.int .u8 ((s : Int) % 256)] := by
        simp only [B8s, List.map_cons, List.map_nil, B8, hx]
        congr 3
      have hby : ∀ W : World, Bytes (W.alloc (.cells #[.int .u8 ((s : Int) % 256)] 5)) (some ⟨W.heap.size, 0, none⟩) [UInt8.ofNat ((s) % 256)] := fun W => by rw [← hcell]; exact bytes_new _ _ _ _
      have Hby := hide hby
      have hmm : n + 0 + 1 ≤ 140737488355328 := by omega
      have Hmm := hide hmm
      have Ho2 := hide (show OwnB wr A1 (n + 0) c1 (l ++ (le4 s).take 0) by rw [Hn.out]; exact Ho.out)
      clear hx hcell hby hmm
      go_wp2_with (refine wpList_append_bytes rfl (.tmp 15) (.tmp 21) 25 rfl Try.underlying25 infoU8 A1 (n + 0) c1 _ rfl (Ho2.out.alloc _) (some ⟨wr.heap.size, 0, none⟩) 1 1 _ rfl rfl (Hby.out wr) Hmm.out ?_; intro A5 c5 w5 ho5 hf5 hn5 hs5; have Ho5 := hide ho5; have Hf5 := hide hf5; have Hn5 := hide hn5; clear ho5 hf5 hn5 hs5)
      have Hnew := hide (show SRel w l s (.slice A5 (n + 0 + 1) c5) (.int .i64 1) w5 from by
        refine ⟨1, A5, c5, by omega, by rw [Hn.out], rfl, ?_, fun j hj => (Hn5.out j hj).elim (HA.out j) (fun h => by rw [World.size_alloc] at h; have := Hbl.out.size; omega), ?_⟩
        · have h := Ho5.out
          rw [List.append_assoc] at h
          rw [← Hn.out]
          exact h
        · exact (Hbl.out.alloc Hbl.out.size _).trans (Hf5.out.below (by rw [World.size_alloc]; have := Hbl.out.size; omega) HA.out))
      go_roundw
      case rel => exact Hnew.out
      case measure => simp [intOf]
    · have hx := le4_byte (s / 256)
      have hcell : (B8s [UInt8.ofNat ((s / 256) % 256)]).toArray = #[.int .u8 ((s : Int) / 256 % 256)] := by
        simp only [B8s, List.map_cons, List.map_nil, B8, hx]
        congr 3
      have hby : ∀ W : World, Bytes (W.alloc (.cells #[.int .u8 ((s : Int) / 256 % 256)] 5)) (some ⟨W.heap.size, 0, none⟩) [UInt8.ofNat ((s / 256) % 256)] := fun W => by rw [← hcell]; exact bytes_new _ _ _ _
      have Hby := hide hby
      have hmm : n + 1 + 1 ≤ 140737488355328 := by omega
      have Hmm := hide hmm
      have Ho2 := hide (show OwnB wr A1 (n + 1) c1 (l ++ (le4 s).take 1) by rw [Hn.out]; exact Ho.out)
      clear hx hcell hby hmm
      go_wp2_with (refine wpList_append_bytes rfl (.tmp 15) (.tmp 21) 25 rfl Try.underlying25 infoU8 A1 (n + 1) c1 _ rfl (Ho2.out.alloc _) (some ⟨wr.heap.size, 0, none⟩) 1 1 _ rfl rfl (Hby.out wr) Hmm.out ?_; intro A5 c5 w5 ho5 hf5 hn5 hs5; have Ho5 := hide ho5; have Hf5 := hide hf5; have Hn5 := hide hn5; clear ho5 hf5 hn5 hs5)
      have Hnew := hide (show SRel w l s (.slice A5 (n + 1 + 1) c5) (.int .i64 2) w5 from by
        refine ⟨2, A5, c5, by omega, by rw [Hn.out], rfl, ?_, fun j hj => (Hn5.out j hj).elim (HA.out j) (fun h => by rw [World.size_alloc] at h; have := Hbl.out.size; omega), ?_⟩
        · have h := Ho5.out
          rw [List.append_assoc] at h
          rw [← Hn.out]
          exact h
        · exact (Hbl.out.alloc Hbl.out.size _).trans (Hf5.out.below (by rw [World.size_alloc]; have := Hbl.out.size; omega) HA.out))
      go_roundw
      case rel => exact Hnew.out
      case measure => simp [intOf]
    · have hx := le4_byte (s / 65536)
      have hcell : (B8s [UInt8.ofNat ((s / 65536) % 256)]).toArray = #[.int .u8 ((s : Int) / 65536 % 256)] := by
        simp only [B8s, List.map_cons, List.map_nil, B8, hx]
        congr 3
      have hby : ∀ W : World, Bytes (W.alloc (.cells #[.int .u8 ((s : Int) / 65536 % 256)] 5)) (some ⟨W.heap.size, 0, none⟩) [UInt8.ofNat ((s / 65536) % 256)] := fun W => by rw [← hcell]; exact bytes_new _ _ _ _
      have Hby := hide hby
      have hmm : n + 2 + 1 ≤ 140737488355328 := by omega
      have Hmm := hide hmm
      have Ho2 := hide (show OwnB wr A1 (n + 2) c1 (l ++ (le4 s).take 2) by rw [Hn.out]; exact Ho.out)
      clear hx hcell hby hmm
      go_wp2_with (refine wpList_append_bytes rfl (.tmp 15) (.tmp 21) 25 rfl Try.underlying25 infoU8 A1 (n + 2) c1 _ rfl (Ho2.out.alloc _) (some ⟨wr.heap.size, 0, none⟩) 1 1 _ rfl rfl (Hby.out wr) Hmm.out ?_; intro A5 c5 w5 ho5 hf5 hn5 hs5; have Ho5 := hide ho5; have Hf5 := hide hf5; have Hn5 := hide hn5; clear ho5 hf5 hn5 hs5)
      have Hnew := hide (show SRel w l s (.slice A5 (n + 2 + 1) c5) (.int .i64 3) w5 from by
        refine ⟨3, A5, c5, by omega, by rw [Hn.out], rfl, ?_, fun j hj => (Hn5.out j hj).elim (HA.out j) (fun h => by rw [World.size_alloc] at h; have := Hbl.out.size; omega), ?_⟩
        · have h := Ho5.out
          rw [List.append_assoc] at h
          rw [← Hn.out]
          exact h
        · exact (Hbl.out.alloc Hbl.out.size _).trans (Hf5.out.below (by rw [World.size_alloc]; have := Hbl.out.size; omega) HA.out))
      go_roundw
      case rel => exact Hnew.out
      case measure => simp [intOf]
    · have hx := le4_byte (s / 16777216)
      have hcell : (B8s [UInt8.ofNat ((s / 16777216) % 256)]).toArray = #[.int .u8 ((s : Int) / 16777216)] := by
        simp only [B8s, List.map_cons, List.map_nil, B8, hx]
        congr 3
        omega
      have hby : ∀ W : World, Bytes (W.alloc (.cells #[.int .u8 ((s : Int) / 16777216)] 5)) (some ⟨W.heap.size, 0, none⟩) [UInt8.ofNat ((s / 16777216) % 256)] := fun W => by rw [← hcell]; exact bytes_new _ _ _ _
      have Hby := hide hby
      have hmm : n + 3 + 1 ≤ 140737488355328 := by omega
      have Hmm := hide hmm
      have Ho2 := hide (show OwnB wr A1 (n + 3) c1 (l ++ (le4 s).take 3) by rw [Hn.out]; exact Ho.out)
      clear hx hcell hby hmm
      go_wp2_with (refine wpList_append_bytes rfl (.tmp 15) (.tmp 21) 25 rfl Try.underlying25 infoU8 A1 (n + 3) c1 _ rfl (Ho2.out.alloc _) (some ⟨wr.heap.size, 0, none⟩) 1 1 _ rfl rfl (Hby.out wr) Hmm.out ?_; intro A5 c5 w5 ho5 hf5 hn5 hs5; have Ho5 := hide ho5; have Hf5 := hide hf5; have Hn5 := hide hn5; clear ho5 hf5 hn5 hs5)
      have Hnew := hide (show SRel w l s (.slice A5 (n + 3 + 1) c5) (.int .i64 4) w5 from by
        refine ⟨4, A5, c5, by omega, by rw [Hn.out], rfl, ?_, fun j hj => (Hn5.out j hj).elim (HA.out j) (fun h => by rw [World.size_alloc] at h; have := Hbl.out.size; omega), ?_⟩
        · have h := Ho5.out
          rw [List.append_assoc] at h
          rw [← Hn.out]
          exact h
        · exact (Hbl.out.alloc Hbl.out.size _).trans (Hf5.out.below (by rw [World.size_alloc]; have := Hbl.out.size; omega) HA.out))
      go_roundw
      case rel => exact Hnew.out
      case measure => simp [intOf]
    · go_wp2
      go_ret
      have hlen : (sealB l).length = n + 4 := by rw [sealB, List.length_append, Hn.out]; rfl
      have h := Ho.out
      rw [← Hn.out, Hsd.out] at h
      exact ⟨A1, c1, by rw [hlen]; rfl, by rw [hlen]; exact h, HA.out, Hbl.out⟩
end Go.Proofs.Ytonlpgjcmodpnaa
