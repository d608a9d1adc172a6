/- Package wire: the writer of numbers and texts. -/
import Derived.Test.YtdkmccilnmdhmaaOwnC
import Derived.Lib.Zigzag
import Derived.Deep.CutRange
import Derived.Deep.CutBlock
namespace Go.Proofs.Ytdkmccilnmdhmaa
open Go.RowKit

/-- A writer at block wb: what it has written; F: its blocks. -/
def Wt (w : World) (wb : Nat) (F : Nat → Prop) (l : List UInt8) : Prop :=
  ∃ A n c, Blk w wb 32 #[.slice A n c] ∧ OwnB w A n c l ∧ F = fun k => k = wb ∨ At A k
def WPost (wb : Nat) (F : Nat → Prop) (l : List UInt8) (w : World) (e : Ending) (w' : World) : Prop :=
  ∃ F', e = .returned (.pointer (some ⟨wb, 0, none⟩)) ∧ Wt w' wb F' l ∧ Fr F w w' ∧ ∀ k, F' k → F k ∨ w.heap.size ≤ k
theorem Wt.lt {w : World} {wb : Nat} {F : Nat → Prop} {l : List UInt8} (h : Wt w wb F l) : ∀ k, F k → k < w.heap.size := by
  obtain ⟨A, n, c, h1, h2, rfl⟩ := h
  exact fun k hk => hk.elim (fun e => by rw [e]; exact h1.lt) (h2.lt k)
theorem Wt.fr {w w' : World} {wb : Nat} {F G : Nat → Prop} {l : List UInt8} (h : Wt w wb F l) (hf : Fr G w w') (hG : ∀ k, F k → ¬ G k) : Wt w' wb F l := by
  obtain ⟨A, n, c, h1, h2, rfl⟩ := h
  exact ⟨A, n, c, h1.fr hf (hG wb (.inl rfl)), h2.fr hf (fun k hk => hG k (.inr hk)), rfl⟩
theorem Wt.nofr {w w' : World} {wb : Nat} {F : Nat → Prop} {l : List UInt8} (h : Wt w wb F l) (hf : Fr (fun _ => False) w w') : Wt w' wb F l := h.fr hf (fun _ _ h => h)
theorem own_ne_blk {w : World} {A : Option Addr} {n c g : Nat} {l : List UInt8} {t : TypeId} {cs : Array Value} (h : OwnB w A n c l) (hb : Blk w g t cs) (ht : 5 ≠ t) : ¬ At A g := by
  intro hk
  rcases h.form with ⟨rfl, _⟩ | ⟨g', cur, rfl, hb', _⟩
  · exact At.none_not hk
  · rw [At.some_iff] at hk
    simp only at hk
    subst hk
    exact Blk.ne_ (t := 5) hb' hb ht rfl

/-- What was appended, stored in the writer. -/
theorem wt_stored {w1 w2 w4 : World} {wb m c m4 c4 : Nat} {A A4 : Option Addr} {l1 l4 : List UInt8} (hb : Blk w1 wb 32 #[.slice A m c]) (ho : OwnB w1 A m c l1) (h12 : Fr (fun _ => False) w1 w2) (hf : Fr (At A) w2 w4)
    (hn : ∀ k, At A4 k → At A k ∨ w2.heap.size ≤ k) (ho4 : OwnB w4 A4 m4 c4 l4) :
    Wt (w4.setCell ⟨wb, 0, none⟩ (.slice A4 m4 c4)) wb (fun k => k = wb ∨ At A4 k) l4 ∧ Fr (fun k => k = wb ∨ At A k) w1 (w4.setCell ⟨wb, 0, none⟩ (.slice A4 m4 c4)) ∧ ∀ k, (k = wb ∨ At A4 k) → (k = wb ∨ At A k) ∨ w1.heap.size ≤ k := by
  have hb4 := (hb.fr h12 (fun h => h)).fr hf (own_ne_blk ho hb (by decide))
  refine ⟨⟨A4, m4, c4, hb4.set_ 0 _, ?_, rfl⟩, ?_, ?_⟩
  · exact ho4.fr ((Fr.refl (fun k => k = wb) _).put1 0 _) (fun k hk e => by
      subst e
      exact own_ne_blk ho4 hb4 (by decide) hk)
  · exact Fr.setCell (F := fun k => k = wb ∨ At A k) (p := ⟨wb, 0, none⟩) ((h12.mono (F' := fun k => k = wb ∨ At A k) (fun _ _ h => h.elim)).trans' (hf.mono (F' := fun k => k = wb ∨ At A k) (fun _ _ h => Or.inr h)) (fun _ _ h => h)) (.inl (.inl rfl)) _
  · rintro k (rfl | hk)
    · exact .inl (.inl rfl)
    · rcases hn k hk with h | h
      · exact .inl (.inr h)
      · have := h12.size
        exact .inr (by omega)

set_option maxRecDepth 100000 in
set_option maxHeartbeats 4000000 in
theorem wuint_any (wb : Nat) (F : Nat → Prop) (l : List UInt8) (n : Nat) (w : World) (h : Wt w wb F l) (hn : n < 18446744073709551616) (hl : l.length + 10 ≤ 140737488355328) :
    Calls Try.prog 24 #[.pointer (some ⟨wb, 0, none⟩), .int .u64 (n : Int)] w (WPost wb F (l ++ Lib.uvarint n) w) := by
  have H := hide h
  have Hn := hide hn
  have Hl := hide hl
  clear h hn hl
  go_enter Try.func24, Try.ntmps24
  go_wp2_with fail
  go_loopw [1] (fun x wr => ∃ k pre, x = .int .u64 (k : Nat) ∧ Lib.uvarint n = pre ++ Lib.uvarint k ∧ k ≤ n ∧ ∃ F', Wt wr wb F' (l ++ pre) ∧ Fr F w wr ∧ ∀ k, F' k → F k ∨ w.heap.size ≤ k) (fun x _ => (intOf x).toNat)
  case atStart => exact ⟨n, [], rfl, rfl, Nat.le_refl _, F, by rw [List.append_nil]; exact H.out, Fr.refl _ _, fun k hk => .inl hk⟩
  case round =>
    obtain ⟨k, pre, rfl, hu, hkn, F', hw, hf, hF⟩ := hrel
    obtain ⟨A, m, c, hb, ho, rfl⟩ := hw
    have c0 := hb.cell 0
    have z0 := hb.frozen 0
    have Hu := hide hu
    have Hb := hide hb
    have Ho := hide ho
    have Hf := hide hf
    have HF := hide hF
    clear hu hb ho hf hF
    have hpre : pre.length ≤ 10 := by
      have h1 := Lib.uvarint_length64 Hn.out
      rw [Hu.out, List.length_append] at h1
      omega
    have hlen : (l ++ pre).length = m := Ho.out.1
    rw [List.length_append] at hlen
    have hlm : m + 1 ≤ 140737488355328 := by
      have h1 := Lib.uvarint_length64 Hn.out
      have h2 := Lib.uvarint_pos k
      have := Hl.out
      rw [Hu.out, List.length_append] at h1
      omega
    have Hlm := hide hlm
    clear hlm hpre hlen
    by_cases h128 : k < 128
    · have hx : (UInt8.ofNat k).toNat = k := by simp; omega
      have hu8 : Lib.uvarint k = [UInt8.ofNat k] := Lib.uvarint_small h128
      have hcell : (B8s [UInt8.ofNat k]).toArray = #[.int .u8 (k : Int)] := by simp [B8s, B8, hx]
      have hby : Bytes (wr.alloc (.cells #[.int .u8 (k : Int)] 5)) (some ⟨wr.heap.size, 0, none⟩) [UInt8.ofNat k] := by rw [← hcell]; exact bytes_new _ _ _ _
      have Hby := hide hby
      have Hu8 := hide hu8
      have c1 : (wr.alloc (.cells #[.int .u8 (k : Int)] 5)).cell? ⟨wb, 0, none⟩ = some (.slice A m c) := (Hb.out.alloc _).cell 0
      clear hx hcell hby hu8
      go_wp2_with (refine wpList_append_bytes rfl (.tmp 27) (.tmp 30) 30 rfl Try.underlying30 infoU8 A m c _ rfl (Ho.out.alloc _) (some ⟨wr.heap.size, 0, none⟩) 1 1 _ rfl rfl Hby.out Hlm.out ?_; intro A4 c4 w4 ho4 hf4 hn4 hs4; have hnb := own_ne_blk Ho.out Hb.out (by decide); have hb4 := (Hb.out.alloc (.cells #[.int .u8 (k : Int)] 5)).fr hf4 hnb; have c4' := hb4.cell 0; have z4 := hb4.frozen 0; have Ho4 := hide ho4; have Hf4 := hide hf4; have Hn4 := hide hn4; have Hb4 := hide hb4; have Hnb := hide hnb; clear ho4 hf4 hn4 hs4 hb4 hnb)
      go_ret
      obtain ⟨h1, h2, h3⟩ := wt_stored Hb.out Ho.out ((Fr.refl _ _).alloc _) Hf4.out Hn4.out Ho4.out
      refine ⟨_, rfl, ?_, Hf.out.trans' h2 (fun i hi h => (HF.out i h).elim id (fun hh => by omega)), fun k hk => (h3 k hk).elim (fun h => HF.out k h) (fun h => by have := Hf.out.size; exact .inr (by omega))⟩
      rw [Hu.out, Hu8.out, ← List.append_assoc]
      exact h1
    · have hx : (UInt8.ofNat (k % 128 + 128)).toNat = k % 128 + 128 := by simp; omega
      have hor : bits .or .u8 ((k : Int) % 256) 128 = (k : Int) % 128 + 128 := by rw [Lib.u8_or128_any _ (by omega) (by omega)]; omega
      have hu8 : Lib.uvarint k = UInt8.ofNat (k % 128 + 128) :: Lib.uvarint (k / 128) := Lib.uvarint_big (by omega)
      have hcell : (B8s [UInt8.ofNat (k % 128 + 128)]).toArray = #[.int .u8 ((k : Int) % 128 + 128)] := by simp only [B8s, List.map_cons, List.map_nil, B8, hx]; rfl
      have hby : Bytes (wr.alloc (.cells #[.int .u8 ((k : Int) % 128 + 128)] 5)) (some ⟨wr.heap.size, 0, none⟩) [UInt8.ofNat (k % 128 + 128)] := by rw [← hcell]; exact bytes_new _ _ _ _
      have Hby := hide hby
      have Hu8 := hide hu8
      have c1 : (wr.alloc (.cells #[.int .u8 ((k : Int) % 128 + 128)] 5)).cell? ⟨wb, 0, none⟩ = some (.slice A m c) := (Hb.out.alloc _).cell 0
      clear hx hcell hby hu8
      go_wp2_with (refine wpList_append_bytes rfl (.tmp 15) (.tmp 19) 30 rfl Try.underlying30 infoU8 A m c _ rfl (Ho.out.alloc _) (some ⟨wr.heap.size, 0, none⟩) 1 1 _ rfl rfl Hby.out Hlm.out ?_; intro A4 c4 w4 ho4 hf4 hn4 hs4; have hnb := own_ne_blk Ho.out Hb.out (by decide); have hb4 := (Hb.out.alloc (.cells #[.int .u8 ((k : Int) % 128 + 128)] 5)).fr hf4 hnb; have c4' := hb4.cell 0; have z4 := hb4.frozen 0; have Ho4 := hide ho4; have Hf4 := hide hf4; have Hn4 := hide hn4; have Hb4 := hide hb4; have Hnb := hide hnb; clear ho4 hf4 hn4 hs4 hb4 hnb)
      obtain ⟨h1, h2, h3⟩ := wt_stored Hb.out Ho.out ((Fr.refl _ _).alloc _) Hf4.out Hn4.out Ho4.out
      have Hfin := hide (show _ ∧ _ ∧ _ from ⟨h1, Hf.out.trans' h2 (fun i hi h => (HF.out i h).elim id (fun hh => by omega)), fun k hk => (h3 k hk).elim (fun h => HF.out k h) (fun h => by have := Hf.out.size; exact .inr (by omega))⟩)
      go_roundw
      case rel => exact ⟨k / 128, pre ++ [UInt8.ofNat (k % 128 + 128)], by go_num, by rw [Hu.out, Hu8.out, List.append_assoc]; rfl, by omega, _, by rw [← List.append_assoc]; exact Hfin.out.1, Hfin.out.2.1, Hfin.out.2.2⟩
      case measure => simp [intOf]; omega
end Go.Proofs.Ytdkmccilnmdhmaa
