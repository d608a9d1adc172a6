/- Package wire: Reader.value, however deep; Reader.Value. -/
import Derived.Test.YteoimkjocijcjaaVoA
namespace Go.Proofs.Yteoimkjocijcjaa
open Go.RowKit

theorem rdv_any (rb : Nat) : ∀ (d op : Nat) (l : List UInt8) (bad : Bool) (w : World), op + d = 24 → Rd w rb l bad →
    Calls Try.prog 30 #[.pointer (some ⟨rb, 0, none⟩), .int .i64 (op : Int)] w (RVPost rb d l w) := by
  intro d
  induction d with
  | zero => exact fun op l bad w hd h => rdv_deep op rb l bad w h (by omega)
  | succ d ih =>
    intro op l bad w hd h
    cases hk : rdUint 8 l with
    | none => exact rdv_none d op rb l bad w h hd hk
    | some p =>
      obtain ⟨k, l1⟩ := p
      have hk8 : k ≤ 8 := rdUint_le hk
      have ih' := fun (l : List UInt8) (bad : Bool) (w : World) (h : Rd w rb l bad) => ih (op + 1) l bad w (by omega) h
      have hc : k = 0 ∨ k = 1 ∨ k = 2 ∨ k = 3 ∨ k = 4 ∨ k = 5 ∨ k = 6 ∨ k = 7 ∨ k = 8 := by omega
      rcases hc with rfl | rfl | rfl | rfl | rfl | rfl | rfl | rfl | rfl
      · exact rdv_k0 d op rb l l1 bad w h hd hk
      · exact rdv_k1 d op rb l l1 bad w h hd hk
      · exact rdv_k2 d op rb l l1 bad w h hd hk
      · exact rdv_k3 d op rb l l1 bad w h hd hk
      · exact rdv_k4 d op rb l l1 bad w h hd hk
      · exact rdv_k5 d op rb l l1 bad w h hd hk ih'
      · exact rdv_k6 d op rb l l1 bad w h hd hk ih'
      · exact rdv_k7 d op rb l l1 bad w h hd hk
      · exact rdv_k8 d op rb l l1 bad w h hd hk

def zeroC : List Value := [.int .u8 0, .int .i64 0, .string ⟨#[]⟩, .slice none 0 0, .slice none 0 0]
theorem zero_vc (w : World) (G : Nat → Prop) : VC w G (.mk 0 0 [] [] []) zeroC :=
  .mk (KA := none) (LA := none) (kc := 0) (lc := 0) (cs := fun _ => []) (by omega) (by omega) (by simp) (by simp) (by simp) (by simp) (.inl rfl) (.inl rfl) (by simp)
/-- What Reader.Value has come to. -/
def VPost (rb : Nat) (l : List UInt8) (w : World) (e : Ending) (w' : World) : Prop :=
  ∃ cs, e = .returned (.agg cs.toArray) ∧ (∀ u ∈ cs, u.oneCell' = true) ∧ Fr (fun k => k = rb) w w' ∧
    ((∃ v r, rdV 24 l = some (v, r) ∧ VC w' (New w w') v cs ∧ Rd w' rb r false) ∨ (rdV 24 l = none ∧ cs = zeroC ∧ Rd w' rb [] true))
set_option maxRecDepth 100000 in
set_option maxHeartbeats 4000000 in
theorem rvalueM_any (rb : Nat) (l : List UInt8) (bad : Bool) (w : World) (h : Rd w rb l bad) :
    Calls Try.prog 20 #[.pointer (some ⟨rb, 0, none⟩)] w (VPost rb l w) := by
  have h1 : Rd (w.alloc (.cells #[.int .u8 0, .int .i64 0, .string ⟨#[]⟩, .slice none 0 0, .slice none 0 0] 27)) rb l bad := h.fr (F := fun _ => False) ((Fr.refl _ _).alloc _) (fun _ h => h.elim)
  have hb1 := Blk.new w 27 #[.int .u8 0, .int .i64 0, .string ⟨#[]⟩, .slice none 0 0, .slice none 0 0]
  have f1 : Fr (fun k => k = rb) w (w.alloc (.cells #[.int .u8 0, .int .i64 0, .string ⟨#[]⟩, .slice none 0 0, .slice none 0 0] 27)) := (Fr.refl _ _).alloc _
  obtain ⟨w1, hw1⟩ : ∃ w1, w.alloc (.cells #[.int .u8 0, .int .i64 0, .string ⟨#[]⟩, .slice none 0 0, .slice none 0 0] 27) = w1 := ⟨_, rfl⟩
  rw [hw1] at h1 hb1 f1
  have hs1 : w1.heap.size = w.heap.size + 1 := by rw [← hw1]; simp
  have hne : w.heap.size ≠ rb := h1.ne hb1
  have hv : Calls Try.prog 30 #[.pointer (some ⟨rb, 0, none⟩), .int .i64 0] w1 (RVPost rb 24 l w1) := rdv_any rb 24 0 l bad w1 (by omega) h1
  have Hv := hide hv
  have Hb1 := hide hb1
  have F1 := hide f1
  have Hs1 := hide hs1
  have Hne := hide hne
  have za := zeroV
  have bv := buildV0
  clear h h1 hb1 f1 hs1 hne hv
  go_enter Try.func20, Try.ntmps20
  go_wp2_with fail
  refine Hv.out.mono ?_
  rintro e w2 ⟨c0, c1, c2, c3, c4, rfl, h1c, hf2, hout⟩
  have hb2 := Hb1.out.fr hf2 Hne.out
  have hou : c0.oneCell' = true ∧ c1.oneCell' = true ∧ c2.oneCell' = true ∧ c3.oneCell' = true ∧ c4.oneCell' = true := ⟨h1c _ (by simp), h1c _ (by simp), h1c _ (by simp), h1c _ (by simp), h1c _ (by simp)⟩
  obtain ⟨o0, o1, o2, o3, o4⟩ := hou
  have Hall := hide (show (#[c0, c1, c2, c3, c4] : Array Value).all (·.oneCell') = true from all_oneCell_toArray h1c)
  have HB2 := hide hb2
  have F2 := hide (F1.out.trans' hf2 (fun _ _ h => h))
  have Hout := hide hout
  have Hsz1 := hide hf2.size
  clear hb2 hf2 hout h1c Hb1 F1 Hv
  go_upto_region 2 with (first
    | (refine wpList_store_mid rfl 27 (.tmp 3) (.tmp 5) rfl w2.heap.size 0 #[c0, c1, c2, c3, c4] rfl rfl (there_new _ _ _ _ (by show 5 ≤ 5; omega)) (by kernel_rfl) Hall.out ?_
       rw [show (#[c0, c1, c2, c3, c4] : Array Value).toList = [c0, c1, c2, c3, c4] from rfl, setCells_new _ _ _ _ (by rfl)]))
  obtain ⟨wv, hwv⟩ : ∃ wv, w2.alloc (.cells [c0, c1, c2, c3, c4].toArray 27) = wv := ⟨_, rfl⟩
  have fv : Fr (fun _ => False) w2 wv := by rw [← hwv]; exact (Fr.refl _ _).alloc _
  have Bv : Blk wv w2.heap.size 27 #[c0, c1, c2, c3, c4] := by rw [← hwv]; exact Blk.new _ _ _
  have Bz := HB2.out.fr fv (fun h => h)
  have FrW := F2.out.trans' fv (fun _ _ h => h.elim)
  have Hth := hide (show wv.there w.heap.size 0 5 from Blk.there (t := 27) Bz 0 5 (by simp))
  have hfs := Hsz1.out
  try rw [hwv]
  obtain ⟨vb, hvb⟩ : ∃ vb, w2.heap.size = vb := ⟨_, rfl⟩
  rw [hvb] at Bv ⊢
  have v0 := Bv.cell 0
  have v1 := Bv.cell 1
  have v2 := Bv.cell 2
  have v3 := Bv.cell 3
  have v4 := Bv.cell 4
  rcases Hout.out with ⟨v, r, hq, hv, hrd⟩ | ⟨hq, hrd⟩
  · have RW := hrd.fr fv (fun _ h => h.elim)
    have HV := hide (hv.fr fv (fun _ _ h => h))
    have Hq := hide hq
    have Hfs := hide fv.size
    clear hv hq hrd fv hwv hvb hfs HB2 F2 Hout Bv
    have FZ : Fr (fun q => q = w.heap.size) wv (wv.setCells w.heap.size 0 [c0, c1, c2, c3, c4]) := (((((Fr.refl (fun q => q = w.heap.size) wv).put1 0 _).put1 1 _).put1 2 _).put1 3 _).put1 4 _
    have q1 := Bz.set_ 0 (c0)
    have q2 := q1.set_ 1 (c1)
    have q3 := q2.set_ 2 (c2)
    have q4 := q3.set_ 3 (c3)
    have q5 := q4.set_ 4 (c4)
    have r0 : (wv.setCells w.heap.size 0 [c0, c1, c2, c3, c4]).cell? ⟨w.heap.size, 0, none⟩ = some (c0) := q5.cell 0
    have r1 : (wv.setCells w.heap.size 0 [c0, c1, c2, c3, c4]).cell? ⟨w.heap.size, 1, none⟩ = some (c1) := q5.cell 1
    have r2 : (wv.setCells w.heap.size 0 [c0, c1, c2, c3, c4]).cell? ⟨w.heap.size, 2, none⟩ = some (c2) := q5.cell 2
    have r3 : (wv.setCells w.heap.size 0 [c0, c1, c2, c3, c4]).cell? ⟨w.heap.size, 3, none⟩ = some (c3) := q5.cell 3
    have r4 : (wv.setCells w.heap.size 0 [c0, c1, c2, c3, c4]).cell? ⟨w.heap.size, 4, none⟩ = some (c4) := q5.cell 4
    have hRf : Rd (wv.setCells w.heap.size 0 [c0, c1, c2, c3, c4]) rb r false := RW.apart FZ (fun e => Hne.out e.symm) (fun q hq => .inr ⟨27, #[.int .u8 0, .int .i64 0, .string ⟨#[]⟩, .slice none 0 0, .slice none 0 0], by decide, by have e : q = w.heap.size := hq; rw [e]; exact Bz⟩)
    have z0 := Bz.cell 0
    have y0 := Bz.frozen 0
    have z1 := Bz.cell 1
    have y1 := Bz.frozen 1
    have z2 := Bz.cell 2
    have y2 := Bz.frozen 2
    have z3 := Bz.cell 3
    have y3 := Bz.frozen 3
    have z4 := Bz.cell 4
    have y4 := Bz.frozen 4
    have Hr := hide (show _ ∧ _ ∧ _ ∧ _ ∧ _ from ⟨r0, r1, r2, r3, r4⟩)
    have HZ := hide FZ
    have HR := hide hRf
    have HBd := hide (rbad_any rb _ _ wv RW)
    have HF := hide FrW
    clear FZ hRf q1 q2 q3 q4 q5 r0 r1 r2 r3 r4 FrW Bz RW
    go_wp2_with (first | (go_at_call 23; refine HBd.out.mono ?_; rintro e w'' ⟨rfl, rfl⟩) | (refine wpList_store_mid rfl 27 (.tmp 2) (.tmp 9) rfl w.heap.size 0 #[c0, c1, c2, c3, c4] rfl rfl Hth.out (by kernel_rfl) Hall.out ?_))
    obtain ⟨r0, r1, r2, r3, r4⟩ := Hr.out
    refine bodyPost_ret (v := .agg #[c0, c1, c2, c3, c4]) (by simp [results, Try.results20, go_sem, r0, r1, r2, r3, r4, Result.andThen]) rfl ⟨[c0, c1, c2, c3, c4], rfl, ?_, (HF.out.trans' HZ.out (fun q hq (e : q = w.heap.size) => absurd hq (by omega))), .inl ⟨v, r, Hq.out, (HV.out.fr HZ.out (fun q hq e => by have h1 : w1.heap.size ≤ q := hq.1; have := Hs1.out; have e : q = w.heap.size := e; omega)).mono (fun q hq => ⟨by have h1 : w1.heap.size ≤ q := hq.1; have := Hs1.out; omega, Nat.lt_of_lt_of_le hq.2 (Nat.le_trans Hfs.out HZ.out.size)⟩), HR.out⟩⟩
    intro u hu
    simp only [List.mem_cons, List.not_mem_nil, or_false] at hu
    rcases hu with rfl | rfl | rfl | rfl | rfl <;> first | rfl | exact o0 | exact o1 | exact o2 | exact o3 | exact o4
  · have RW := hrd.fr fv (fun _ h => h.elim)
    have Hq := hide hq
    clear hq hrd fv hwv hvb hfs HB2 F2 Hout Bv
    have FZ : Fr (fun q => q = w.heap.size) wv (((((wv.setCell ⟨w.heap.size, 0, none⟩ (.int .u8 0)).setCell ⟨w.heap.size, 1, none⟩ (.int .i64 0)).setCell ⟨w.heap.size, 2, none⟩ (.string ⟨#[]⟩)).setCell ⟨w.heap.size, 3, none⟩ (.slice none 0 0)).setCell ⟨w.heap.size, 4, none⟩ (.slice none 0 0)) := (((((Fr.refl (fun q => q = w.heap.size) wv).put1 0 _).put1 1 _).put1 2 _).put1 3 _).put1 4 _
    have q1 := Bz.set_ 0 (.int .u8 0)
    have q2 := q1.set_ 1 (.int .i64 0)
    have q3 := q2.set_ 2 (.string ⟨#[]⟩)
    have q4 := q3.set_ 3 (.slice none 0 0)
    have q5 := q4.set_ 4 (.slice none 0 0)
    have r0 : (((((wv.setCell ⟨w.heap.size, 0, none⟩ (.int .u8 0)).setCell ⟨w.heap.size, 1, none⟩ (.int .i64 0)).setCell ⟨w.heap.size, 2, none⟩ (.string ⟨#[]⟩)).setCell ⟨w.heap.size, 3, none⟩ (.slice none 0 0)).setCell ⟨w.heap.size, 4, none⟩ (.slice none 0 0)).cell? ⟨w.heap.size, 0, none⟩ = some (.int .u8 0) := q5.cell 0
    have r1 : (((((wv.setCell ⟨w.heap.size, 0, none⟩ (.int .u8 0)).setCell ⟨w.heap.size, 1, none⟩ (.int .i64 0)).setCell ⟨w.heap.size, 2, none⟩ (.string ⟨#[]⟩)).setCell ⟨w.heap.size, 3, none⟩ (.slice none 0 0)).setCell ⟨w.heap.size, 4, none⟩ (.slice none 0 0)).cell? ⟨w.heap.size, 1, none⟩ = some (.int .i64 0) := q5.cell 1
    have r2 : (((((wv.setCell ⟨w.heap.size, 0, none⟩ (.int .u8 0)).setCell ⟨w.heap.size, 1, none⟩ (.int .i64 0)).setCell ⟨w.heap.size, 2, none⟩ (.string ⟨#[]⟩)).setCell ⟨w.heap.size, 3, none⟩ (.slice none 0 0)).setCell ⟨w.heap.size, 4, none⟩ (.slice none 0 0)).cell? ⟨w.heap.size, 2, none⟩ = some (.string ⟨#[]⟩) := q5.cell 2
    have r3 : (((((wv.setCell ⟨w.heap.size, 0, none⟩ (.int .u8 0)).setCell ⟨w.heap.size, 1, none⟩ (.int .i64 0)).setCell ⟨w.heap.size, 2, none⟩ (.string ⟨#[]⟩)).setCell ⟨w.heap.size, 3, none⟩ (.slice none 0 0)).setCell ⟨w.heap.size, 4, none⟩ (.slice none 0 0)).cell? ⟨w.heap.size, 3, none⟩ = some (.slice none 0 0) := q5.cell 3
    have r4 : (((((wv.setCell ⟨w.heap.size, 0, none⟩ (.int .u8 0)).setCell ⟨w.heap.size, 1, none⟩ (.int .i64 0)).setCell ⟨w.heap.size, 2, none⟩ (.string ⟨#[]⟩)).setCell ⟨w.heap.size, 3, none⟩ (.slice none 0 0)).setCell ⟨w.heap.size, 4, none⟩ (.slice none 0 0)).cell? ⟨w.heap.size, 4, none⟩ = some (.slice none 0 0) := q5.cell 4
    have hRf : Rd (((((wv.setCell ⟨w.heap.size, 0, none⟩ (.int .u8 0)).setCell ⟨w.heap.size, 1, none⟩ (.int .i64 0)).setCell ⟨w.heap.size, 2, none⟩ (.string ⟨#[]⟩)).setCell ⟨w.heap.size, 3, none⟩ (.slice none 0 0)).setCell ⟨w.heap.size, 4, none⟩ (.slice none 0 0)) rb [] true := RW.apart FZ (fun e => Hne.out e.symm) (fun q hq => .inr ⟨27, #[.int .u8 0, .int .i64 0, .string ⟨#[]⟩, .slice none 0 0, .slice none 0 0], by decide, by have e : q = w.heap.size := hq; rw [e]; exact Bz⟩)
    have z0 := Bz.cell 0
    have y0 := Bz.frozen 0
    have z1 := Bz.cell 1
    have y1 := Bz.frozen 1
    have z2 := Bz.cell 2
    have y2 := Bz.frozen 2
    have z3 := Bz.cell 3
    have y3 := Bz.frozen 3
    have z4 := Bz.cell 4
    have y4 := Bz.frozen 4
    have Hr := hide (show _ ∧ _ ∧ _ ∧ _ ∧ _ from ⟨r0, r1, r2, r3, r4⟩)
    have HZ := hide FZ
    have HR := hide hRf
    have HBd := hide (rbad_any rb _ _ wv RW)
    have HF := hide FrW
    clear FZ hRf q1 q2 q3 q4 q5 r0 r1 r2 r3 r4 FrW Bz RW
    go_wp2_with (first | (go_at_call 23; refine HBd.out.mono ?_; rintro e w'' ⟨rfl, rfl⟩))
    obtain ⟨r0, r1, r2, r3, r4⟩ := Hr.out
    refine bodyPost_ret (v := .agg #[.int .u8 0, .int .i64 0, .string ⟨#[]⟩, .slice none 0 0, .slice none 0 0]) (by simp [results, Try.results20, go_sem, r0, r1, r2, r3, r4, Result.andThen]) rfl ⟨[.int .u8 0, .int .i64 0, .string ⟨#[]⟩, .slice none 0 0, .slice none 0 0], rfl, ?_, (HF.out.trans' HZ.out (fun q hq (e : q = w.heap.size) => absurd hq (by omega))), .inr ⟨Hq.out, rfl, HR.out⟩⟩
    intro u hu
    simp only [List.mem_cons, List.not_mem_nil, or_false] at hu
    rcases hu with rfl | rfl | rfl | rfl | rfl <;> first | rfl | exact o0 | exact o1 | exact o2 | exact o3 | exact o4
end Go.Proofs.Yteoimkjocijcjaa
