/-
  What is handed in may be written over behind the call, and so may what is told: BlockKeeps answers true for every bytes; no condition.
-/
import Derived.Test.YtfplafdpdfhpiaaOn
import Derived.Test.YtfplafdpdfhpiaaLaw
namespace Go.Proofs.Ytfplafdpdfhpiaa
open Go.RowKit Go.ChangeShapes Go.WideShapes Go.ChangeAt

set_option maxHeartbeats 1000000 in
theorem keeps_short (A : Option Addr) (l c : Nat) (w : World) (h : l = 0 ∨ 64 < l) :
    Calls Try.prog 6 #[.slice A l c] w fun e w' => e = .returned (.bool true) ∧ Below w.heap.size w w' := by
  rcases h with rfl | h
  · go_enter Try.func6, Try.ntmps6
    go_wp2_with fail
    refine (awake_any _).mono ?_
    rintro e w1 ⟨rfl, hb⟩
    have Hb := hide hb
    clear hb
    go_wp2_with fail
    refine (awake_any _).mono ?_
    rintro e w2 ⟨rfl, hb⟩
    have Hb2 := hide hb
    clear hb
    go_wp2
    go_ret
    exact ⟨rfl, Hb.out.trans (Hb2.out.mono Hb.out.size)⟩
  · have h0 : ((l : Int) == 0) = false := by rw [beq_eq_false_iff_ne]; omega
    go_enter Try.func6, Try.ntmps6
    go_wp2_with fail
    refine (awake_any _).mono ?_
    rintro e w1 ⟨rfl, hb⟩
    have Hb := hide hb
    clear hb
    go_wp2_with fail
    refine (awake_any _).mono ?_
    rintro e w2 ⟨rfl, hb⟩
    have Hb2 := hide hb
    clear hb
    go_wp2
    go_ret
    exact ⟨rfl, Hb.out.trans (Hb2.out.mono Hb.out.size)⟩

set_option maxHeartbeats 600000 in
theorem keeps_any (A : Option Addr) (c : Nat) (l : List UInt8) (w : World) (hl0 : 1 ≤ l.length) (hl : l.length ≤ 64) (hb : Bytes w A l) :
    Calls Try.prog 6 #[.slice A l.length c] w fun e w' => e = .returned (.bool true) ∧ Below w.heap.size w w' := by
  have h0 : ((l.length : Int) == 0) = false := by rw [beq_eq_false_iff_ne]; omega
  have Hb := hide hb
  clear hb
  go_enter Try.func6, Try.ntmps6
  go_wp2_with fail
  refine (awake_any _).mono ?_
  rintro e w1 ⟨rfl, hb1⟩
  have Hb1 := hide hb1
  clear hb1
  go_wp2_with fail
  have c0 : Calls Try.prog 11 #[.int .i64 1] w1 (NewPost 1 w1) := new_any 1 w1 (by decide) (by decide)
  refine c0.mono ?_
  intro e w2 hn
  obtain ⟨b, F, rfl, hon, _, _⟩ := On.of_new Hb1.out hn
  have Hon := hide hon
  clear hon hn c0
  obtain ⟨g, o, rfl, hrg⟩ : ∃ g o, A = some ⟨g, o, none⟩ ∧ w.rangeAt g o (B8s l) := by
    rcases Hb.out with h | h
    · rw [h] at hl0; simp at hl0
    · exact h
  have hr2 : w2.rangeAt g o (B8s l) := by
    rcases Hon.out.bytes Hb.out with h | ⟨g', o', he, h⟩
    · rw [h] at hl0; simp at hl0
    · cases he; exact h
  have Hr2 := hide hr2
  clear hrg hr2
  go_upto_region 5 with (refine wpList_append_at w2 rfl (.const (.slice none 0 0)) (.tmp 29) 31 rfl 0 5 (.int .u8 0) 1 1 Try.underlying31 infoU8 rfl (by decide) none 0 0 [] rfl (World.ownsRow_nil _ _ _ _) ⟨g, o, none⟩ l.length c (B8s l) rfl (by rw [B8s_length, Nat.mul_one]) (fun j u hu => by rw [Addr.add_mid]; exact Hr2.out j u hu) (B8s_one l) (by simp only [maxLen]; omega) (by omega) (Nat.zero_le _) ?_
                         intro A' c' w3 hown hf3 hnew)
  simp only [Nat.zero_add, List.nil_append] at hown ⊢
  have hon3 := Hon.out.fr hf3 (fun k _ hk => by simp [Value.ownBlock] at hk) (fun k hk => by simp [Value.ownBlock] at hk)
  obtain ⟨g', cap, cur, hA', hblk, hcap, hcs, hct⟩ : ∃ g' cap cur, (Value.slice A' l.length c') = .slice (some ⟨g', 0, none⟩) l.length cap ∧ Blk w3 g' 5 cur ∧ l.length ≤ cap ∧ cur.size = cap ∧ cur.toList.take l.length = B8s l := by
    rcases hown.2 with ⟨_, h⟩ | ⟨g', cap, cur, he, _, hg, hc, _, hs, ht⟩
    · omega
    · exact ⟨g', cap, cur, he, hg, hc, by omega, by rw [Nat.mul_one] at ht; exact ht⟩
  injection hA' with hA1 _ hA2
  subst hA1 hA2
  have hg'n : ¬ F g' := fun hF => by
    rcases hnew g' rfl with h | h
    · simp [Value.ownBlock] at h
    · have := Hon.out.lt g' hF; omega
  have hg'0 : w.heap.size ≤ g' := by
    rcases hnew g' rfl with h | h
    · simp [Value.ownBlock] at h
    · exact Nat.le_trans Hon.out.below.size h
  have hcb : Bytes w3 (some ⟨g', 0, none⟩) l := .inr ⟨g', 0, rfl, hblk.range 0 _ (fun j v hv => by
    rw [Nat.zero_add, ← Array.getElem?_toList]
    rw [← hct, List.getElem?_take] at hv
    split at hv
    · exact hv
    · cases hv)⟩
  have k3 : ∃ u, cur[0]? = some (.int .u8 u) := by
    cases l with
    | nil => simp at hl0
    | cons x r =>
      refine ⟨(x.toNat : Int), ?_⟩
      have : (cur.toList.take (x :: r).length)[0]? = (B8s (x :: r))[0]? := by rw [hct]
      rw [List.getElem?_take, if_pos (by simp)] at this
      rw [← Array.getElem?_toList, this]
      rfl
  have Hon3 := hide hon3
  have Hblk := hide hblk
  have Hcs := hide hcs
  clear hon3 hown hf3 hnew Hon hct hblk hcs
  go_wp2_with fail
  have hs0 : (Dk.new 1).Small := ⟨by decide, by decide, by decide⟩
  have hwe : (Dk.new 1).writeE 0 l.length = 0 := by
    unfold Dk.writeE
    rw [if_neg (by decide), if_neg (by omega)]
    decide
  have hwd : (Dk.new 1).writeD 0 l = ((Dk.new 1).wrote 0 l).begun := by
    unfold Dk.writeD
    rw [if_neg (by decide), if_neg (by omega)]
    rfl
  have c1 := write_all b F (Dk.new 1) 0 _ c' _ l w3 Hon3.out.disk rfl hcb hs0
  rw [hwe, hwd] at c1
  clear hwe hwd
  refine c1.mono ?_
  intro e w4 hlv
  obtain ⟨rfl, F4, hon4, hf4, hn4⟩ := Hon3.out.leaves hlv
  have hblk4 : Blk w4 g' 5 cur := Hblk.out.fr hf4 hg'n
  have hg4 : ¬ F4 g' := fun hF => (hn4 g' hF).elim hg'n (fun h => by have := Hblk.out.lt; omega)
  have Hon4 := hide hon4
  have Hblk4 := hide hblk4
  have k4 : ∃ u, w4.cell? ⟨g', 0, none⟩ = some (.int .u8 u) := by
    obtain ⟨u, hu⟩ := k3
    exact ⟨u, by rw [hblk4.cell]; exact hu⟩
  obtain ⟨u4, k4⟩ := k4
  have z4 : w4.frozen? ⟨g', 0, none⟩ = false := hblk4.frozen 0
  clear hon4 hblk4 hlv hf4 hn4 c1 hcb k3
  go_wp2_with fail
  generalize hu5 : (Value.int .u8 (bits .xor .u8 u4 1)) = u5 at *
  have hon5 := Hon4.out.setCell g' 0 u5 hg4 hg'0
  have hr5 : refuse ((Dk.new 1).wrote 0 l).begun 0 = 0 := rfl
  have c5 := hon5.read 0 hr5 (pad l) rfl
  refine c5.mono ?_
  rintro e w6 ⟨ga, rfl, hon6, hblk6, hga, hga0, hf6, _⟩
  have hb6 : Bytes w6 (some ⟨g, o, none⟩) l := hon6.bytes Hb.out
  have hpl := pad_len l hl
  have hst1 : ∀ n, (convert 31 9 (.slice (some ⟨ga, 0, none⟩) l.length 64)).run Try.prog (w6.drewN n) = .ok (.string ⟨l.toArray⟩) (w6.drewN n) := fun n =>
    run_str_bytes _ _ _ 5 Try.underlying31 Try.underlying5 Try.underlying9 _ l.length 64 l rfl (by
      have h := hblk6.bytes.take l.length
      rw [pad_take] at h
      exact h.fr (F := fun _ => False) ((Fr.refl _ _).drewN n) (fun _ _ h => h))
  have hst2 : ∀ n, (convert 31 9 (.slice (some ⟨g, o, none⟩) l.length c)).run Try.prog (w6.drewN n) = .ok (.string ⟨l.toArray⟩) (w6.drewN n) := fun n =>
    run_str_bytes _ _ _ 5 Try.underlying31 Try.underlying5 Try.underlying9 _ l.length c l rfl (hb6.fr (F := fun _ => False) ((Fr.refl _ _).drewN n) (fun _ _ h => h))
  have Hon6 := hide hon6
  have Hblk6 := hide hblk6
  clear hon6 hblk6 hb6 hon5 c5 hf6
  go_upto_region 9 with fail
  go_quiet (fail)
  obtain ⟨w7, hw7⟩ : ∃ w7, w7 = w6.drewN nq := ⟨_, rfl⟩
  rw [← hw7]
  have hon7 : On w w7 b F4 ((Dk.new 1).wrote 0 l).begun := by rw [hw7]; exact Hon6.out.drewN _
  have hblk7 : Blk w7 ga 5 (B8s (pad l)).toArray := by rw [hw7]; exact Blk.drewN Hblk6.out _
  clear hst1 hst2 hw7
  obtain ⟨x, r, hxr⟩ := pad_cons l hl
  have k7 : w7.cell? ⟨ga, 0, none⟩ = some (.int .u8 (x.toNat : Int)) := by rw [hblk7.cell, hxr]; rfl
  have z7 : w7.frozen? ⟨ga, 0, none⟩ = false := hblk7.frozen 0
  have hga1 : w.heap.size ≤ ga := by
    refine Nat.le_trans Hon4.out.below.size (Nat.le_trans ?_ hga0)
    simp [World.setCell]
  have Hxr := hide hxr
  have Hon7 := hide hon7
  have Hblk7 := hide hblk7
  clear hxr hon7 hblk7 Hon4 Hblk4 Hon6 Hblk6 k4 z4
  go_wp2_with fail
  generalize hu8 : (Value.int .u8 (bits .xor .u8 (x.toNat : Int) 2)) = u8 at *
  have hon8 := Hon7.out.setCell ga 0 u8 hga hga1
  have hs5 : (((Dk.new 1).wrote 0 l).begun).Small := ⟨by simp [Dk.begun, Dk.wrote, Dk.new], by simp [Dk.begun, Dk.wrote, Dk.new], by simp [Dk.begun, Dk.wrote, Dk.new]⟩
  refine (sync_all b F4 _ _ hon8.disk hs5).mono ?_
  intro e w9 hlv
  obtain ⟨rfl, F9, hon9, _, _⟩ := hon8.leaves hlv
  have Hon9 := hide hon9
  clear hon9 hlv hon8 Hon7 Hblk7 k7 z7
  go_wp2_with fail
  have hr9 : refuse (((Dk.new 1).wrote 0 l).begun).syncD 0 = 0 := rfl
  refine (Hon9.out.read 0 hr9 (pad l) rfl).mono ?_
  rintro e w10 ⟨gb, rfl, hon10, hblk10, hgb, hgb0, _, _⟩
  have k10 : w10.cell? ⟨gb, 0, none⟩ = some (.int .u8 (x.toNat : Int)) := by rw [hblk10.cell, Hxr.out]; rfl
  have z10 : w10.frozen? ⟨gb, 0, none⟩ = false := hblk10.frozen 0
  have hgb1 : w.heap.size ≤ gb := Nat.le_trans Hon9.out.below.size hgb0
  have Hon10 := hide hon10
  clear hon10 hblk10 Hon9
  go_wp2_with fail
  generalize hu11 : (Value.int .u8 (bits .xor .u8 (x.toNat : Int) 4)) = u11 at *
  have hon11 := Hon10.out.setCell gb 0 u11 hgb hgb1
  refine (hon11.read 0 hr9 (pad l) rfl).mono ?_
  rintro e w12 ⟨gc, rfl, hon12, hblk12, hgc, hgc0, _, _⟩
  have hb12 : Bytes w12 (some ⟨g, o, none⟩) l := hon12.bytes Hb.out
  have hst1 : ∀ n, (convert 31 9 (.slice (some ⟨gc, 0, none⟩) l.length 64)).run Try.prog (w12.drewN n) = .ok (.string ⟨l.toArray⟩) (w12.drewN n) := fun n =>
    run_str_bytes _ _ _ 5 Try.underlying31 Try.underlying5 Try.underlying9 _ l.length 64 l rfl (by
      have h := hblk12.bytes.take l.length
      rw [pad_take] at h
      exact h.fr (F := fun _ => False) ((Fr.refl _ _).drewN n) (fun _ _ h => h))
  have hst2 : ∀ n, (convert 31 9 (.slice (some ⟨g, o, none⟩) l.length c)).run Try.prog (w12.drewN n) = .ok (.string ⟨l.toArray⟩) (w12.drewN n) := fun n =>
    run_str_bytes _ _ _ 5 Try.underlying31 Try.underlying5 Try.underlying9 _ l.length c l rfl (hb12.fr (F := fun _ => False) ((Fr.refl _ _).drewN n) (fun _ _ h => h))
  have Hon12 := hide hon12
  clear hon12 hblk12 hb12 hon11 Hon10 k10 z10
  go_upto_region 16 with fail
  go_quiet (fail)
  go_wp2
  go_ret
  exact ⟨rfl, (Hon12.out.drewN _).below⟩

theorem keeps_walk (A : Option Addr) (c : Nat) (l : List UInt8) (w : World) (hb : Bytes w A l) :
    Calls Try.prog 6 #[.slice A l.length c] w fun e w' => e = .returned (.bool true) ∧ Below w.heap.size w w' := by
  by_cases h : l.length = 0 ∨ 64 < l.length
  · exact keeps_short A l.length c w h
  · exact keeps_any A c l w (by omega) (by omega) hb

set_option maxRecDepth 100000 in
theorem blockKeeps_lifted (os : Os) (started : os.Started) (H : Type) (enc : TypeId × Value → H) :
    ReturnsInHanded {} Try.checked os 6 .any (Rows.blockKeepsSpec.pre6 enc Try.prog Try.f6 Rows.blockKeepsRow.domain false) (Rows.blockKeepsSpec.post enc Try.prog Try.f6 false true false false) := by
  refine returnsInHanded_of_change (C := Try.checked) own0 started (by kernel_rfl) Try.func6
    (ChangeSpec.witness6 (enc := enc) (C := Try.checked) false ⟨#[], #[.slice none 0 0], []⟩ 8 (by kernel_rfl) (by kernel_rfl) (by kernel_rfl) (by kernel_rfl)) ?_
  intro W base args ds gs before hval0 hW _ _
  have hval : ∀ (j : Nat) t v, Try.f6.params[j]? = some t → args[j]? = some v → Value.okWide Try.prog W .any base t v := hval0
  have hW' := hW
  obtain ⟨p, q, hA0, hV, rfl, hfz, hnd⟩ := hW
  have hA : DataW.TrodAll enc Try.prog W 0 (fun _ => true) true Try.f6.params.toList args.toList ds p := hA0
  rw [Try.params6] at hA hval
  obtain ⟨v0, d0, rfl, rfl, h0⟩ := trodAll_one hA
  obtain ⟨rfl, rfl⟩ := trodVars_none hV
  obtain ⟨A0, c0, l0, rfl, b0, m0⟩ := open_bytes Try.underlying31 Try.underlying5 (by kernel_rfl) (hval 0 31 v0 rfl rfl) h0
  clear hA0 hval0
  refine (keeps_walk A0 c0 l0 W b0).mono fun e W' ⟨he, hb⟩ => ?_
  subst he
  exact ⟨_, rfl, law_close laid0 Try.underlying4 rfl rfl (by rw [Try.params6]; decide +kernel) hW' (fun gs hg => by subst hg; rfl) hb⟩

theorem blockKeeps_holds : Rows.BlockKeepsSaid :=
  OpenClaim.holds_of_wide 6 Try.f6 rfl rfl rfl rfl rfl rfl rfl ⟨rfl, rfl, rfl, rfl, rfl⟩ rfl rfl rfl rfl rfl (by kernel_rfl) Try.func6 (by kernel_rfl)
    (of_decide_eq_true (by kernel_rfl)) (by unfold Func.isWrapper; first | (rw [if_pos (by decide +kernel)]; kernel_rfl) | (rw [if_neg (by decide +kernel)]; exact ⟨rfl, rfl⟩))
    (fun os started H enc _ => blockKeeps_lifted os started H enc)

end Go.Proofs.Ytfplafdpdfhpiaa
