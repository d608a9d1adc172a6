/-
  Behind a Sync nothing waits, and no restart changes anything: BlockSyncs answers true for every script and numbers; no condition.
-/
import Derived.Test.YtfplafdpdfhpiaaActs
import Derived.Deep.CutRange
import Derived.Deep.CutBlock
namespace Go.Proofs.Ytfplafdpdfhpiaa
open Go.RowKit Go.ChangeShapes Go.WideShapes Go.ChangeAt

/-- Unarmed, on, of 4 blocks, at most j operations. -/
structure Calm4 (D : Dk) (j : Nat) : Prop where
  n : D.n = 4
  fuse : D.fuse = 0
  off : D.off = false
  ops : D.ops ≤ j
  pend : D.pend.length ≤ j
theorem Calm4.small {D : Dk} {j : Nat} (h : Calm4 D j) (hj : j ≤ 1000) : D.Small := ⟨by have := h.ops; omega, by rw [h.fuse]; omega, by have := h.pend; omega⟩
theorem Calm4.write {D : Dk} {j : Nat} (h : Calm4 D j) (i : Int) (p : List UInt8) : Calm4 (D.writeD i p) (j + 1) := by
  unfold Dk.writeD
  split
  · exact ⟨h.n, h.fuse, h.off, Nat.le_succ_of_le h.ops, Nat.le_succ_of_le h.pend⟩
  · split
    · exact ⟨h.n, h.fuse, h.off, Nat.le_succ_of_le h.ops, Nat.le_succ_of_le h.pend⟩
    · exact ⟨h.n, by simp [Dk.begun, Dk.wrote, h.fuse], by simp [Dk.begun, Dk.wrote, h.fuse, h.off], Nat.succ_le_succ h.ops, by simp [Dk.begun, Dk.wrote]; exact h.pend⟩

def SyRel (w0 : World) (b : Nat) (i : Value) (wr : World) : Prop :=
  ∃ j : Nat, j ≤ 30 ∧ i = .int .i64 j ∧ ∃ F D, On w0 wr b F D ∧ Calm4 D j
def SyDone (w0 : World) (b : Nat) (wr : World) : Prop := ∃ F D, On w0 wr b F D ∧ Calm4 D 30

/-- So many blocks as strings. -/
def strs (V : Nat → List UInt8) (j : Nat) : List Value := (List.range j).map fun i => .string ⟨(V i).toArray⟩
theorem strs_succ (V : Nat → List UInt8) (j : Nat) : strs V (j + 1) = strs V j ++ [.string ⟨(V j).toArray⟩] := by simp [strs, List.range_succ]
theorem strs_get (V : Nat → List UInt8) (n j : Nat) (h : j < n) : (strs V n)[j]? = some (.string ⟨(V j).toArray⟩) := by
  simp [strs, List.getElem?_map, List.getElem?_range h]
theorem infoS : (Try.prog.info? 9).map (fun i => (i.zero, i.size, i.bytes)) = some (some (.string ⟨#[]⟩), 1, 16) := by kernel_rfl

def WasRel (w0 : World) (b : Nat) (F : Nat → Prop) (D : Dk) (V : Nat → List UInt8) (v i : Value) (wr : World) : Prop :=
  ∃ j : Nat, j ≤ 4 ∧ i = .int .i64 j ∧ On w0 wr b F D ∧ wr.ownsRow 0 9 1 v j (strs V j) ∧ ∀ k, v.ownBlock = some k → ¬ F k ∧ w0.heap.size ≤ k

def SeeRel (w0 : World) (b : Nat) (F : Nat → Prop) (D : Dk) (gv : Nat) (cur : Array Value) (i : Value) (wr : World) : Prop :=
  ∃ j : Nat, j ≤ 4 ∧ i = .int .i64 j ∧ On w0 wr b F D ∧ Blk wr gv 9 cur

set_option maxHeartbeats 1000000 in
theorem syncs_any (S : Option Addr) (c : Nat) (xs : List ActD) (keep torn : Int) (w : World) (hx : Acts w S xs) (hxl : xs.length ≤ 9223372036854775807) :
    Calls Try.prog 8 #[.slice S xs.length c, .int .i64 keep, .int .i64 torn] w fun e w' => e = .returned (.bool true) ∧ Below w.heap.size w w' := by
  have Hx := hide hx
  clear hx
  go_enter Try.func8, Try.ntmps8
  go_wp2_with fail
  refine (awake_any _).mono ?_
  rintro e w1 ⟨rfl, hb1⟩
  have Hb1 := hide hb1
  clear hb1
  go_wp2_with fail
  have c0 : Calls Try.prog 11 #[.int .i64 4] w1 (NewPost 4 w1) := new_any 4 w1 (by decide) (by decide)
  refine c0.mono ?_
  intro e w2 hn
  obtain ⟨b, F, rfl, hon, _, _⟩ := On.of_new Hb1.out hn
  have Hon := hide hon
  clear hon hn c0
  go_upto_block 0 with fail
  go_cut [9] from 23 to 45 (fun _ w' => SyDone w b w')
  case first =>
    go_wp2_with fail
    go_loopw [9] (fun i wr => SyRel w b i wr) (fun i _ => 30 - (intOf i).toNat)
    case atStart => exact ⟨0, by omega, rfl, F, _, Hon.out, ⟨rfl, rfl, rfl, Nat.le_refl _, Nat.le_refl _⟩⟩
    case round =>
      obtain ⟨j, hj, rfl, Fj, D, hon, hcalm⟩ := hrel
      by_cases hl : j < xs.length
      · by_cases h30 : j < 30
        · obtain ⟨a, ha⟩ : ∃ a, xs[j]? = some a := ⟨_, List.getElem?_eq_getElem hl⟩
          obtain ⟨g, o, rfl, hat⟩ : ∃ g o, S = some ⟨g, o, none⟩ ∧ ActAt wr g (o + j * 5) a := by
            rcases Hx.out.below hon.below with h | ⟨g, o, h1, h2⟩
            · rw [h] at hl; simp at hl
            · exact ⟨g, o, h1, h2 j a ha⟩
          have k1 := hat.i
          have k2 := hat.p
          have cw := fun i => write_all b Fj D i a.A a.c a.p.length a.p wr.drew hon.drew.disk rfl (hat.bytes.below (Below.refl _ _).drew (Nat.le_refl _)) (hcalm.small (by omega))
          have Cw := hide cw
          have Hon := hide hon
          have Hcalm := hide hcalm
          clear cw hon hcalm hat ha
          go_upto_region 7 with fail
          refine wp_region_tail 12 (by kernel_rfl) (by kernel_rfl) ?_
          simp only [List.take_succ_cons, List.take_zero, List.drop_succ_cons, List.drop_zero]
          iterate 12 still_step
          refine wpStill_nil ?_
          go_wp2_with fail
          refine (Cw.out _).mono ?_
          intro e w3 hlv
          obtain ⟨rfl, F3, hon3, _, _⟩ := Hon.out.drew.leaves hlv
          have Hon3 := hide hon3
          have Hcalm3 := hide (Hcalm.out.write (bits .and .i64 a.i 3) a.p)
          generalize Dk.writeE _ _ _ = ew
          clear hon3 hlv Cw
          go_wp2
          go_roundw
          case rel => exact ⟨j + 1, by omega, by go_num, F3, _, Hon3.out, Hcalm3.out⟩
          case measure => simp [intOf]; omega
        · obtain rfl : j = 30 := by omega
          have Hd := hide (show SyDone w b wr from ⟨Fj, D, hon, hcalm⟩)
          clear hon hcalm
          go_wp2
          go_meet
          case rel => exact Hd.out
      · have Hd := hide (show SyDone w b wr from ⟨Fj, D, hon, ⟨hcalm.n, hcalm.fuse, hcalm.off, Nat.le_trans hcalm.ops hj, Nat.le_trans hcalm.pend hj⟩⟩)
        clear hon hcalm
        go_wp2
        go_meet
        case rel => exact Hd.out
  case rest =>
    obtain ⟨F3, D, hon, hcalm⟩ := hcut
    have cs := sync_all b F3 D _ hon.disk (hcalm.small (by omega))
    have he : D.syncE = 0 := by unfold Dk.syncE begunE; rw [if_neg (by rw [hcalm.off]; decide), if_neg (by rw [hcalm.fuse]; decide)]
    have hd : D.syncD = ⟨4, view D.dur D.pend, [], D.ops + 1, 0, false⟩ := by
      unfold Dk.syncD
      rw [if_neg (by rw [hcalm.off]; decide), if_neg (by rw [hcalm.fuse]; decide)]
      simp [Dk.begun, Dk.synced, hcalm.n, hcalm.fuse, hcalm.off]
    rw [he, hd] at cs
    have hops := hcalm.ops
    have hm31 : D.ops + 1 ≤ 31 := by omega
    generalize view D.dur D.pend = V at *
    generalize D.ops + 1 = m at *
    have Cs := hide cs
    have Hon3 := hide hon
    clear cs he hd hon hcalm
    go_wp2_with fail
    refine Cs.out.mono ?_
    intro e w4 hlv
    obtain ⟨rfl, F4, hon4, _, _⟩ := Hon3.out.leaves hlv
    have cw := wait_at b F4 _ w4 hon4.disk
    have Cw := hide (show Calls _ _ _ _ (fun e w' => e = .returned (.int .i64 0) ∧ w4 = w') from cw)
    have Hon4 := hide hon4
    clear hon4 hlv cw Cs Hon3
    go_wp2_with fail
    refine Cw.out.mono ?_
    rintro e w5 ⟨rfl, rfl⟩
    clear Cw
    go_wp2_with fail
    go_loopw [10, 11] (fun v i wr => WasRel w b F4 ⟨4, V, [], m, 0, false⟩ V v i wr) (fun _ i _ => 4 - (intOf i).toNat)
    case atStart => exact ⟨0, by omega, rfl, Hon4.out, World.ownsRow_nil _ _ _ _, fun k hk => by cases hk⟩
    case round =>
      obtain ⟨j, hj, rfl, hon, hown, hfar⟩ := hrel
      by_cases hlt : j < 4
      · have cr := hon.read (j : Int) (by unfold refuse; rw [if_neg (by simp only; omega)]; rfl) (V j) rfl
        obtain ⟨Av, cv, rfl⟩ := own_form hown
        have Hon := hide hon
        have Hown := hide hown
        have Hfar := hide hfar
        have Cr := hide cr
        clear hon hown hfar cr
        go_wp2_with fail
        refine Cr.out.mono ?_
        rintro e w6 ⟨ga, rfl, hon6, hblk6, hga, hga0, hf6, hv64⟩
        have s1 : (convert 31 9 (.slice (some ⟨ga, 0, none⟩) 64 64)).run Try.prog w6 = .ok (.string ⟨(V j).toArray⟩) w6 := run_str_bytes _ _ _ 5 Try.underlying31 Try.underlying5 Try.underlying9 _ 64 64 _ hv64 hblk6.bytes
        have hown6 := own_fr Hown.out hf6 (fun _ _ h => h)
        have Hon6 := hide hon6
        have Hown6 := hide hown6
        have Hf6 := hide hf6
        clear hon6 hown6 hf6 hblk6 Cr Hon Hown
        go_upto_region 15 with fail
        have hnw : ∀ jj u, [Value.string ⟨(V j).toArray⟩][jj]? = some u → (w6.alloc (.cells #[.string ⟨(V j).toArray⟩] 9)).cell? ((⟨w6.heap.size, 0, none⟩ : Addr).add jj) = some u := fun jj u hu => by
          rw [Addr.add_mid, Nat.zero_add, (Blk.new w6 9 #[.string ⟨(V j).toArray⟩]).cell, List.getElem?_toArray]
          exact hu
        have h1w : ∀ u ∈ [Value.string ⟨(V j).toArray⟩], u.oneCell' = true := by intro u hu; rw [List.mem_singleton.1 hu]; rfl
        have hb1w : j + 1 ≤ maxLen := by simp only [maxLen]; omega
        have hb2w : (j + 1) * 16 ≤ 140737488355328 := by omega
        have Hnw := hide hnw
        have H1w := hide h1w
        have Hb1w := hide hb1w
        have Hb2w := hide hb2w
        clear hnw h1w hb1w hb2w
        go_wp2_with (at_builtin; refine wpList_append_at _ rfl (.tmp 64) (.tmp 67) 39 rfl 0 9 (.string ⟨#[]⟩) 1 16 Try.underlying39 infoS rfl (by decide) Av j cv (strs V j) rfl (Hown6.out.alloc _) ⟨w6.heap.size, 0, none⟩ 1 1 [.string ⟨(V j).toArray⟩] rfl rfl Hnw.out H1w.out Hb1w.out Hb2w.out (Nat.zero_le _) ?_; intro A' c' w7 hown7 hf7 hnew; have Hown7 := hide hown7; have Hf7 := hide hf7; have Hnew := hide hnew; clear hown7 hf7 hnew)
        have hsz6 : (w6.alloc (.cells #[.string ⟨(V j).toArray⟩] 9)).heap.size = w6.heap.size + 1 := by simp
        have hon7 := (Hon6.out.alloc (.cells #[.string ⟨(V j).toArray⟩] 9)).fr Hf7.out (fun k hk e => (Hfar.out k e).1 hk) (fun k e => (Hfar.out k e).2)
        have hown7' : w7.ownsRow 0 9 1 (.slice A' (j + 1) c') (j + 1) (strs V (j + 1)) := by rw [strs_succ]; exact Hown7.out
        have hfar7 : ∀ k, (Value.slice A' (j + 1) c').ownBlock = some k → ¬ F4 k ∧ w.heap.size ≤ k := by
          intro k hk
          rcases Hnew.out k hk with h | h
          · exact Hfar.out k h
          · have h3 := Hon6.out.below.size
            exact ⟨fun hF => by have h2 := Hon6.out.lt k hF; omega, by omega⟩
        go_roundw
        case rel => exact ⟨j + 1, by omega, by go_num, hon7, hown7', hfar7⟩
        case measure => simp [intOf]; omega
      · obtain rfl : j = 4 := by omega
        obtain ⟨Av, cv, rfl⟩ := own_form hown
        have cr := restart_all b F4 _ keep torn wr hon.disk ⟨by simp only; omega, by simp, by simp⟩
        have hD : Dk.restarted ⟨4, V, [], m, 0, false⟩ keep torn = ⟨4, V, [], m, 0, false⟩ := by
          simp [Dk.restarted, Dk.left, view]
        rw [hD] at cr
        obtain ⟨gv, cur, hAv, hbv, hcv, htv⟩ : ∃ gv cur, Av = some ⟨gv, 0, none⟩ ∧ Blk wr gv 9 cur ∧ 4 ≤ cv ∧ cur.toList.take 4 = strs V 4 := by
          rcases hown.2 with ⟨_, h⟩ | ⟨g', cap, cur, he, _, hg, hc, _, hs, ht⟩
          · omega
          · injection he with he1 _ he2
            exact ⟨g', cur, he1, hg, by omega, by rw [Nat.mul_one] at ht; exact ht⟩
        subst hAv
        have hfar' := hfar gv rfl
        have Hon5 := hide hon
        have Hbv := hide hbv
        have Htv := hide htv
        have Cr := hide cr
        clear hon hown hfar cr hD hbv htv
        go_wp2_with fail
        refine Cr.out.mono ?_
        intro e w8 hlv
        obtain ⟨rfl, F8, hon8, hf8, hs8⟩ := Hon5.out.leaves hlv
        have hbv8 : Blk w8 gv 9 cur := Hbv.out.fr hf8 hfar'.1
        have Hon8 := hide hon8
        have Hbv8 := hide hbv8
        clear hon8 hf8 hs8 hbv8 hlv Cr Hon5 Hbv
        go_wp2_with fail
        go_loopw [14] (fun i wr => SeeRel w b F8 ⟨4, V, [], m, 0, false⟩ gv cur i wr) (fun i _ => 4 - (intOf i).toNat)
        case atStart => exact ⟨0, by omega, rfl, Hon8.out, Hbv8.out⟩
        case round =>
          obtain ⟨j, hj, rfl, hon, hbv⟩ := hrel
          by_cases hlt : j < 4
          · have cr := hon.read (j : Int) (by unfold refuse; rw [if_neg (by simp only; omega)]; rfl) (V j) rfl
            have hcur : cur[j]? = some (.string ⟨(V j).toArray⟩) := by
              have := strs_get V 4 j hlt
              rw [← Htv.out, List.getElem?_take, if_pos hlt, Array.getElem?_toList] at this
              exact this
            have Hon := hide hon
            have Hbv := hide hbv
            have Hcur := hide hcur
            have Cr := hide cr
            clear hon hbv hcur cr
            go_wp2_with fail
            refine Cr.out.mono ?_
            rintro e w9 ⟨ga, rfl, hon9, hblk9, hga, hga0, hf9, hv64⟩
            have hbv9 := Hbv.out.fr hf9 (fun h => h)
            have s1 : ∀ n, (convert 31 9 (.slice (some ⟨ga, 0, none⟩) 64 64)).run Try.prog (w9.drewN n) = .ok (.string ⟨(V j).toArray⟩) (w9.drewN n) := fun n => run_str_bytes _ _ _ 5 Try.underlying31 Try.underlying5 Try.underlying9 _ 64 64 _ hv64 (Blk.drewN hblk9 n).bytes
            have k1 : w9.cell? ⟨gv, j, none⟩ = some (.string ⟨(V j).toArray⟩) := by rw [hbv9.cell]; exact Hcur.out
            have j0 : (0 : Int) ≤ (j : Int) := by omega
            have j4 : (j : Int) < 4 := by omega
            have Hon9 := hide hon9
            have Hbv9 := hide hbv9
            clear hon9 hblk9 hf9 hbv9 Cr Hon Hbv
            go_upto_region 21 with fail
            go_quiet (fail)
            have Hq := hide (Hon9.out.drewN nq)
            have Hq1 := hide (Blk.drewN Hbv9.out nq)
            go_wp2
            go_roundw
            case rel => exact ⟨j + 1, by omega, by go_num, Hq.out, Hq1.out⟩
            case measure => simp [intOf]; omega
          · obtain rfl : j = 4 := by omega
            have Hon := hide hon
            clear hon hbv
            go_wp2
            go_ret
            exact ⟨rfl, Hon.out.below⟩

set_option maxRecDepth 100000 in
theorem blockSyncs_lifted (os : Os) (started : os.Started) (H : Type) (enc : TypeId × Value → H) :
    ReturnsInHanded {} Try.checked os 8 .any (Rows.blockSyncsSpec.pre6 enc Try.prog Try.f8 Rows.blockSyncsRow.domain false) (Rows.blockSyncsSpec.post enc Try.prog Try.f8 false true false false) := by
  refine returnsInHanded_of_change (C := Try.checked) own0 started (by kernel_rfl) Try.func8
    (ChangeSpec.witness6 (enc := enc) (C := Try.checked) false ⟨#[], #[.slice none 0 0, .int .i64 0, .int .i64 0], []⟩ 8 (by kernel_rfl) (by kernel_rfl) (by kernel_rfl) (by kernel_rfl)) ?_
  intro W base args ds gs before hval0 hW _ _
  have hval : ∀ (j : Nat) t v, Try.f8.params[j]? = some t → args[j]? = some v → Value.okWide Try.prog W .any base t v := hval0
  have hW' := hW
  obtain ⟨p, q, hA0, hV, rfl, hfz, hnd⟩ := hW
  have hA : DataW.TrodAll enc Try.prog W 0 (fun _ => true) true Try.f8.params.toList args.toList ds p := hA0
  rw [Try.params8] at hA hval
  obtain ⟨v0, v1, v2, d0, d1, d2, p0, p1, p2, rfl, rfl, rfl, h0, h1, h2⟩ := trodAll_three hA
  obtain ⟨rfl, rfl⟩ := trodVars_none hV
  obtain ⟨A0, c0, l0, rfl, b0, m0⟩ := open_acts (hval 0 22 v0 rfl rfl) h0
  obtain ⟨x1, rfl, rfl, rfl, w1⟩ := open_int Try.underlying3 (hval 1 3 v1 rfl rfl) h1
  obtain ⟨x2, rfl, rfl, rfl, w2⟩ := open_int Try.underlying3 (hval 2 3 v2 rfl rfl) h2
  clear hA0 hval0
  refine (syncs_any A0 c0 l0 x1 x2 W b0 m0).mono fun e W' ⟨he, hb⟩ => ?_
  subst he
  exact ⟨_, rfl, law_close laid0 Try.underlying4 rfl rfl (by rw [Try.params8]; decide +kernel) hW' (fun gs hg => by subst hg; rfl) hb⟩

theorem blockSyncs_holds : Rows.BlockSyncsSaid :=
  OpenClaim.holds_of_wide 8 Try.f8 rfl rfl rfl rfl rfl rfl rfl ⟨rfl, rfl, rfl, rfl, rfl⟩ rfl rfl rfl rfl rfl (by kernel_rfl) Try.func8 (by kernel_rfl)
    (of_decide_eq_true (by kernel_rfl)) (by unfold Func.isWrapper; first | (rw [if_pos (by decide +kernel)]; kernel_rfl) | (rw [if_neg (by decide +kernel)]; exact ⟨rfl, rfl⟩))
    (fun os started H enc _ => blockSyncs_lifted os started H enc)

end Go.Proofs.Ytfplafdpdfhpiaa
