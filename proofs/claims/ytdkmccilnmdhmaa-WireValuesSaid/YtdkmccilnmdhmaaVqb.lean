/- Package wire: Reader.elements, lists. -/
import Derived.Test.YtdkmccilnmdhmaaVqa
import Derived.Test.YtdkmccilnmdhmaaRegionG
import Derived.Deep.CutRange
import Derived.Deep.CutBlock
namespace Go.Proofs.Ytdkmccilnmdhmaa
open Go.RowKit
theorem infoVV : (Try.prog.info? 25).map (fun i => (i.zero, i.size, i.bytes)) = some (some (.agg #[.int .u8 0, .int .i64 0, .string ⟨#[]⟩, .slice none 0 0, .slice none 0 0]), 5, 80) := by kernel_rfl

set_option maxRecDepth 100000 in
set_option maxHeartbeats 4000000 in
theorem elements_5 (d op rb vb : Nat) (l : List UInt8) (w : World) (h : Rd w rb l false) (_hop : op ≤ 24) (hb : Blk w vb 25 #[.int .u8 5, .int .i64 0, .string ⟨#[]⟩, .slice none 0 0, .slice none 0 0])
    (ih : ∀ (l : List UInt8) (bad : Bool) (w : World), Rd w rb l bad → Calls Try.prog 31 #[.pointer (some ⟨rb, 0, none⟩), .int .i64 (op : Int)] w (RVPost rb d l w)) :
    Calls Try.prog 43 #[.pointer (some ⟨rb, 0, none⟩), .pointer (some ⟨vb, 0, none⟩), .int .i64 (op : Int)] w (EPost rb vb d 5 l w) := by
  have hu : Calls Try.prog 41 #[.pointer (some ⟨rb, 0, none⟩), .int .u64 200] w (UPost rb .u64 ((rdUint 200 l).map fun x => ((x.1 : Int), x.2)) w) := ruint_all rb l false 200 w h (by omega)
  have hvr : vb ≠ rb := h.ne hb
  have Hvr := hide hvr
  have H1 := hide (show rb < w.heap.size from h.lt)
  have Hu := hide hu
  have Hb := hide hb
  have Hih := hide ih
  have H := hide h
  clear hu hb hvr ih h
  cases hz : rdUint 200 l with
  | none =>
    rw [hz] at Hu
    have Hz := hide hz
    clear hz
    go_enter Try.func43, Try.ntmps43
    go_wp2_with fail
    refine Hu.out.mono ?_
    rintro e w2 ⟨rfl, hr2, hf2⟩
    simp only [Option.map_none, Option.getD_none, Option.isNone_none] at hr2 ⊢
    have Hr := hide hr2
    have Hf := hide hf2
    clear hr2 hf2
    go_wp2_with fail
    go_loopw [8] (fun i wr => i = .int .u64 0 ∧ wr = w2) (fun _ _ => 0)
    case atStart => exact ⟨rfl, rfl⟩
    obtain ⟨rfl, rfl⟩ := hrel
    go_wp2
    go_end0
    exact ⟨rfl, Hf.out.mono (fun _ _ h => .inl h), none, none, 0, 0, 0, 0, Hb.out.fr Hf.out Hvr.out, .inr ⟨by rw [rdE, Hz.out]; rfl, Hr.out⟩⟩
  | some p =>
    obtain ⟨n, l1⟩ := p
    have hn : n ≤ 200 := rdUint_le hz
    have Hn := hide hn
    rw [hz] at Hu
    have Hz := hide hz
    clear hz
    go_enter Try.func43, Try.ntmps43
    go_wp2_with fail
    refine Hu.out.mono ?_
    rintro e w2 ⟨rfl, hr2, hf2⟩
    simp only [Option.map_some, Option.getD_some, Option.isNone_some] at hr2 ⊢
    have Hr := hide hr2
    have Hf := hide hf2
    clear hr2 hf2 Hu
    go_wp2_with fail
    go_loopw [8] (fun i wr => ERel rb vb d 5 n l1 w i wr) (fun i _ => n - (intOf i).toNat)
    case atStart =>
      refine ⟨0, none, none, 0, 0, [], [], [], l1, rfl, Nat.zero_le _, Hr.out, ⟨?_, Vals.nil _ _, rfl, (fun h => rfl), (fun _ => rfl), (fun x hx => by simp at hx), Hf.out.mono (fun _ _ h => .inl h), ?_⟩⟩
      · exact ⟨Hb.out.fr Hf.out Hvr.out, World.ownsRow_nil _ _ _ _, World.ownsRow_nil _ _ _ _, (fun g hg => (At.none_not hg).elim), (fun g hg => (At.none_not hg).elim), Hb.out.lt, Hf.out.size⟩
      · cases rdS d 5 (n - 0) l1 <;> rfl
    case round =>
      obtain ⟨i, KA, LA, kc, lc, ks, ls, css, lm, rfl, hi, hr, hE⟩ := hrel
      by_cases hin : i < n
      · have b0 := hE.e.blk.cell 0
        have Hlen := hide hE.nl
        have HM := hide (mid_five (by omega) hin hr hE)
        have Hin := hide hin
        obtain ⟨bad, hbad⟩ : ∃ bad, false = bad := ⟨_, rfl⟩
        rw [hbad] at HM
        clear hE hr Hr Hf H hi hin hbad
        go_upto_region 4 with fail
        clear b0
        refine wp_region_staged (fun W => Blk W vb 25 #[.int .u8 (5 : Nat), .int .i64 0, .string ⟨#[]⟩, .slice KA ks.length kc, .slice LA ls.length lc]) 9 (.read 0 (.read 1 (.read 2 (.read 3 (.read 4 (.read 5 (.read 7 (.fork 6 (.eff 8 .nil) 8 (.eff 6 .nil))))))))) (.eff 9 (.read 10 (.read 12 (.read 13 (.fork 11 (.eff 14 .nil) 14 (.eff 11 .nil)))))) (by kernel_rfl) (by kernel_rfl) (fun _ _ d _ _ h => by cases d <;> exact h) (HM.out.e.blk.drew) ?_
        simp only [Plan.ops, List.getElem?_toArray, List.getElem?_cons_zero, List.getElem?_cons_succ, Option.elim, List.drop_succ_cons, List.drop_zero]
        refine wpTree_read rfl (fun W hW => (by clear hW; go_simp; try with_reducible rfl)) ?_
        refine wpTree_read rfl (fun W hW => (by clear hW; go_simp; try with_reducible rfl)) ?_
        refine wpTree_read rfl (fun W hW => (by clear hW; go_simp; try with_reducible rfl)) ?_
        refine wpTree_read (v := .slice LA ls.length lc) rfl (fun W hW => (by have b4 := hW.cell 4; clear hW; go_simp; try with_reducible rfl)) ?_
        refine wpTree_read rfl (fun W hW => (by clear hW; go_simp; try with_reducible rfl)) ?_
        refine wpTree_read rfl (fun W hW => (by clear hW; go_simp; try with_reducible rfl)) ?_
        simp only [Act.put, List.setIfInBounds_toArray, List.set_cons_zero, List.set_cons_succ]
        refine wpTree_read (v := .int .i64 (ls.length : Nat)) rfl (fun W hW => (by clear hW; go_simp; try with_reducible rfl)) ?_
        simp only [Act.put, List.setIfInBounds_toArray, List.set_cons_zero, List.set_cons_succ]
        refine wpTree_fork ?_ ?_
        · refine wpEff_does rfl (fun K hK => ?_)
          have hrd : Rd wr.drew rb lm bad := HM.out.rd.fr (F := fun _ => False) (Fr.refl _ _).drew (fun _ h => h.elim)
          refine wp_call_by 31 #[.pointer (some ⟨rb, 0, none⟩), .int .i64 (op : Int)] (by kernel_rfl) (Hih.out lm bad wr.drew hrd) ?_
          rintro e w7 ⟨c0, c1, c2, c3, c4, rfl, h1, hf7, hout⟩
          have hf7 : Fr (fun q => q = rb) wr w7 := ((Fr.refl (fun q => q = rb) wr).drew).trans' hf7 (fun _ _ h => h)
          refine ⟨_, rfl, hK _ _ (HM.out.e.blk.fr hf7 Hvr.out) ?_⟩
          clear hK
          simp only [Act.put, List.setIfInBounds_toArray, List.set_cons_zero, List.set_cons_succ]
          refine wpTree_eff (wpEff_does rfl (fun K hK => ?_))
          refine wp_buildSlice_one 23 (.const (.agg #[.int .u8 0, .int .i64 0, .string ⟨#[]⟩, .slice none 0 0, .slice none 0 0])) rfl #[.int .u8 0, .int .i64 0, .string ⟨#[]⟩, .slice none 0 0, .slice none 0 0] rfl 25 5 80 (.agg #[.int .u8 0, .int .i64 0, .string ⟨#[]⟩, .slice none 0 0, .slice none 0 0]) Try.underlying23 infoVV (by omega) (by omega) rfl ?_
          obtain ⟨wd, hwd⟩ : ∃ wd, wd = w7.alloc (.cells #[.int .u8 0, .int .i64 0, .string ⟨#[]⟩, .slice none 0 0, .slice none 0 0] 25) := ⟨_, rfl⟩
          rw [← hwd]
          obtain ⟨zb, hzb⟩ : ∃ zb, zb = w7.heap.size := ⟨_, rfl⟩
          rw [← hzb]
          have hz : Blk wd zb 25 #[.int .u8 0, .int .i64 0, .string ⟨#[]⟩, .slice none 0 0, .slice none 0 0] := by rw [hwd, hzb]; exact Blk.new _ _ _
          have fa : Fr (fun _ => False) w7 wd := by rw [hwd]; exact (Fr.refl _ _).alloc _
          have hfd : Fr (fun q => q = rb) wr wd := hf7.trans' fa (fun _ _ h => h.elim)
          have hO : (∃ v r, rdV d lm = some (v, r) ∧ VC wd (New wr wd) v [c0, c1, c2, c3, c4] ∧ Rd wd rb r false) ∨ (rdV d lm = none ∧ Rd wd rb [] true) := by
            rcases hout with ⟨v, r, hv1, hv2, hv3⟩ | ⟨hv1, hv2⟩
            · exact .inl ⟨v, r, hv1, (hv2.fr fa (fun _ _ h => h)).mono (fun q hq => ⟨hq.1, Nat.lt_of_lt_of_le hq.2 fa.size⟩), hv3.fr fa (fun _ h => h.elim)⟩
            · exact .inr ⟨hv1, hv2.fr fa (fun _ h => h.elim)⟩
          refine hK _ _ (HM.out.e.blk.fr hfd Hvr.out) ?_
          clear hK hout hwd hzb fa hf7 hrd
          simp only [Act.put, List.setIfInBounds_toArray, List.set_cons_zero, List.set_cons_succ]
          refine wpTree_nil ?_
          refine wpTree_eff (wpEff_does rfl (fun K hK => ?_))
          have hEd := HM.out.e.fr hfd Hvr.out (fun q hq e => by have := HM.out.e.knew q hq; have := H1.out; omega) (fun q hq e => by have := HM.out.e.lnew q hq; have := H1.out; omega)
          refine wp_append_at wd (.tmp 29) (.tmp 34) 23 rfl 0 25 (.agg #[.int .u8 0, .int .i64 0, .string ⟨#[]⟩, .slice none 0 0, .slice none 0 0]) 5 80 Try.underlying23 infoVV rfl (by decide) LA ls.length lc _ rfl hEd.lown ⟨zb, 0, none⟩ 1 1 [.int .u8 0, .int .i64 0, .string ⟨#[]⟩, .slice none 0 0, .slice none 0 0] rfl rfl ?_ ?_ (by simp only [maxLen]; have := Hlen.out; have := Hin.out; have := Hn.out; omega) (by have := Hlen.out; have := Hin.out; have := Hn.out; omega) (Nat.zero_le _) ?_
          · intro j u hu
            rw [Addr.add_mid]
            exact (hz.range 0 [.int .u8 0, .int .i64 0, .string ⟨#[]⟩, .slice none 0 0, .slice none 0 0] (fun k v hv => by simpa using hv)) j u hu
          · intro u hu
            simp only [List.mem_cons, List.not_mem_nil, or_false] at hu
            rcases hu with rfl | rfl | rfl | rfl | rfl <;> rfl
          intro A9 c9 w9 ho9 hf9 hn9
          obtain ⟨g, rfl⟩ : ∃ g, A9 = some ⟨g, 0, none⟩ := by
            rcases ho9.2 with ⟨_, h0⟩ | ⟨g, cap, cur, he, _⟩
            · omega
            · injection he with he; exact ⟨g, he⟩
          have hn9' : ∀ q, At (some ⟨g, 0, none⟩) q → At LA q ∨ wd.heap.size ≤ q := fun q hq => (hn9 q (at_own.2 hq)).imp at_own.1 id
          have hf9' : Fr (At LA) wd w9 := hf9.mono (fun _ _ h => at_own.1 h)
          refine hK _ _ trivial ?_
          clear hK
          simp only [Act.put, List.setIfInBounds_toArray, List.set_cons_zero, List.set_cons_succ]
          refine wpTree_read (v := .pointer (some ⟨g, ls.length * 5, none⟩)) rfl (fun W hW => (by clear hW; go_simp; try (intro hh; omega))) ?_
          refine wpTree_read rfl (fun W hW => (by clear hW; go_simp; try with_reducible rfl)) ?_
          refine wpTree_read rfl (fun W hW => (by clear hW; go_simp; try with_reducible rfl)) ?_
          simp only [Act.put, List.setIfInBounds_toArray, List.set_cons_zero, List.set_cons_succ]
          have hth : w9.there g (ls.length * 5) 5 := by
            rcases ho9.2 with ⟨h0, _⟩ | ⟨g', cap, cur, he, hb, hgg, hcc, hm, hs, ht⟩
            · cases h0
            · injection he with he; injection he with he; injection he with he; subst he
              exact Blk.there (t := 25) hgg (ls.length * 5) 5 (by rw [hs]; have := Nat.mul_le_mul_right 5 hcc; omega)
          have hall : (#[c0, c1, c2, c3, c4] : Array Value).all (·.oneCell') = true := all_oneCell_toArray h1
          have hb9 := hEd.blk.fr hf9' (fun h' => by have := hEd.lnew _ h'; have := hEd.old; omega)
          have hgv : vb ≠ g := by
            have h2 := hEd.old
            rcases hn9' g ⟨_, rfl, rfl⟩ with h' | h'
            · have := hEd.lnew g h'; omega
            · have := hEd.le; omega
          refine wpTree_fork ?_ ?_
          · refine wpEff_does rfl (fun K hK => ?_)
            refine wp_store_mid 25 (.tmp 36) (.tmp 32) rfl g (ls.length * 5) #[c0, c1, c2, c3, c4] rfl rfl hth (by kernel_rfl) hall ?_
            refine hK _ _ trivial ?_
            clear hK
            have hb10 := hb9.fars hgv [c0, c1, c2, c3, c4] (ls.length * 5)
            simp only [Act.put, List.setIfInBounds_toArray, List.set_cons_zero, List.set_cons_succ]
            refine wpTree_eff (wpEff_does rfl (fun K hK => ?_))
            refine wp_store_cell1 23 (.tmp 38) (.tmp 35) rfl vb 4 (.slice (some ⟨g, 0, none⟩) (ls.length + 1) c9) rfl rfl rfl (by rw [hb10.cell 4]; rfl) (hb10.frozen 4) (by kernel_rfl) rfl ?_
            refine hK _ _ trivial ?_
            clear hK
            obtain ⟨w', hw'⟩ : ∃ w', w' = (w9.setCells g (ls.length * 5) [c0, c1, c2, c3, c4]).setCell ⟨vb, 4, none⟩ (.slice (some ⟨g, 0, none⟩) (ls.length + 1) c9) := ⟨_, rfl⟩
            try simp only [Act.put, List.setIfInBounds_toArray, List.set_cons_zero, List.set_cons_succ]
            rw [← hw']
            refine wpTree_nil ?_
            have hw2 := Or.inl (b := w' = (w9.setCell ⟨vb, 4, none⟩ (.slice (some ⟨g, 0, none⟩) (ls.length + 1) c9)).setCells g (ls.length * 5) [c0, c1, c2, c3, c4]) hw'
            clear hb10
            obtain ⟨r, bad', hr', hcase⟩ := mid_step HM.out Hin.out H1.out Hvr.out hfd hO ho9 hf9' hn9' rfl hw2 Hz.out
            have Hbd := hide (rbad_any rb r bad' w' hr')
            have Hr' := hide hr'
            clear hw2 hw' hr' ho9 hf9 hf9' hn9 hn9' hEd hth hall hb9 hO hz hfd h1 hgv
            cases bad' with
            | false =>
              rcases hcase with ⟨_, ls', css', hE'⟩ | ⟨h, _⟩
              · have HE' := hide hE'
                clear hE'
                go_wp2_with (go_at_call 23; refine Hbd.out.mono ?_; rintro e w'' ⟨rfl, rfl⟩)
                go_roundw
                case rel => exact ⟨i + 1, _, _, _, _, _, _, _, r, by go_num, by have := Hin.out; omega, Hr'.out, HE'.out⟩
                case measure => have := Hin.out; simp [intOf]; omega
              · cases h
            | true =>
              rcases hcase with ⟨h, _⟩ | ⟨_, hP⟩
              · cases h
              · have HP := hide hP
                clear hP
                go_wp2_with (go_at_call 23; refine Hbd.out.mono ?_; rintro e w'' ⟨rfl, rfl⟩)
                go_end0
                exact HP.out
          · refine wpEff_does rfl (fun K hK => ?_)
            refine wp_store_cell1 23 (.tmp 38) (.tmp 35) rfl vb 4 (.slice (some ⟨g, 0, none⟩) (ls.length + 1) c9) rfl rfl rfl (by rw [hb9.cell 4]; rfl) (hb9.frozen 4) (by kernel_rfl) rfl ?_
            refine hK _ _ trivial ?_
            clear hK
            obtain ⟨w10, hw10⟩ : ∃ w10, w10 = w9.setCell ⟨vb, 4, none⟩ (.slice (some ⟨g, 0, none⟩) (ls.length + 1) c9) := ⟨_, rfl⟩
            rw [← hw10]
            have hth10 : w10.there g (ls.length * 5) 5 := by
              have hown := own_fr (F := fun q => q = vb) (w' := w10) ho9 (by rw [hw10]; exact (Fr.refl (fun q => q = vb) _).put1 4 _) (fun q hq e => hgv (e.symm.trans (At.some_iff.1 (at_own.1 hq)).symm))
              rcases hown.2 with ⟨h0, _⟩ | ⟨g', cap, cur, he, hb, hgg, hcc, hm, hs, ht⟩
              · cases h0
              · injection he with he; injection he with he; injection he with he; subst he
                exact Blk.there (t := 25) hgg (ls.length * 5) 5 (by rw [hs]; have := Nat.mul_le_mul_right 5 hcc; omega)
            refine wpTree_eff (wpEff_does rfl (fun K hK => ?_))
            refine wp_store_mid 25 (.tmp 36) (.tmp 32) rfl g (ls.length * 5) #[c0, c1, c2, c3, c4] rfl rfl hth10 (by kernel_rfl) hall ?_
            refine hK _ _ trivial ?_
            clear hK
            obtain ⟨w', hw'⟩ : ∃ w', w' = w10.setCells g (ls.length * 5) [c0, c1, c2, c3, c4] := ⟨_, rfl⟩
            simp only [Act.put, List.setIfInBounds_toArray, List.set_cons_zero, List.set_cons_succ]
            try rw [← hw']
            refine wpTree_nil ?_
            have hw2 := Or.inr (a := w' = (w9.setCells g (ls.length * 5) [c0, c1, c2, c3, c4]).setCell ⟨vb, 4, none⟩ (.slice (some ⟨g, 0, none⟩) (ls.length + 1) c9)) (hw'.trans (by rw [hw10]))
            clear hw10 hth10
            obtain ⟨r, bad', hr', hcase⟩ := mid_step HM.out Hin.out H1.out Hvr.out hfd hO ho9 hf9' hn9' rfl hw2 Hz.out
            have Hbd := hide (rbad_any rb r bad' w' hr')
            have Hr' := hide hr'
            clear hw2 hw' hr' ho9 hf9 hf9' hn9 hn9' hEd hth hall hb9 hO hz hfd h1 hgv
            cases bad' with
            | false =>
              rcases hcase with ⟨_, ls', css', hE'⟩ | ⟨h, _⟩
              · have HE' := hide hE'
                clear hE'
                go_wp2_with (go_at_call 23; refine Hbd.out.mono ?_; rintro e w'' ⟨rfl, rfl⟩)
                go_roundw
                case rel => exact ⟨i + 1, _, _, _, _, _, _, _, r, by go_num, by have := Hin.out; omega, Hr'.out, HE'.out⟩
                case measure => have := Hin.out; simp [intOf]; omega
              · cases h
            | true =>
              rcases hcase with ⟨h, _⟩ | ⟨_, hP⟩
              · cases h
              · have HP := hide hP
                clear hP
                go_wp2_with (go_at_call 23; refine Hbd.out.mono ?_; rintro e w'' ⟨rfl, rfl⟩)
                go_end0
                exact HP.out
        · refine wpEff_does rfl (fun K hK => ?_)
          refine wp_buildSlice_one 23 (.const (.agg #[.int .u8 0, .int .i64 0, .string ⟨#[]⟩, .slice none 0 0, .slice none 0 0])) rfl #[.int .u8 0, .int .i64 0, .string ⟨#[]⟩, .slice none 0 0, .slice none 0 0] rfl 25 5 80 (.agg #[.int .u8 0, .int .i64 0, .string ⟨#[]⟩, .slice none 0 0, .slice none 0 0]) Try.underlying23 infoVV (by omega) (by omega) rfl ?_
          obtain ⟨w7, hw7⟩ : ∃ w7, w7 = wr.drew.alloc (.cells #[.int .u8 0, .int .i64 0, .string ⟨#[]⟩, .slice none 0 0, .slice none 0 0] 25) := ⟨_, rfl⟩
          rw [← hw7]
          obtain ⟨zb, hzb⟩ : ∃ zb, zb = wr.drew.heap.size := ⟨_, rfl⟩
          rw [← hzb]
          have hz7 : Blk w7 zb 25 #[.int .u8 0, .int .i64 0, .string ⟨#[]⟩, .slice none 0 0, .slice none 0 0] := by rw [hw7, hzb]; exact Blk.new _ _ _
          have fa : Fr (fun _ => False) wr w7 := by rw [hw7]; exact (Fr.refl _ _).drew.alloc _
          have hrd : Rd w7 rb lm bad := HM.out.rd.fr fa (fun _ h => h.elim)
          refine hK _ _ (HM.out.e.blk.fr fa (fun h => h)) ?_
          clear hK
          simp only [Act.put, List.setIfInBounds_toArray, List.set_cons_zero, List.set_cons_succ]
          refine wpTree_eff (wpEff_does rfl (fun K hK => ?_))
          refine wp_call_by 31 #[.pointer (some ⟨rb, 0, none⟩), .int .i64 (op : Int)] (by kernel_rfl) (Hih.out lm bad w7 hrd) ?_
          rintro e wd ⟨c0, c1, c2, c3, c4, rfl, h1, hf7, hout⟩
          have hzr : zb ≠ rb := hrd.ne hz7
          have hz : Blk wd zb 25 #[.int .u8 0, .int .i64 0, .string ⟨#[]⟩, .slice none 0 0, .slice none 0 0] := hz7.fr hf7 hzr
          have hfd : Fr (fun q => q = rb) wr wd := (fa.mono (fun _ _ h => h.elim)).trans' hf7 (fun _ _ h => h)
          have hO : (∃ v r, rdV d lm = some (v, r) ∧ VC wd (New wr wd) v [c0, c1, c2, c3, c4] ∧ Rd wd rb r false) ∨ (rdV d lm = none ∧ Rd wd rb [] true) := by
            rcases hout with ⟨v, r, hv1, hv2, hv3⟩ | ⟨hv1, hv2⟩
            · exact .inl ⟨v, r, hv1, hv2.mono (fun q hq => ⟨Nat.le_trans fa.size hq.1, hq.2⟩), hv3⟩
            · exact .inr ⟨hv1, hv2⟩
          refine ⟨_, rfl, hK _ _ (HM.out.e.blk.fr hfd Hvr.out) ?_⟩
          clear hK hout hw7 hzb fa hf7 hrd hz7 hzr
          simp only [Act.put, List.setIfInBounds_toArray, List.set_cons_zero, List.set_cons_succ]
          refine wpTree_nil ?_
          refine wpTree_eff (wpEff_does rfl (fun K hK => ?_))
          have hEd := HM.out.e.fr hfd Hvr.out (fun q hq e => by have := HM.out.e.knew q hq; have := H1.out; omega) (fun q hq e => by have := HM.out.e.lnew q hq; have := H1.out; omega)
          refine wp_append_at wd (.tmp 29) (.tmp 34) 23 rfl 0 25 (.agg #[.int .u8 0, .int .i64 0, .string ⟨#[]⟩, .slice none 0 0, .slice none 0 0]) 5 80 Try.underlying23 infoVV rfl (by decide) LA ls.length lc _ rfl hEd.lown ⟨zb, 0, none⟩ 1 1 [.int .u8 0, .int .i64 0, .string ⟨#[]⟩, .slice none 0 0, .slice none 0 0] rfl rfl ?_ ?_ (by simp only [maxLen]; have := Hlen.out; have := Hin.out; have := Hn.out; omega) (by have := Hlen.out; have := Hin.out; have := Hn.out; omega) (Nat.zero_le _) ?_
          · intro j u hu
            rw [Addr.add_mid]
            exact (hz.range 0 [.int .u8 0, .int .i64 0, .string ⟨#[]⟩, .slice none 0 0, .slice none 0 0] (fun k v hv => by simpa using hv)) j u hu
          · intro u hu
            simp only [List.mem_cons, List.not_mem_nil, or_false] at hu
            rcases hu with rfl | rfl | rfl | rfl | rfl <;> rfl
          intro A9 c9 w9 ho9 hf9 hn9
          obtain ⟨g, rfl⟩ : ∃ g, A9 = some ⟨g, 0, none⟩ := by
            rcases ho9.2 with ⟨_, h0⟩ | ⟨g, cap, cur, he, _⟩
            · omega
            · injection he with he; exact ⟨g, he⟩
          have hn9' : ∀ q, At (some ⟨g, 0, none⟩) q → At LA q ∨ wd.heap.size ≤ q := fun q hq => (hn9 q (at_own.2 hq)).imp at_own.1 id
          have hf9' : Fr (At LA) wd w9 := hf9.mono (fun _ _ h => at_own.1 h)
          refine hK _ _ trivial ?_
          clear hK
          simp only [Act.put, List.setIfInBounds_toArray, List.set_cons_zero, List.set_cons_succ]
          refine wpTree_read (v := .pointer (some ⟨g, ls.length * 5, none⟩)) rfl (fun W hW => (by clear hW; go_simp; try (intro hh; omega))) ?_
          refine wpTree_read rfl (fun W hW => (by clear hW; go_simp; try with_reducible rfl)) ?_
          refine wpTree_read rfl (fun W hW => (by clear hW; go_simp; try with_reducible rfl)) ?_
          simp only [Act.put, List.setIfInBounds_toArray, List.set_cons_zero, List.set_cons_succ]
          have hth : w9.there g (ls.length * 5) 5 := by
            rcases ho9.2 with ⟨h0, _⟩ | ⟨g', cap, cur, he, hb, hgg, hcc, hm, hs, ht⟩
            · cases h0
            · injection he with he; injection he with he; injection he with he; subst he
              exact Blk.there (t := 25) hgg (ls.length * 5) 5 (by rw [hs]; have := Nat.mul_le_mul_right 5 hcc; omega)
          have hall : (#[c0, c1, c2, c3, c4] : Array Value).all (·.oneCell') = true := all_oneCell_toArray h1
          have hb9 := hEd.blk.fr hf9' (fun h' => by have := hEd.lnew _ h'; have := hEd.old; omega)
          have hgv : vb ≠ g := by
            have h2 := hEd.old
            rcases hn9' g ⟨_, rfl, rfl⟩ with h' | h'
            · have := hEd.lnew g h'; omega
            · have := hEd.le; omega
          refine wpTree_fork ?_ ?_
          · refine wpEff_does rfl (fun K hK => ?_)
            refine wp_store_mid 25 (.tmp 36) (.tmp 32) rfl g (ls.length * 5) #[c0, c1, c2, c3, c4] rfl rfl hth (by kernel_rfl) hall ?_
            refine hK _ _ trivial ?_
            clear hK
            have hb10 := hb9.fars hgv [c0, c1, c2, c3, c4] (ls.length * 5)
            simp only [Act.put, List.setIfInBounds_toArray, List.set_cons_zero, List.set_cons_succ]
            refine wpTree_eff (wpEff_does rfl (fun K hK => ?_))
            refine wp_store_cell1 23 (.tmp 38) (.tmp 35) rfl vb 4 (.slice (some ⟨g, 0, none⟩) (ls.length + 1) c9) rfl rfl rfl (by rw [hb10.cell 4]; rfl) (hb10.frozen 4) (by kernel_rfl) rfl ?_
            refine hK _ _ trivial ?_
            clear hK
            obtain ⟨w', hw'⟩ : ∃ w', w' = (w9.setCells g (ls.length * 5) [c0, c1, c2, c3, c4]).setCell ⟨vb, 4, none⟩ (.slice (some ⟨g, 0, none⟩) (ls.length + 1) c9) := ⟨_, rfl⟩
            try simp only [Act.put, List.setIfInBounds_toArray, List.set_cons_zero, List.set_cons_succ]
            rw [← hw']
            refine wpTree_nil ?_
            have hw2 := Or.inl (b := w' = (w9.setCell ⟨vb, 4, none⟩ (.slice (some ⟨g, 0, none⟩) (ls.length + 1) c9)).setCells g (ls.length * 5) [c0, c1, c2, c3, c4]) hw'
            clear hb10
            obtain ⟨r, bad', hr', hcase⟩ := mid_step HM.out Hin.out H1.out Hvr.out hfd hO ho9 hf9' hn9' rfl hw2 Hz.out
            have Hbd := hide (rbad_any rb r bad' w' hr')
            have Hr' := hide hr'
            clear hw2 hw' hr' ho9 hf9 hf9' hn9 hn9' hEd hth hall hb9 hO hz hfd h1 hgv
            cases bad' with
            | false =>
              rcases hcase with ⟨_, ls', css', hE'⟩ | ⟨h, _⟩
              · have HE' := hide hE'
                clear hE'
                go_wp2_with (go_at_call 23; refine Hbd.out.mono ?_; rintro e w'' ⟨rfl, rfl⟩)
                go_roundw
                case rel => exact ⟨i + 1, _, _, _, _, _, _, _, r, by go_num, by have := Hin.out; omega, Hr'.out, HE'.out⟩
                case measure => have := Hin.out; simp [intOf]; omega
              · cases h
            | true =>
              rcases hcase with ⟨h, _⟩ | ⟨_, hP⟩
              · cases h
              · have HP := hide hP
                clear hP
                go_wp2_with (go_at_call 23; refine Hbd.out.mono ?_; rintro e w'' ⟨rfl, rfl⟩)
                go_end0
                exact HP.out
          · refine wpEff_does rfl (fun K hK => ?_)
            refine wp_store_cell1 23 (.tmp 38) (.tmp 35) rfl vb 4 (.slice (some ⟨g, 0, none⟩) (ls.length + 1) c9) rfl rfl rfl (by rw [hb9.cell 4]; rfl) (hb9.frozen 4) (by kernel_rfl) rfl ?_
            refine hK _ _ trivial ?_
            clear hK
            obtain ⟨w10, hw10⟩ : ∃ w10, w10 = w9.setCell ⟨vb, 4, none⟩ (.slice (some ⟨g, 0, none⟩) (ls.length + 1) c9) := ⟨_, rfl⟩
            rw [← hw10]
            have hth10 : w10.there g (ls.length * 5) 5 := by
              have hown := own_fr (F := fun q => q = vb) (w' := w10) ho9 (by rw [hw10]; exact (Fr.refl (fun q => q = vb) _).put1 4 _) (fun q hq e => hgv (e.symm.trans (At.some_iff.1 (at_own.1 hq)).symm))
              rcases hown.2 with ⟨h0, _⟩ | ⟨g', cap, cur, he, hb, hgg, hcc, hm, hs, ht⟩
              · cases h0
              · injection he with he; injection he with he; injection he with he; subst he
                exact Blk.there (t := 25) hgg (ls.length * 5) 5 (by rw [hs]; have := Nat.mul_le_mul_right 5 hcc; omega)
            refine wpTree_eff (wpEff_does rfl (fun K hK => ?_))
            refine wp_store_mid 25 (.tmp 36) (.tmp 32) rfl g (ls.length * 5) #[c0, c1, c2, c3, c4] rfl rfl hth10 (by kernel_rfl) hall ?_
            refine hK _ _ trivial ?_
            clear hK
            obtain ⟨w', hw'⟩ : ∃ w', w' = w10.setCells g (ls.length * 5) [c0, c1, c2, c3, c4] := ⟨_, rfl⟩
            simp only [Act.put, List.setIfInBounds_toArray, List.set_cons_zero, List.set_cons_succ]
            try rw [← hw']
            refine wpTree_nil ?_
            have hw2 := Or.inr (a := w' = (w9.setCells g (ls.length * 5) [c0, c1, c2, c3, c4]).setCell ⟨vb, 4, none⟩ (.slice (some ⟨g, 0, none⟩) (ls.length + 1) c9)) (hw'.trans (by rw [hw10]))
            clear hw10 hth10
            obtain ⟨r, bad', hr', hcase⟩ := mid_step HM.out Hin.out H1.out Hvr.out hfd hO ho9 hf9' hn9' rfl hw2 Hz.out
            have Hbd := hide (rbad_any rb r bad' w' hr')
            have Hr' := hide hr'
            clear hw2 hw' hr' ho9 hf9 hf9' hn9 hn9' hEd hth hall hb9 hO hz hfd h1 hgv
            cases bad' with
            | false =>
              rcases hcase with ⟨_, ls', css', hE'⟩ | ⟨h, _⟩
              · have HE' := hide hE'
                clear hE'
                go_wp2_with (go_at_call 23; refine Hbd.out.mono ?_; rintro e w'' ⟨rfl, rfl⟩)
                go_roundw
                case rel => exact ⟨i + 1, _, _, _, _, _, _, _, r, by go_num, by have := Hin.out; omega, Hr'.out, HE'.out⟩
                case measure => have := Hin.out; simp [intOf]; omega
              · cases h
            | true =>
              rcases hcase with ⟨h, _⟩ | ⟨_, hP⟩
              · cases h
              · have HP := hide hP
                clear hP
                go_wp2_with (go_at_call 23; refine Hbd.out.mono ?_; rintro e w'' ⟨rfl, rfl⟩)
                go_end0
                exact HP.out
      · obtain rfl : i = n := by omega
        have Hfin := hide (show EPost rb vb d 5 l w (.returned (.tuple #[])) wr from by
          refine ⟨rfl, hE.f, KA, LA, ks.length, kc, ls.length, lc, hE.e.blk, .inl ⟨ks, ls, lm, ?_, ?_, hr⟩⟩
          · have hq := hE.q
            rw [Nat.sub_self, rdS_zero] at hq
            rw [rdE, Hz.out]
            simpa using hq
          · exact hE.e.done hE.v (fun g hg => hg.1) (by omega) hE.x (by rw [hE.k5 (by omega)]; simp) (by rw [hE.nl]; exact Hn.out))
        clear hE hr Hr Hf H hi hin
        go_wp2
        go_end0
        exact Hfin.out
end Go.Proofs.Ytdkmccilnmdhmaa
