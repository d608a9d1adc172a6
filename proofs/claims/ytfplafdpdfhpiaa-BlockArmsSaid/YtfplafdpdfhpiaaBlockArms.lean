/-
  The power goes off in the n-th operation from then on, and nothing more is done: BlockArms answers true for every n and every bytes; no condition.
-/
import Derived.Test.YtfplafdpdfhpiaaOn
import Derived.Test.YtfplafdpdfhpiaaLaw
namespace Go.Proofs.Ytfplafdpdfhpiaa
open Go.RowKit Go.ChangeShapes Go.WideShapes Go.ChangeAt

set_option maxHeartbeats 1000000 in
theorem arms_long (n : Int) (A : Option Addr) (l c : Nat) (w : World) (h : 64 < l) :
    Calls Try.prog 5 #[.int .u8 n, .slice A l c] w fun e w' => e = .returned (.bool true) ∧ Below w.heap.size w w' := by
  go_enter Try.func5, Try.ntmps5
  go_wp2_with fail
  refine (awake_any _).mono ?_
  rintro e w1 ⟨rfl, hb⟩
  have Hb := hide hb
  clear hb
  go_wp2_with fail
  refine (awake_any _).mono ?_
  rintro e w2 ⟨rfl, hb⟩
  have Hb2 := hide hb
  clear hb
  go_wp2
  go_ret
  exact ⟨rfl, Hb.out.trans (Hb2.out.mono Hb.out.size)⟩

/-- The loop: ahead of the j-th write. -/
def ArmRel (w0 : World) (b k : Nat) (i : Value) (wr : World) : Prop :=
  ∃ j : Nat, 1 ≤ j ∧ j ≤ k + 1 ∧ i = .int .i64 j ∧ ∃ F D, On w0 wr b F D ∧ D.n = 4 ∧ D.ops = j - 1 ∧ D.pend.length = j - 1 ∧ D.fuse = k + 1 - j ∧ D.off = decide (j = k + 1)

set_option maxHeartbeats 1000000 in
theorem arms_any (m : Nat) (A : Option Addr) (c : Nat) (l : List UInt8) (w : World) (hm : m ≤ 255) (hl : l.length ≤ 64) (hb : Bytes w A l) :
    Calls Try.prog 5 #[.int .u8 (m : Int), .slice A l.length c] w fun e w' => e = .returned (.bool true) ∧ Below w.heap.size w w' := by
  have Hb := hide hb
  clear hb
  go_enter Try.func5, Try.ntmps5
  go_wp2_with fail
  refine (awake_any _).mono ?_
  rintro e w1 ⟨rfl, hb1⟩
  have Hb1 := hide hb1
  clear hb1
  go_wp2_with fail
  have c0 : Calls Try.prog 11 #[.int .i64 4] w1 (NewPost 4 w1) := new_any 4 w1 (by decide) (by decide)
  refine c0.mono ?_
  intro e w2 hn
  obtain ⟨b, F, rfl, hon, _, _⟩ := On.of_new Hb1.out hn
  have Hon := hide hon
  clear hon hn c0
  go_wp2_with fail
  obtain ⟨k, hk, hk1, hk2⟩ : ∃ k : Nat, (1 + (m : Int) % 20) = (k : Int) ∧ 1 ≤ k ∧ k ≤ 20 := ⟨1 + m % 20, by omega, by omega, by omega⟩
  rw [hk]
  clear hk
  have ha := arm_all b F (Dk.new 4) (k : Int) w2 Hon.out.disk
  have hae : Dk.armE (k : Int) = 0 := if_neg (by omega)
  have had : (Dk.new 4).armD (k : Int) = { Dk.new 4 with fuse := k } := by unfold Dk.armD; rw [if_neg (by omega), Int.toNat_natCast]
  rw [hae, had] at ha
  refine ha.mono ?_
  intro e w3 hlv
  obtain ⟨rfl, F3, hon3, _, _⟩ := Hon.out.leaves hlv
  have Hon3 := hide hon3
  clear hon3 hlv ha hae had Hon
  go_wp2_with fail
  go_loopw [8] (fun i wr => ArmRel w b k i wr) (fun i _ => k + 1 - (intOf i).toNat)
  case atStart => exact ⟨1, by omega, by omega, rfl, F3, _, Hon3.out, rfl, rfl, rfl, by simp, by show false = _; rw [eq_comm, decide_eq_false_iff_not]; omega⟩
  case round =>
    obtain ⟨j, hj1, hj2, rfl, Fr0, D, hon, hn, hops, hpl, hfu, hoff⟩ := hrel
    have Hon4 := hide hon
    have Hn := hide hn
    have Hops := hide hops
    have Hpl := hide hpl
    have Hfu := hide hfu
    have Hoff := hide hoff
    clear hon hn hops hpl hfu hoff
    by_cases hlt : j ≤ k
    · have ho : D.off = false := by rw [Hoff.out]; simp; omega
      have hr : refuse D ((j : Int) % 4) = 0 := by unfold refuse; rw [Hn.out, if_neg (by omega), ho]; rfl
      have hs : D.Small := ⟨by rw [Hops.out]; omega, by rw [Hfu.out]; omega, by rw [Hpl.out]; omega⟩
      have hwd : D.writeD ((j : Int) % 4) l = (D.wrote (j % 4) l).begun := by
        unfold Dk.writeD
        rw [if_neg (fun h => h hr), if_neg (by omega)]
        congr 2
      have hwe : D.writeE ((j : Int) % 4) l.length = begunE D := by
        unfold Dk.writeE
        rw [if_neg (fun h => h hr), if_neg (by omega)]
      have cw := write_all b Fr0 D ((j : Int) % 4) A c l.length l wr Hon4.out.disk rfl (Hon4.out.bytes Hb.out) hs
      rw [hwd, hwe] at cw
      by_cases hjk : j = k
      · subst hjk
        have hbe : begunE D = 12 := by unfold begunE; rw [if_pos (by rw [Hfu.out]; omega)]
        rw [hbe] at cw
        have Cw := hide cw
        have hon' : (D.wrote (j % 4) l).begun.off = true := by simp [Dk.begun, Dk.wrote, Hfu.out]
        have Hono := hide hon'
        clear cw hwd hwe hbe hon' hr ho hs
        go_wp2_with fail
        refine Cw.out.mono ?_
        intro e w5 hlv
        obtain ⟨rfl, F5, hon5, _, _⟩ := Hon4.out.leaves hlv
        have con := on_at b F5 _ w5 hon5.disk
        rw [Hono.out] at con
        have Hon5 := hide hon5
        have Con := hide con
        clear hlv hon5 con
        go_wp2_with fail
        refine Con.out.mono ?_
        rintro e w6 ⟨rfl, rfl⟩
        go_wp2
        go_roundw
        case rel => exact ⟨j + 1, by omega, by omega, by go_num, F5, _, Hon5.out, Hn.out, by simp [Dk.begun, Dk.wrote, Hops.out]; omega, by simp [Dk.begun, Dk.wrote, Hpl.out]; omega, by simp [Dk.begun, Dk.wrote, Hfu.out], by rw [Hono.out, eq_comm, decide_eq_true_iff]⟩
        case measure => (simp [intOf]; try omega)
      · have hjk' : (j : Int) < (k : Int) := by omega
        have hbe : begunE D = 0 := by unfold begunE; rw [if_neg (by rw [Hfu.out]; omega)]
        rw [hbe] at cw
        have Cw := hide cw
        have hon' : (D.wrote (j % 4) l).begun.off = false := by simp [Dk.begun, Dk.wrote, Hfu.out, ho]; omega
        have Hono := hide hon'
        clear cw hwd hwe hbe hon' hr ho hs
        go_wp2_with fail
        refine Cw.out.mono ?_
        intro e w5 hlv
        obtain ⟨rfl, F5, hon5, _, _⟩ := Hon4.out.leaves hlv
        have con := on_at b F5 _ w5 hon5.disk
        rw [Hono.out] at con
        have Hon5 := hide hon5
        have Con := hide con
        clear hlv hon5 con
        go_wp2_with fail
        refine Con.out.mono ?_
        rintro e w6 ⟨rfl, rfl⟩
        go_wp2
        go_roundw
        case rel => exact ⟨j + 1, by omega, by omega, by go_num, F5, _, Hon5.out, Hn.out, by simp [Dk.begun, Dk.wrote, Hops.out]; omega, by simp [Dk.begun, Dk.wrote, Hpl.out]; omega, by simp [Dk.begun, Dk.wrote, Hfu.out]; omega, by rw [Hono.out, eq_comm, decide_eq_false_iff_not]; omega⟩
        case measure => simp [intOf]; omega
    · obtain rfl : j = k + 1 := by omega
      have ho : D.off = true := by rw [Hoff.out]; simp
      have hr : refuse D 0 = 12 := by unfold refuse; rw [Hn.out, if_neg (by decide), ho]; rfl
      have hs : D.Small := ⟨by rw [Hops.out]; omega, by rw [Hfu.out]; omega, by rw [Hpl.out]; omega⟩
      go_wp2_with fail
      refine (read_all b Fr0 D 0 wr Hon4.out.disk).mono ?_
      rintro e w5 (⟨_, rfl, rfl⟩ | ⟨h0, _⟩)
      case inr => rw [hr] at h0; cases h0
      rw [hr]
      have cwr := write_refused b Fr0 D 0 A l.length c wr Hon4.out.disk (by rw [hr]; decide)
      rw [hr] at cwr
      have cop := ops_at b Fr0 D wr Hon4.out.disk
      rw [Hops.out, show k + 1 - 1 = k from rfl] at cop
      have cwa := wait_at b Fr0 D wr Hon4.out.disk
      rw [Hpl.out, show k + 1 - 1 = k from rfl] at cwa
      have csy := sync_off b Fr0 D wr Hon4.out.disk ho
      have crs := restart_all b Fr0 D 0 0 wr Hon4.out.disk hs
      have Cwr := hide cwr
      have Cop := hide cop
      have Cwa := hide cwa
      have Csy := hide csy
      have Crs := hide crs
      clear cwr cop cwa csy crs ho hr hs
      go_wp2_with fail
      refine Cwr.out.mono ?_
      rintro e w6 ⟨rfl, rfl⟩
      go_wp2_with fail
      refine Csy.out.mono ?_
      rintro e w6 ⟨rfl, rfl⟩
      go_wp2_with fail
      refine Cop.out.mono ?_
      rintro e w6 ⟨rfl, rfl⟩
      go_wp2_with fail
      refine Cwa.out.mono ?_
      rintro e w6 ⟨rfl, rfl⟩
      go_wp2_with fail
      refine Crs.out.mono ?_
      intro e w6 hlv
      obtain ⟨rfl, F6, hon6, _, _⟩ := Hon4.out.leaves hlv
      have con := on_at b F6 _ w6 hon6.disk
      have cwa := wait_at b F6 _ w6 hon6.disk
      have Hon6 := hide hon6
      have Con := hide (show Calls _ _ _ _ (fun e w' => e = .returned (.bool true) ∧ w6 = w') from con)
      have Cwb := hide (show Calls _ _ _ _ (fun e w' => e = .returned (.int .i64 0) ∧ w6 = w') from cwa)
      clear con cwa hon6 hlv
      go_wp2_with fail
      refine Con.out.mono ?_
      rintro e w7 ⟨rfl, rfl⟩
      go_wp2_with fail
      refine Cwb.out.mono ?_
      rintro e w7 ⟨rfl, rfl⟩
      go_wp2
      go_ret
      exact ⟨rfl, Hon6.out.below⟩

theorem arms_walk (n : Int) (h0 : 0 ≤ n) (h1 : n ≤ 255) (A : Option Addr) (c : Nat) (l : List UInt8) (w : World) (hb : Bytes w A l) :
    Calls Try.prog 5 #[.int .u8 n, .slice A l.length c] w fun e w' => e = .returned (.bool true) ∧ Below w.heap.size w w' := by
  by_cases h : 64 < l.length
  · exact arms_long n A l.length c w h
  · obtain ⟨m, rfl⟩ := Int.eq_ofNat_of_zero_le h0
    exact arms_any m A c l w (by omega) (by omega) hb
theorem u8_of_wf {x : Int} (h : (Lit.int .u8 x).wf = true) : 0 ≤ x ∧ x ≤ 255 := by
  simp [Lit.wf, IntKind.min, IntKind.max, IntKind.signed, IntKind.bits] at h
  exact ⟨by omega, by omega⟩

set_option maxRecDepth 100000 in
theorem blockArms_lifted (os : Os) (started : os.Started) (H : Type) (enc : TypeId × Value → H) :
    ReturnsInHanded {} Try.checked os 5 .any (Rows.blockArmsSpec.pre6 enc Try.prog Try.f5 Rows.blockArmsRow.domain false) (Rows.blockArmsSpec.post enc Try.prog Try.f5 false true false false) := by
  refine returnsInHanded_of_change (C := Try.checked) own0 started (by kernel_rfl) Try.func5
    (ChangeSpec.witness6 (enc := enc) (C := Try.checked) false ⟨#[], #[.int .u8 0, .slice none 0 0], []⟩ 8 (by kernel_rfl) (by kernel_rfl) (by kernel_rfl) (by kernel_rfl)) ?_
  intro W base args ds gs before hval0 hW _ _
  have hval : ∀ (j : Nat) t v, Try.f5.params[j]? = some t → args[j]? = some v → Value.okWide Try.prog W .any base t v := hval0
  have hW' := hW
  obtain ⟨p, q, hA0, hV, rfl, hfz, hnd⟩ := hW
  have hA : DataW.TrodAll enc Try.prog W 0 (fun _ => true) true Try.f5.params.toList args.toList ds p := hA0
  rw [Try.params5] at hA hval
  obtain ⟨v0, v1, d0, d1, p0, p1, rfl, rfl, rfl, h0, h1⟩ := trodAll_two hA
  obtain ⟨rfl, rfl⟩ := trodVars_none hV
  obtain ⟨x0, rfl, rfl, rfl, w0⟩ := open_int Try.underlying5 (hval 0 5 v0 rfl rfl) h0
  obtain ⟨A1, c1, l1, rfl, b1, m1⟩ := open_bytes Try.underlying31 Try.underlying5 (by kernel_rfl) (hval 1 31 v1 rfl rfl) h1
  clear hA0 hval0
  refine (arms_walk x0 (u8_of_wf w0).1 (u8_of_wf w0).2 A1 c1 l1 W b1).mono fun e W' ⟨he, hb⟩ => ?_
  subst he
  exact ⟨_, rfl, law_close laid0 Try.underlying4 rfl rfl (by rw [Try.params5]; decide +kernel) hW' (fun gs hg => by subst hg; rfl) hb⟩

theorem blockArms_holds : Rows.BlockArmsSaid :=
  OpenClaim.holds_of_wide 5 Try.f5 rfl rfl rfl rfl rfl rfl rfl ⟨rfl, rfl, rfl, rfl, rfl⟩ rfl rfl rfl rfl rfl (by kernel_rfl) Try.func5 (by kernel_rfl)
    (of_decide_eq_true (by kernel_rfl)) (by unfold Func.isWrapper; first | (rw [if_pos (by decide +kernel)]; kernel_rfl) | (rw [if_neg (by decide +kernel)]; exact ⟨rfl, rfl⟩))
    (fun os started H enc _ => blockArms_lifted os started H enc)

end Go.Proofs.Ytfplafdpdfhpiaa
