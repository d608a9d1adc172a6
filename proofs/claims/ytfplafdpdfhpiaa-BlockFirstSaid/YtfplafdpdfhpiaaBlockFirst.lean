/-
  Of the writes that wait the first ones are kept: BlockFirst answers true for every script and number; no condition.
-/
import Derived.Test.YtfplafdpdfhpiaaActs
import Derived.Deep.CutRange
import Derived.Deep.CutBlock
namespace Go.Proofs.Ytfplafdpdfhpiaa
open Go.RowKit Go.ChangeShapes Go.WideShapes Go.ChangeAt

theorem and3 (x : Int) : 0 ≤ bits .and .i64 x 3 ∧ bits .and .i64 x 3 ≤ 3 := by
  have h : bits .and .i64 x 3 = IntKind.i64.wrap ((BitVec.ofInt 64 x &&& BitVec.ofInt 64 3).toNat : Int) := rfl
  have h2 : (BitVec.ofInt 64 x &&& BitVec.ofInt 64 3).toNat ≤ 3 := by
    rw [BitVec.toNat_and]
    exact Nat.and_le_right
  rw [h, IntKind.wrap_i64]
  omega

/-- A disk of 4 blocks of zeros, with writes that wait. -/
def dz (L : List (Nat × List UInt8)) (m : Nat) : Dk := ⟨4, fun _ => zero64, L, m, 0, false⟩
theorem dz_write (L : List (Nat × List UInt8)) (m : Nat) (i : Int) (p : List UInt8) (h0 : 0 ≤ i) (h3 : i ≤ 3) (hp : p.length ≤ 64) : (dz L m).writeD i p = dz (L ++ [(i.toNat, pad p)]) (m + 1) := by
  have hr : refuse (dz L m) i = 0 := by
    unfold refuse
    rw [if_neg (by simp only [dz]; omega)]
    rfl
  unfold Dk.writeD
  rw [if_neg (fun h => h hr), if_neg (by omega)]
  simp [Dk.wrote, Dk.begun, dz]
theorem over_nil (c : List UInt8) : over c [] = c := by simp [over]
theorem upd_same (f : Nat → List UInt8) (i : Nat) : upd f i (f i) = f := by
  funext k
  unfold upd
  split
  · rename_i h; rw [h]
  · rfl
theorem dz_left (L : List (Nat × List UInt8)) (m k : Nat) : (dz L m).left (k : Int) 0 = view (fun _ => zero64) (L.take k) := by
  have hc : cl (k : Int) L.length = min k L.length := by unfold cl; omega
  have ht : L.take (min k L.length) = L.take k := by
    rcases Nat.le_total k L.length with h | h
    · rw [Nat.min_eq_left h]
    · rw [Nat.min_eq_right h, List.take_length, List.take_of_length_le h]
  unfold Dk.left
  have hp' : (dz L m).pend[cl (k : Int) (dz L m).pend.length]? = L[min k L.length]? := by
    show L[cl (k : Int) L.length]? = _
    rw [hc]
  rw [hp']
  cases hp : L[min k L.length]? with
  | none =>
    show view (fun _ => zero64) (L.take (cl (k : Int) L.length)) = _
    rw [hc, ht]
  | some p =>
    show upd (view (fun _ => zero64) (L.take (cl (k : Int) L.length))) p.1 (over (view (fun _ => zero64) (L.take (cl (k : Int) L.length)) p.1) (p.2.take (cl 0 64))) = _
    rw [hc, ht, show cl 0 64 = 0 from rfl, List.take_zero, over_nil, upd_same]

structure Two (w0 w : World) (a b : Nat) (L : List (Nat × List UInt8)) (k m : Nat) (Fa Fb : Nat → Prop) : Prop where
  one : On w0 w a Fa (dz L L.length)
  two : On w0 w b Fb (dz (L.take k) m)
  apart : ∀ x, Fa x → ¬ Fb x
  m : m ≤ L.length
def FiRel (w0 : World) (a b k : Nat) (n i : Value) (wr : World) : Prop :=
  ∃ j : Nat, j ≤ 20 ∧ i = .int .i64 j ∧ ∃ Fa Fb L m, n = .int .i64 (L.length : Int) ∧ L.length ≤ j ∧ Two w0 wr a b L k m Fa Fb
def FiDone (w0 : World) (a b k : Nat) (wr : World) : Prop := ∃ Fa Fb L m, L.length ≤ 20 ∧ Two w0 wr a b L k m Fa Fb

def ReRel (w0 : World) (a b : Nat) (D E : Dk) (Fa Fb : Nat → Prop) (i : Value) (wr : World) : Prop :=
  ∃ j : Nat, j ≤ 4 ∧ i = .int .i64 j ∧ On w0 wr a Fa D ∧ On w0 wr b Fb E

set_option maxHeartbeats 1000000 in
theorem first_any (S : Option Addr) (c : Nat) (xs : List ActD) (kn : Nat) (w : World) (hk : kn ≤ 255) (hx : Acts w S xs) (hxl : xs.length ≤ 9223372036854775807) :
    Calls Try.prog 9 #[.slice S xs.length c, .int .u8 (kn : Int)] w fun e w' => e = .returned (.bool true) ∧ Below w.heap.size w w' := by
  have Hx := hide hx
  clear hx
  go_enter Try.func9, Try.ntmps9
  go_wp2_with fail
  refine (awake_any _).mono ?_
  rintro e w1 ⟨rfl, hb1⟩
  have Hb1 := hide hb1
  clear hb1
  go_wp2_with fail
  have c0 : Calls Try.prog 11 #[.int .i64 4] w1 (NewPost 4 w1) := new_any 4 w1 (by decide) (by decide)
  refine c0.mono ?_
  intro e w2 hn
  obtain ⟨a, Fa, rfl, hona, _, _⟩ := On.of_new Hb1.out hn
  have Hona := hide hona
  clear hona hn c0
  go_wp2_with fail
  have c1 : Calls Try.prog 11 #[.int .i64 4] w2 (NewPost 4 w2) := new_any 4 w2 (by decide) (by decide)
  refine c1.mono ?_
  intro e w3 hn
  obtain ⟨b, Fb, rfl, honb, hb3, hFb⟩ := On.of_new Hona.out.below hn
  have hona3 := Hona.out.fr (Fr.of_below hb3 : Fr (fun _ => False) w2 w3) (fun _ _ h => h) (fun _ h => h.elim)
  have Hab := hide (show ∀ x, Fa x → ¬ Fb x from fun x h1 h2 => by have := Hona.out.lt x h1; have := hFb x h2; omega)
  have Hona3 := hide hona3
  have Honb := hide honb
  clear honb hona3 hn c1 hb3 hFb Hona
  go_upto_block 0 with fail
  obtain ⟨k, hkk, hk20⟩ : ∃ k : Nat, ((kn : Int) % 20) = (k : Int) ∧ k < 20 := ⟨kn % 20, by omega, by omega⟩
  rw [hkk]
  clear hkk
  go_cut [9, 11] from 30 to 77 (fun _ _ w' => FiDone w a b k w')
  case first =>
    go_wp2_with fail
    go_loopw [9, 11] (fun n i wr => FiRel w a b k n i wr) (fun _ i _ => 20 - (intOf i).toNat)
    case atStart => exact ⟨0, by omega, rfl, Fa, Fb, [], 0, rfl, Nat.le_refl _, ⟨Hona3.out, by rw [List.take_nil]; exact Honb.out, Hab.out, Nat.le_refl _⟩⟩
    case round =>
      obtain ⟨j, hj, rfl, Ga, Gb, L, m, rfl, hL, htwo⟩ := hrel
      by_cases hl : j < xs.length
      · by_cases h30 : j < 20
        · obtain ⟨x, ha⟩ : ∃ x, xs[j]? = some x := ⟨_, List.getElem?_eq_getElem hl⟩
          obtain ⟨g, o, rfl, hat⟩ : ∃ g o, S = some ⟨g, o, none⟩ ∧ ActAt wr g (o + j * 5) x := by
            rcases Hx.out.below htwo.one.below with h | ⟨g, o, h1, h2⟩
            · rw [h] at hl; simp at hl
            · exact ⟨g, o, h1, h2 j x ha⟩
          have k1 := hat.i
          have k2 := hat.p
          have hby : Bytes w x.A x.p := by
            rcases Hx.out with h | ⟨g, o, h1, h2⟩
            · rw [h] at hl; simp at hl
            · exact (h2 j x ha).bytes
          have Htwo := hide htwo
          have Hby := hide hby
          have Ha := hide ha
          clear htwo hat ha hby
          by_cases h64 : 64 < x.p.length
          · go_wp2
            go_roundw
            case rel => exact ⟨j + 1, by omega, by go_num, Ga, Gb, L, m, rfl, by omega, Htwo.out⟩
            case measure => simp [intOf]; omega
          · obtain ⟨i0, i3⟩ := and3 x.i
            go_upto_region 11 with fail
            refine wp_region_tail 12 (by kernel_rfl) (by kernel_rfl) ?_
            simp only [List.take_succ_cons, List.take_zero, List.drop_succ_cons, List.drop_zero]
            iterate 12 still_step
            refine wpStill_nil ?_
            generalize hix : bits .and .i64 x.i 3 = ix at *
            have Hix := hide hix
            clear hix
            have hd := dz_write L L.length ix x.p i0 i3 (by omega)
            have cw := write_all a Ga (dz L L.length) ix x.A x.c x.p.length x.p wr.drew Htwo.out.one.drew.disk rfl (Htwo.out.one.drew.bytes Hby.out) ⟨by simp only [dz]; omega, by simp [dz], by simp only [dz]; omega⟩
            rw [hd] at cw
            generalize Dk.writeE _ _ _ = ew at cw
            have Cw := hide cw
            clear cw hd
            go_wp2_with fail
            refine Cw.out.mono ?_
            intro e w5 hlv
            obtain ⟨rfl, G5, hon5, hf5, hs5⟩ := Htwo.out.one.drew.leaves hlv
            have hon5b := Htwo.out.two.drew.fr hf5 (fun q h1 h2 => Htwo.out.apart q h2 h1) Htwo.out.one.own
            have hap5 : ∀ q, G5 q → ¬ Gb q := fun q h1 h2 => (hs5 q h1).elim (fun h => Htwo.out.apart q h h2) (fun h => by have := Htwo.out.two.lt q h2; have h3 : wr.drew.heap.size = wr.heap.size := rfl; omega)
            have Hon5 := hide hon5
            have Hon5b := hide hon5b
            have Hap5 := hide hap5
            clear hon5 hon5b hap5 hf5 hs5 hlv Cw
            by_cases hlk : L.length < k
            · have hat5 : ActAt w5 g (o + j * 5) x := by
                rcases Hx.out.below Hon5.out.below with h | ⟨g', o', h1, h2⟩
                · rw [h] at hl; simp at hl
                · cases h1; exact h2 j x Ha.out
              have k1' := hat5.i
              have k2' := hat5.p
              have htk : L.take k = L := List.take_of_length_le (by omega)
              clear hat5 k1 k2
              go_upto_region 13 with fail
              refine wp_region_tail 12 (by kernel_rfl) (by kernel_rfl) ?_
              simp only [List.take_succ_cons, List.take_zero, List.drop_succ_cons, List.drop_zero]
              iterate 12 still_step
              refine wpStill_nil ?_
              go_wp2_with fail
              rw [Hix.out]
              have hd := dz_write L m ix x.p i0 i3 (by omega)
              have hm := Htwo.out.m
              rw [htk] at Hon5b
              have htk2 : (L ++ [(ix.toNat, pad x.p)]).take k = L ++ [(ix.toNat, pad x.p)] := List.take_of_length_le (by simp; omega)
              have Htk2 := hide htk2
              have cw := write_all b Gb (dz L m) ix x.A x.c x.p.length x.p w5.drew Hon5b.out.drew.disk rfl (Hon5b.out.drew.bytes Hby.out) ⟨by simp only [dz]; omega, by simp [dz], by simp only [dz]; omega⟩
              rw [hd] at cw
              generalize Dk.writeE _ _ _ = ew2 at cw
              refine cw.mono ?_
              intro e w6 hlv
              obtain ⟨rfl, G6, hon6, hf6, hs6⟩ := Hon5b.out.drew.leaves hlv
              have hona6 := Hon5.out.drew.fr hf6 (fun q h1 h2 => Hap5.out q h1 h2) Hon5b.out.own
              have hap6 : ∀ q, G5 q → ¬ G6 q := fun q h1 h2 => (hs6 q h2).elim (fun h => Hap5.out q h1 h) (fun h => by have := Hon5.out.lt q h1; have h3 : w5.drew.heap.size = w5.heap.size := rfl; omega)
              have Hona6 := hide hona6
              have Hon6 := hide hon6
              have Hap6 := hide hap6
              have Hm := hide hm
              clear hona6 hon6 hap6 hf6 hs6 hlv cw hd htk2 htk hm
              go_wp2
              go_roundw
              case rel => exact ⟨j + 1, by omega, by go_num, G5, G6, L ++ [(ix.toNat, pad x.p)], m + 1, by simp, by simp; omega, ⟨by rw [List.length_append]; exact Hona6.out, by rw [Htk2.out]; exact Hon6.out, Hap6.out, by have := Hm.out; simp; omega⟩⟩
              case measure => simp [intOf]; omega
            · have htk : (L ++ [(ix.toNat, pad x.p)]).take k = L.take k := by rw [List.take_append_of_le_length (by omega)]
              have Htk := hide htk
              clear htk
              go_wp2
              go_roundw
              case rel => exact ⟨j + 1, by omega, by go_num, G5, Gb, L ++ [(ix.toNat, pad x.p)], m, by simp, by simp; omega, ⟨by rw [List.length_append]; exact Hon5.out, by rw [Htk.out]; exact Hon5b.out, Hap5.out, by have := Htwo.out.m; simp; omega⟩⟩
              case measure => simp [intOf]; omega
        · obtain rfl : j = 20 := by omega
          have Hd := hide (show FiDone w a b k wr from ⟨Ga, Gb, L, m, hL, htwo⟩)
          clear htwo
          go_wp2
          go_meet
          case rel => exact Hd.out
      · have Hd := hide (show FiDone w a b k wr from ⟨Ga, Gb, L, m, Nat.le_trans hL hj, htwo⟩)
        clear htwo
        go_wp2
        go_meet
        case rel => exact Hd.out
  case rest =>
    obtain ⟨Ga, Gb, L, m, hL, htwo⟩ := hcut
    have cr := restart_all a Ga (dz L L.length) (k : Int) 0 _ htwo.one.disk ⟨by simp only [dz]; omega, by simp [dz], by simp only [dz]; omega⟩
    obtain ⟨D5, hD5⟩ : ∃ D5, D5 = (dz L L.length).restarted (k : Int) 0 := ⟨_, rfl⟩
    have hv5 : view D5.dur D5.pend = view (fun _ => zero64) (L.take k) := by rw [hD5, ← dz_left L L.length k]; rfl
    have hn5 : D5.n = 4 := by rw [hD5]; rfl
    have ho5 : D5.off = false := by rw [hD5]; rfl
    rw [← hD5] at cr
    have Cr := hide cr
    have Htwo := hide htwo
    have Hv5 := hide hv5
    have Hn5 := hide hn5
    have Ho5 := hide ho5
    clear cr htwo hv5 hn5 ho5 hD5
    go_wp2_with fail
    refine Cr.out.mono ?_
    intro e w5 hlv
    obtain ⟨rfl, G5, hon5, hf5, hs5⟩ := Htwo.out.one.leaves hlv
    have hon5b := Htwo.out.two.fr hf5 (fun q h1 h2 => Htwo.out.apart q h2 h1) Htwo.out.one.own
    have Hon5 := hide hon5
    have Hon5b := hide hon5b
    clear hon5 hon5b hlv Cr hf5 hs5
    go_wp2_with fail
    go_loopw [12] (fun i wr => ReRel w a b D5 (dz (L.take k) m) G5 Gb i wr) (fun i _ => 4 - (intOf i).toNat)
    case atStart => exact ⟨0, by omega, rfl, Hon5.out, Hon5b.out⟩
    case round =>
      obtain ⟨j, hj, rfl, hona, honb⟩ := hrel
      by_cases hlt : j < 4
      · have ca := hona.read (j : Int) (by unfold refuse; rw [Hn5.out, if_neg (by omega), Ho5.out]; rfl) (view (fun _ => zero64) (L.take k) j) (by rw [Hv5.out, Int.toNat_natCast])
        have Ca := hide ca
        have Hona := hide hona
        have Honb := hide honb
        clear ca hona honb
        go_wp2_with fail
        refine Ca.out.mono ?_
        rintro e w6 ⟨ga, rfl, hon6, hblk6, hga, hga0, hf6, hv64⟩
        have honb6 := Honb.out.fr hf6 (fun _ _ h => h) (fun _ h => h.elim)
        have cb := honb6.read (j : Int) (by unfold refuse; rw [if_neg (by simp only [dz]; omega)]; rfl) (view (fun _ => zero64) (L.take k) j) rfl
        have Cb := hide cb
        have Hona6 := hide hon6
        have Hblk6 := hide hblk6
        clear cb hon6 hblk6 honb6 hf6 Ca Hona Honb
        go_wp2_with fail
        refine Cb.out.mono ?_
        rintro e w7 ⟨gb, rfl, hon7, hblk7, hgb, hgb0, hf7, _⟩
        have hona7 := Hona6.out.fr hf7 (fun _ _ h => h) (fun _ h => h.elim)
        have hblk7a := Hblk6.out.fr hf7 (fun h => h)
        have s1 : (convert 31 9 (.slice (some ⟨ga, 0, none⟩) 64 64)).run Try.prog w7 = .ok (.string ⟨(view (fun _ => zero64) (L.take k) j).toArray⟩) w7 := run_str_bytes _ _ _ 5 Try.underlying31 Try.underlying5 Try.underlying9 _ 64 64 _ hv64 hblk7a.bytes
        have s2 : (convert 31 9 (.slice (some ⟨gb, 0, none⟩) 64 64)).run Try.prog w7 = .ok (.string ⟨(view (fun _ => zero64) (L.take k) j).toArray⟩) w7 := run_str_bytes _ _ _ 5 Try.underlying31 Try.underlying5 Try.underlying9 _ 64 64 _ hv64 hblk7.bytes
        have Hona7 := hide hona7
        have Honb7 := hide hon7
        clear hona7 hon7 hblk7 hblk7a hf7 Cb Hona6 Hblk6
        go_wp2
        go_roundw
        case rel => exact ⟨j + 1, by omega, by go_num, Hona7.out, Honb7.out⟩
        case measure => simp [intOf]; omega
      · obtain rfl : j = 4 := by omega
        have Hona := hide hona
        clear hona honb
        go_wp2
        go_ret
        exact ⟨rfl, Hona.out.below⟩

theorem first_walk (S : Option Addr) (c : Nat) (xs : List ActD) (n : Int) (h0 : 0 ≤ n) (h1 : n ≤ 255) (w : World) (hx : Acts w S xs) (hxl : xs.length ≤ 9223372036854775807) :
    Calls Try.prog 9 #[.slice S xs.length c, .int .u8 n] w fun e w' => e = .returned (.bool true) ∧ Below w.heap.size w w' := by
  obtain ⟨m, rfl⟩ := Int.eq_ofNat_of_zero_le h0
  exact first_any S c xs m w (by omega) hx hxl

set_option maxRecDepth 100000 in
theorem blockFirst_lifted (os : Os) (started : os.Started) (H : Type) (enc : TypeId × Value → H) :
    ReturnsInHanded {} Try.checked os 9 .any (Rows.blockFirstSpec.pre6 enc Try.prog Try.f9 Rows.blockFirstRow.domain false) (Rows.blockFirstSpec.post enc Try.prog Try.f9 false true false false) := by
  refine returnsInHanded_of_change (C := Try.checked) own0 started (by kernel_rfl) Try.func9
    (ChangeSpec.witness6 (enc := enc) (C := Try.checked) false ⟨#[], #[.slice none 0 0, .int .u8 0], []⟩ 8 (by kernel_rfl) (by kernel_rfl) (by kernel_rfl) (by kernel_rfl)) ?_
  intro W base args ds gs before hval0 hW _ _
  have hval : ∀ (j : Nat) t v, Try.f9.params[j]? = some t → args[j]? = some v → Value.okWide Try.prog W .any base t v := hval0
  have hW' := hW
  obtain ⟨p, q, hA0, hV, rfl, hfz, hnd⟩ := hW
  have hA : DataW.TrodAll enc Try.prog W 0 (fun _ => true) true Try.f9.params.toList args.toList ds p := hA0
  rw [Try.params9] at hA hval
  obtain ⟨v0, v1, d0, d1, p0, p1, rfl, rfl, rfl, h0, h1⟩ := trodAll_two hA
  obtain ⟨rfl, rfl⟩ := trodVars_none hV
  obtain ⟨A0, c0, l0, rfl, b0, m0⟩ := open_acts (hval 0 22 v0 rfl rfl) h0
  obtain ⟨x1, rfl, rfl, rfl, w1⟩ := open_int Try.underlying5 (hval 1 5 v1 rfl rfl) h1
  clear hA0 hval0
  refine (first_walk A0 c0 l0 x1 (u8_of_wf w1).1 (u8_of_wf w1).2 W b0 m0).mono fun e W' ⟨he, hb⟩ => ?_
  subst he
  exact ⟨_, rfl, law_close laid0 Try.underlying4 rfl rfl (by rw [Try.params9]; decide +kernel) hW' (fun gs hg => by subst hg; rfl) hb⟩

theorem blockFirst_holds : Rows.BlockFirstSaid :=
  OpenClaim.holds_of_wide 9 Try.f9 rfl rfl rfl rfl rfl rfl rfl ⟨rfl, rfl, rfl, rfl, rfl⟩ rfl rfl rfl rfl rfl (by kernel_rfl) Try.func9 (by kernel_rfl)
    (of_decide_eq_true (by kernel_rfl)) (by unfold Func.isWrapper; first | (rw [if_pos (by decide +kernel)]; kernel_rfl) | (rw [if_neg (by decide +kernel)]; exact ⟨rfl, rfl⟩))
    (fun os started H enc _ => blockFirst_lifted os started H enc)

end Go.Proofs.Ytfplafdpdfhpiaa
