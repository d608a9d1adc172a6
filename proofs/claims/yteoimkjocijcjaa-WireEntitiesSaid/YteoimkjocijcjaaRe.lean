/- Package wire: the reader of signed numbers and of texts; a new reader. -/
import Derived.Test.YteoimkjocijcjaaRd
namespace Go.Proofs.Yteoimkjocijcjaa
open Go.RowKit

def unzig (n : Nat) : Int := if n % 2 = 0 then ((n / 2 : Nat) : Int) else -((n / 2 : Nat) : Int) - 1
theorem unzig_zig {x : Int} : unzig (Lib.zigzag x) = x := by
  unfold unzig Lib.zigzag
  by_cases h : 0 ≤ x
  · rw [if_pos h, if_pos (by omega)]; omega
  · rw [if_neg h, if_neg (by omega)]; omega
theorem i64_xor_comm (a b : Int) : bits .xor .i64 a b = bits .xor .i64 b a := by
  show IntKind.i64.wrap ((BitVec.ofInt 64 a ^^^ BitVec.ofInt 64 b).toNat : Int) = IntKind.i64.wrap ((BitVec.ofInt 64 b ^^^ BitVec.ofInt 64 a).toNat : Int)
  rw [BitVec.xor_comm]
theorem unzig_bits (n : Nat) (hn : n < 18446744073709551616) : bits .xor .i64 ((n : Int) / 2) (wrap64 (-wrap64 (bits .and .u64 (n : Int) 1))) = unzig n := by
  rw [Lib.u64_and1 _ (by omega) (by omega)]
  unfold unzig
  by_cases h : n % 2 = 0
  · rw [if_pos h, show (n : Int) % 2 = 0 by omega, show wrap64 (-wrap64 0) = 0 by decide +kernel]
    show IntKind.i64.wrap ((BitVec.ofInt 64 ((n : Int) / 2) ^^^ BitVec.ofInt 64 0).toNat : Int) = _
    have h2 : (BitVec.ofInt 64 (((n / 2 : Nat) : Int))).toNat = n / 2 := by
      rw [BitVec.ofInt_natCast, BitVec.toNat_ofNat]; exact Nat.mod_eq_of_lt (by omega)
    rw [BitVec.toNat_xor, show (n : Int) / 2 = ((n / 2 : Nat) : Int) by omega, h2, show (BitVec.ofInt 64 0).toNat = 0 by decide, Nat.xor_zero, IntKind.wrap_i64]
    omega
  · rw [if_neg h, show (n : Int) % 2 = 1 by omega, show wrap64 (-wrap64 1) = -1 by decide +kernel, i64_xor_comm, show (n : Int) / 2 = ((n / 2 : Nat) : Int) by omega, Lib.i64_not _ (by omega)]
set_option maxRecDepth 100000 in
set_option maxHeartbeats 2000000 in
theorem rint_all (rb : Nat) (l : List UInt8) (bad : Bool) (w : World) (h : Rd w rb l bad) :
    Calls Try.prog 35 #[.pointer (some ⟨rb, 0, none⟩)] w (UPost rb .i64 ((rdUint 18446744073709551615 l).map fun x => (unzig x.1, x.2)) w) := by
  have hu := ruint_all rb l bad 18446744073709551615 w h (by omega)
  have Hu := hide hu
  have hb : ∀ x, rdUint 18446744073709551615 l = some x → x.1 < 18446744073709551616 := fun x hx => by
    unfold rdUint at hx
    split at hx
    · split at hx
      · simp only [Option.some.injEq] at hx; rw [← hx]; simp only; omega
      · cases hx
    · cases hx
  have Hb := hide hb
  clear hu h hb
  go_enter Try.func35, Try.ntmps35
  go_wp2_with fail
  refine Hu.out.mono ?_
  rcases hx : rdUint 18446744073709551615 l with _ | ⟨n, r⟩
  · rintro e w1 ⟨rfl, h1, f1⟩
    have Hp := hide (show _ ∧ _ from ⟨h1, f1⟩)
    have Hx := hide hx
    clear h1 f1 Hu hx Hb
    simp only [Option.map_none, Option.getD_none]
    go_wp2
    go_ret
    rw [Hx.out]
    refine ⟨?_, Hp.out.1, Hp.out.2⟩
    show Ending.returned (.int .i64 (bits .xor .i64 0 (wrap64 (-wrap64 (bits .and .u64 0 1))))) = _
    rw [show bits .xor .i64 0 (wrap64 (-wrap64 (bits .and .u64 0 1))) = 0 by decide +kernel]
    rfl
  · rintro e w1 ⟨rfl, h1, f1⟩
    have Hp := hide (show _ ∧ _ from ⟨h1, f1⟩)
    have hn : n < 18446744073709551616 := Hb.out _ hx
    have Hx := hide hx
    have hbt := unzig_bits n hn
    have Hbt := hide hbt
    clear h1 f1 Hu hx Hb hbt
    simp only [Option.map_some, Option.getD_some]
    go_wp2
    go_ret
    rw [Hx.out]
    refine ⟨?_, Hp.out.1, Hp.out.2⟩
    show Ending.returned (.int .i64 (bits .xor .i64 ((n : Int) / 2) (wrap64 (-wrap64 (bits .and .u64 (n : Int) 1))))) = _
    rw [Hbt.out]
    rfl

def rdText (most : Nat) (l : List UInt8) : Option (List UInt8 × List UInt8) :=
  match rdUint most l with
  | some (n, r) => if n ≤ r.length then some (r.take n, r.drop n) else none
  | none => none
theorem rdText_enc (s : List UInt8) (most : Nat) (r : List UInt8) (hs : s.length < 18446744073709551616) : rdText most (textB s ++ r) = if s.length ≤ most then some (s, r) else none := by
  rw [rdText, textB, List.append_assoc, rdUint_enc _ _ _ hs]
  by_cases h : s.length ≤ most
  · rw [if_pos h, if_pos h]
    simp
  · rw [if_neg h, if_neg h]
theorem rdText_mono {most : Nat} {l s r : List UInt8} (h : rdText most l = some (s, r)) (x : List UInt8) : rdText most (l ++ x) = some (s, r ++ x) := by
  unfold rdText at h ⊢
  rcases hu : rdUint most l with _ | ⟨n, q⟩
  · rw [hu] at h; cases h
  · rw [hu] at h
    rw [rdUint_mono hu x]
    simp only at h ⊢
    split at h
    · rename_i h1
      rw [if_pos (by rw [List.length_append]; omega)]
      simp only [Option.some.injEq, Prod.mk.injEq] at h ⊢
      exact ⟨by rw [← h.1, List.take_append_of_le_length h1], by rw [← h.2, List.drop_append_of_le_length h1]⟩
    · cases h
def TPost (rb : Nat) (x : Option (List UInt8 × List UInt8)) (w : World) (e : Ending) (w' : World) : Prop :=
  RPost rb (sv ((x.map (·.1)).getD [])) ((x.map (·.2)).getD []) x.isNone w e w'
set_option maxRecDepth 100000 in
set_option maxHeartbeats 4000000 in
theorem rtext_all (rb : Nat) (l : List UInt8) (bad : Bool) (most : Int) (w : World) (h : Rd w rb l bad) (h1 : most ≤ 9223372036854775807) :
    Calls Try.prog 19 #[.pointer (some ⟨rb, 0, none⟩), .int .i64 most] w (TPost rb (rdText most.toNat l) w) := by
  have hu := ruint_all rb l bad most.toNat w h (by omega)
  have hlen : ∀ n r, rdUint most.toNat l = some (n, r) → n < 18446744073709551616 := fun n r hx => by
    unfold rdUint at hx
    split at hx
    · split at hx
      · simp only [Option.some.injEq, Prod.mk.injEq] at hx; omega
      · cases hx
    · cases hx
  have hu2 : ∃ (nv : Nat) (l1 : List UInt8) (b1 : Bool), (rdUint most.toNat l = none ∧ nv = 0 ∧ l1 = [] ∧ b1 = true ∨ rdUint most.toNat l = some (nv, l1) ∧ b1 = false) ∧ Calls Try.prog 29 #[.pointer (some ⟨rb, 0, none⟩), .int .u64 ((most.toNat : Nat) : Int)] w (RPost rb (.int .u64 (nv : Int)) l1 b1 w) := by
    rcases hx : rdUint most.toNat l with _ | ⟨n, r⟩
    · rw [hx] at hu
      exact ⟨0, [], true, .inl ⟨rfl, rfl, rfl, rfl⟩, hu⟩
    · rw [hx] at hu
      exact ⟨n, r, false, .inr ⟨rfl, rfl⟩, hu⟩
  obtain ⟨nv, l1, b1, hc, hu3⟩ := hu2
  have hnv : nv < 18446744073709551616 := by
    rcases hc with ⟨_, h, _⟩ | ⟨h, _⟩
    · omega
    · exact hlen _ _ h
  have Hu := hide hu3
  have Hc := hide hc
  have Hnv := hide hnv
  clear hu h hlen hc hu3 hnv
  go_enter Try.func19, Try.ntmps19
  go_upto_region 1 with fail
  go_cut [5] from 7 to 11 (fun x w1 => x = .int .u64 (nv : Int) ∧ Rd w1 rb l1 b1 ∧ Fr (fun k => k = rb) w w1)
  case first =>
    rcases Int.lt_trichotomy 0 most with h0 | h0 | h0
    · rw [show ((most.toNat : Nat) : Int) = most by omega] at Hu
      go_wp2_with fail
      refine Hu.out.mono ?_
      rintro e w1 ⟨rfl, h1, f1⟩
      have Hp := hide (show _ ∧ _ from ⟨h1, f1⟩)
      clear h1 f1 Hu
      go_wp2_with fail
      go_meet
      case rel => exact ⟨rfl, Hp.out.1, Hp.out.2⟩
    · rw [show ((most.toNat : Nat) : Int) = 0 by omega] at Hu
      subst h0
      go_wp2_with fail
      refine Hu.out.mono ?_
      rintro e w1 ⟨rfl, h1, f1⟩
      have Hp := hide (show _ ∧ _ from ⟨h1, f1⟩)
      clear h1 f1 Hu
      go_wp2_with fail
      go_meet
      case rel => exact ⟨rfl, Hp.out.1, Hp.out.2⟩
    · rw [show ((most.toNat : Nat) : Int) = 0 by omega] at Hu
      go_wp2_with fail
      refine Hu.out.mono ?_
      rintro e w1 ⟨rfl, h1, f1⟩
      have Hp := hide (show _ ∧ _ from ⟨h1, f1⟩)
      clear h1 f1 Hu
      go_wp2_with fail
      go_meet
      case rel => exact ⟨rfl, Hp.out.1, Hp.out.2⟩
  case rest =>
    obtain ⟨rfl, hr, hf⟩ := hcut
    clear Hu
    have hbd := rbad_any rb l1 b1 wc hr
    have Hbd := hide hbd
    have Hf := hide hf
    clear hf hbd
    cases b1
    case true =>
      have he : rdText most.toNat l = none := by
        rcases Hc.out with ⟨h, _⟩ | ⟨_, h⟩
        · rw [rdText, h]
        · cases h
      have hl1 : l1 = [] := by
        obtain ⟨_, _, _, _, _, h, _⟩ := hr; exact h rfl
      rw [hl1] at hr
      have He := hide he
      have Hr := hide hr
      clear he hl1 hr
      go_wp2_with (go_at_call 23; refine Hbd.out.mono ?_; rintro e w' ⟨rfl, rfl⟩)
      go_ret
      rw [He.out]
      exact ⟨rfl, Hr.out, Hf.out⟩
    case false =>
      have hx : rdUint most.toNat l = some (nv, l1) := by
        rcases Hc.out with ⟨_, _, _, h⟩ | ⟨h, _⟩
        · cases h
        · exact h
      have hfa := rfail_any rb l1 false wc hr
      obtain ⟨A, c, hb, hy, hnb, hbl, hcl, hml⟩ := hr
      have hne : ∀ a, A = some a → a.block ≠ rb := fun a ha => (hnb a ha).choose_spec.ne_ hb (by decide)
      have c0 := hb.cell 0
      have z0 := hb.frozen 0
      obtain ⟨m, hm⟩ : ∃ m, m = l1.length := ⟨_, rfl⟩
      rw [← hm] at c0 hcl hml
      by_cases hle : nv ≤ m
      · have he : rdText most.toNat l = some (l1.take nv, l1.drop nv) := by rw [rdText, hx]; simp only; rw [if_pos (by omega)]
        have hst := str_run (n := nv) (c := c) (w := wc) (l := l1.take nv) (A := A) (by rw [List.length_take]; omega) (hy.take nv)
        have He := hide he
        have Hb := hide hb
        have Hy := hide hy
        have Hne := hide hne
        have Hnb := hide hnb
        have Hm := hide hm
        clear he hx hfa hb hy hne hm hbl hnb
        go_wp2_with (go_at_call 23; refine Hbd.out.mono ?_; rintro e w' ⟨rfl, rfl⟩)
        all_goals
          go_ret
          rw [He.out]
          have hm := Hm.out
          refine ⟨rfl, ⟨_, _, (by show Blk _ rb _ #[.slice _ (l1.drop nv).length _, _]; rw [List.length_drop, ← hm]; exact Hb.out.set_ 0 _), ?_, ?_, (fun h => by cases h), (by show (l1.drop nv).length ≤ _; rw [List.length_drop]; omega), (by show (l1.drop nv).length ≤ _; rw [List.length_drop]; omega)⟩, Hf.out.trans' ((Fr.refl _ _).put1 0 _) (fun _ _ h => h)⟩
          · first
              | exact .inl (List.drop_eq_nil_of_le (by omega))
              | (rcases A with _ | ⟨g, o, sp⟩
                 · rcases Hy.out with h | ⟨_, _, h, _⟩
                   · exact .inl (by show l1.drop nv = []; rw [h]; simp)
                   · cases h
                 · rcases Hy.out with h | ⟨g', o', h, hr⟩
                   · exact .inl (by show l1.drop nv = []; rw [h]; simp)
                   · cases h
                     have h2 := (Bytes.drop (.inr ⟨g, o, rfl, hr⟩ : Bytes wc (some ⟨g, o, none⟩) l1) nv).fr ((Fr.refl (fun k => k = rb) wc).put1 0 (.slice (Option.map (fun x : Addr => x.add nv) (some (⟨g, o, none⟩ : Addr))) (m - nv) (c - nv))) (fun a ha => by
                       injection ha with ha
                       rw [← ha]
                       exact Hne.out ⟨g, o, none⟩ rfl)
                     simpa [Addr.add_mid] using h2)
          · intro a ha
            first
              | exact (Hnb.out a ha).imp fun cs h => h.far (p := ⟨rb, 0, none⟩) (Hne.out a ha) _
              | (rcases A with _ | ⟨g, o, sp⟩
                 · cases ha
                 · simp only [Option.map_some, Option.some.injEq] at ha
                   rw [← ha, show ((⟨g, o, sp⟩ : Addr).add nv).block = g by (simp only [Addr.add]; first | rfl | (split <;> rfl))]
                   exact (Hnb.out ⟨g, o, sp⟩ rfl).imp fun cs h => h.far (p := ⟨rb, 0, none⟩) (Hne.out ⟨g, o, sp⟩ rfl) _)
      · have he : rdText most.toNat l = none := by rw [rdText, hx]; simp only; rw [if_neg (by omega)]
        have He := hide he
        have Hfa := hide hfa
        clear he hx hfa hb hy hne hm hbl hnb
        go_wp2_with (go_at_call 23; refine Hbd.out.mono ?_; rintro e w' ⟨rfl, rfl⟩)
        refine Hfa.out.mono ?_
        rintro e w2 ⟨rfl, h2, f2⟩
        have Hp := hide (show _ ∧ _ from ⟨h2, Hf.out.trans' f2 (fun _ _ h => h)⟩)
        clear h2 f2 Hfa
        go_wp2
        go_ret
        rw [He.out]
        exact ⟨rfl, Hp.out.1, Hp.out.2⟩
end Go.Proofs.Yteoimkjocijcjaa
