/- any whole number of at most eighteen digits, written out, is that number: for every input the law LexNumbers answers true, and leaves what came in as it was. -/
import Derived.Test.YtfbkmjjcopjoeaaDoorNq
import Derived.Test.YtfbkmjjcopjoeaaDoorLaw
import Derived.Test.YtfbkmjjcopjoeaaDoorRows
import Derived.Test.YtfbkmjjcopjoeaaDoorCards
import Derived.Test.YtfbkmjjcopjoeaaDoorTie
import Derived.Test.YtfbkmjjcopjoeaaDoorChecked
import Derived.ProofKit
import Derived.OpenShut
import Derived.LaidMore
import Derived.Lay
import Derived.SevenTiedAt
import Derived.Stop.Joined
namespace Go.Proofs.YtfbkmjjcopjoeaaDoor
open Go.RowKit Go.ChangeShapes Go.WideShapes

theorem str_run5 {w : World} {A : Option Addr} {n c : Nat} {l : List UInt8} (hn : l.length = n) (h : Bytes w A l) : (convert 35 9 (.slice A n c)).run Tryd.prog w = .ok (.string ⟨l.toArray⟩) w :=
  run_str_bytes (P := Tryd.prog) _ 35 9 5 Tryd.underlying35 Tryd.underlying5 Tryd.underlying9 A n c l hn h
theorem conv1 (x : UInt8) (v : Int) (hv : v = (x.toNat : Int)) (w : World) : (convert 35 9 (.slice (some ⟨w.heap.size, 0, none⟩) 1 1)).run Tryd.prog (w.alloc (.cells #[.int .u8 v] 5)) = .ok (.string ⟨#[x]⟩) (w.alloc (.cells #[.int .u8 v] 5)) := by
  subst hv
  exact str_run5 (l := [x]) rfl (bytes_new w 5 [x] (0, 0))
theorem dig_one {k : Nat} (h : k < 10) : Lx.digitsB k = [UInt8.ofNat (48 + k)] := by rw [Lx.digitsB, if_pos h]
theorem dig_more {k : Nat} (h : ¬ k < 10) : Lx.digitsB k = Lx.digitsB (k / 10) ++ [UInt8.ofNat (48 + k % 10)] := by rw [Lx.digitsB, if_neg h]
/-- How far the digits are written. -/
def DigI (k0 kk : Nat) (tx : List UInt8) : Prop := (tx = [] ∧ kk = k0) ∨ (tx ≠ [] ∧ Lx.digitsB k0 = (if kk = 0 then [] else Lx.digitsB kk) ++ tx)
theorem DigI.step {k0 kk : Nat} {tx : List UInt8} (h : DigI k0 kk tx) (hc : 0 < kk ∨ tx = []) : DigI k0 (kk / 10) (UInt8.ofNat (48 + kk % 10) :: tx) := by
  refine .inr ⟨by simp, ?_⟩
  have key : Lx.digitsB kk = (if kk / 10 = 0 then [] else Lx.digitsB (kk / 10)) ++ [UInt8.ofNat (48 + kk % 10)] := by
    by_cases h10 : kk < 10
    · rw [dig_one h10, if_pos (by omega), Nat.mod_eq_of_lt h10]; rfl
    · rw [dig_more h10, if_neg (by omega)]
  rcases h with ⟨rfl, rfl⟩ | ⟨hne, h⟩
  · exact key
  · have hk : 0 < kk := hc.resolve_right hne
    rw [h, if_neg (by omega), key, List.append_assoc]; rfl
theorem DigI.done {k0 : Nat} {tx : List UInt8} (h : DigI k0 0 tx) (hne : tx ≠ []) : tx = Lx.digitsB k0 := by
  rcases h with ⟨h, _⟩ | ⟨_, h⟩
  · exact (hne h).elim
  · rw [h]; rfl
theorem buildL5 (a : ByteArray) (v : Int) (w : World) : (Instr.build 33 #[(0, .int .u8 2), (1, .string a), (2, .int .i64 v)]).run Tryd.prog w = .ok (.agg #[.int .u8 2, .string a, .int .i64 v, .int .i64 0]) w := run_build w _ _ _ (by kernel_rfl)
set_option maxRecDepth 100000 in
set_option maxHeartbeats 8000000 in
theorem lexNumbers_walk (n : Int) (c : UInt8) (w : World) (hn1 : -9223372036854775808 ≤ n) (hn2 : n ≤ 9223372036854775807) : Calls Tryd.prog 7 #[.int .i64 n, .int .u8 (c.toNat : Int)] w fun e w' => e = .returned (.bool true) ∧ Below w.heap.size w w' := by
  go_enter Tryd.func7, Tryd.ntmps7
  go_wp2_with fail
  refine (awake_any w).mono ?_
  rintro e w1 ⟨rfl, hb⟩
  have B1 := hide hb
  clear hb
  by_cases hbig : 999999999999999999 < n
  case pos =>
    go_wp2_with fail
    go_ret
    exact ⟨rfl, B1.out⟩
  by_cases hlow : n < -999999999999999999
  case pos =>
    go_wp2_with fail
    go_ret
    exact ⟨rfl, B1.out⟩
  obtain ⟨k0, hk0⟩ : ∃ k, n.natAbs = k := ⟨_, rfl⟩
  have hk18 : k0 < 10 ^ 18 := by omega
  have hdl : (Lx.digitsB k0).length ≤ 18 := Lx.digitsB_len k0 18 hk18 (by decide)
  have Hk := hide (show n.natAbs = k0 ∧ k0 < 10 ^ 18 ∧ (Lx.digitsB k0).length ≤ 18 from ⟨hk0, hk18, hdl⟩)
  have hk9 : k0 < 1000000000000000000 := by omega
  have hstart : ∀ (P : Prop), P → P := fun _ h => h
  clear hk0 hk18 hdl hstart
  by_cases hneg : n < 0
  case pos =>
    have hk : -n = (k0 : Int) := by have := Hk.out.1; omega
    have hwn : IntKind.i64.wrap (-n) = (k0 : Int) := by rw [hk]; exact IntWalk.i64_in _ (by omega)
    go_wp2_with fail
    go_loopg [5, 6] (k0 + 1) (fun gk sv kv wr => ∃ (kk : Nat) (tx : List UInt8), sv = .string ⟨tx.toArray⟩ ∧ kv = .int .i64 (kk : Int) ∧ DigI k0 kk tx ∧ kk ≤ k0 ∧ tx.length ≤ 18 ∧ gk = kk + (if tx = [] then 1 else 0) ∧ Below w.heap.size w wr)
    case atStart => exact ⟨k0, [], rfl, rfl, .inl ⟨rfl, rfl⟩, Nat.le_refl _, by simp, by simp, B1.out⟩
    case round =>
    obtain ⟨kk, tx, rfl, rfl, hD, hkk, htl, hgk, hB⟩ := hrel
    have Hgk := hide hgk
    clear hgk
    have HD := hide hD
    have BR := hide hB
    have Htl := hide htl
    clear hD hB
    have htz : (⟨tx.toArray⟩ : ByteArray).size = tx.length := rfl
    by_cases hgo : 0 < kk ∨ tx = []
    case pos =>
      obtain ⟨r, hr⟩ : ∃ r, kk % 10 = r := ⟨_, rfl⟩
      obtain ⟨q, hq⟩ : ∃ q, kk / 10 = q := ⟨_, rfl⟩
      have hr9 : r < 10 := by omega
      have hrem : ((kk : Int)).tmod 10 = (r : Int) := by rw [← hr]; rfl
      have hrem2 : ((kk : Int)) % 10 = (r : Int) := by omega
      have hquo : ((kk : Int)).tdiv 10 = (q : Int) := by rw [← hq]; rfl
      have hquo2 : ((kk : Int)) / 10 = (q : Int) := by omega
      have hstep := HD.out.step hgo
      rw [hr, hq] at hstep
      obtain ⟨x, hx⟩ : ∃ x, UInt8.ofNat (48 + r) = x := ⟨_, rfl⟩
      have hxv : (48 : Int) + (r : Int) = (x.toNat : Int) := by rw [← hx]; simp; omega
      rw [hx] at hstep
      have hconv := conv1 x (x.toNat : Int) rfl
      have hcat : (⟨#[x]⟩ : ByteArray) ++ (⟨tx.toArray⟩ : ByteArray) = ⟨(x :: tx).toArray⟩ := ba_cat [x] tx
      have hz1 : (⟨#[x]⟩ : ByteArray).size = 1 := rfl
      have hlim : ¬ 9223372036854775807 < 1 + tx.length := by omega
      have hxl : (x :: tx).length ≤ 18 := by
        rcases hstep with ⟨h, _⟩ | ⟨_, h⟩
        · cases h
        · have h2 := congrArg List.length h
          rw [List.length_append] at h2
          have := Hk.out.2.2
          omega
      have Hst := hide (show DigI k0 q (x :: tx) ∧ (x :: tx).length ≤ 18 ∧ q ≤ k0 ∧ q < kk + (if tx = [] then 1 else 0) from ⟨hstep, hxl, by omega, by
        by_cases h : tx = []
        · rw [if_pos h]; omega
        · rw [if_neg h]; have := hgo.resolve_right h; omega⟩)
      have hkk9 : kk < 1000000000000000000 := by omega
      clear hstep hxl hr hq hx
      by_cases hk1 : 0 < kk
      · clear hgo
        go_wp2_with fail
        go_roundg q
        case measure => have h1 := Hgk.out; have h2 := Hst.out.2.2.2; omega
        case rel => exact ⟨q, x :: tx, rfl, rfl, Hst.out.1, Hst.out.2.2.1, Hst.out.2.1, by simp, BR.out.alloc BR.out.size _⟩
      · obtain rfl : kk = 0 := by omega
        obtain rfl : tx = [] := hgo.resolve_left (by omega)
        obtain rfl : r = 0 := by omega
        obtain rfl : q = 0 := by omega
        obtain rfl : x = 48 := UInt8.toNat_inj.1 (by rw [show (48 : UInt8).toNat = 48 from rfl]; omega)
        have hconv0 := conv1 48 48 rfl
        have hgk2 := Hgk.out
        simp only [if_true, Nat.zero_add] at hgk2
        have Hgk2 := hide hgk2
        clear hgo hrem hrem2 hquo hquo2 hxv hconv hgk2 hcat
        go_wp2_with fail
        go_roundg 0
        case measure => have h1 := Hgk2.out; omega
        case rel => exact ⟨0, [48], rfl, rfl, Hst.out.1, Nat.zero_le _, by simp, by simp, BR.out.alloc BR.out.size _⟩
    case neg =>
      obtain rfl : kk = 0 := by omega
      have hne : tx ≠ [] := fun h => hgo (.inr h)
      have hem : tx.isEmpty = false := by simpa using hne
      have htx := HD.out.done hne
      have Htx := hide htx
      obtain ⟨y, hy⟩ : ∃ y, 45 :: tx = y := ⟨_, rfl⟩
      have hcat45 : (⟨#[45]⟩ : ByteArray) ++ (⟨tx.toArray⟩ : ByteArray) = ⟨y.toArray⟩ := by rw [← hy]; exact ba_cat [45] tx
      have hz45 : (⟨#[45]⟩ : ByteArray).size = 1 := rfl
      have hlim45 : ¬ 9223372036854775807 < 1 + tx.length := by omega
      have hY : Lx.numB n = y := by rw [Lx.numB, if_pos hneg, Hk.out.1, ← htx, ← hy]; rfl
      clear hgo hne htx hy
      go_wp2_with fail
      have hlex := Lx.numbers_ok n (by have := Hk.out; omega)
      rw [hY] at hlex
      have hyl := Lx.numB_len n (by have := Hk.out; omega)
      rw [hY] at hyl
      have hbad := fun h => Lx.numbers_bad n c (by have := Hk.out; omega) h
      rw [hY] at hbad
      have Hlex := hide hlex
      have Hbad := hide hbad
      have hy20 : y.length ≤ 20 := by omega
      have hyz : (⟨y.toArray⟩ : ByteArray).size = y.length := rfl
      clear hlex hbad hyl
      refine (toks_all y wr).mono ?_
      rintro e w3 ⟨ho, hb⟩
      rw [Hlex.out] at ho
      obtain ⟨A, c', rfl, hrow, _⟩ := ho
      have B3 := hide (BR.out.trans (hb.mono BR.out.size))
      have HA3 := hide hrow.at_
      obtain ⟨w4, hw4⟩ : ∃ w4, w3.alloc (.cells #[.int .u8 (c.toNat : Int)] 5) = w4 := ⟨_, rfl⟩
      have hb4 : Below w3.heap.size w3 w4 := by rw [← hw4]; exact (Below.refl _ _).alloc (Nat.le_refl _) _
      have B4 := hide (B3.out.trans (hb4.mono B3.out.size))
      have HA4 := hide (HA3.out.below hb4)
      have hconvc := conv1 c (c.toNat : Int) rfl w3
      rw [hw4] at hconvc
      have hcatc : (⟨y.toArray⟩ : ByteArray) ++ (⟨#[c]⟩ : ByteArray) = ⟨(y ++ [c]).toArray⟩ := ba_cat y [c]
      have hzc : (⟨#[c]⟩ : ByteArray).size = 1 := rfl
      have hlimc : ¬ 9223372036854775807 < y.length + 1 := by omega
      clear hrow hb hb4
      go_wp2_with fail
      refine (toks_all (y ++ [c]) w4).mono ?_
      rintro e w5 ⟨ho, hb⟩
      have B5 := hide (B4.out.trans (hb.mono B4.out.size))
      have HA5 := hide (HA4.out.below hb)
      have Hlet := hide (letter_any c w5)
      clear hb hw4 hconvc hcatc hzc hlimc
      obtain ⟨g, o, rfl, a0, a1, a2, a3⟩ := HA5.out.get (j := 0) (t := ⟨2, y, n, 0⟩) rfl
      simp only [Nat.zero_mul, Nat.add_zero] at a0 a1 a2 a3
      have hl2 : ([⟨2, y, n, 0⟩, ⟨0, [], 0, y.length⟩] : List Lx.Tok).length = 2 := rfl
      have hb5 := buildL5
      by_cases hc : (Lx.isLetter c || c == 46) = true
      · rw [Hbad.out hc] at ho
        obtain rfl : e = _ := ho
        clear a0 a1 a2 a3
        cases hlt : Lx.isLetter c with
        | true =>
          rw [hlt] at Hlet
          clear hc hlt
          go_wp2_with fail
          refine Hlet.out.mono ?_
          rintro e w6 ⟨rfl, rfl⟩
          go_wp2_with fail
          go_ret
          exact ⟨rfl, B5.out⟩
        | false =>
          rw [hlt] at Hlet hc
          have h46 : ((c.toNat : Int) == 46) = true := by
            have : c = 46 := by simpa using hc
            rw [this]; rfl
          clear hc hlt
          go_wp2_with fail
          refine Hlet.out.mono ?_
          rintro e w6 ⟨rfl, rfl⟩
          go_wp2_with fail
          go_ret
          exact ⟨rfl, B5.out⟩
      · have hlt : Lx.isLetter c = false := by
          cases h : Lx.isLetter c with
          | false => rfl
          | true => rw [h] at hc; simp at hc
        have h46 : ((c.toNat : Int) == 46) = false := by
          rw [beq_eq_false_iff_ne]
          intro h
          have : c = 46 := UInt8.toNat_inj.1 (show c.toNat = 46 by omega)
          rw [this] at hc
          exact hc (by decide)
        rw [hlt] at Hlet
        clear hc hlt
        cases hR2 : Lx.lexL (y ++ [c]) with
        | inr p =>
          rw [hR2] at ho
          obtain rfl : e = _ := ho
          clear hR2
          go_wp2_with fail
          refine Hlet.out.mono ?_
          rintro e w6 ⟨rfl, rfl⟩
          go_wp2_with fail
          go_ret
          exact ⟨rfl, B5.out⟩
        | inl us =>
          rw [hR2] at ho
          obtain ⟨A9, c9, rfl, _, _⟩ := ho
          clear hR2
          go_wp2_with fail
          refine Hlet.out.mono ?_
          rintro e w6 ⟨rfl, rfl⟩
          go_wp2_with fail
          go_ret
          exact ⟨rfl, B5.out⟩
  case neg =>
    obtain rfl : n = (k0 : Int) := by have := Hk.out.1; omega
    go_wp2_with fail
    go_loopg [5, 6] (k0 + 1) (fun gk sv kv wr => ∃ (kk : Nat) (tx : List UInt8), sv = .string ⟨tx.toArray⟩ ∧ kv = .int .i64 (kk : Int) ∧ DigI k0 kk tx ∧ kk ≤ k0 ∧ tx.length ≤ 18 ∧ gk = kk + (if tx = [] then 1 else 0) ∧ Below w.heap.size w wr)
    case atStart => exact ⟨k0, [], rfl, rfl, .inl ⟨rfl, rfl⟩, Nat.le_refl _, by simp, by simp, B1.out⟩
    case round =>
    obtain ⟨kk, tx, rfl, rfl, hD, hkk, htl, hgk, hB⟩ := hrel
    have Hgk := hide hgk
    clear hgk
    have HD := hide hD
    have BR := hide hB
    have Htl := hide htl
    clear hD hB
    have htz : (⟨tx.toArray⟩ : ByteArray).size = tx.length := rfl
    by_cases hgo : 0 < kk ∨ tx = []
    case pos =>
      obtain ⟨r, hr⟩ : ∃ r, kk % 10 = r := ⟨_, rfl⟩
      obtain ⟨q, hq⟩ : ∃ q, kk / 10 = q := ⟨_, rfl⟩
      have hr9 : r < 10 := by omega
      have hrem : ((kk : Int)).tmod 10 = (r : Int) := by rw [← hr]; rfl
      have hrem2 : ((kk : Int)) % 10 = (r : Int) := by omega
      have hquo : ((kk : Int)).tdiv 10 = (q : Int) := by rw [← hq]; rfl
      have hquo2 : ((kk : Int)) / 10 = (q : Int) := by omega
      have hstep := HD.out.step hgo
      rw [hr, hq] at hstep
      obtain ⟨x, hx⟩ : ∃ x, UInt8.ofNat (48 + r) = x := ⟨_, rfl⟩
      have hxv : (48 : Int) + (r : Int) = (x.toNat : Int) := by rw [← hx]; simp; omega
      rw [hx] at hstep
      have hconv := conv1 x (x.toNat : Int) rfl
      have hcat : (⟨#[x]⟩ : ByteArray) ++ (⟨tx.toArray⟩ : ByteArray) = ⟨(x :: tx).toArray⟩ := ba_cat [x] tx
      have hz1 : (⟨#[x]⟩ : ByteArray).size = 1 := rfl
      have hlim : ¬ 9223372036854775807 < 1 + tx.length := by omega
      have hxl : (x :: tx).length ≤ 18 := by
        rcases hstep with ⟨h, _⟩ | ⟨_, h⟩
        · cases h
        · have h2 := congrArg List.length h
          rw [List.length_append] at h2
          have := Hk.out.2.2
          omega
      have Hst := hide (show DigI k0 q (x :: tx) ∧ (x :: tx).length ≤ 18 ∧ q ≤ k0 ∧ q < kk + (if tx = [] then 1 else 0) from ⟨hstep, hxl, by omega, by
        by_cases h : tx = []
        · rw [if_pos h]; omega
        · rw [if_neg h]; have := hgo.resolve_right h; omega⟩)
      have hkk9 : kk < 1000000000000000000 := by omega
      clear hstep hxl hr hq hx
      by_cases hk1 : 0 < kk
      · clear hgo
        go_wp2_with fail
        go_roundg q
        case measure => have h1 := Hgk.out; have h2 := Hst.out.2.2.2; omega
        case rel => exact ⟨q, x :: tx, rfl, rfl, Hst.out.1, Hst.out.2.2.1, Hst.out.2.1, by simp, BR.out.alloc BR.out.size _⟩
      · obtain rfl : kk = 0 := by omega
        obtain rfl : tx = [] := hgo.resolve_left (by omega)
        obtain rfl : r = 0 := by omega
        obtain rfl : q = 0 := by omega
        obtain rfl : x = 48 := UInt8.toNat_inj.1 (by rw [show (48 : UInt8).toNat = 48 from rfl]; omega)
        have hconv0 := conv1 48 48 rfl
        have hgk2 := Hgk.out
        simp only [if_true, Nat.zero_add] at hgk2
        have Hgk2 := hide hgk2
        clear hgo hrem hrem2 hquo hquo2 hxv hconv hgk2 hcat
        go_wp2_with fail
        go_roundg 0
        case measure => have h1 := Hgk2.out; omega
        case rel => exact ⟨0, [48], rfl, rfl, Hst.out.1, Nat.zero_le _, by simp, by simp, BR.out.alloc BR.out.size _⟩
    case neg =>
      obtain rfl : kk = 0 := by omega
      have hne : tx ≠ [] := fun h => hgo (.inr h)
      have hem : tx.isEmpty = false := by simpa using hne
      have htx := HD.out.done hne
      have Htx := hide htx
      have hY : Lx.numB (k0 : Int) = tx := by rw [Lx.numB, if_neg (by omega), show ((k0 : Int)).natAbs = k0 by omega, ← htx]; rfl
      clear hgo hne htx
      go_wp2_with fail
      have hlex := Lx.numbers_ok (k0 : Int) (by have := Hk.out; omega)
      rw [hY] at hlex
      have hyl := Lx.numB_len (k0 : Int) (by have := Hk.out; omega)
      rw [hY] at hyl
      have hbad := fun h => Lx.numbers_bad (k0 : Int) c (by have := Hk.out; omega) h
      rw [hY] at hbad
      have Hlex := hide hlex
      have Hbad := hide hbad
      have hy20 : tx.length ≤ 20 := by omega
      have hyz : (⟨tx.toArray⟩ : ByteArray).size = tx.length := rfl
      clear hlex hbad hyl
      refine (toks_all tx wr).mono ?_
      rintro e w3 ⟨ho, hb⟩
      rw [Hlex.out] at ho
      obtain ⟨A, c', rfl, hrow, _⟩ := ho
      have B3 := hide (BR.out.trans (hb.mono BR.out.size))
      have HA3 := hide hrow.at_
      obtain ⟨w4, hw4⟩ : ∃ w4, w3.alloc (.cells #[.int .u8 (c.toNat : Int)] 5) = w4 := ⟨_, rfl⟩
      have hb4 : Below w3.heap.size w3 w4 := by rw [← hw4]; exact (Below.refl _ _).alloc (Nat.le_refl _) _
      have B4 := hide (B3.out.trans (hb4.mono B3.out.size))
      have HA4 := hide (HA3.out.below hb4)
      have hconvc := conv1 c (c.toNat : Int) rfl w3
      rw [hw4] at hconvc
      have hcatc : (⟨tx.toArray⟩ : ByteArray) ++ (⟨#[c]⟩ : ByteArray) = ⟨(tx ++ [c]).toArray⟩ := ba_cat tx [c]
      have hzc : (⟨#[c]⟩ : ByteArray).size = 1 := rfl
      have hlimc : ¬ 9223372036854775807 < tx.length + 1 := by omega
      clear hrow hb hb4
      go_wp2_with fail
      refine (toks_all (tx ++ [c]) w4).mono ?_
      rintro e w5 ⟨ho, hb⟩
      have B5 := hide (B4.out.trans (hb.mono B4.out.size))
      have HA5 := hide (HA4.out.below hb)
      have Hlet := hide (letter_any c w5)
      clear hb hw4 hconvc hcatc hzc hlimc
      obtain ⟨g, o, rfl, a0, a1, a2, a3⟩ := HA5.out.get (j := 0) (t := ⟨2, tx, (k0 : Int), 0⟩) rfl
      simp only [Nat.zero_mul, Nat.add_zero] at a0 a1 a2 a3
      have hl2 : ([⟨2, tx, (k0 : Int), 0⟩, ⟨0, [], 0, tx.length⟩] : List Lx.Tok).length = 2 := rfl
      have hb5 := buildL5
      by_cases hc : (Lx.isLetter c || c == 46) = true
      · rw [Hbad.out hc] at ho
        obtain rfl : e = _ := ho
        clear a0 a1 a2 a3
        cases hlt : Lx.isLetter c with
        | true =>
          rw [hlt] at Hlet
          clear hc hlt
          go_wp2_with fail
          refine Hlet.out.mono ?_
          rintro e w6 ⟨rfl, rfl⟩
          go_wp2_with fail
          go_ret
          exact ⟨rfl, B5.out⟩
        | false =>
          rw [hlt] at Hlet hc
          have h46 : ((c.toNat : Int) == 46) = true := by
            have : c = 46 := by simpa using hc
            rw [this]; rfl
          clear hc hlt
          go_wp2_with fail
          refine Hlet.out.mono ?_
          rintro e w6 ⟨rfl, rfl⟩
          go_wp2_with fail
          go_ret
          exact ⟨rfl, B5.out⟩
      · have hlt : Lx.isLetter c = false := by
          cases h : Lx.isLetter c with
          | false => rfl
          | true => rw [h] at hc; simp at hc
        have h46 : ((c.toNat : Int) == 46) = false := by
          rw [beq_eq_false_iff_ne]
          intro h
          have : c = 46 := UInt8.toNat_inj.1 (show c.toNat = 46 by omega)
          rw [this] at hc
          exact hc (by decide)
        rw [hlt] at Hlet
        clear hc hlt
        cases hR2 : Lx.lexL (tx ++ [c]) with
        | inr p =>
          rw [hR2] at ho
          obtain rfl : e = _ := ho
          clear hR2
          go_wp2_with fail
          refine Hlet.out.mono ?_
          rintro e w6 ⟨rfl, rfl⟩
          go_wp2_with fail
          go_ret
          exact ⟨rfl, B5.out⟩
        | inl us =>
          rw [hR2] at ho
          obtain ⟨A9, c9, rfl, _, _⟩ := ho
          clear hR2
          go_wp2_with fail
          refine Hlet.out.mono ?_
          rintro e w6 ⟨rfl, rfl⟩
          go_wp2_with fail
          go_ret
          exact ⟨rfl, B5.out⟩
theorem lexNumbers_int (x y : Int) (w : World) (hx : (Lit.int .i64 x).wf = true) (hy : (Lit.int .u8 y).wf = true) : Calls Tryd.prog 7 #[.int .i64 x, .int .u8 y] w fun e w' => e = .returned (.bool true) ∧ Below w.heap.size w w' := by
  simp [Lit.wf, IntKind.min, IntKind.max, IntKind.signed, IntKind.bits] at hx hy
  obtain ⟨c, rfl⟩ : ∃ c : UInt8, y = (c.toNat : Int) := ⟨UInt8.ofNat y.toNat, by simp; omega⟩
  exact lexNumbers_walk x c w (by omega) (by omega)
set_option maxRecDepth 100000 in
theorem lexNumbers_lifted (os : Os) (started : os.Started) (H : Type) (enc : TypeId × Value → H) :
    ReturnsInHanded {} Tryd.checked os 7 .any (fun w args => (Rows.lexNumbersSpec.pre enc Tryd.prog Tryd.f7 Rows.lexNumbersRow.domain false w args ∧ laidMetH Tryd.prog Rows.lexNumbersRow.laid w) ∧ sizedMet enc Tryd.prog Tryd.f7 (OpenSpec.ofChange Rows.lexNumbersSpec) false w args)
      (Rows.lexNumbersSpec.post enc Tryd.prog Tryd.f7 false true false false) := by
  refine returnsInHanded_of_change_and (C := Tryd.checked) (X := fun w _ => laidMetH Tryd.prog Rows.lexNumbersRow.laid w) (fun _ _ _ hh h => h.of_heap hh) own0 started (by kernel_rfl) Tryd.func7
    (ChangeSpec.witness_shaped (enc := enc) (C := Tryd.checked) (os := os) (X := fun w _ => laidMetH Tryd.prog Rows.lexNumbersRow.laid w) false (World.laidAll Tryd.prog os Rows.lexNumbersRow.laid) #[.int .i64 0, .int .u8 0] 8 (World.laidAll_os _ _ _)
      (World.shaped_of_ZipB (by kernel_rfl) (by kernel_rfl)) (by kernel_rfl) (by kernel_rfl) (by kernel_rfl)
      (by rw [MakeChecks.laidMetH_plain _ _ _ (by kernel_rfl)]; exact laidMet_laidAll _ (by kernel_rfl) (by kernel_rfl))) ?_
  intro W base args ds gs before hval0 hW _ hsz0 _ _
  have hsz : (DataW.weightsEach Tryd.prog (Tryd.f7.params.toList ++ Rows.lexNumbersSpec.plain.varTypes Tryd.prog) (ds ++ gs)).all (· ≤ reachBytes) = true := hsz0
  have hval : ∀ (j : Nat) t v, Tryd.f7.params[j]? = some t → args[j]? = some v → Value.okWide Tryd.prog W .any base t v := hval0
  have hW' := hW
  obtain ⟨p, q, hA0, hV, rfl, hfz, hnd⟩ := hW
  have hA : DataW.TrodAll enc Tryd.prog W 0 (fun _ => true) true Tryd.f7.params.toList args.toList ds p := hA0
  rw [Tryd.params7] at hA hval hsz
  obtain ⟨v0, v1, d0, d1, p0, p1, rfl, rfl, rfl, h0, h1⟩ := trodAll_two hA
  obtain ⟨rfl, rfl⟩ := trodVars_none hV
  obtain ⟨x0, rfl, rfl, rfl, w0⟩ := open_int Tryd.underlying2 (hval 0 2 v0 rfl rfl) h0
  obtain ⟨x1, rfl, rfl, rfl, w1⟩ := open_int Tryd.underlying5 (hval 1 5 v1 rfl rfl) h1
  clear hA0 hval0
  refine (lexNumbers_int x0 x1 W w0 w1).mono fun e W' ⟨he, hb⟩ => ?_
  subst he
  exact ⟨_, rfl, law_close laid0 Tryd.underlying4 rfl rfl (by rw [Tryd.params7]; decide +kernel) hW' (fun gs hg => by subst hg; rfl) hb⟩

theorem lexNumbers_holds : Rows.LexNumbersSaid :=
  OpenClaim.holds_of_wide 7 Tryd.f7 rfl rfl rfl rfl rfl rfl rfl ⟨rfl, rfl, rfl, rfl, rfl⟩ rfl rfl rfl rfl rfl (by kernel_rfl) Tryd.func7 (by kernel_rfl)
    (of_decide_eq_true (by kernel_rfl)) (by unfold Func.isWrapper; first | (rw [if_pos (by decide +kernel)]; kernel_rfl) | (rw [if_neg (by decide +kernel)]; exact ⟨rfl, rfl⟩))
    (fun os started H enc _ => lexNumbers_lifted os started H enc)

theorem lexNumbers_card : Rows.LexNumbersCardSaid :=
  Claim7.holds_tied_plain_at .later [] [.data, .data, .data, .sentinel, .sentinel] true (true, "e4bfb0f06945ad57cbe129f0a800df575de38e037401972ea3686dcdf7ec80d3") true
    lexNumbers_holds (fun _ h => by cases h) (by kernel_rfl) (fun _ h => by cases h) lexNumbers_row_tie rfl ⟨rfl, rfl⟩ (by kernel_rfl) rfl
    (fun f fn hf hfn => by
      obtain rfl : f = 7 := Option.some.inj ((show Tryd.prog.funcNamed "columbary/columbarylaw05.LexNumbers" = some 7 by kernel_rfl).symm.trans hf) |>.symm
      obtain rfl : fn = Tryd.f7 := (Option.some.inj (Tryd.func7.symm.trans hfn)).symm
      exact ⟨by kernel_rfl, fun j t ht => by
        rw [Tryd.params7] at ht
        have hm : t ∈ [2,5] := by
          have h := Array.mem_of_getElem? ht
          simp only [List.mem_toArray, List.mem_cons, List.not_mem_nil, or_false] at h ⊢
          simpa using h
        have hall : ([2,5].all fun u => !Tryd.prog.wantsStandIn u) = true := by kernel_rfl
        exact (show Tryd.prog.wantsStandIn t = false by simpa using List.all_eq_true.1 hall t hm)⟩)
    (by kernel_rfl)
end Go.Proofs.YtfbkmjjcopjoeaaDoor
