/-
  A queue of any type goes by the order, not by the things: QueueTypes answers true for any pairs and capacity; no condition.
-/
import Derived.Test.YthmaodpmbmiadaaQaw
import Derived.Test.YthmaodpmbmiadaaQmPair
import Derived.Test.YthmaodpmbmiadaaQop
namespace Go.Proofs.Ythmaodpmbmiadaa
open Go.RowKit Go.ChangeShapes Go.WideShapes Go.ChangeAt

def PS (xs : List PairD) (m t : Nat) : List Value := ((xs.take m).drop t).map fun p => pv p.pa p.pb
def IS (m t : Nat) : List Value := ((List.range m).drop t).map fun (i : Nat) => .int .i64 (i : Int)
theorem PS_len (xs : List PairD) (m t : Nat) (h : m ≤ xs.length) : (PS xs m t).length = m - t := by simp [PS]; omega
theorem IS_len (m t : Nat) : (IS m t).length = m - t := by simp [IS]
theorem PS_put (xs : List PairD) (m : Nat) (p : PairD) (h : xs[m]? = some p) : PS xs m 0 ++ [pv p.pa p.pb] = PS xs (m + 1) 0 := by
  simp [PS, List.take_add_one, h]
theorem IS_put (m : Nat) : IS m 0 ++ [.int .i64 (m : Int)] = IS (m + 1) 0 := by simp [IS, List.range_succ]
theorem PS_cons (xs : List PairD) (m t : Nat) (p : PairD) (h : xs[t]? = some p) (ht : t < m) : PS xs m t = pv p.pa p.pb :: PS xs m (t + 1) := by
  obtain ⟨hl, hp⟩ := List.getElem?_eq_some_iff.1 h
  have hlt : t < (xs.take m).length := by rw [List.length_take]; omega
  rw [PS, List.drop_eq_getElem_cons hlt, List.map_cons]
  simp [PS, hp]
theorem IS_cons (m t : Nat) (ht : t < m) : IS m t = .int .i64 (t : Int) :: IS m (t + 1) := by
  rw [IS, List.drop_eq_getElem_cons (by simpa using ht), List.map_cons]
  simp [IS]

/-- The two queues: of pairs, and of numbers. -/
structure TQ (w0 w : World) (S1 S2 : QS) (n : Nat) (xs : List PairD) (m t : Nat) : Prop where
  a : OnQ w0 w 79 { S1 with cap := n, gone := t, l := PS xs m t }
  b : OnQ w0 w 82 { S2 with cap := n, gone := t, l := IS m t }
  apart : ∀ k, S1.F k → ¬ S2.F k
  hm : m ≤ n ∧ m ≤ xs.length
theorem TQ.half {w0 w w' : World} {S1 S2 : QS} {n : Nat} {l2 : List Value} {g2 : Nat} {t : TypeId} (h : OnQ w0 w t { S2 with cap := n, gone := g2, l := l2 }) (h1 : ∀ k, S1.F k → w0.heap.size ≤ k) (ha : ∀ k, S1.F k → ¬ S2.F k) (f : Fr S1.F w w') :
    OnQ w0 w' t { S2 with cap := n, gone := g2, l := l2 } := h.fr f (fun k hk => ⟨h1 k hk, ha k hk⟩)

set_option maxRecDepth 100000 in
set_option maxHeartbeats 4000000 in
theorem qtypes_any (A : Option Addr) (cd : Nat) (xs : List PairD) (x1 : Int) (w : World) (h0 : 0 ≤ x1) (h0' : x1 ≤ 255) (hb : PairDs w A xs) (hl : xs.length ≤ 9223372036854775807) : Calls Try.prog 4 #[.slice A xs.length cd, .int .u8 x1] w fun e w' => e = .returned (.bool true) ∧ Below w.heap.size w w' := by
  obtain ⟨len, hlen⟩ : ∃ n, xs.length = n := ⟨_, rfl⟩
  rw [hlen]
  have hlm : len ≤ 9223372036854775807 := by omega
  have Hlen := hide hlen
  have Hb := hide hb
  clear hlen hb hl
  by_cases hn100 : len ≤ 100
  · go_enter Try.func4, Try.ntmps4
    go_wp2_with fail
    refine (awake_any w).mono ?_
    rintro e w1 ⟨rfl, hb1⟩
    have Hb1 := hide hb1
    clear hb1
    go_wp2_with fail
    obtain ⟨n, hn⟩ : ∃ n : Nat, 1 + x1 % 64 = (n : Int) := ⟨(1 + x1 % 64).toNat, by omega⟩
    have hn1 : 1 ≤ n := by omega
    have hn2 : n ≤ 64 := by omega
    simp only [hn]
    clear hn h0 h0'
    refine (newPair n 0 w1 hn1 hn2).mono ?_
    rintro e w2 ⟨S1, rfl, hq1, hcap1, hgone1, hl1, hb2, hF1⟩
    have hO1 := OnQ.new Hb1.out hq1 hb2 hF1
    have Hold := hide (show ∀ k, S1.F k → k < w2.heap.size from fun k hk => by
      rcases hk with rfl | rfl
      · exact hq1.blk.lt
      · exact hq1.ch.lt)
    have hS1 : ({ S1 with cap := n, gone := 0, l := PS xs 0 0 } : QS) = S1 := by
      obtain ⟨a, b, c, d, l⟩ := S1
      simp only at hcap1 hgone1 hl1
      subst hcap1 hgone1 hl1
      rfl
    have HO1 := hide hO1
    have HS1 := hide hS1
    clear hq1 hcap1 hgone1 hl1 hb2 hF1 hO1 hS1
    go_wp2_with fail
    refine (newInt n 0 w2 hn1 hn2).mono ?_
    rintro e w3 ⟨S2, rfl, hq2, hcap2, hgone2, hl2, hb3, hF2⟩
    have hS2 : ({ S2 with cap := n, gone := 0, l := IS 0 0 } : QS) = S2 := by
      obtain ⟨a, b, c, d, l⟩ := S2
      simp only at hcap2 hgone2 hl2
      subst hcap2 hgone2 hl2
      rfl
    have F0 := hide (show TQ w w3 S1 S2 n xs 0 0 from ⟨by rw [HS1.out]; exact HO1.out.fr (F := fun _ => False) (Fr.of_below hb3) (fun _ h => h.elim), by rw [hS2]; exact OnQ.new HO1.out.below hq2 hb3 hF2, fun k h1 h2 => by have := Hold.out k h1; have := hF2 k h2; omega, Nat.zero_le _, Nat.zero_le _⟩)
    clear hq2 hcap2 hgone2 hl2 hb3 hF2 hS2 HO1 HS1 Hold
    go_wp2_with fail
    go_loopw [10] (fun iv wr => ∃ i m : Nat, i ≤ len ∧ (m = i ∨ m = n) ∧ m ≤ i ∧ iv = .int .i64 (i : Int) ∧ TQ w wr S1 S2 n xs m 0) (fun iv _ => len - (intOf iv).toNat)
    case atStart => exact ⟨0, 0, Nat.zero_le _, .inl rfl, Nat.le_refl _, rfl, F0.out⟩
    case round =>
      obtain ⟨i, m, hi, hmi, hmi2, rfl, hq⟩ := hrel
      by_cases hi1 : i < len
      · obtain ⟨d, hd⟩ : ∃ d, xs[i]? = some d := ⟨_, List.getElem?_eq_getElem (by rw [Hlen.out]; exact hi1)⟩
        obtain ⟨gb, ob, rfl, hat⟩ : ∃ gb ob, A = some ⟨gb, ob, none⟩ ∧ PairDAt wr gb (ob + i * 2) d := by
          rcases Hb.out.below hq.a.below with h | ⟨gb, ob, h1, h2⟩
          · subst h; simp at hd
          · exact ⟨gb, ob, h1, h2 i d hd⟩
        have c0 := hat.pa
        have c1 := hat.pb
        have Hd := hide hd
        have Hq := hide hq
        clear hd hat hq
        by_cases hmn : m < n
        · obtain rfl : m = i := by omega
          have hr1 : ({ S1 with cap := n, gone := 0, l := PS xs m 0 } : QS).l.length < n := by show (PS xs m 0).length < n; rw [PS_len _ _ _ Hq.out.hm.2]; omega
          have hr2 : ({ S2 with cap := n, gone := 0, l := IS m 0 } : QS).l.length < n := by show (IS m 0).length < n; rw [IS_len]; omega
          have Hr1 := hide hr1
          have Hr2 := hide hr2
          clear hr1 hr2
          go_wp2_with fail
          refine (putPair { S1 with cap := n, gone := 0, l := PS xs m 0 } d.pa d.pb wr Hq.out.a.at_ Hr1.out (by show 0 < _; omega)).mono ?_
          rintro e w4 ⟨rfl, hq4, hf4⟩
          have ha4 := Hq.out.a.step hq4 hf4 rfl rfl
          have hb4 := TQ.half (S1 := S1) Hq.out.b Hq.out.a.own Hq.out.apart hf4
          have Ha4 := hide ha4
          have Hb4 := hide hb4
          clear hq4 hf4 ha4 hb4 c0 c1
          go_wp2_with fail
          refine (putInt { S2 with cap := n, gone := 0, l := IS m 0 } (.int .i64 (m : Int)) w4 Hb4.out.at_ Hr2.out (by show 0 < _; omega)).mono ?_
          rintro e w5 ⟨rfl, hq5, hf5⟩
          have hb5 := Hb4.out.step hq5 hf5 rfl rfl
          have ha5 := TQ.half (S1 := S2) (S2 := S1) Ha4.out Hb4.out.own (fun k h1 h2 => Hq.out.apart k h2 h1) hf5
          have Fin := hide (show TQ w w5 S1 S2 n xs (m + 1) 0 from ⟨by rw [← PS_put _ _ _ Hd.out]; exact ha5, by rw [← IS_put]; exact hb5, Hq.out.apart, by omega, by rw [Hlen.out]; omega⟩)
          clear hq5 hf5 hb5 ha5
          go_wp2
          go_roundw
          case rel => first | exact ⟨m + 1, m + 1, by omega, .inl rfl, Nat.le_refl _, by go_num, Fin.out⟩ | ((repeat apply Exists.intro); exact ⟨⟨m + 1, m + 1, by omega, .inl rfl, Nat.le_refl _, by go_num, Fin.out⟩, rfl⟩)
          case measure => simp [intOf]; omega
        · obtain rfl : m = n := by have := Hq.out.hm; omega
          have hr1 : m ≤ ({ S1 with cap := m, gone := 0, l := PS xs m 0 } : QS).l.length := by show m ≤ (PS xs m 0).length; rw [PS_len _ _ _ Hq.out.hm.2]; omega
          have hr2 : m ≤ ({ S2 with cap := m, gone := 0, l := IS m 0 } : QS).l.length := by show m ≤ (IS m 0).length; rw [IS_len]; omega
          have Hr1 := hide hr1
          have Hr2 := hide hr2
          clear hr1 hr2
          go_wp2_with fail
          refine (putFullPair { S1 with cap := m, gone := 0, l := PS xs m 0 } d.pa d.pb wr Hq.out.a.at_ Hr1.out).mono ?_
          rintro e w4 ⟨rfl, hq4, hf4⟩
          have ha4 := Hq.out.a.step hq4 hf4 rfl rfl
          have hb4 := TQ.half (S1 := S1) Hq.out.b Hq.out.a.own Hq.out.apart hf4
          have Fin := hide (show TQ w w4 S1 S2 m xs m 0 from ⟨ha4, hb4, Hq.out.apart, Hq.out.hm⟩)
          have Hb4 := hide hb4
          clear hq4 hf4 ha4 hb4 c0 c1
          go_wp2_with fail
          refine (putFullInt { S2 with cap := m, gone := 0, l := IS m 0 } (.int .i64 (i : Int)) w4 Hb4.out.at_ Hr2.out).mono ?_
          rintro e w5 ⟨rfl, rfl⟩
          go_wp2
          go_roundw
          case rel => first | exact ⟨i + 1, m, by omega, .inr rfl, by omega, by go_num, Fin.out⟩ | ((repeat apply Exists.intro); exact ⟨⟨i + 1, m, by omega, .inr rfl, by omega, by go_num, Fin.out⟩, rfl⟩)
          case measure => simp [intOf]; omega
      · obtain rfl : i = len := by omega
        have hmin : m = min i n := by have := hq.hm; have := Hlen.out; omega
        have Hq := hide hq
        clear hq
        go_wp2_with fail
        go_loopw [15] (fun iv wr => ∃ t : Nat, t ≤ m ∧ iv = .int .i64 (t : Int) ∧ TQ w wr S1 S2 n xs m t) (fun iv _ => m - (intOf iv).toNat)
        case atStart => exact ⟨0, Nat.zero_le _, rfl, Hq.out⟩
        case round =>
          obtain ⟨t, ht, rfl, hq⟩ := hrel
          by_cases htm : t < m
          · obtain ⟨d, hd⟩ : ∃ d, xs[t]? = some d := ⟨_, List.getElem?_eq_getElem (by have := hq.hm; omega)⟩
            have htl : t < i := by omega
            have htn : t < n := by omega
            have hx1 := PS_cons xs m t d hd htm
            have hx2 := IS_cons m t htm
            have Hx1 := hide hx1
            have Hx2 := hide hx2
            have Hq := hide hq
            have Hd := hide hd
            clear hq hd hx1 hx2
            have Hmin := hide hmin
            clear hmin
            go_wp2_with fail
            refine (takePair { S1 with cap := n, gone := t, l := PS xs m t } d.pa d.pb _ wr Hq.out.a.at_ Hx1.out (by show t < _; omega)).mono ?_
            rintro e w4 ⟨rfl, hq4, hf4⟩
            have ha4 := Hq.out.a.step hq4 hf4 rfl rfl
            have hb4 := TQ.half (S1 := S1) Hq.out.b Hq.out.a.own Hq.out.apart hf4
            have Ha4 := hide ha4
            have Hb4 := hide hb4
            clear hq4 hf4 ha4 hb4
            obtain ⟨gb, ob, rfl, hat⟩ : ∃ gb ob, A = some ⟨gb, ob, none⟩ ∧ PairDAt w4 gb (ob + t * 2) d := by
              rcases Hb.out.below Ha4.out.below with h | ⟨gb, ob, h1, h2⟩
              · have hd := Hd.out; subst h; simp at hd
              · exact ⟨gb, ob, h1, h2 t d Hd.out⟩
            have k0 := hat.pa
            have k1 := hat.pb
            clear hat
            go_upto_region 19 with fail
            obtain ⟨wd, hwd⟩ : ∃ wd, w4.alloc (.cells #[.int .i64 d.pa, .string d.pb] 48) = wd := ⟨_, rfl⟩
            have Had := hide (show OnQ w wd 79 _ by rw [← hwd]; exact Ha4.out.fr (F := fun _ => False) ((Fr.refl _ _).alloc _) (fun _ h => h.elim))
            have Hbd := hide (show OnQ w wd 82 _ by rw [← hwd]; exact Hb4.out.fr (F := fun _ => False) ((Fr.refl _ _).alloc _) (fun _ h => h.elim))
            have Bd := hide (show Blk wd w4.heap.size 48 #[.int .i64 d.pa, .string d.pb] by rw [← hwd]; exact Blk.new w4 48 _)
            have k0d := hide (show wd.cell? ⟨gb, ob + t * 2, none⟩ = some (.int .i64 d.pa) by
              rw [← hwd]
              exact ((Fr.refl (fun _ => False) w4).alloc _).cell (p := ⟨gb, ob + t * 2, none⟩) (World.block_lt_of_cell? w4 (a := ⟨gb, ob + t * 2, none⟩) k0) (fun h => h) |>.trans k0)
            have k1d := hide (show wd.cell? ⟨gb, ob + t * 2 + 1, none⟩ = some (.string d.pb) by
              rw [← hwd]
              exact ((Fr.refl (fun _ => False) w4).alloc _).cell (p := ⟨gb, ob + t * 2 + 1, none⟩) (World.block_lt_of_cell? w4 (a := ⟨gb, ob + t * 2 + 1, none⟩) k1) (fun h => h) |>.trans k1)
            try rw [hwd]
            obtain ⟨nd, hnd⟩ : ∃ nd, w4.heap.size = nd := ⟨_, rfl⟩
            have hltd : nd < wd.heap.size := by rw [← hnd]; exact Bd.out.lt
            have Hnd := hide (show nd = w4.heap.size ∧ S2.q ≠ nd ∧ S2.c ≠ nd from ⟨hnd.symm, by have := Hb4.out.at_.blk.lt; simp only at this; omega, by have := Hb4.out.at_.ch.lt; simp only at this; omega⟩)
            have Hgb := hide (show (S2.q ≠ gb ∧ S2.c ≠ gb) by
              rcases Hb.out with h | ⟨g', o', he, hh⟩
              · have hd := Hd.out; rw [h] at hd; simp at hd
              · cases he
                have hlt := World.block_lt_of_cell? w (a := ⟨gb, ob + t * 2, none⟩) (hh t d Hd.out).pa
                have h1 : gb < w.heap.size := hlt
                have h2 := Hb4.out.own S2.q (.inl rfl)
                have h3 := Hb4.out.own S2.c (.inr rfl)
                omega)
            rw [hnd] at Bd ⊢
            clear hwd k0 k1 hnd hltd
            go_wp2_with fail
            refine (takeInt { S2 with cap := n, gone := t, l := IS m t } (.int .i64 (t : Int)) _ wd Hbd.out.at_ Hx2.out (by show t < _; omega)).mono ?_
            rintro e w5 ⟨rfl, hq5, hf5⟩
            have hb5 := Hbd.out.step hq5 hf5 rfl rfl
            have ha5 := TQ.half (S1 := S2) (S2 := S1) Had.out Hbd.out.own (fun k h1 h2 => Hq.out.apart k h2 h1) hf5
            have B5 := Bd.out.fr hf5 (fun h => h.elim (fun e => Hnd.out.2.1 e.symm) (fun e => Hnd.out.2.2 e.symm))
            have q0 := B5.cell 0
            have q1 := B5.cell 1
            have k05 : w5.cell? ⟨gb, ob + t * 2, none⟩ = some (.int .i64 d.pa) := (hf5.cell (p := ⟨gb, ob + t * 2, none⟩) (World.block_lt_of_cell? wd (a := ⟨gb, ob + t * 2, none⟩) k0d.out) (fun h => h.elim (fun e => Hgb.out.1 e.symm) (fun e => Hgb.out.2 e.symm))).trans k0d.out
            have k15 : w5.cell? ⟨gb, ob + t * 2 + 1, none⟩ = some (.string d.pb) := (hf5.cell (p := ⟨gb, ob + t * 2 + 1, none⟩) (World.block_lt_of_cell? wd (a := ⟨gb, ob + t * 2 + 1, none⟩) k1d.out) (fun h => h.elim (fun e => Hgb.out.1 e.symm) (fun e => Hgb.out.2 e.symm))).trans k1d.out
            have e1 : List.drop 1 (PS xs m t) = PS xs m (t + 1) := by rw [Hx1.out]; rfl
            have e2 : List.drop 1 (IS m t) = IS m (t + 1) := by rw [Hx2.out]; rfl
            have Fin := hide (show TQ w w5 S1 S2 n xs m (t + 1) from ⟨by have h := ha5; simp only [e1] at h; exact h, by have h := hb5; simp only [QS.drop, e2] at h; exact h, Hq.out.apart, Hq.out.hm⟩)
            clear e1 e2
            clear hq5 hf5 hb5 ha5 B5
            go_upto_region 20 with fail
            go_quiet (fail)
            go_wp2
            go_roundw
            case rel => first | exact ⟨t + 1, by omega, by go_num, ⟨Fin.out.a.drewN _, Fin.out.b.drewN _, Fin.out.apart, Fin.out.hm⟩⟩ | ((repeat apply Exists.intro); exact ⟨⟨t + 1, by omega, by go_num, ⟨Fin.out.a.drewN _, Fin.out.b.drewN _, Fin.out.apart, Fin.out.hm⟩⟩, rfl⟩)
            case measure => simp [intOf]; omega
          · obtain rfl : t = m := by omega
            have hstop : ¬ ((t : Int) < i ∧ (t : Int) < n) := by omega
            have hl1 : (PS xs t t).length = 0 := by rw [PS_len _ _ _ hq.hm.2]; omega
            have hl2 : (IS t t).length = 0 := by rw [IS_len]; omega
            have Hq := hide hq
            have Hl1 := hide hl1
            have Hl2 := hide hl2
            clear hq hl1 hl2
            by_cases hti : t < i
            · have htn : ¬ t < n := by omega
              clear hstop hmin
              go_wp2_with fail
              refine (lenPair { S1 with cap := n, gone := t, l := PS xs t t } wr Hq.out.a.at_).mono ?_
              rintro e w4 ⟨rfl, rfl⟩
              simp only [Hl1.out]
              go_wp2_with fail
              refine (lenInt { S2 with cap := n, gone := t, l := IS t t } w4 Hq.out.b.at_).mono ?_
              rintro e w5 ⟨rfl, rfl⟩
              simp only [Hl2.out]
              go_wp2
              go_ret
              exact ⟨rfl, Hq.out.a.below⟩
            · clear hstop hmin
              go_wp2_with fail
              refine (lenPair { S1 with cap := n, gone := t, l := PS xs t t } wr Hq.out.a.at_).mono ?_
              rintro e w4 ⟨rfl, rfl⟩
              simp only [Hl1.out]
              go_wp2_with fail
              refine (lenInt { S2 with cap := n, gone := t, l := IS t t } w4 Hq.out.b.at_).mono ?_
              rintro e w5 ⟨rfl, rfl⟩
              simp only [Hl2.out]
              go_wp2
              go_ret
              exact ⟨rfl, Hq.out.a.below⟩
  · go_enter Try.func4, Try.ntmps4
    go_wp2_with fail
    refine (awake_any w).mono ?_
    rintro e w1 ⟨rfl, hb1⟩
    have Hb1 := hide hb1
    clear hb1
    go_wp2_with fail
    refine (awake_any w1).mono ?_
    rintro e w2 ⟨rfl, hb2⟩
    have Hb2 := hide (Hb1.out.trans (hb2.mono Hb1.out.size))
    clear hb2
    go_wp2
    go_ret
    exact ⟨rfl, Hb2.out⟩

set_option maxRecDepth 100000 in
theorem queueTypes_lifted (os : Os) (started : os.Started) (H : Type) (enc : TypeId × Value → H) :
    ReturnsInHanded {} Try.checked os 4 .any (Rows.queueTypesSpec.pre6 enc Try.prog Try.f4 Rows.queueTypesRow.domain false) (Rows.queueTypesSpec.post enc Try.prog Try.f4 false true false false) := by
  refine returnsInHanded_of_change (C := Try.checked) own0 started (by kernel_rfl) Try.func4
    (ChangeSpec.witness6 (enc := enc) (C := Try.checked) false ⟨#[], #[.slice none 0 0, .int .u8 0], []⟩ 8 (by kernel_rfl) (by kernel_rfl) (by kernel_rfl) (by kernel_rfl)) ?_
  intro W base args ds gs before hval0 hW _ _
  have hval : ∀ (j : Nat) t v, Try.f4.params[j]? = some t → args[j]? = some v → Value.okWide Try.prog W .any base t v := hval0
  have hW' := hW
  obtain ⟨p, q, hA0, hV, rfl, hfz, hnd⟩ := hW
  have hA : DataW.TrodAll enc Try.prog W 0 (fun _ => true) true Try.f4.params.toList args.toList ds p := hA0
  rw [Try.params4] at hA hval
  obtain ⟨v0, v1, d0, d1, p0, p1, rfl, rfl, rfl, h0, h1⟩ := trodAll_two hA
  obtain ⟨rfl, rfl⟩ := trodVars_none hV
  obtain ⟨A0, c0, l0, rfl, b0, m0⟩ := open_PairD (hval 0 43 v0 rfl rfl) h0
  obtain ⟨x1, rfl, rfl, rfl, w1⟩ := open_int Try.underlying5 (hval 1 5 v1 rfl rfl) h1
  clear hA0 hval0
  refine (qtypes_any A0 c0 l0 x1 W (u8_of_wf w1).1 (u8_of_wf w1).2 b0 m0).mono fun e W' ⟨he, hb⟩ => ?_
  subst he
  exact ⟨_, rfl, law_close laid0 Try.underlying4 rfl rfl (by rw [Try.params4]; decide +kernel) hW' (fun gs hg => by subst hg; rfl) hb⟩

theorem queueTypes_holds : Rows.QueueTypesSaid :=
  OpenClaim.holds_of_wide 4 Try.f4 rfl rfl rfl rfl rfl rfl rfl ⟨rfl, rfl, rfl, rfl, rfl⟩ rfl rfl rfl rfl rfl (by kernel_rfl) Try.func4 (by kernel_rfl)
    (of_decide_eq_true (by kernel_rfl)) (by unfold Func.isWrapper; first | (rw [if_pos (by decide +kernel)]; kernel_rfl) | (rw [if_neg (by decide +kernel)]; exact ⟨rfl, rfl⟩))
    (fun os started H enc _ => queueTypes_lifted os started H enc)
end Go.Proofs.Ythmaodpmbmiadaa
