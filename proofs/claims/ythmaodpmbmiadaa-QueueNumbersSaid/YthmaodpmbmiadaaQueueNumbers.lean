/-
  Things are numbered as they come, and those up to a number go first: QueueNumbers answers true for any numbers; no condition.
-/
import Derived.Test.YthmaodpmbmiadaaQaw
import Derived.Test.YthmaodpmbmiadaaQop
namespace Go.Proofs.Ythmaodpmbmiadaa
open Go.RowKit Go.ChangeShapes Go.WideShapes Go.ChangeAt

def nums (g m : Nat) : List Value := (List.range m).map fun i => .int .u64 ((g + i + 1 : Nat) : Int)
theorem nums_len (g m : Nat) : (nums g m).length = m := by simp [nums]
theorem nums_get (g m i : Nat) (h : i < m) : (nums g m)[i]? = some (.int .u64 ((g + i + 1 : Nat) : Int)) := by
  rw [nums, List.getElem?_map, List.getElem?_range h]; rfl
theorem nums_put (g m : Nat) : nums g m ++ [.int .u64 ((g + m + 1 : Nat) : Int)] = nums g (m + 1) := by
  rw [nums, nums, List.range_succ, List.map_append]; rfl
theorem nums_drop (g m k : Nat) (h : k ≤ m) : (nums g m).drop k = nums (g + k) (m - k) := by
  apply List.ext_getElem?
  intro i
  rw [List.getElem?_drop]
  by_cases hi : k + i < m
  · rw [nums_get _ _ _ hi, nums_get _ _ _ (by omega)]
    congr 2
    omega
  · rw [List.getElem?_eq_none (by rw [nums_len]; omega), List.getElem?_eq_none (by rw [nums_len]; omega)]
theorem nums_one (g m : Nat) : ∀ v ∈ nums g m, One v := by
  intro v hv
  simp only [nums, List.mem_map] at hv
  obtain ⟨i, _, rfl⟩ := hv
  exact ⟨rfl, rfl⟩

/-- The queue holds the m numbers behind g. -/
def NQ (w0 w : World) (S : QS) (g m : Nat) : Prop := m ≤ 64 ∧ OnQ w0 w 91 { S with cap := 64, gone := g, l := nums g m }
theorem NQ.put {w0 w : World} {S : QS} {g m : Nat} (h : NQ w0 w S g m) (hm : m < 64) (hg : g ≤ 100000) :
    Calls Try.prog 29 #[.pointer (some ⟨S.q, 0, none⟩), .int .u64 ((g + m + 1 : Nat) : Int)] w fun e w' => e = .returned (.tuple #[.int .u64 ((g + m + 1 : Nat) : Int), .int .i64 0]) ∧ NQ w0 w' S g (m + 1) := by
  refine (putU64 _ (.int .u64 ((g + m + 1 : Nat) : Int)) w h.2.at_ (by show (nums g m).length < 64; rw [nums_len]; exact hm) (by show g < _; omega)).mono ?_
  rintro e w' ⟨rfl, hq, hf⟩
  refine ⟨?_, by omega, ?_⟩
  · have e : (({ S with cap := 64, gone := g, l := nums g m } : QS).last + 1) = g + m + 1 := by show g + (nums g m).length + 1 = _; rw [nums_len]
    rw [e]
  · have h2 := h.2.step hq hf rfl rfl
    simp only [QS.put, nums_put] at h2
    exact h2
theorem NQ.full {w0 w : World} {S : QS} {g : Nat} (x : Value) (h : NQ w0 w S g 64) :
    Calls Try.prog 29 #[.pointer (some ⟨S.q, 0, none⟩), x] w fun e w' => e = .returned (.tuple #[.int .u64 0, .int .i64 17]) ∧ w' = w :=
  putFullU64 { S with cap := 64, gone := g, l := nums g 64 } x w h.2.at_ (by show 64 ≤ (nums g 64).length; rw [nums_len]; exact Nat.le_refl _)
theorem NQ.gone {w0 w : World} {S : QS} {g m : Nat} (h : NQ w0 w S g m) : Calls Try.prog 30 #[.pointer (some ⟨S.q, 0, none⟩)] w fun e w' => e = .returned (.int .u64 (g : Int)) ∧ w' = w :=
  goneU64 { S with cap := 64, gone := g, l := nums g m } w h.2.at_
theorem NQ.drewN {w0 w : World} {S : QS} {g m : Nat} (h : NQ w0 w S g m) (n : Nat) : NQ w0 (w.drewN n) S g m := ⟨h.1, h.2.drewN n⟩
theorem NQ.dropArg {w0 w : World} {S : QS} {g m to : Nat} (h : NQ w0 w S g m) (hg : g ≤ 100000) (ht : g + m < to) :
    Calls Try.prog 31 #[.pointer (some ⟨S.q, 0, none⟩), .int .u64 (to : Int)] w fun e w' => (∃ x, e = .returned (.tuple #[x, .int .i64 1])) ∧ NQ w0 w' S g m := by
  refine (dropArgU64 _ to w h.2.at_ (by show g < _; omega) (by show g + (nums g m).length < to; rw [nums_len]; exact ht)).mono ?_
  rintro e w' ⟨rfl, n, rfl⟩
  exact ⟨⟨_, rfl⟩, h.drewN n⟩
theorem NQ.drop {w0 w : World} {S : QS} {g m k : Nat} (h : NQ w0 w S g m) (hg : g ≤ 100000) (ht : k ≤ m) :
    Calls Try.prog 31 #[.pointer (some ⟨S.q, 0, none⟩), .int .u64 ((g + k : Nat) : Int)] w fun e w' => (∃ x, e = .returned (.tuple #[x, .int .i64 0])) ∧ NQ w0 w' S (g + k) (m - k) := by
  refine (dropU64 _ (g + k) w h.2.at_ (by show g < _; omega) (by show g + k ≤ g + (nums g m).length; rw [nums_len]; omega)).mono ?_
  rintro e w' ⟨rfl, hq, hf⟩
  refine ⟨⟨_, rfl⟩, by have := h.1; omega, ?_⟩
  have h2 := h.2.step hq hf rfl rfl
  simp only [QS.drop] at h2
  rw [show g + k - g = k by omega, nums_drop _ _ _ ht] at h2
  exact h2
def AllAt (w : World) (A : Option Addr) (g m : Nat) : Prop := m = 0 ∨ ∃ b, A = some ⟨b, 0, none⟩ ∧ ∀ i, i < m → w.cell? ⟨b, i, none⟩ = some (.int .u64 ((g + i + 1 : Nat) : Int))
theorem AllAt.drewN {w : World} {A : Option Addr} {g m : Nat} (h : AllAt w A g m) (n : Nat) : AllAt (w.drewN n) A g m := h
theorem NQ.all {w0 w : World} {S : QS} {g m : Nat} (h : NQ w0 w S g m) : Calls Try.prog 32 #[.pointer (some ⟨S.q, 0, none⟩)] w fun e w' =>
    ∃ A c, e = .returned (.slice A m c) ∧ AllAt w' A g m ∧ NQ w0 w' S g m := by
  refine (allU64 _ w h.2.at_ (nums_one g m)).mono ?_
  rintro e w' ⟨A, c, rfl, hrow, hA, hq, hf⟩
  simp only [nums_len] at hrow
  refine ⟨A, c, by simp only [nums_len], ?_, h.1, h.2.step hq hf rfl rfl⟩
  rcases hrow.2.2 with ⟨_, hn⟩ | ⟨b, cap, cur, he, _, hb, hc, hm, hs, ht⟩
  · exact .inl hn
  · rcases Nat.eq_zero_or_pos m with h0 | h0
    · exact .inl h0
    · injection he with h1 h2 h3
      subst h1 h3
      refine .inr ⟨b, rfl, fun i hi => ?_⟩
      have hbk : Blk w' b 29 cur := hb
      rw [hbk.cell, ← Array.getElem?_toList]
      rw [Nat.mul_one] at ht
      have := congrArg (fun l => l[i]?) ht
      simp only [List.getElem?_take, if_pos hi] at this
      rw [this, nums_get _ _ _ hi]

set_option maxRecDepth 100000 in
set_option maxHeartbeats 4000000 in
theorem qnum_any (x0 : Int) (A : Option Addr) (cd : Nat) (l : List UInt8) (w : World) (h0 : 0 ≤ x0) (h0' : x0 ≤ 255) (hb : Bytes w A l) (hl : l.length ≤ maxLen) : Calls Try.prog 7 #[.int .u8 x0, .slice A l.length cd] w fun e w' => e = .returned (.bool true) ∧ Below w.heap.size w w' := by
  obtain ⟨n, hn⟩ : ∃ n, l.length = n := ⟨_, rfl⟩
  rw [hn]
  have hnm : n ≤ 9223372036854775807 := by simp only [maxLen] at hl; omega
  have Hn := hide hn
  have Hb := hide hb
  clear hn hb hl
  go_enter Try.func7, Try.ntmps7
  go_wp2_with fail
  refine (awake_any w).mono ?_
  rintro e w1 ⟨rfl, hb1⟩
  have Hb1 := hide hb1
  clear hb1
  go_wp2_with fail
  refine (newU64 64 0 w1 (by omega) (by omega)).mono ?_
  rintro e w2 ⟨S, rfl, hq, hcap, hgone, hl, hb, hF⟩
  have hS : ({ S with cap := 64, gone := 0, l := nums 0 0 } : QS) = S := by
    obtain ⟨a, b, c, d, l⟩ := S
    simp only at hcap hgone hl
    subst hcap hgone hl
    rfl
  have F0 := hide (show NQ w w2 S 0 0 from ⟨Nat.zero_le _, by rw [hS]; exact OnQ.new Hb1.out hq hb hF⟩)
  clear hq hcap hgone hl hb hF hS
  go_wp2_with fail
  go_loopw [7, 8] (fun nv iv wr => ∃ i g m : Nat, i ≤ n ∧ i ≤ 60 ∧ g ≤ 9 * i ∧ nv = .int .u64 ((g + m + 1 : Nat) : Int) ∧ iv = .int .i64 (i : Int) ∧ NQ w wr S g m) (fun _ iv _ => 60 - (intOf iv).toNat)
  case atStart => exact ⟨0, 0, 0, Nat.zero_le _, Nat.zero_le _, Nat.zero_le _, rfl, rfl, F0.out⟩
  case round =>
    obtain ⟨i, g, m, hi, hi6, hg, rfl, rfl, hq⟩ := hrel
    have Hq := hide hq
    clear hq
    by_cases hi1 : i < n
    · by_cases hi2 : i < 60
      · go_wp2_with fail
        have Hi1 := hide hi1
        have Hi2 := hide hi2
        clear hi1 hi2
        generalize decide ((i : Int) < 60) = bb
        go_loopw [7, 9] (fun nv kv wr => ∃ k m : Nat, k ≤ 8 ∧ nv = .int .u64 ((g + m + 1 : Nat) : Int) ∧ kv = .int .i64 (k : Int) ∧ NQ w wr S g m) (fun _ kv _ => 8 - (intOf kv).toNat)
        case atStart => exact ⟨0, m, Nat.zero_le _, rfl, rfl, Hq.out⟩
        case round =>
          obtain ⟨k, m, hk, rfl, rfl, hq⟩ := hrel
          have hm64 := hq.1
          have Hq := hide hq
          clear hq
          by_cases hk1 : (k : Int) < 1 + x0 % 7
          · by_cases hm : m < 64
            · go_wp2_with fail
              refine (Hq.out.put hm (by omega)).mono ?_
              rintro e w3 ⟨rfl, hq3⟩
              have Hq3 := hide hq3
              clear hq3
              go_wp2
              go_roundw
              case rel => exact ⟨k + 1, m + 1, by omega, by go_num, by go_num, Hq3.out⟩
              case measure => simp [intOf]; omega
            · obtain rfl : m = 64 := by omega
              go_wp2_with fail
              refine (Hq.out.full _).mono ?_
              rintro e w3 ⟨rfl, rfl⟩
              go_wp2
              go_roundw
              case rel => exact ⟨k + 1, 64, by omega, by go_num, by go_num, Hq.out⟩
              case measure => simp [intOf]; omega
          · have hi1 := Hi1.out
            have hi2 := Hi2.out
            obtain ⟨d, hd⟩ : ∃ d, l[i]? = some d := ⟨_, List.getElem?_eq_getElem (by rw [Hn.out]; exact hi1)⟩
            obtain ⟨gb, ob, rfl, hcell⟩ : ∃ gb ob, A = some ⟨gb, ob, none⟩ ∧ w.rangeAt gb ob (B8s l) := by
              rcases Hb.out with h | ⟨gb, ob, h1, h2⟩
              · subst h; simp at hd
              · exact ⟨gb, ob, h1, h2⟩
            have hd0 := hcell i (B8 d) (by rw [B8s_get, hd]; rfl)
            have hd1 : wr.cell? ⟨gb, ob + i, none⟩ = some (.int .u8 (d.toNat : Int)) := (Hq.out.2.below.cell (p := ⟨gb, ob + i, none⟩) (World.block_lt_of_cell? w (a := ⟨gb, ob + i, none⟩) hd0)).trans hd0
            obtain ⟨dn, hdn⟩ : ∃ dn, d.toNat = dn := ⟨_, rfl⟩
            rw [hdn] at hd1
            have hd256 : dn < 256 := by rw [← hdn]; exact d.toNat_lt
            clear hd hcell hd0 hdn
            go_upto_region 16 with fail
            go_quiet ((go_at_call 30; exact Calls.quiet_of_same (Hq.out.drewN _).gone))
            obtain ⟨kq, hkq⟩ : ∃ kq, dn % 9 = kq := ⟨_, rfl⟩
            have hk9 : kq ≤ 8 := by omega
            have hw : IntKind.u64.wrap ((g : Int) + (IntKind.u64.wrap (dn : Int)).tmod 9) = ((g + kq : Nat) : Int) := by
              rw [IntKind.wrap_u64, IntKind.wrap_u64, Int.tmod_eq_emod_of_nonneg (by omega)]; omega
            rw [hw]
            clear hw hkq hd1 hd256
            by_cases hkm : kq ≤ m
            · have hcmp : (g : Int) + kq < g + m + 1 := by omega
              go_wp2_with fail
              refine ((Hq.out.drewN _).drop (by omega) hkm).mono ?_
              rintro e w5 ⟨⟨y, rfl⟩, hq5⟩
              have Hq5 := hide hq5
              clear hq5
              go_wp2_with fail
              refine (Hq5.out.all).mono ?_
              rintro e w6 ⟨A6, c6, rfl, hall, hq6⟩
              have Hq6 := hide hq6
              have Hall := hide hall
              clear hq6 hall
              obtain ⟨g6, hg6⟩ : ∃ g6, g + kq = g6 := ⟨_, rfl⟩
              obtain ⟨m6, hm6⟩ : ∃ m6, m - kq = m6 := ⟨_, rfl⟩
              have hgm : g6 + m6 = g + m := by omega
              have hgm2 : g6 ≤ 9 * (i + 1) := by omega
              simp only [hg6, hm6] at Hq6 Hall ⊢
              have hm64' : m6 ≤ 64 := Hq6.out.1
              clear Hq5
              go_wp2_with fail
              go_loopw [16] (fun kv wr => ∃ k : Nat, k ≤ m6 ∧ kv = .int .i64 (k : Int) ∧ NQ w wr S g6 m6 ∧ AllAt wr A6 g6 m6) (fun kv _ => m6 - (intOf kv).toNat)
              case atStart => exact ⟨0, Nat.zero_le _, rfl, Hq6.out, Hall.out⟩
              case round =>
                obtain ⟨k6, hk6, rfl, hq7, hall7⟩ := hrel
                have Hq7 := hide hq7
                have Hall7 := hide hall7
                clear hq7 hall7
                by_cases hk7 : k6 < m6
                · obtain ⟨b6, rfl, hc6⟩ : ∃ b, A6 = some ⟨b, 0, none⟩ ∧ ∀ i, i < m6 → wr.cell? ⟨b, i, none⟩ = some (.int .u64 ((g6 + i + 1 : Nat) : Int)) := by
                    rcases Hall7.out with h | h
                    · omega
                    · exact h
                  have hc7 := hc6 k6 hk7
                  clear hc6
                  go_upto_region 24 with fail
                  go_quiet ((go_at_call 30; exact Calls.quiet_of_same (Hq7.out.drewN _).gone))
                  have hw7 : IntKind.u64.wrap (IntKind.u64.wrap ((g6 : Int) + IntKind.u64.wrap (k6 : Int)) + 1) = ((g6 + k6 + 1 : Nat) : Int) := by
                    rw [IntKind.wrap_u64, IntKind.wrap_u64, IntKind.wrap_u64]; omega
                  try simp only [hw7]
                  go_wp2
                  go_roundw
                  case rel => first | exact ⟨k6 + 1, by omega, by go_num, Hq7.out.drewN _, Hall7.out.drewN _⟩ | ((repeat apply Exists.intro); exact ⟨⟨k6 + 1, by omega, by go_num, Hq7.out.drewN _, Hall7.out.drewN _⟩, rfl⟩)
                  case measure => simp [intOf]; omega
                · obtain rfl : k6 = m6 := by omega
                  go_wp2
                  go_roundw
                  case rel => first | exact ⟨i + 1, g6, k6, by omega, by omega, hgm2, by go_num, by go_num, Hq7.out⟩ | ((repeat apply Exists.intro); exact ⟨⟨i + 1, g6, k6, by omega, by omega, hgm2, by go_num, by go_num, Hq7.out⟩, rfl⟩)
                  case measure => simp [intOf]; omega
            · have hcmp : ¬ ((g : Int) + kq < g + m + 1) := by omega
              go_wp2_with fail
              refine ((Hq.out.drewN _).dropArg (by omega) (by omega)).mono ?_
              rintro e w5 ⟨⟨y, rfl⟩, hq5⟩
              have Hq5 := hide hq5
              clear hq5
              go_wp2_with fail
              refine (Hq5.out.all).mono ?_
              rintro e w6 ⟨A6, c6, rfl, hall, hq6⟩
              have Hq6 := hide hq6
              have Hall := hide hall
              clear hq6 hall
              obtain ⟨g6, hg6⟩ : ∃ g6, g = g6 := ⟨_, rfl⟩
              obtain ⟨m6, hm6⟩ : ∃ m6, m = m6 := ⟨_, rfl⟩
              have hgm : g6 + m6 = g + m := by omega
              have hgm2 : g6 ≤ 9 * (i + 1) := by omega
              simp only [hg6, hm6] at Hq6 Hall ⊢
              have hm64' : m6 ≤ 64 := Hq6.out.1
              clear Hq5
              go_wp2_with fail
              go_loopw [16] (fun kv wr => ∃ k : Nat, k ≤ m6 ∧ kv = .int .i64 (k : Int) ∧ NQ w wr S g6 m6 ∧ AllAt wr A6 g6 m6) (fun kv _ => m6 - (intOf kv).toNat)
              case atStart => exact ⟨0, Nat.zero_le _, rfl, Hq6.out, Hall.out⟩
              case round =>
                obtain ⟨k6, hk6, rfl, hq7, hall7⟩ := hrel
                have Hq7 := hide hq7
                have Hall7 := hide hall7
                clear hq7 hall7
                by_cases hk7 : k6 < m6
                · obtain ⟨b6, rfl, hc6⟩ : ∃ b, A6 = some ⟨b, 0, none⟩ ∧ ∀ i, i < m6 → wr.cell? ⟨b, i, none⟩ = some (.int .u64 ((g6 + i + 1 : Nat) : Int)) := by
                    rcases Hall7.out with h | h
                    · omega
                    · exact h
                  have hc7 := hc6 k6 hk7
                  clear hc6
                  go_upto_region 24 with fail
                  go_quiet ((go_at_call 30; exact Calls.quiet_of_same (Hq7.out.drewN _).gone))
                  have hw7 : IntKind.u64.wrap (IntKind.u64.wrap ((g6 : Int) + IntKind.u64.wrap (k6 : Int)) + 1) = ((g6 + k6 + 1 : Nat) : Int) := by
                    rw [IntKind.wrap_u64, IntKind.wrap_u64, IntKind.wrap_u64]; omega
                  try simp only [hw7]
                  go_wp2
                  go_roundw
                  case rel => first | exact ⟨k6 + 1, by omega, by go_num, Hq7.out.drewN _, Hall7.out.drewN _⟩ | ((repeat apply Exists.intro); exact ⟨⟨k6 + 1, by omega, by go_num, Hq7.out.drewN _, Hall7.out.drewN _⟩, rfl⟩)
                  case measure => simp [intOf]; omega
                · obtain rfl : k6 = m6 := by omega
                  go_wp2
                  go_roundw
                  case rel => first | exact ⟨i + 1, g6, k6, by omega, by omega, hgm2, by go_num, by go_num, Hq7.out⟩ | ((repeat apply Exists.intro); exact ⟨⟨i + 1, g6, k6, by omega, by omega, hgm2, by go_num, by go_num, Hq7.out⟩, rfl⟩)
                  case measure => simp [intOf]; omega
      · go_wp2
        go_ret
        exact ⟨rfl, Hq.out.2.below⟩
    · go_wp2
      go_ret
      exact ⟨rfl, Hq.out.2.below⟩
set_option maxRecDepth 100000 in
theorem queueNumbers_lifted (os : Os) (started : os.Started) (H : Type) (enc : TypeId × Value → H) :
    ReturnsInHanded {} Try.checked os 7 .any (Rows.queueNumbersSpec.pre6 enc Try.prog Try.f7 Rows.queueNumbersRow.domain false) (Rows.queueNumbersSpec.post enc Try.prog Try.f7 false true false false) := by
  refine returnsInHanded_of_change (C := Try.checked) own0 started (by kernel_rfl) Try.func7
    (ChangeSpec.witness6 (enc := enc) (C := Try.checked) false ⟨#[], #[.int .u8 0, .slice none 0 0], []⟩ 8 (by kernel_rfl) (by kernel_rfl) (by kernel_rfl) (by kernel_rfl)) ?_
  intro W base args ds gs before hval0 hW _ _
  have hval : ∀ (j : Nat) t v, Try.f7.params[j]? = some t → args[j]? = some v → Value.okWide Try.prog W .any base t v := hval0
  have hW' := hW
  obtain ⟨p, q, hA0, hV, rfl, hfz, hnd⟩ := hW
  have hA : DataW.TrodAll enc Try.prog W 0 (fun _ => true) true Try.f7.params.toList args.toList ds p := hA0
  rw [Try.params7] at hA hval
  obtain ⟨v0, v1, d0, d1, p0, p1, rfl, rfl, rfl, h0, h1⟩ := trodAll_two hA
  obtain ⟨rfl, rfl⟩ := trodVars_none hV
  obtain ⟨x0, rfl, rfl, rfl, w0⟩ := open_int Try.underlying5 (hval 0 5 v0 rfl rfl) h0
  obtain ⟨A1, c1, l1, rfl, b1, m1⟩ := open_bytes Try.underlying62 Try.underlying5 (by kernel_rfl) (hval 1 62 v1 rfl rfl) h1
  clear hA0 hval0
  refine (qnum_any x0 A1 c1 l1 W (u8_of_wf w0).1 (u8_of_wf w0).2 b1 m1).mono fun e W' ⟨he, hb⟩ => ?_
  subst he
  exact ⟨_, rfl, law_close laid0 Try.underlying4 rfl rfl (by rw [Try.params7]; decide +kernel) hW' (fun gs hg => by subst hg; rfl) hb⟩

theorem queueNumbers_holds : Rows.QueueNumbersSaid :=
  OpenClaim.holds_of_wide 7 Try.f7 rfl rfl rfl rfl rfl rfl rfl ⟨rfl, rfl, rfl, rfl, rfl⟩ rfl rfl rfl rfl rfl (by kernel_rfl) Try.func7 (by kernel_rfl)
    (of_decide_eq_true (by kernel_rfl)) (by unfold Func.isWrapper; first | (rw [if_pos (by decide +kernel)]; kernel_rfl) | (rw [if_neg (by decide +kernel)]; exact ⟨rfl, rfl⟩))
    (fun os started H enc _ => queueNumbers_lifted os started H enc)
end Go.Proofs.Ythmaodpmbmiadaa
