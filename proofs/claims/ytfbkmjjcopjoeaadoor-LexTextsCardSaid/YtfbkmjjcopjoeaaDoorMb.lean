/- columbaryref05: number. -/
import Derived.Test.YtfbkmjjcopjoeaaDoorMa
import Derived.Test.YtfbkmjjcopjoeaaDoorLt
namespace Go.Proofs.YtfbkmjjcopjoeaaDoor
open Go.RowKit

theorem val_append' (a b : List UInt8) (x : Nat) : Lx.val (a ++ b) x = Lx.val b (Lx.val a x) := Lx.val_append a b x
def tokV (k : Nat) (t : List UInt8) (n : Int) (at_ : Int) : Value := .agg #[.int .u8 (k : Int), .string ⟨t.toArray⟩, .int .i64 n, .int .i64 at_]
/-- What 'one' and its parts hand back, from place i on. -/
def oneV (i : Nat) : Lx.R → Value
  | .ok k t n len => .tuple #[tokV k t n 0, .int .i64 ((i + len : Nat) : Int), .int .i64 0, .int .i64 0]
  | .bad off e => .tuple #[tokV 0 [] 0 0, .int .i64 0, .int .i64 ((i + off : Nat) : Int), .int .i64 (e : Int)]
/-- A fault's answer. -/
def badV (x e : Nat) : Value := .tuple #[tokV 0 [] 0 0, .int .i64 0, .int .i64 (x : Int), .int .i64 (e : Int)]
theorem num_val {s : List UInt8} {i m f n0 k : Nat} {ds : List UInt8} (hf : i + m = f) (hds : (s.drop f).takeWhile Lx.isDigit = ds) (hn : ds.length = n0) (hk : f + n0 = k) :
    oneV i (Lx.numT (s.drop i) m) = if n0 = 0 then badV f 4 else if s[f]? = some 48 ∧ 1 < n0 then badV (f + 1) 4 else if (s[k]?.any fun c => Lx.isLetter c || c == 46) = true then badV k 4
      else if 18 < n0 then badV i 1 else .tuple #[tokV 2 ((s.take k).drop i) (if m = 1 then -(Lx.val ds 0 : Int) else (Lx.val ds 0 : Int)) 0, .int .i64 (k : Int), .int .i64 0, .int .i64 0] := by
  unfold Lx.numT
  rw [List.drop_drop, hf, hds]
  simp only
  have h0 : ds = [] ↔ n0 = 0 := by rw [← hn, List.length_eq_zero_iff]
  by_cases e0 : n0 = 0
  · rw [if_pos (h0.2 e0), if_pos e0, oneV, badV, hf]
  · rw [if_neg (fun h => e0 (h0.1 h)), if_neg e0]
    have hh : ds.head? = s[f]? := by
      have h := Lx.takeWhile_take Lx.isDigit (s.drop f)
      rw [hds] at h
      rw [h, List.head?_take, if_neg (by omega), List.head?_drop]
    rw [hh, hn]
    by_cases e1 : s[f]? = some 48 ∧ 1 < n0
    · rw [if_pos e1, if_pos e1, oneV, badV, show i + (m + 1) = f + 1 by omega]
    · rw [if_neg e1, if_neg e1, List.drop_drop, show i + (m + n0) = k by omega, List.head?_drop]
      by_cases e2 : (s[k]?.any fun c => Lx.isLetter c || c == 46) = true
      · rw [if_pos e2, if_pos e2, oneV, badV, show i + (m + n0) = k by omega]
      · rw [if_neg e2, if_neg e2]
        by_cases e3 : 18 < n0
        · rw [if_pos e3, if_pos e3, oneV, badV, Nat.add_zero]
        · rw [if_neg e3, if_neg e3, oneV, show i + (m + n0) = k by omega, List.take_drop, show i + (m + n0) = k by omega]
def OPost (i : Nat) (r : Lx.R) (w : World) (e : Ending) (w' : World) : Prop := e = .returned (oneV i r) ∧ Below w.heap.size w w'
theorem zeroT (w : World) : (zeroValue 50).run Tryd.prog w = .ok (.agg #[.int .u8 0, .string ⟨#[]⟩, .int .i64 0, .int .i64 0]) w := by
  have h : (Tryd.prog.info? 50).map (·.zero) = some (some (.agg #[.int .u8 0, .string ⟨#[]⟩, .int .i64 0, .int .i64 0])) := by kernel_rfl
  obtain ⟨i, hi, hz⟩ := Option.map_eq_some_iff.1 h
  simp [zeroValue, typeInfo, hi, hz]
theorem buildT0 (w : World) : (Instr.build 50 #[]).run Tryd.prog w = .ok (.agg #[.int .u8 0, .string ⟨#[]⟩, .int .i64 0, .int .i64 0]) w := run_build w _ _ _ (by kernel_rfl)
theorem buildT2 (a : ByteArray) (n : Int) (w : World) : (Instr.build 50 #[(0, .int .u8 2), (1, .string a), (2, .int .i64 n)]).run Tryd.prog w = .ok (.agg #[.int .u8 2, .string a, .int .i64 n, .int .i64 0]) w := run_build w _ _ _ (by kernel_rfl)
theorem buildT1 (k : Int) (a : ByteArray) (w : World) : (Instr.build 50 #[(0, .int .u8 k), (1, .string a)]).run Tryd.prog w = .ok (.agg #[.int .u8 k, .string a, .int .i64 0, .int .i64 0]) w := run_build w _ _ _ (by kernel_rfl)
set_option maxRecDepth 100000 in
set_option maxHeartbeats 4000000 in
theorem number_any (s : List UInt8) (i m : Nat) (c0 : UInt8) (w : World) (hi : s[i]? = some c0) (hs : s.length ≤ 2000) (hm : (c0 = 45 ∧ m = 1) ∨ (c0 ≠ 45 ∧ m = 0)) :
    Calls Tryd.prog 29 #[.string ⟨s.toArray⟩, .int .i64 (i : Int)] w (OPost i (Lx.numT (s.drop i) m) w) := by
  have hil : i < s.length := (List.getElem?_eq_some_iff.1 hi).1
  have hb1 := (Below.refl w.heap.size w).alloc (Nat.le_refl _) (.cells #[.int .u8 0, .string ⟨#[]⟩, .int .i64 0, .int .i64 0] 50)
  have hT := Blk.new w 50 #[.int .u8 0, .string ⟨#[]⟩, .int .i64 0, .int .i64 0]
  obtain ⟨w1, hw1⟩ : ∃ w1, w.alloc (.cells #[.int .u8 0, .string ⟨#[]⟩, .int .i64 0, .int .i64 0] 50) = w1 := ⟨_, rfl⟩
  rw [hw1] at hb1 hT
  have B1 := hide hb1
  have HT := hide hT
  have za := zeroT
  have hsz : (⟨s.toArray⟩ : ByteArray).size = s.length := rfl
  have hget := fun h => ba_get hi h
  have hneg : (c0.toNat : Int) = 45 ↔ m = 1 := by
    rcases hm with ⟨rfl, rfl⟩ | ⟨h, rfl⟩
    · simp
    · constructor
      · intro h'
        exact absurd (UInt8.toNat_inj.1 (show c0.toNat = (45 : UInt8).toNat by have : (45 : UInt8).toNat = 45 := rfl; omega)) h
      · intro h'; omega
  have Hm := hide hm
  have Hi := hide hi
  obtain ⟨f, hf⟩ : ∃ f, i + m = f := ⟨_, rfl⟩
  have hfl : f ≤ s.length := by rcases hm with ⟨_, rfl⟩ | ⟨_, rfl⟩ <;> omega
  obtain ⟨b45, hb45⟩ : ∃ b : Bool, ((c0.toNat : Int) == 45) = b ∧ b = decide (m = 1) := ⟨_, rfl, by rw [Bool.eq_iff_iff]; simp only [beq_iff_eq, decide_eq_true_eq]; exact hneg⟩
  obtain ⟨hb45, hbm⟩ := hb45
  clear hm hi hb1 hT hneg
  go_enter Tryd.func29, Tryd.ntmps29
  go_upto_region 3 with fail
  obtain ⟨ds, hds⟩ : ∃ ds, (s.drop f).takeWhile Lx.isDigit = ds := ⟨_, rfl⟩
  have hdl : ds.length ≤ s.length - f := by rw [← hds, ← List.length_drop]; exact Lx.takeWhile_le _ _
  have hdall : ∀ c ∈ ds, Lx.isDigit c = true := by rw [← hds]; exact Lx.mem_takeWhile_p _ _
  have hdget : ∀ (j : Nat), j ≤ ds.length → (j < ds.length ↔ ∃ c, s[f + j]? = some c ∧ Lx.isDigit c = true) := fun j hj => by
    have h := tw_iff Lx.isDigit (s.drop f) j (by rw [hds]; exact hj)
    rw [hds, List.getElem?_drop] at h
    exact h
  have hdc : ∀ (j : Nat) (c : UInt8), j < ds.length → s[f + j]? = some c → ds[j]? = some c := fun j c hj hc => by
    have h := Lx.takeWhile_take Lx.isDigit (s.drop f)
    rw [hds] at h
    rw [h, List.getElem?_take_of_lt hj, List.getElem?_drop]
    exact hc
  have Hds := hide hds
  have Hdl := hide hdl
  have Hdall := hide hdall
  have Hdget := hide hdget
  have Hdc := hide hdc
  clear hds hdl hdall hdget hdc
  have hm' : m = 0 ∨ m = 1 := Hm.out.elim (fun h => .inr h.2) (fun h => .inl h.2)
  have hfi : (m = 1 ∧ (i : Int) + 1 = (f : Int)) ∨ (m = 0 ∧ (i : Int) = (f : Int)) := by omega
  have Hf := hide hf
  have Hfl := hide hfl
  clear hm' hf hbm hb45 hget
  rcases hfi with ⟨rfl, hfi⟩ | ⟨rfl, hfi⟩
  all_goals
    have Hfi := hide hfi
    go_upto_region 5 with fail
    try rw [Hfi.out]
    clear hfi
    go_wp2_with fail
    clear hfl
    go_loopw [8, 11] (fun kv nv wr => ∃ j k : Nat, f + j = k ∧ j ≤ ds.length ∧ kv = .int .i64 (k : Int) ∧ nv = .int .i64 ((Lx.val (ds.take (min j 18)) 0 : Nat) : Int) ∧ w1 = wr) (fun kv _ _ => s.length - (intOf kv).toNat)
    case atStart => exact ⟨0, f, rfl, Nat.zero_le _, rfl, by simp [Lx.val], rfl⟩
    case round =>
    obtain ⟨j, k, hk, hj, rfl, rfl, rfl⟩ := hrel
    have hkl : k ≤ s.length := by have := Hdl.out; have := Hfl.out; omega
    have Hk := hide hk
    by_cases hjd : j < ds.length
    case pos =>
      obtain ⟨c, hc, hcd⟩ := (Hdget.out j hj).1 hjd
      have hdj := Hdc.out j c hjd hc
      rw [hk] at hc
      have hkl' : k < s.length := (List.getElem?_eq_some_iff.1 hc).1
      have hg := fun h => ba_get hc h
      have hda := digit_any c w1
      rw [hcd] at hda
      have Hda := hide hda
      have Hdj := hide hdj
      have Hcd := hide hcd
      have Hjd := hide hjd
      have hvl : Lx.val (ds.take (min j 18)) 0 < 10 ^ (min j 18) := by
        have h := val_lt (ds.take (min j 18)) (fun c hc => Hdall.out c (List.mem_of_mem_take hc))
        rw [List.length_take] at h
        rwa [show min (min j 18) ds.length = min j 18 by omega] at h
      obtain ⟨v, hv⟩ : ∃ v, Lx.val (ds.take (min j 18)) 0 = v := ⟨_, rfl⟩
      rw [hv] at hvl ⊢
      have Hv := hide hv
      clear hda hc hdj hcd hjd hv hk
      by_cases h18 : j < 18
      · have hv17 : v < 100000000000000000 := by
          have h2 : (10 : Nat) ^ (min j 18) ≤ 10 ^ 17 := Nat.pow_le_pow_right (by decide) (by omega)
          have h3 : (10 : Nat) ^ 17 = 100000000000000000 := by decide
          omega
        obtain ⟨d, hd, hd9⟩ : ∃ d : Nat, c.toNat - 48 = d ∧ (c.toNat : Int) - 48 = (d : Int) ∧ d ≤ 9 := by
          have h := Hcd.out
          rw [digit_nat] at h
          simp at h
          exact ⟨c.toNat - 48, rfl, by omega, by omega⟩
        obtain ⟨hd1, hd9⟩ := hd9
        have hsub : (k : Int) - (f : Int) = (j : Int) := by have := Hk.out; omega
        have Hd := hide hd
        have hj18 : decide ((j : Int) < 18) = true := decide_eq_true (by omega)
        clear hvl hd
        have hw2 : IntKind.i64.wrap ((v : Int) * 10 + (d : Int)) = ((v * 10 + d : Nat) : Int) := by simp [IntKind.wrap, IntKind.bits, IntKind.signed]; omega
        have hwr : IntKind.u8.wrap (d : Int) = (d : Int) := by simp [IntKind.wrap, IntKind.bits, IntKind.signed]; omega
        go_wp2_with (go_at_call 28; refine Hda.out.mono ?_; rintro e w' ⟨rfl, rfl⟩)
        go_roundw
        case rel =>
          refine ⟨j + 1, k + 1, by have := Hk.out; omega, by have := Hjd.out; omega, by go_num, ?_, by first | rfl | trivial⟩
          rw [show min (j + 1) 18 = j + 1 by omega, List.take_add_one, Hdj.out, val_append']
          have hv := Hv.out
          rw [show min j 18 = j by omega] at hv
          simp only [Option.toList_some, Lx.val, hv, Hd.out]
          go_num
        case measure => simp [intOf]; omega
      · have hsub : (k : Int) - (f : Int) = (j : Int) := by have := Hk.out; omega
        have hj18 : decide ((j : Int) < 18) = false := decide_eq_false (by omega)
        clear hvl
        go_wp2_with (go_at_call 28; refine Hda.out.mono ?_; rintro e w' ⟨rfl, rfl⟩)
        go_roundw
        case rel =>
          refine ⟨j + 1, k + 1, by have := Hk.out; omega, by have := Hjd.out; omega, by go_num, ?_, by first | rfl | trivial⟩
          have hv := Hv.out
          rw [show min j 18 = 18 by omega] at hv
          rw [show min (j + 1) 18 = 18 by omega, hv]
        case measure => simp [intOf]; omega
    case neg =>
    obtain ⟨n0, hn0⟩ : ∃ n0, ds.length = n0 := ⟨_, rfl⟩
    obtain rfl : n0 = j := by omega
    have HN := hide (num_val Hf.out Hds.out hn0 Hk.out)
    have Hn0 := hide hn0
    clear hjd hj hn0
    rcases Nat.lt_or_ge k s.length with hlt | hge
    · obtain ⟨c, hc⟩ : ∃ c, s[k]? = some c := ⟨_, List.getElem?_eq_getElem hlt⟩
      have hcd : Lx.isDigit c = false := by
        cases h : Lx.isDigit c with
        | false => rfl
        | true => have h2 := (Hdget.out n0 (by have := Hn0.out; omega)).2 ⟨c, by rw [Hk.out]; exact hc, h⟩; have := Hn0.out; omega
      have hg := fun h => ba_get hc h
      have hda := digit_any c w1
      rw [hcd] at hda
      have Hda := hide hda
      have Hla := hide (letter_any c w1)
      have Hc := hide hc
      clear hda hc hcd
      by_cases e1 : n0 = 0
      case pos =>
        have hkf : ((k : Int) == (f : Int)) = true := by rw [beq_iff_eq]; have := Hk.out; omega
        have hkf2 : k = f := by have := Hk.out; omega
        have E1 := hide e1
        clear e1 hkf
        subst hkf2
        have q0 := HT.out
        have y0 := q0.frozen 0
        have x0 := q0.cell 0
        have y1 := q0.frozen 1
        have x1 := q0.cell 1
        have y2 := q0.frozen 2
        have x2 := q0.cell 2
        have y3 := q0.frozen 3
        have x3 := q0.cell 3
        have q1 := q0.set_ 0 (.int .u8 0)
        have q2 := q1.set_ 1 (.string ⟨#[]⟩)
        have q3 := q2.set_ 2 (.int .i64 0)
        have q4 := q3.set_ 3 (.int .i64 0)
        have r0 : ((((w1.setCell ⟨w.heap.size, 0, none⟩ (.int .u8 0)).setCell ⟨w.heap.size, 1, none⟩ (.string ⟨#[]⟩)).setCell ⟨w.heap.size, 2, none⟩ (.int .i64 0)).setCell ⟨w.heap.size, 3, none⟩ (.int .i64 0)).cell? ⟨w.heap.size, 0, none⟩ = some (.int .u8 0) := q4.cell 0
        have r1 : ((((w1.setCell ⟨w.heap.size, 0, none⟩ (.int .u8 0)).setCell ⟨w.heap.size, 1, none⟩ (.string ⟨#[]⟩)).setCell ⟨w.heap.size, 2, none⟩ (.int .i64 0)).setCell ⟨w.heap.size, 3, none⟩ (.int .i64 0)).cell? ⟨w.heap.size, 1, none⟩ = some (.string ⟨#[]⟩) := q4.cell 1
        have r2 : ((((w1.setCell ⟨w.heap.size, 0, none⟩ (.int .u8 0)).setCell ⟨w.heap.size, 1, none⟩ (.string ⟨#[]⟩)).setCell ⟨w.heap.size, 2, none⟩ (.int .i64 0)).setCell ⟨w.heap.size, 3, none⟩ (.int .i64 0)).cell? ⟨w.heap.size, 2, none⟩ = some (.int .i64 0) := q4.cell 2
        have r3 : ((((w1.setCell ⟨w.heap.size, 0, none⟩ (.int .u8 0)).setCell ⟨w.heap.size, 1, none⟩ (.string ⟨#[]⟩)).setCell ⟨w.heap.size, 2, none⟩ (.int .i64 0)).setCell ⟨w.heap.size, 3, none⟩ (.int .i64 0)).cell? ⟨w.heap.size, 3, none⟩ = some (.int .i64 0) := q4.cell 3
        have hbz : Below w.heap.size w ((((w1.setCell ⟨w.heap.size, 0, none⟩ (.int .u8 0)).setCell ⟨w.heap.size, 1, none⟩ (.string ⟨#[]⟩)).setCell ⟨w.heap.size, 2, none⟩ (.int .i64 0)).setCell ⟨w.heap.size, 3, none⟩ (.int .i64 0)) := ((((B1.out.setCell (p := ⟨w.heap.size, 0, none⟩) (Nat.le_refl _) _).setCell (p := ⟨w.heap.size, 1, none⟩) (Nat.le_refl _) _).setCell (p := ⟨w.heap.size, 2, none⟩) (Nat.le_refl _) _).setCell (p := ⟨w.heap.size, 3, none⟩) (Nat.le_refl _) _)
        have Hr := hide (show _ ∧ _ ∧ _ ∧ _ from ⟨r0, r1, r2, r3⟩)
        have Hbz := hide hbz
        clear q0 q1 q2 q3 q4 r0 r1 r2 r3 hbz
        go_wp2_with (first | (go_at_call 28; refine Hda.out.mono ?_; rintro e w' ⟨rfl, rfl⟩) | (go_at_call 14; refine Hla.out.mono ?_; rintro e w' ⟨rfl, rfl⟩))
        obtain ⟨r0, r1, r2, r3⟩ := Hr.out
        refine bodyPost_ret (v := .tuple #[.agg #[.int .u8 0, .string ⟨#[]⟩, .int .i64 0, .int .i64 0], .int .i64 0, .int .i64 (k : Int), .int .i64 4]) (by simp [results, Tryd.results29, go_sem, r0, r1, r2, r3, Result.andThen]; try exact Hfi.out.symm) rfl ⟨?_, Hbz.out⟩
        rw [HN.out, if_pos E1.out]
        try rfl
      have hkf : ((k : Int) == (f : Int)) = false := by rw [beq_eq_false_iff_ne]; have := Hk.out; omega
      obtain ⟨c1, hc1⟩ : ∃ c1, s[f]? = some c1 := by
        obtain ⟨c, hc, _⟩ := (Hdget.out 0 (Nat.zero_le _)).1 (by rw [Hn0.out]; omega)
        exact ⟨c, by simpa using hc⟩
      have hg1 := fun h => ba_get hc1 h
      have hf1 : f < s.length := (List.getElem?_eq_some_iff.1 hc1).1
      have Hc1 := hide hc1
      have E1 := hide e1
      clear hc1 e1
      have h48 : (c1.toNat : Int) = 48 ↔ c1 = 48 := ⟨fun h => UInt8.toNat_inj.1 (show c1.toNat = 48 by omega), fun h => by rw [h]; rfl⟩
      by_cases e2 : c1 = 48 ∧ 1 < n0
      case pos =>
        have hx : ((c1.toNat : Int) == 48) = true := by rw [beq_iff_eq]; exact h48.2 e2.1
        have hk1 : f + 1 < k := by have := Hk.out; omega
        have E2 := hide (show s[f]? = some 48 ∧ 1 < n0 by rw [Hc1.out, e2.1]; exact ⟨rfl, e2.2⟩)
        clear h48 e2
        have q0 := HT.out
        have y0 := q0.frozen 0
        have x0 := q0.cell 0
        have y1 := q0.frozen 1
        have x1 := q0.cell 1
        have y2 := q0.frozen 2
        have x2 := q0.cell 2
        have y3 := q0.frozen 3
        have x3 := q0.cell 3
        have q1 := q0.set_ 0 (.int .u8 0)
        have q2 := q1.set_ 1 (.string ⟨#[]⟩)
        have q3 := q2.set_ 2 (.int .i64 0)
        have q4 := q3.set_ 3 (.int .i64 0)
        have r0 : ((((w1.setCell ⟨w.heap.size, 0, none⟩ (.int .u8 0)).setCell ⟨w.heap.size, 1, none⟩ (.string ⟨#[]⟩)).setCell ⟨w.heap.size, 2, none⟩ (.int .i64 0)).setCell ⟨w.heap.size, 3, none⟩ (.int .i64 0)).cell? ⟨w.heap.size, 0, none⟩ = some (.int .u8 0) := q4.cell 0
        have r1 : ((((w1.setCell ⟨w.heap.size, 0, none⟩ (.int .u8 0)).setCell ⟨w.heap.size, 1, none⟩ (.string ⟨#[]⟩)).setCell ⟨w.heap.size, 2, none⟩ (.int .i64 0)).setCell ⟨w.heap.size, 3, none⟩ (.int .i64 0)).cell? ⟨w.heap.size, 1, none⟩ = some (.string ⟨#[]⟩) := q4.cell 1
        have r2 : ((((w1.setCell ⟨w.heap.size, 0, none⟩ (.int .u8 0)).setCell ⟨w.heap.size, 1, none⟩ (.string ⟨#[]⟩)).setCell ⟨w.heap.size, 2, none⟩ (.int .i64 0)).setCell ⟨w.heap.size, 3, none⟩ (.int .i64 0)).cell? ⟨w.heap.size, 2, none⟩ = some (.int .i64 0) := q4.cell 2
        have r3 : ((((w1.setCell ⟨w.heap.size, 0, none⟩ (.int .u8 0)).setCell ⟨w.heap.size, 1, none⟩ (.string ⟨#[]⟩)).setCell ⟨w.heap.size, 2, none⟩ (.int .i64 0)).setCell ⟨w.heap.size, 3, none⟩ (.int .i64 0)).cell? ⟨w.heap.size, 3, none⟩ = some (.int .i64 0) := q4.cell 3
        have hbz : Below w.heap.size w ((((w1.setCell ⟨w.heap.size, 0, none⟩ (.int .u8 0)).setCell ⟨w.heap.size, 1, none⟩ (.string ⟨#[]⟩)).setCell ⟨w.heap.size, 2, none⟩ (.int .i64 0)).setCell ⟨w.heap.size, 3, none⟩ (.int .i64 0)) := ((((B1.out.setCell (p := ⟨w.heap.size, 0, none⟩) (Nat.le_refl _) _).setCell (p := ⟨w.heap.size, 1, none⟩) (Nat.le_refl _) _).setCell (p := ⟨w.heap.size, 2, none⟩) (Nat.le_refl _) _).setCell (p := ⟨w.heap.size, 3, none⟩) (Nat.le_refl _) _)
        have Hr := hide (show _ ∧ _ ∧ _ ∧ _ from ⟨r0, r1, r2, r3⟩)
        have Hbz := hide hbz
        clear q0 q1 q2 q3 q4 r0 r1 r2 r3 hbz
        go_wp2_with (first | (go_at_call 28; refine Hda.out.mono ?_; rintro e w' ⟨rfl, rfl⟩) | (go_at_call 14; refine Hla.out.mono ?_; rintro e w' ⟨rfl, rfl⟩))
        obtain ⟨r0, r1, r2, r3⟩ := Hr.out
        refine bodyPost_ret (v := .tuple #[.agg #[.int .u8 0, .string ⟨#[]⟩, .int .i64 0, .int .i64 0], .int .i64 0, .int .i64 ((f : Int) + 1), .int .i64 4]) (by simp [results, Tryd.results29, go_sem, r0, r1, r2, r3, Result.andThen]; try exact Hfi.out.symm) rfl ⟨?_, Hbz.out⟩
        rw [HN.out, if_neg E1.out, if_pos E2.out]
        try rfl
      have E2 := hide (show ¬ (s[f]? = some 48 ∧ 1 < n0) by rw [Hc1.out]; rintro ⟨h, h2⟩; injection h with h; exact e2 ⟨h, h2⟩)
      by_cases hx1 : c1 = 48
      case pos =>
        have hx : ((c1.toNat : Int) == 48) = true := by rw [beq_iff_eq]; exact h48.2 hx1
        have hk1 : ¬ f + 1 < k := by have := Hk.out; have := E1.out; have h3 : ¬ 1 < n0 := fun h => e2 ⟨hx1, h⟩; omega
        clear h48 e2 hx1
        by_cases hl : Lx.isLetter c = true
        case pos =>
          rw [hl] at Hla
          have Hl := hide hl
          clear hl
          have q0 := HT.out
          have y0 := q0.frozen 0
          have x0 := q0.cell 0
          have y1 := q0.frozen 1
          have x1 := q0.cell 1
          have y2 := q0.frozen 2
          have x2 := q0.cell 2
          have y3 := q0.frozen 3
          have x3 := q0.cell 3
          have q1 := q0.set_ 0 (.int .u8 0)
          have q2 := q1.set_ 1 (.string ⟨#[]⟩)
          have q3 := q2.set_ 2 (.int .i64 0)
          have q4 := q3.set_ 3 (.int .i64 0)
          have r0 : ((((w1.setCell ⟨w.heap.size, 0, none⟩ (.int .u8 0)).setCell ⟨w.heap.size, 1, none⟩ (.string ⟨#[]⟩)).setCell ⟨w.heap.size, 2, none⟩ (.int .i64 0)).setCell ⟨w.heap.size, 3, none⟩ (.int .i64 0)).cell? ⟨w.heap.size, 0, none⟩ = some (.int .u8 0) := q4.cell 0
          have r1 : ((((w1.setCell ⟨w.heap.size, 0, none⟩ (.int .u8 0)).setCell ⟨w.heap.size, 1, none⟩ (.string ⟨#[]⟩)).setCell ⟨w.heap.size, 2, none⟩ (.int .i64 0)).setCell ⟨w.heap.size, 3, none⟩ (.int .i64 0)).cell? ⟨w.heap.size, 1, none⟩ = some (.string ⟨#[]⟩) := q4.cell 1
          have r2 : ((((w1.setCell ⟨w.heap.size, 0, none⟩ (.int .u8 0)).setCell ⟨w.heap.size, 1, none⟩ (.string ⟨#[]⟩)).setCell ⟨w.heap.size, 2, none⟩ (.int .i64 0)).setCell ⟨w.heap.size, 3, none⟩ (.int .i64 0)).cell? ⟨w.heap.size, 2, none⟩ = some (.int .i64 0) := q4.cell 2
          have r3 : ((((w1.setCell ⟨w.heap.size, 0, none⟩ (.int .u8 0)).setCell ⟨w.heap.size, 1, none⟩ (.string ⟨#[]⟩)).setCell ⟨w.heap.size, 2, none⟩ (.int .i64 0)).setCell ⟨w.heap.size, 3, none⟩ (.int .i64 0)).cell? ⟨w.heap.size, 3, none⟩ = some (.int .i64 0) := q4.cell 3
          have hbz : Below w.heap.size w ((((w1.setCell ⟨w.heap.size, 0, none⟩ (.int .u8 0)).setCell ⟨w.heap.size, 1, none⟩ (.string ⟨#[]⟩)).setCell ⟨w.heap.size, 2, none⟩ (.int .i64 0)).setCell ⟨w.heap.size, 3, none⟩ (.int .i64 0)) := ((((B1.out.setCell (p := ⟨w.heap.size, 0, none⟩) (Nat.le_refl _) _).setCell (p := ⟨w.heap.size, 1, none⟩) (Nat.le_refl _) _).setCell (p := ⟨w.heap.size, 2, none⟩) (Nat.le_refl _) _).setCell (p := ⟨w.heap.size, 3, none⟩) (Nat.le_refl _) _)
          have Hr := hide (show _ ∧ _ ∧ _ ∧ _ from ⟨r0, r1, r2, r3⟩)
          have Hbz := hide hbz
          clear q0 q1 q2 q3 q4 r0 r1 r2 r3 hbz
          go_wp2_with (first | (go_at_call 28; refine Hda.out.mono ?_; rintro e w' ⟨rfl, rfl⟩) | (go_at_call 14; refine Hla.out.mono ?_; rintro e w' ⟨rfl, rfl⟩))
          obtain ⟨r0, r1, r2, r3⟩ := Hr.out
          refine bodyPost_ret (v := .tuple #[.agg #[.int .u8 0, .string ⟨#[]⟩, .int .i64 0, .int .i64 0], .int .i64 0, .int .i64 (k : Int), .int .i64 4]) (by simp [results, Tryd.results29, go_sem, r0, r1, r2, r3, Result.andThen]; try exact Hfi.out.symm) rfl ⟨?_, Hbz.out⟩
          rw [HN.out, if_neg E1.out, if_neg E2.out, if_pos (show _ from by rw [Hc.out]; simp [Hl.out])]
          try rfl
        have hl' : Lx.isLetter c = false := by simpa using hl
        rw [hl'] at Hla
        have Hl := hide hl'
        clear hl hl'
        by_cases h46 : c = 46
        case pos =>
          have hx46 : ((c.toNat : Int) == 46) = true := by rw [h46]; rfl
          have H46 := hide h46
          clear h46
          have q0 := HT.out
          have y0 := q0.frozen 0
          have x0 := q0.cell 0
          have y1 := q0.frozen 1
          have x1 := q0.cell 1
          have y2 := q0.frozen 2
          have x2 := q0.cell 2
          have y3 := q0.frozen 3
          have x3 := q0.cell 3
          have q1 := q0.set_ 0 (.int .u8 0)
          have q2 := q1.set_ 1 (.string ⟨#[]⟩)
          have q3 := q2.set_ 2 (.int .i64 0)
          have q4 := q3.set_ 3 (.int .i64 0)
          have r0 : ((((w1.setCell ⟨w.heap.size, 0, none⟩ (.int .u8 0)).setCell ⟨w.heap.size, 1, none⟩ (.string ⟨#[]⟩)).setCell ⟨w.heap.size, 2, none⟩ (.int .i64 0)).setCell ⟨w.heap.size, 3, none⟩ (.int .i64 0)).cell? ⟨w.heap.size, 0, none⟩ = some (.int .u8 0) := q4.cell 0
          have r1 : ((((w1.setCell ⟨w.heap.size, 0, none⟩ (.int .u8 0)).setCell ⟨w.heap.size, 1, none⟩ (.string ⟨#[]⟩)).setCell ⟨w.heap.size, 2, none⟩ (.int .i64 0)).setCell ⟨w.heap.size, 3, none⟩ (.int .i64 0)).cell? ⟨w.heap.size, 1, none⟩ = some (.string ⟨#[]⟩) := q4.cell 1
          have r2 : ((((w1.setCell ⟨w.heap.size, 0, none⟩ (.int .u8 0)).setCell ⟨w.heap.size, 1, none⟩ (.string ⟨#[]⟩)).setCell ⟨w.heap.size, 2, none⟩ (.int .i64 0)).setCell ⟨w.heap.size, 3, none⟩ (.int .i64 0)).cell? ⟨w.heap.size, 2, none⟩ = some (.int .i64 0) := q4.cell 2
          have r3 : ((((w1.setCell ⟨w.heap.size, 0, none⟩ (.int .u8 0)).setCell ⟨w.heap.size, 1, none⟩ (.string ⟨#[]⟩)).setCell ⟨w.heap.size, 2, none⟩ (.int .i64 0)).setCell ⟨w.heap.size, 3, none⟩ (.int .i64 0)).cell? ⟨w.heap.size, 3, none⟩ = some (.int .i64 0) := q4.cell 3
          have hbz : Below w.heap.size w ((((w1.setCell ⟨w.heap.size, 0, none⟩ (.int .u8 0)).setCell ⟨w.heap.size, 1, none⟩ (.string ⟨#[]⟩)).setCell ⟨w.heap.size, 2, none⟩ (.int .i64 0)).setCell ⟨w.heap.size, 3, none⟩ (.int .i64 0)) := ((((B1.out.setCell (p := ⟨w.heap.size, 0, none⟩) (Nat.le_refl _) _).setCell (p := ⟨w.heap.size, 1, none⟩) (Nat.le_refl _) _).setCell (p := ⟨w.heap.size, 2, none⟩) (Nat.le_refl _) _).setCell (p := ⟨w.heap.size, 3, none⟩) (Nat.le_refl _) _)
          have Hr := hide (show _ ∧ _ ∧ _ ∧ _ from ⟨r0, r1, r2, r3⟩)
          have Hbz := hide hbz
          clear q0 q1 q2 q3 q4 r0 r1 r2 r3 hbz
          go_wp2_with (first | (go_at_call 28; refine Hda.out.mono ?_; rintro e w' ⟨rfl, rfl⟩) | (go_at_call 14; refine Hla.out.mono ?_; rintro e w' ⟨rfl, rfl⟩))
          obtain ⟨r0, r1, r2, r3⟩ := Hr.out
          refine bodyPost_ret (v := .tuple #[.agg #[.int .u8 0, .string ⟨#[]⟩, .int .i64 0, .int .i64 0], .int .i64 0, .int .i64 (k : Int), .int .i64 4]) (by simp [results, Tryd.results29, go_sem, r0, r1, r2, r3, Result.andThen]; try exact Hfi.out.symm) rfl ⟨?_, Hbz.out⟩
          rw [HN.out, if_neg E1.out, if_neg E2.out, if_pos (show _ from by rw [Hc.out]; simp [H46.out])]
          try rfl
        have hx46 : ((c.toNat : Int) == 46) = false := by rw [beq_eq_false_iff_ne]; exact fun h => h46 (UInt8.toNat_inj.1 (show c.toNat = 46 by omega))
        have H46 := hide h46
        clear h46
        obtain ⟨v, hv⟩ : ∃ v, Lx.val (ds.take (min n0 18)) 0 = v := ⟨_, rfl⟩
        rw [hv]
        have hsub : (k : Int) - (f : Int) = (n0 : Int) := by have := Hk.out; omega
        by_cases e4 : 18 < n0
        case pos =>
          exfalso
          have := Hk.out
          omega
        have E4 := hide e4
        have hdt : ds.take (min n0 18) = ds := by rw [show min n0 18 = ds.length by rw [Hn0.out]; omega, List.take_length]
        have hv2 : v < 1000000000000000000 := by
          have h := val_lt ds Hdall.out
          rw [hdt] at hv
          rw [hv, Hn0.out] at h
          have h2 : (10 : Nat) ^ n0 ≤ 10 ^ 18 := Nat.pow_le_pow_right (by decide) (by omega)
          have h3 : (10 : Nat) ^ 18 = 1000000000000000000 := by decide
          omega
        have hwn : IntKind.i64.wrap (-(v : Int)) = -(v : Int) := by simp [IntKind.wrap, IntKind.bits, IntKind.signed]; omega
        have hik : i ≤ k := by have := Hf.out; have := Hk.out; omega
        have Hv := hide (show Lx.val ds 0 = v by rw [← hdt]; exact hv)
        clear hv hdt
        obtain ⟨sx, hsx⟩ : ∃ sx : List UInt8, (s.take k).drop i = sx := ⟨_, rfl⟩
        have he1 : (⟨s.toArray⟩ : ByteArray).extract i k = ⟨sx.toArray⟩ := by rw [← hsx]; exact ba_extract s i k
        try
          have hif : i = f := by have := Hf.out; omega
          have he2 : (⟨s.toArray⟩ : ByteArray).extract f k = ⟨sx.toArray⟩ := by rw [← hif]; exact he1
          clear hif
        have Hsx := hide hsx
        clear hsx
        first
          | (have q0 := HT.out
             have y0 := q0.frozen 0
             have x0 := q0.cell 0
             have y1 := q0.frozen 1
             have x1 := q0.cell 1
             have y2 := q0.frozen 2
             have x2 := q0.cell 2
             have y3 := q0.frozen 3
             have x3 := q0.cell 3
             have q1 := q0.set_ 0 (.int .u8 2)
             have q2 := q1.set_ 1 (.string ⟨sx.toArray⟩)
             have q3 := q2.set_ 2 (.int .i64 (-(v : Int)))
             have q4 := q3.set_ 3 (.int .i64 0)
             have r0 : ((((w1.setCell ⟨w.heap.size, 0, none⟩ (.int .u8 2)).setCell ⟨w.heap.size, 1, none⟩ (.string ⟨sx.toArray⟩)).setCell ⟨w.heap.size, 2, none⟩ (.int .i64 (-(v : Int)))).setCell ⟨w.heap.size, 3, none⟩ (.int .i64 0)).cell? ⟨w.heap.size, 0, none⟩ = some (.int .u8 2) := q4.cell 0
             have r1 : ((((w1.setCell ⟨w.heap.size, 0, none⟩ (.int .u8 2)).setCell ⟨w.heap.size, 1, none⟩ (.string ⟨sx.toArray⟩)).setCell ⟨w.heap.size, 2, none⟩ (.int .i64 (-(v : Int)))).setCell ⟨w.heap.size, 3, none⟩ (.int .i64 0)).cell? ⟨w.heap.size, 1, none⟩ = some (.string ⟨sx.toArray⟩) := q4.cell 1
             have r2 : ((((w1.setCell ⟨w.heap.size, 0, none⟩ (.int .u8 2)).setCell ⟨w.heap.size, 1, none⟩ (.string ⟨sx.toArray⟩)).setCell ⟨w.heap.size, 2, none⟩ (.int .i64 (-(v : Int)))).setCell ⟨w.heap.size, 3, none⟩ (.int .i64 0)).cell? ⟨w.heap.size, 2, none⟩ = some (.int .i64 (-(v : Int))) := q4.cell 2
             have r3 : ((((w1.setCell ⟨w.heap.size, 0, none⟩ (.int .u8 2)).setCell ⟨w.heap.size, 1, none⟩ (.string ⟨sx.toArray⟩)).setCell ⟨w.heap.size, 2, none⟩ (.int .i64 (-(v : Int)))).setCell ⟨w.heap.size, 3, none⟩ (.int .i64 0)).cell? ⟨w.heap.size, 3, none⟩ = some (.int .i64 0) := q4.cell 3
             have hbz : Below w.heap.size w ((((w1.setCell ⟨w.heap.size, 0, none⟩ (.int .u8 2)).setCell ⟨w.heap.size, 1, none⟩ (.string ⟨sx.toArray⟩)).setCell ⟨w.heap.size, 2, none⟩ (.int .i64 (-(v : Int)))).setCell ⟨w.heap.size, 3, none⟩ (.int .i64 0)) := ((((B1.out.setCell (p := ⟨w.heap.size, 0, none⟩) (Nat.le_refl _) _).setCell (p := ⟨w.heap.size, 1, none⟩) (Nat.le_refl _) _).setCell (p := ⟨w.heap.size, 2, none⟩) (Nat.le_refl _) _).setCell (p := ⟨w.heap.size, 3, none⟩) (Nat.le_refl _) _)
             have Hr := hide (show _ ∧ _ ∧ _ ∧ _ from ⟨r0, r1, r2, r3⟩)
             have Hbz := hide hbz
             clear q0 q1 q2 q3 q4 r0 r1 r2 r3 hbz
             go_wp2_with (first | (go_at_call 28; refine Hda.out.mono ?_; rintro e w' ⟨rfl, rfl⟩) | (go_at_call 14; refine Hla.out.mono ?_; rintro e w' ⟨rfl, rfl⟩))
             obtain ⟨r0, r1, r2, r3⟩ := Hr.out
             refine bodyPost_ret (v := .tuple #[.agg #[.int .u8 2, .string ⟨sx.toArray⟩, .int .i64 (-(v : Int)), .int .i64 0], .int .i64 (k : Int), .int .i64 0, .int .i64 0]) (by simp [results, Tryd.results29, go_sem, r0, r1, r2, r3, Result.andThen]; try exact Hfi.out.symm) rfl ⟨?_, Hbz.out⟩
             rw [HN.out, if_neg E1.out, if_neg E2.out, if_neg (by rw [Hc.out]; simp [Hl.out, H46.out]), if_neg E4.out, Hsx.out, Hv.out]
             try rfl)
          | (have q0 := HT.out
             have y0 := q0.frozen 0
             have x0 := q0.cell 0
             have y1 := q0.frozen 1
             have x1 := q0.cell 1
             have y2 := q0.frozen 2
             have x2 := q0.cell 2
             have y3 := q0.frozen 3
             have x3 := q0.cell 3
             have q1 := q0.set_ 0 (.int .u8 2)
             have q2 := q1.set_ 1 (.string ⟨sx.toArray⟩)
             have q3 := q2.set_ 2 (.int .i64 ((v : Int)))
             have q4 := q3.set_ 3 (.int .i64 0)
             have r0 : ((((w1.setCell ⟨w.heap.size, 0, none⟩ (.int .u8 2)).setCell ⟨w.heap.size, 1, none⟩ (.string ⟨sx.toArray⟩)).setCell ⟨w.heap.size, 2, none⟩ (.int .i64 ((v : Int)))).setCell ⟨w.heap.size, 3, none⟩ (.int .i64 0)).cell? ⟨w.heap.size, 0, none⟩ = some (.int .u8 2) := q4.cell 0
             have r1 : ((((w1.setCell ⟨w.heap.size, 0, none⟩ (.int .u8 2)).setCell ⟨w.heap.size, 1, none⟩ (.string ⟨sx.toArray⟩)).setCell ⟨w.heap.size, 2, none⟩ (.int .i64 ((v : Int)))).setCell ⟨w.heap.size, 3, none⟩ (.int .i64 0)).cell? ⟨w.heap.size, 1, none⟩ = some (.string ⟨sx.toArray⟩) := q4.cell 1
             have r2 : ((((w1.setCell ⟨w.heap.size, 0, none⟩ (.int .u8 2)).setCell ⟨w.heap.size, 1, none⟩ (.string ⟨sx.toArray⟩)).setCell ⟨w.heap.size, 2, none⟩ (.int .i64 ((v : Int)))).setCell ⟨w.heap.size, 3, none⟩ (.int .i64 0)).cell? ⟨w.heap.size, 2, none⟩ = some (.int .i64 ((v : Int))) := q4.cell 2
             have r3 : ((((w1.setCell ⟨w.heap.size, 0, none⟩ (.int .u8 2)).setCell ⟨w.heap.size, 1, none⟩ (.string ⟨sx.toArray⟩)).setCell ⟨w.heap.size, 2, none⟩ (.int .i64 ((v : Int)))).setCell ⟨w.heap.size, 3, none⟩ (.int .i64 0)).cell? ⟨w.heap.size, 3, none⟩ = some (.int .i64 0) := q4.cell 3
             have hbz : Below w.heap.size w ((((w1.setCell ⟨w.heap.size, 0, none⟩ (.int .u8 2)).setCell ⟨w.heap.size, 1, none⟩ (.string ⟨sx.toArray⟩)).setCell ⟨w.heap.size, 2, none⟩ (.int .i64 ((v : Int)))).setCell ⟨w.heap.size, 3, none⟩ (.int .i64 0)) := ((((B1.out.setCell (p := ⟨w.heap.size, 0, none⟩) (Nat.le_refl _) _).setCell (p := ⟨w.heap.size, 1, none⟩) (Nat.le_refl _) _).setCell (p := ⟨w.heap.size, 2, none⟩) (Nat.le_refl _) _).setCell (p := ⟨w.heap.size, 3, none⟩) (Nat.le_refl _) _)
             have Hr := hide (show _ ∧ _ ∧ _ ∧ _ from ⟨r0, r1, r2, r3⟩)
             have Hbz := hide hbz
             clear q0 q1 q2 q3 q4 r0 r1 r2 r3 hbz
             go_wp2_with (first | (go_at_call 28; refine Hda.out.mono ?_; rintro e w' ⟨rfl, rfl⟩) | (go_at_call 14; refine Hla.out.mono ?_; rintro e w' ⟨rfl, rfl⟩))
             obtain ⟨r0, r1, r2, r3⟩ := Hr.out
             refine bodyPost_ret (v := .tuple #[.agg #[.int .u8 2, .string ⟨sx.toArray⟩, .int .i64 ((v : Int)), .int .i64 0], .int .i64 (k : Int), .int .i64 0, .int .i64 0]) (by simp [results, Tryd.results29, go_sem, r0, r1, r2, r3, Result.andThen]; try exact Hfi.out.symm) rfl ⟨?_, Hbz.out⟩
             rw [HN.out, if_neg E1.out, if_neg E2.out, if_neg (by rw [Hc.out]; simp [Hl.out, H46.out]), if_neg E4.out, Hsx.out, Hv.out]
             try rfl)
      have hx : ((c1.toNat : Int) == 48) = false := by rw [beq_eq_false_iff_ne]; exact fun h => hx1 (h48.1 h)
      clear h48 e2 hx1
      by_cases hl : Lx.isLetter c = true
      case pos =>
        rw [hl] at Hla
        have Hl := hide hl
        clear hl
        have q0 := HT.out
        have y0 := q0.frozen 0
        have x0 := q0.cell 0
        have y1 := q0.frozen 1
        have x1 := q0.cell 1
        have y2 := q0.frozen 2
        have x2 := q0.cell 2
        have y3 := q0.frozen 3
        have x3 := q0.cell 3
        have q1 := q0.set_ 0 (.int .u8 0)
        have q2 := q1.set_ 1 (.string ⟨#[]⟩)
        have q3 := q2.set_ 2 (.int .i64 0)
        have q4 := q3.set_ 3 (.int .i64 0)
        have r0 : ((((w1.setCell ⟨w.heap.size, 0, none⟩ (.int .u8 0)).setCell ⟨w.heap.size, 1, none⟩ (.string ⟨#[]⟩)).setCell ⟨w.heap.size, 2, none⟩ (.int .i64 0)).setCell ⟨w.heap.size, 3, none⟩ (.int .i64 0)).cell? ⟨w.heap.size, 0, none⟩ = some (.int .u8 0) := q4.cell 0
        have r1 : ((((w1.setCell ⟨w.heap.size, 0, none⟩ (.int .u8 0)).setCell ⟨w.heap.size, 1, none⟩ (.string ⟨#[]⟩)).setCell ⟨w.heap.size, 2, none⟩ (.int .i64 0)).setCell ⟨w.heap.size, 3, none⟩ (.int .i64 0)).cell? ⟨w.heap.size, 1, none⟩ = some (.string ⟨#[]⟩) := q4.cell 1
        have r2 : ((((w1.setCell ⟨w.heap.size, 0, none⟩ (.int .u8 0)).setCell ⟨w.heap.size, 1, none⟩ (.string ⟨#[]⟩)).setCell ⟨w.heap.size, 2, none⟩ (.int .i64 0)).setCell ⟨w.heap.size, 3, none⟩ (.int .i64 0)).cell? ⟨w.heap.size, 2, none⟩ = some (.int .i64 0) := q4.cell 2
        have r3 : ((((w1.setCell ⟨w.heap.size, 0, none⟩ (.int .u8 0)).setCell ⟨w.heap.size, 1, none⟩ (.string ⟨#[]⟩)).setCell ⟨w.heap.size, 2, none⟩ (.int .i64 0)).setCell ⟨w.heap.size, 3, none⟩ (.int .i64 0)).cell? ⟨w.heap.size, 3, none⟩ = some (.int .i64 0) := q4.cell 3
        have hbz : Below w.heap.size w ((((w1.setCell ⟨w.heap.size, 0, none⟩ (.int .u8 0)).setCell ⟨w.heap.size, 1, none⟩ (.string ⟨#[]⟩)).setCell ⟨w.heap.size, 2, none⟩ (.int .i64 0)).setCell ⟨w.heap.size, 3, none⟩ (.int .i64 0)) := ((((B1.out.setCell (p := ⟨w.heap.size, 0, none⟩) (Nat.le_refl _) _).setCell (p := ⟨w.heap.size, 1, none⟩) (Nat.le_refl _) _).setCell (p := ⟨w.heap.size, 2, none⟩) (Nat.le_refl _) _).setCell (p := ⟨w.heap.size, 3, none⟩) (Nat.le_refl _) _)
        have Hr := hide (show _ ∧ _ ∧ _ ∧ _ from ⟨r0, r1, r2, r3⟩)
        have Hbz := hide hbz
        clear q0 q1 q2 q3 q4 r0 r1 r2 r3 hbz
        go_wp2_with (first | (go_at_call 28; refine Hda.out.mono ?_; rintro e w' ⟨rfl, rfl⟩) | (go_at_call 14; refine Hla.out.mono ?_; rintro e w' ⟨rfl, rfl⟩))
        obtain ⟨r0, r1, r2, r3⟩ := Hr.out
        refine bodyPost_ret (v := .tuple #[.agg #[.int .u8 0, .string ⟨#[]⟩, .int .i64 0, .int .i64 0], .int .i64 0, .int .i64 (k : Int), .int .i64 4]) (by simp [results, Tryd.results29, go_sem, r0, r1, r2, r3, Result.andThen]; try exact Hfi.out.symm) rfl ⟨?_, Hbz.out⟩
        rw [HN.out, if_neg E1.out, if_neg E2.out, if_pos (show _ from by rw [Hc.out]; simp [Hl.out])]
        try rfl
      have hl' : Lx.isLetter c = false := by simpa using hl
      rw [hl'] at Hla
      have Hl := hide hl'
      clear hl hl'
      by_cases h46 : c = 46
      case pos =>
        have hx46 : ((c.toNat : Int) == 46) = true := by rw [h46]; rfl
        have H46 := hide h46
        clear h46
        have q0 := HT.out
        have y0 := q0.frozen 0
        have x0 := q0.cell 0
        have y1 := q0.frozen 1
        have x1 := q0.cell 1
        have y2 := q0.frozen 2
        have x2 := q0.cell 2
        have y3 := q0.frozen 3
        have x3 := q0.cell 3
        have q1 := q0.set_ 0 (.int .u8 0)
        have q2 := q1.set_ 1 (.string ⟨#[]⟩)
        have q3 := q2.set_ 2 (.int .i64 0)
        have q4 := q3.set_ 3 (.int .i64 0)
        have r0 : ((((w1.setCell ⟨w.heap.size, 0, none⟩ (.int .u8 0)).setCell ⟨w.heap.size, 1, none⟩ (.string ⟨#[]⟩)).setCell ⟨w.heap.size, 2, none⟩ (.int .i64 0)).setCell ⟨w.heap.size, 3, none⟩ (.int .i64 0)).cell? ⟨w.heap.size, 0, none⟩ = some (.int .u8 0) := q4.cell 0
        have r1 : ((((w1.setCell ⟨w.heap.size, 0, none⟩ (.int .u8 0)).setCell ⟨w.heap.size, 1, none⟩ (.string ⟨#[]⟩)).setCell ⟨w.heap.size, 2, none⟩ (.int .i64 0)).setCell ⟨w.heap.size, 3, none⟩ (.int .i64 0)).cell? ⟨w.heap.size, 1, none⟩ = some (.string ⟨#[]⟩) := q4.cell 1
        have r2 : ((((w1.setCell ⟨w.heap.size, 0, none⟩ (.int .u8 0)).setCell ⟨w.heap.size, 1, none⟩ (.string ⟨#[]⟩)).setCell ⟨w.heap.size, 2, none⟩ (.int .i64 0)).setCell ⟨w.heap.size, 3, none⟩ (.int .i64 0)).cell? ⟨w.heap.size, 2, none⟩ = some (.int .i64 0) := q4.cell 2
        have r3 : ((((w1.setCell ⟨w.heap.size, 0, none⟩ (.int .u8 0)).setCell ⟨w.heap.size, 1, none⟩ (.string ⟨#[]⟩)).setCell ⟨w.heap.size, 2, none⟩ (.int .i64 0)).setCell ⟨w.heap.size, 3, none⟩ (.int .i64 0)).cell? ⟨w.heap.size, 3, none⟩ = some (.int .i64 0) := q4.cell 3
        have hbz : Below w.heap.size w ((((w1.setCell ⟨w.heap.size, 0, none⟩ (.int .u8 0)).setCell ⟨w.heap.size, 1, none⟩ (.string ⟨#[]⟩)).setCell ⟨w.heap.size, 2, none⟩ (.int .i64 0)).setCell ⟨w.heap.size, 3, none⟩ (.int .i64 0)) := ((((B1.out.setCell (p := ⟨w.heap.size, 0, none⟩) (Nat.le_refl _) _).setCell (p := ⟨w.heap.size, 1, none⟩) (Nat.le_refl _) _).setCell (p := ⟨w.heap.size, 2, none⟩) (Nat.le_refl _) _).setCell (p := ⟨w.heap.size, 3, none⟩) (Nat.le_refl _) _)
        have Hr := hide (show _ ∧ _ ∧ _ ∧ _ from ⟨r0, r1, r2, r3⟩)
        have Hbz := hide hbz
        clear q0 q1 q2 q3 q4 r0 r1 r2 r3 hbz
        go_wp2_with (first | (go_at_call 28; refine Hda.out.mono ?_; rintro e w' ⟨rfl, rfl⟩) | (go_at_call 14; refine Hla.out.mono ?_; rintro e w' ⟨rfl, rfl⟩))
        obtain ⟨r0, r1, r2, r3⟩ := Hr.out
        refine bodyPost_ret (v := .tuple #[.agg #[.int .u8 0, .string ⟨#[]⟩, .int .i64 0, .int .i64 0], .int .i64 0, .int .i64 (k : Int), .int .i64 4]) (by simp [results, Tryd.results29, go_sem, r0, r1, r2, r3, Result.andThen]; try exact Hfi.out.symm) rfl ⟨?_, Hbz.out⟩
        rw [HN.out, if_neg E1.out, if_neg E2.out, if_pos (show _ from by rw [Hc.out]; simp [H46.out])]
        try rfl
      have hx46 : ((c.toNat : Int) == 46) = false := by rw [beq_eq_false_iff_ne]; exact fun h => h46 (UInt8.toNat_inj.1 (show c.toNat = 46 by omega))
      have H46 := hide h46
      clear h46
      obtain ⟨v, hv⟩ : ∃ v, Lx.val (ds.take (min n0 18)) 0 = v := ⟨_, rfl⟩
      rw [hv]
      have hsub : (k : Int) - (f : Int) = (n0 : Int) := by have := Hk.out; omega
      by_cases e4 : 18 < n0
      case pos =>
        have E4 := hide e4
        clear hv
        have q0 := HT.out
        have y0 := q0.frozen 0
        have x0 := q0.cell 0
        have y1 := q0.frozen 1
        have x1 := q0.cell 1
        have y2 := q0.frozen 2
        have x2 := q0.cell 2
        have y3 := q0.frozen 3
        have x3 := q0.cell 3
        have q1 := q0.set_ 0 (.int .u8 0)
        have q2 := q1.set_ 1 (.string ⟨#[]⟩)
        have q3 := q2.set_ 2 (.int .i64 0)
        have q4 := q3.set_ 3 (.int .i64 0)
        have r0 : ((((w1.setCell ⟨w.heap.size, 0, none⟩ (.int .u8 0)).setCell ⟨w.heap.size, 1, none⟩ (.string ⟨#[]⟩)).setCell ⟨w.heap.size, 2, none⟩ (.int .i64 0)).setCell ⟨w.heap.size, 3, none⟩ (.int .i64 0)).cell? ⟨w.heap.size, 0, none⟩ = some (.int .u8 0) := q4.cell 0
        have r1 : ((((w1.setCell ⟨w.heap.size, 0, none⟩ (.int .u8 0)).setCell ⟨w.heap.size, 1, none⟩ (.string ⟨#[]⟩)).setCell ⟨w.heap.size, 2, none⟩ (.int .i64 0)).setCell ⟨w.heap.size, 3, none⟩ (.int .i64 0)).cell? ⟨w.heap.size, 1, none⟩ = some (.string ⟨#[]⟩) := q4.cell 1
        have r2 : ((((w1.setCell ⟨w.heap.size, 0, none⟩ (.int .u8 0)).setCell ⟨w.heap.size, 1, none⟩ (.string ⟨#[]⟩)).setCell ⟨w.heap.size, 2, none⟩ (.int .i64 0)).setCell ⟨w.heap.size, 3, none⟩ (.int .i64 0)).cell? ⟨w.heap.size, 2, none⟩ = some (.int .i64 0) := q4.cell 2
        have r3 : ((((w1.setCell ⟨w.heap.size, 0, none⟩ (.int .u8 0)).setCell ⟨w.heap.size, 1, none⟩ (.string ⟨#[]⟩)).setCell ⟨w.heap.size, 2, none⟩ (.int .i64 0)).setCell ⟨w.heap.size, 3, none⟩ (.int .i64 0)).cell? ⟨w.heap.size, 3, none⟩ = some (.int .i64 0) := q4.cell 3
        have hbz : Below w.heap.size w ((((w1.setCell ⟨w.heap.size, 0, none⟩ (.int .u8 0)).setCell ⟨w.heap.size, 1, none⟩ (.string ⟨#[]⟩)).setCell ⟨w.heap.size, 2, none⟩ (.int .i64 0)).setCell ⟨w.heap.size, 3, none⟩ (.int .i64 0)) := ((((B1.out.setCell (p := ⟨w.heap.size, 0, none⟩) (Nat.le_refl _) _).setCell (p := ⟨w.heap.size, 1, none⟩) (Nat.le_refl _) _).setCell (p := ⟨w.heap.size, 2, none⟩) (Nat.le_refl _) _).setCell (p := ⟨w.heap.size, 3, none⟩) (Nat.le_refl _) _)
        have Hr := hide (show _ ∧ _ ∧ _ ∧ _ from ⟨r0, r1, r2, r3⟩)
        have Hbz := hide hbz
        clear q0 q1 q2 q3 q4 r0 r1 r2 r3 hbz
        go_wp2_with (first | (go_at_call 28; refine Hda.out.mono ?_; rintro e w' ⟨rfl, rfl⟩) | (go_at_call 14; refine Hla.out.mono ?_; rintro e w' ⟨rfl, rfl⟩))
        obtain ⟨r0, r1, r2, r3⟩ := Hr.out
        refine bodyPost_ret (v := .tuple #[.agg #[.int .u8 0, .string ⟨#[]⟩, .int .i64 0, .int .i64 0], .int .i64 0, .int .i64 (i : Int), .int .i64 1]) (by simp [results, Tryd.results29, go_sem, r0, r1, r2, r3, Result.andThen]; try exact Hfi.out.symm) rfl ⟨?_, Hbz.out⟩
        rw [HN.out, if_neg E1.out, if_neg E2.out, if_neg (by rw [Hc.out]; simp [Hl.out, H46.out]), if_pos E4.out]
        try rfl
      have E4 := hide e4
      have hdt : ds.take (min n0 18) = ds := by rw [show min n0 18 = ds.length by rw [Hn0.out]; omega, List.take_length]
      have hv2 : v < 1000000000000000000 := by
        have h := val_lt ds Hdall.out
        rw [hdt] at hv
        rw [hv, Hn0.out] at h
        have h2 : (10 : Nat) ^ n0 ≤ 10 ^ 18 := Nat.pow_le_pow_right (by decide) (by omega)
        have h3 : (10 : Nat) ^ 18 = 1000000000000000000 := by decide
        omega
      have hwn : IntKind.i64.wrap (-(v : Int)) = -(v : Int) := by simp [IntKind.wrap, IntKind.bits, IntKind.signed]; omega
      have hik : i ≤ k := by have := Hf.out; have := Hk.out; omega
      have Hv := hide (show Lx.val ds 0 = v by rw [← hdt]; exact hv)
      clear hv hdt
      obtain ⟨sx, hsx⟩ : ∃ sx : List UInt8, (s.take k).drop i = sx := ⟨_, rfl⟩
      have he1 : (⟨s.toArray⟩ : ByteArray).extract i k = ⟨sx.toArray⟩ := by rw [← hsx]; exact ba_extract s i k
      try
        have hif : i = f := by have := Hf.out; omega
        have he2 : (⟨s.toArray⟩ : ByteArray).extract f k = ⟨sx.toArray⟩ := by rw [← hif]; exact he1
        clear hif
      have Hsx := hide hsx
      clear hsx
      first
        | (have q0 := HT.out
           have y0 := q0.frozen 0
           have x0 := q0.cell 0
           have y1 := q0.frozen 1
           have x1 := q0.cell 1
           have y2 := q0.frozen 2
           have x2 := q0.cell 2
           have y3 := q0.frozen 3
           have x3 := q0.cell 3
           have q1 := q0.set_ 0 (.int .u8 2)
           have q2 := q1.set_ 1 (.string ⟨sx.toArray⟩)
           have q3 := q2.set_ 2 (.int .i64 (-(v : Int)))
           have q4 := q3.set_ 3 (.int .i64 0)
           have r0 : ((((w1.setCell ⟨w.heap.size, 0, none⟩ (.int .u8 2)).setCell ⟨w.heap.size, 1, none⟩ (.string ⟨sx.toArray⟩)).setCell ⟨w.heap.size, 2, none⟩ (.int .i64 (-(v : Int)))).setCell ⟨w.heap.size, 3, none⟩ (.int .i64 0)).cell? ⟨w.heap.size, 0, none⟩ = some (.int .u8 2) := q4.cell 0
           have r1 : ((((w1.setCell ⟨w.heap.size, 0, none⟩ (.int .u8 2)).setCell ⟨w.heap.size, 1, none⟩ (.string ⟨sx.toArray⟩)).setCell ⟨w.heap.size, 2, none⟩ (.int .i64 (-(v : Int)))).setCell ⟨w.heap.size, 3, none⟩ (.int .i64 0)).cell? ⟨w.heap.size, 1, none⟩ = some (.string ⟨sx.toArray⟩) := q4.cell 1
           have r2 : ((((w1.setCell ⟨w.heap.size, 0, none⟩ (.int .u8 2)).setCell ⟨w.heap.size, 1, none⟩ (.string ⟨sx.toArray⟩)).setCell ⟨w.heap.size, 2, none⟩ (.int .i64 (-(v : Int)))).setCell ⟨w.heap.size, 3, none⟩ (.int .i64 0)).cell? ⟨w.heap.size, 2, none⟩ = some (.int .i64 (-(v : Int))) := q4.cell 2
           have r3 : ((((w1.setCell ⟨w.heap.size, 0, none⟩ (.int .u8 2)).setCell ⟨w.heap.size, 1, none⟩ (.string ⟨sx.toArray⟩)).setCell ⟨w.heap.size, 2, none⟩ (.int .i64 (-(v : Int)))).setCell ⟨w.heap.size, 3, none⟩ (.int .i64 0)).cell? ⟨w.heap.size, 3, none⟩ = some (.int .i64 0) := q4.cell 3
           have hbz : Below w.heap.size w ((((w1.setCell ⟨w.heap.size, 0, none⟩ (.int .u8 2)).setCell ⟨w.heap.size, 1, none⟩ (.string ⟨sx.toArray⟩)).setCell ⟨w.heap.size, 2, none⟩ (.int .i64 (-(v : Int)))).setCell ⟨w.heap.size, 3, none⟩ (.int .i64 0)) := ((((B1.out.setCell (p := ⟨w.heap.size, 0, none⟩) (Nat.le_refl _) _).setCell (p := ⟨w.heap.size, 1, none⟩) (Nat.le_refl _) _).setCell (p := ⟨w.heap.size, 2, none⟩) (Nat.le_refl _) _).setCell (p := ⟨w.heap.size, 3, none⟩) (Nat.le_refl _) _)
           have Hr := hide (show _ ∧ _ ∧ _ ∧ _ from ⟨r0, r1, r2, r3⟩)
           have Hbz := hide hbz
           clear q0 q1 q2 q3 q4 r0 r1 r2 r3 hbz
           go_wp2_with (first | (go_at_call 28; refine Hda.out.mono ?_; rintro e w' ⟨rfl, rfl⟩) | (go_at_call 14; refine Hla.out.mono ?_; rintro e w' ⟨rfl, rfl⟩))
           obtain ⟨r0, r1, r2, r3⟩ := Hr.out
           refine bodyPost_ret (v := .tuple #[.agg #[.int .u8 2, .string ⟨sx.toArray⟩, .int .i64 (-(v : Int)), .int .i64 0], .int .i64 (k : Int), .int .i64 0, .int .i64 0]) (by simp [results, Tryd.results29, go_sem, r0, r1, r2, r3, Result.andThen]; try exact Hfi.out.symm) rfl ⟨?_, Hbz.out⟩
           rw [HN.out, if_neg E1.out, if_neg E2.out, if_neg (by rw [Hc.out]; simp [Hl.out, H46.out]), if_neg E4.out, Hsx.out, Hv.out]
           try rfl)
        | (have q0 := HT.out
           have y0 := q0.frozen 0
           have x0 := q0.cell 0
           have y1 := q0.frozen 1
           have x1 := q0.cell 1
           have y2 := q0.frozen 2
           have x2 := q0.cell 2
           have y3 := q0.frozen 3
           have x3 := q0.cell 3
           have q1 := q0.set_ 0 (.int .u8 2)
           have q2 := q1.set_ 1 (.string ⟨sx.toArray⟩)
           have q3 := q2.set_ 2 (.int .i64 ((v : Int)))
           have q4 := q3.set_ 3 (.int .i64 0)
           have r0 : ((((w1.setCell ⟨w.heap.size, 0, none⟩ (.int .u8 2)).setCell ⟨w.heap.size, 1, none⟩ (.string ⟨sx.toArray⟩)).setCell ⟨w.heap.size, 2, none⟩ (.int .i64 ((v : Int)))).setCell ⟨w.heap.size, 3, none⟩ (.int .i64 0)).cell? ⟨w.heap.size, 0, none⟩ = some (.int .u8 2) := q4.cell 0
           have r1 : ((((w1.setCell ⟨w.heap.size, 0, none⟩ (.int .u8 2)).setCell ⟨w.heap.size, 1, none⟩ (.string ⟨sx.toArray⟩)).setCell ⟨w.heap.size, 2, none⟩ (.int .i64 ((v : Int)))).setCell ⟨w.heap.size, 3, none⟩ (.int .i64 0)).cell? ⟨w.heap.size, 1, none⟩ = some (.string ⟨sx.toArray⟩) := q4.cell 1
           have r2 : ((((w1.setCell ⟨w.heap.size, 0, none⟩ (.int .u8 2)).setCell ⟨w.heap.size, 1, none⟩ (.string ⟨sx.toArray⟩)).setCell ⟨w.heap.size, 2, none⟩ (.int .i64 ((v : Int)))).setCell ⟨w.heap.size, 3, none⟩ (.int .i64 0)).cell? ⟨w.heap.size, 2, none⟩ = some (.int .i64 ((v : Int))) := q4.cell 2
           have r3 : ((((w1.setCell ⟨w.heap.size, 0, none⟩ (.int .u8 2)).setCell ⟨w.heap.size, 1, none⟩ (.string ⟨sx.toArray⟩)).setCell ⟨w.heap.size, 2, none⟩ (.int .i64 ((v : Int)))).setCell ⟨w.heap.size, 3, none⟩ (.int .i64 0)).cell? ⟨w.heap.size, 3, none⟩ = some (.int .i64 0) := q4.cell 3
           have hbz : Below w.heap.size w ((((w1.setCell ⟨w.heap.size, 0, none⟩ (.int .u8 2)).setCell ⟨w.heap.size, 1, none⟩ (.string ⟨sx.toArray⟩)).setCell ⟨w.heap.size, 2, none⟩ (.int .i64 ((v : Int)))).setCell ⟨w.heap.size, 3, none⟩ (.int .i64 0)) := ((((B1.out.setCell (p := ⟨w.heap.size, 0, none⟩) (Nat.le_refl _) _).setCell (p := ⟨w.heap.size, 1, none⟩) (Nat.le_refl _) _).setCell (p := ⟨w.heap.size, 2, none⟩) (Nat.le_refl _) _).setCell (p := ⟨w.heap.size, 3, none⟩) (Nat.le_refl _) _)
           have Hr := hide (show _ ∧ _ ∧ _ ∧ _ from ⟨r0, r1, r2, r3⟩)
           have Hbz := hide hbz
           clear q0 q1 q2 q3 q4 r0 r1 r2 r3 hbz
           go_wp2_with (first | (go_at_call 28; refine Hda.out.mono ?_; rintro e w' ⟨rfl, rfl⟩) | (go_at_call 14; refine Hla.out.mono ?_; rintro e w' ⟨rfl, rfl⟩))
           obtain ⟨r0, r1, r2, r3⟩ := Hr.out
           refine bodyPost_ret (v := .tuple #[.agg #[.int .u8 2, .string ⟨sx.toArray⟩, .int .i64 ((v : Int)), .int .i64 0], .int .i64 (k : Int), .int .i64 0, .int .i64 0]) (by simp [results, Tryd.results29, go_sem, r0, r1, r2, r3, Result.andThen]; try exact Hfi.out.symm) rfl ⟨?_, Hbz.out⟩
           rw [HN.out, if_neg E1.out, if_neg E2.out, if_neg (by rw [Hc.out]; simp [Hl.out, H46.out]), if_neg E4.out, Hsx.out, Hv.out]
           try rfl)
    · have Hc := hide (show s[k]? = none from List.getElem?_eq_none hge)
      by_cases e1 : n0 = 0
      case pos =>
        have hkf : ((k : Int) == (f : Int)) = true := by rw [beq_iff_eq]; have := Hk.out; omega
        have hkf2 : k = f := by have := Hk.out; omega
        have E1 := hide e1
        clear e1 hkf
        subst hkf2
        have q0 := HT.out
        have y0 := q0.frozen 0
        have x0 := q0.cell 0
        have y1 := q0.frozen 1
        have x1 := q0.cell 1
        have y2 := q0.frozen 2
        have x2 := q0.cell 2
        have y3 := q0.frozen 3
        have x3 := q0.cell 3
        have q1 := q0.set_ 0 (.int .u8 0)
        have q2 := q1.set_ 1 (.string ⟨#[]⟩)
        have q3 := q2.set_ 2 (.int .i64 0)
        have q4 := q3.set_ 3 (.int .i64 0)
        have r0 : ((((w1.setCell ⟨w.heap.size, 0, none⟩ (.int .u8 0)).setCell ⟨w.heap.size, 1, none⟩ (.string ⟨#[]⟩)).setCell ⟨w.heap.size, 2, none⟩ (.int .i64 0)).setCell ⟨w.heap.size, 3, none⟩ (.int .i64 0)).cell? ⟨w.heap.size, 0, none⟩ = some (.int .u8 0) := q4.cell 0
        have r1 : ((((w1.setCell ⟨w.heap.size, 0, none⟩ (.int .u8 0)).setCell ⟨w.heap.size, 1, none⟩ (.string ⟨#[]⟩)).setCell ⟨w.heap.size, 2, none⟩ (.int .i64 0)).setCell ⟨w.heap.size, 3, none⟩ (.int .i64 0)).cell? ⟨w.heap.size, 1, none⟩ = some (.string ⟨#[]⟩) := q4.cell 1
        have r2 : ((((w1.setCell ⟨w.heap.size, 0, none⟩ (.int .u8 0)).setCell ⟨w.heap.size, 1, none⟩ (.string ⟨#[]⟩)).setCell ⟨w.heap.size, 2, none⟩ (.int .i64 0)).setCell ⟨w.heap.size, 3, none⟩ (.int .i64 0)).cell? ⟨w.heap.size, 2, none⟩ = some (.int .i64 0) := q4.cell 2
        have r3 : ((((w1.setCell ⟨w.heap.size, 0, none⟩ (.int .u8 0)).setCell ⟨w.heap.size, 1, none⟩ (.string ⟨#[]⟩)).setCell ⟨w.heap.size, 2, none⟩ (.int .i64 0)).setCell ⟨w.heap.size, 3, none⟩ (.int .i64 0)).cell? ⟨w.heap.size, 3, none⟩ = some (.int .i64 0) := q4.cell 3
        have hbz : Below w.heap.size w ((((w1.setCell ⟨w.heap.size, 0, none⟩ (.int .u8 0)).setCell ⟨w.heap.size, 1, none⟩ (.string ⟨#[]⟩)).setCell ⟨w.heap.size, 2, none⟩ (.int .i64 0)).setCell ⟨w.heap.size, 3, none⟩ (.int .i64 0)) := ((((B1.out.setCell (p := ⟨w.heap.size, 0, none⟩) (Nat.le_refl _) _).setCell (p := ⟨w.heap.size, 1, none⟩) (Nat.le_refl _) _).setCell (p := ⟨w.heap.size, 2, none⟩) (Nat.le_refl _) _).setCell (p := ⟨w.heap.size, 3, none⟩) (Nat.le_refl _) _)
        have Hr := hide (show _ ∧ _ ∧ _ ∧ _ from ⟨r0, r1, r2, r3⟩)
        have Hbz := hide hbz
        clear q0 q1 q2 q3 q4 r0 r1 r2 r3 hbz
        go_wp2_with fail
        obtain ⟨r0, r1, r2, r3⟩ := Hr.out
        refine bodyPost_ret (v := .tuple #[.agg #[.int .u8 0, .string ⟨#[]⟩, .int .i64 0, .int .i64 0], .int .i64 0, .int .i64 (k : Int), .int .i64 4]) (by simp [results, Tryd.results29, go_sem, r0, r1, r2, r3, Result.andThen]; try exact Hfi.out.symm) rfl ⟨?_, Hbz.out⟩
        rw [HN.out, if_pos E1.out]
        try rfl
      have hkf : ((k : Int) == (f : Int)) = false := by rw [beq_eq_false_iff_ne]; have := Hk.out; omega
      obtain ⟨c1, hc1⟩ : ∃ c1, s[f]? = some c1 := by
        obtain ⟨c, hc, _⟩ := (Hdget.out 0 (Nat.zero_le _)).1 (by rw [Hn0.out]; omega)
        exact ⟨c, by simpa using hc⟩
      have hg1 := fun h => ba_get hc1 h
      have hf1 : f < s.length := (List.getElem?_eq_some_iff.1 hc1).1
      have Hc1 := hide hc1
      have E1 := hide e1
      clear hc1 e1
      have h48 : (c1.toNat : Int) = 48 ↔ c1 = 48 := ⟨fun h => UInt8.toNat_inj.1 (show c1.toNat = 48 by omega), fun h => by rw [h]; rfl⟩
      by_cases e2 : c1 = 48 ∧ 1 < n0
      case pos =>
        have hx : ((c1.toNat : Int) == 48) = true := by rw [beq_iff_eq]; exact h48.2 e2.1
        have hk1 : f + 1 < k := by have := Hk.out; omega
        have E2 := hide (show s[f]? = some 48 ∧ 1 < n0 by rw [Hc1.out, e2.1]; exact ⟨rfl, e2.2⟩)
        clear h48 e2
        have q0 := HT.out
        have y0 := q0.frozen 0
        have x0 := q0.cell 0
        have y1 := q0.frozen 1
        have x1 := q0.cell 1
        have y2 := q0.frozen 2
        have x2 := q0.cell 2
        have y3 := q0.frozen 3
        have x3 := q0.cell 3
        have q1 := q0.set_ 0 (.int .u8 0)
        have q2 := q1.set_ 1 (.string ⟨#[]⟩)
        have q3 := q2.set_ 2 (.int .i64 0)
        have q4 := q3.set_ 3 (.int .i64 0)
        have r0 : ((((w1.setCell ⟨w.heap.size, 0, none⟩ (.int .u8 0)).setCell ⟨w.heap.size, 1, none⟩ (.string ⟨#[]⟩)).setCell ⟨w.heap.size, 2, none⟩ (.int .i64 0)).setCell ⟨w.heap.size, 3, none⟩ (.int .i64 0)).cell? ⟨w.heap.size, 0, none⟩ = some (.int .u8 0) := q4.cell 0
        have r1 : ((((w1.setCell ⟨w.heap.size, 0, none⟩ (.int .u8 0)).setCell ⟨w.heap.size, 1, none⟩ (.string ⟨#[]⟩)).setCell ⟨w.heap.size, 2, none⟩ (.int .i64 0)).setCell ⟨w.heap.size, 3, none⟩ (.int .i64 0)).cell? ⟨w.heap.size, 1, none⟩ = some (.string ⟨#[]⟩) := q4.cell 1
        have r2 : ((((w1.setCell ⟨w.heap.size, 0, none⟩ (.int .u8 0)).setCell ⟨w.heap.size, 1, none⟩ (.string ⟨#[]⟩)).setCell ⟨w.heap.size, 2, none⟩ (.int .i64 0)).setCell ⟨w.heap.size, 3, none⟩ (.int .i64 0)).cell? ⟨w.heap.size, 2, none⟩ = some (.int .i64 0) := q4.cell 2
        have r3 : ((((w1.setCell ⟨w.heap.size, 0, none⟩ (.int .u8 0)).setCell ⟨w.heap.size, 1, none⟩ (.string ⟨#[]⟩)).setCell ⟨w.heap.size, 2, none⟩ (.int .i64 0)).setCell ⟨w.heap.size, 3, none⟩ (.int .i64 0)).cell? ⟨w.heap.size, 3, none⟩ = some (.int .i64 0) := q4.cell 3
        have hbz : Below w.heap.size w ((((w1.setCell ⟨w.heap.size, 0, none⟩ (.int .u8 0)).setCell ⟨w.heap.size, 1, none⟩ (.string ⟨#[]⟩)).setCell ⟨w.heap.size, 2, none⟩ (.int .i64 0)).setCell ⟨w.heap.size, 3, none⟩ (.int .i64 0)) := ((((B1.out.setCell (p := ⟨w.heap.size, 0, none⟩) (Nat.le_refl _) _).setCell (p := ⟨w.heap.size, 1, none⟩) (Nat.le_refl _) _).setCell (p := ⟨w.heap.size, 2, none⟩) (Nat.le_refl _) _).setCell (p := ⟨w.heap.size, 3, none⟩) (Nat.le_refl _) _)
        have Hr := hide (show _ ∧ _ ∧ _ ∧ _ from ⟨r0, r1, r2, r3⟩)
        have Hbz := hide hbz
        clear q0 q1 q2 q3 q4 r0 r1 r2 r3 hbz
        go_wp2_with fail
        obtain ⟨r0, r1, r2, r3⟩ := Hr.out
        refine bodyPost_ret (v := .tuple #[.agg #[.int .u8 0, .string ⟨#[]⟩, .int .i64 0, .int .i64 0], .int .i64 0, .int .i64 ((f : Int) + 1), .int .i64 4]) (by simp [results, Tryd.results29, go_sem, r0, r1, r2, r3, Result.andThen]; try exact Hfi.out.symm) rfl ⟨?_, Hbz.out⟩
        rw [HN.out, if_neg E1.out, if_pos E2.out]
        try rfl
      have E2 := hide (show ¬ (s[f]? = some 48 ∧ 1 < n0) by rw [Hc1.out]; rintro ⟨h, h2⟩; injection h with h; exact e2 ⟨h, h2⟩)
      by_cases hx1 : c1 = 48
      case pos =>
        have hx : ((c1.toNat : Int) == 48) = true := by rw [beq_iff_eq]; exact h48.2 hx1
        have hk1 : ¬ f + 1 < k := by have := Hk.out; have := E1.out; have h3 : ¬ 1 < n0 := fun h => e2 ⟨hx1, h⟩; omega
        clear h48 e2 hx1
        obtain ⟨v, hv⟩ : ∃ v, Lx.val (ds.take (min n0 18)) 0 = v := ⟨_, rfl⟩
        rw [hv]
        have hsub : (k : Int) - (f : Int) = (n0 : Int) := by have := Hk.out; omega
        by_cases e4 : 18 < n0
        case pos =>
          exfalso
          have := Hk.out
          omega
        have E4 := hide e4
        have hdt : ds.take (min n0 18) = ds := by rw [show min n0 18 = ds.length by rw [Hn0.out]; omega, List.take_length]
        have hv2 : v < 1000000000000000000 := by
          have h := val_lt ds Hdall.out
          rw [hdt] at hv
          rw [hv, Hn0.out] at h
          have h2 : (10 : Nat) ^ n0 ≤ 10 ^ 18 := Nat.pow_le_pow_right (by decide) (by omega)
          have h3 : (10 : Nat) ^ 18 = 1000000000000000000 := by decide
          omega
        have hwn : IntKind.i64.wrap (-(v : Int)) = -(v : Int) := by simp [IntKind.wrap, IntKind.bits, IntKind.signed]; omega
        have hik : i ≤ k := by have := Hf.out; have := Hk.out; omega
        have Hv := hide (show Lx.val ds 0 = v by rw [← hdt]; exact hv)
        clear hv hdt
        obtain ⟨sx, hsx⟩ : ∃ sx : List UInt8, (s.take k).drop i = sx := ⟨_, rfl⟩
        have he1 : (⟨s.toArray⟩ : ByteArray).extract i k = ⟨sx.toArray⟩ := by rw [← hsx]; exact ba_extract s i k
        try
          have hif : i = f := by have := Hf.out; omega
          have he2 : (⟨s.toArray⟩ : ByteArray).extract f k = ⟨sx.toArray⟩ := by rw [← hif]; exact he1
          clear hif
        have Hsx := hide hsx
        clear hsx
        first
          | (have q0 := HT.out
             have y0 := q0.frozen 0
             have x0 := q0.cell 0
             have y1 := q0.frozen 1
             have x1 := q0.cell 1
             have y2 := q0.frozen 2
             have x2 := q0.cell 2
             have y3 := q0.frozen 3
             have x3 := q0.cell 3
             have q1 := q0.set_ 0 (.int .u8 2)
             have q2 := q1.set_ 1 (.string ⟨sx.toArray⟩)
             have q3 := q2.set_ 2 (.int .i64 (-(v : Int)))
             have q4 := q3.set_ 3 (.int .i64 0)
             have r0 : ((((w1.setCell ⟨w.heap.size, 0, none⟩ (.int .u8 2)).setCell ⟨w.heap.size, 1, none⟩ (.string ⟨sx.toArray⟩)).setCell ⟨w.heap.size, 2, none⟩ (.int .i64 (-(v : Int)))).setCell ⟨w.heap.size, 3, none⟩ (.int .i64 0)).cell? ⟨w.heap.size, 0, none⟩ = some (.int .u8 2) := q4.cell 0
             have r1 : ((((w1.setCell ⟨w.heap.size, 0, none⟩ (.int .u8 2)).setCell ⟨w.heap.size, 1, none⟩ (.string ⟨sx.toArray⟩)).setCell ⟨w.heap.size, 2, none⟩ (.int .i64 (-(v : Int)))).setCell ⟨w.heap.size, 3, none⟩ (.int .i64 0)).cell? ⟨w.heap.size, 1, none⟩ = some (.string ⟨sx.toArray⟩) := q4.cell 1
             have r2 : ((((w1.setCell ⟨w.heap.size, 0, none⟩ (.int .u8 2)).setCell ⟨w.heap.size, 1, none⟩ (.string ⟨sx.toArray⟩)).setCell ⟨w.heap.size, 2, none⟩ (.int .i64 (-(v : Int)))).setCell ⟨w.heap.size, 3, none⟩ (.int .i64 0)).cell? ⟨w.heap.size, 2, none⟩ = some (.int .i64 (-(v : Int))) := q4.cell 2
             have r3 : ((((w1.setCell ⟨w.heap.size, 0, none⟩ (.int .u8 2)).setCell ⟨w.heap.size, 1, none⟩ (.string ⟨sx.toArray⟩)).setCell ⟨w.heap.size, 2, none⟩ (.int .i64 (-(v : Int)))).setCell ⟨w.heap.size, 3, none⟩ (.int .i64 0)).cell? ⟨w.heap.size, 3, none⟩ = some (.int .i64 0) := q4.cell 3
             have hbz : Below w.heap.size w ((((w1.setCell ⟨w.heap.size, 0, none⟩ (.int .u8 2)).setCell ⟨w.heap.size, 1, none⟩ (.string ⟨sx.toArray⟩)).setCell ⟨w.heap.size, 2, none⟩ (.int .i64 (-(v : Int)))).setCell ⟨w.heap.size, 3, none⟩ (.int .i64 0)) := ((((B1.out.setCell (p := ⟨w.heap.size, 0, none⟩) (Nat.le_refl _) _).setCell (p := ⟨w.heap.size, 1, none⟩) (Nat.le_refl _) _).setCell (p := ⟨w.heap.size, 2, none⟩) (Nat.le_refl _) _).setCell (p := ⟨w.heap.size, 3, none⟩) (Nat.le_refl _) _)
             have Hr := hide (show _ ∧ _ ∧ _ ∧ _ from ⟨r0, r1, r2, r3⟩)
             have Hbz := hide hbz
             clear q0 q1 q2 q3 q4 r0 r1 r2 r3 hbz
             go_wp2_with fail
             obtain ⟨r0, r1, r2, r3⟩ := Hr.out
             refine bodyPost_ret (v := .tuple #[.agg #[.int .u8 2, .string ⟨sx.toArray⟩, .int .i64 (-(v : Int)), .int .i64 0], .int .i64 (k : Int), .int .i64 0, .int .i64 0]) (by simp [results, Tryd.results29, go_sem, r0, r1, r2, r3, Result.andThen]; try exact Hfi.out.symm) rfl ⟨?_, Hbz.out⟩
             rw [HN.out, if_neg E1.out, if_neg E2.out, if_neg (by rw [Hc.out]; simp), if_neg E4.out, Hsx.out, Hv.out]
             try rfl)
          | (have q0 := HT.out
             have y0 := q0.frozen 0
             have x0 := q0.cell 0
             have y1 := q0.frozen 1
             have x1 := q0.cell 1
             have y2 := q0.frozen 2
             have x2 := q0.cell 2
             have y3 := q0.frozen 3
             have x3 := q0.cell 3
             have q1 := q0.set_ 0 (.int .u8 2)
             have q2 := q1.set_ 1 (.string ⟨sx.toArray⟩)
             have q3 := q2.set_ 2 (.int .i64 ((v : Int)))
             have q4 := q3.set_ 3 (.int .i64 0)
             have r0 : ((((w1.setCell ⟨w.heap.size, 0, none⟩ (.int .u8 2)).setCell ⟨w.heap.size, 1, none⟩ (.string ⟨sx.toArray⟩)).setCell ⟨w.heap.size, 2, none⟩ (.int .i64 ((v : Int)))).setCell ⟨w.heap.size, 3, none⟩ (.int .i64 0)).cell? ⟨w.heap.size, 0, none⟩ = some (.int .u8 2) := q4.cell 0
             have r1 : ((((w1.setCell ⟨w.heap.size, 0, none⟩ (.int .u8 2)).setCell ⟨w.heap.size, 1, none⟩ (.string ⟨sx.toArray⟩)).setCell ⟨w.heap.size, 2, none⟩ (.int .i64 ((v : Int)))).setCell ⟨w.heap.size, 3, none⟩ (.int .i64 0)).cell? ⟨w.heap.size, 1, none⟩ = some (.string ⟨sx.toArray⟩) := q4.cell 1
             have r2 : ((((w1.setCell ⟨w.heap.size, 0, none⟩ (.int .u8 2)).setCell ⟨w.heap.size, 1, none⟩ (.string ⟨sx.toArray⟩)).setCell ⟨w.heap.size, 2, none⟩ (.int .i64 ((v : Int)))).setCell ⟨w.heap.size, 3, none⟩ (.int .i64 0)).cell? ⟨w.heap.size, 2, none⟩ = some (.int .i64 ((v : Int))) := q4.cell 2
             have r3 : ((((w1.setCell ⟨w.heap.size, 0, none⟩ (.int .u8 2)).setCell ⟨w.heap.size, 1, none⟩ (.string ⟨sx.toArray⟩)).setCell ⟨w.heap.size, 2, none⟩ (.int .i64 ((v : Int)))).setCell ⟨w.heap.size, 3, none⟩ (.int .i64 0)).cell? ⟨w.heap.size, 3, none⟩ = some (.int .i64 0) := q4.cell 3
             have hbz : Below w.heap.size w ((((w1.setCell ⟨w.heap.size, 0, none⟩ (.int .u8 2)).setCell ⟨w.heap.size, 1, none⟩ (.string ⟨sx.toArray⟩)).setCell ⟨w.heap.size, 2, none⟩ (.int .i64 ((v : Int)))).setCell ⟨w.heap.size, 3, none⟩ (.int .i64 0)) := ((((B1.out.setCell (p := ⟨w.heap.size, 0, none⟩) (Nat.le_refl _) _).setCell (p := ⟨w.heap.size, 1, none⟩) (Nat.le_refl _) _).setCell (p := ⟨w.heap.size, 2, none⟩) (Nat.le_refl _) _).setCell (p := ⟨w.heap.size, 3, none⟩) (Nat.le_refl _) _)
             have Hr := hide (show _ ∧ _ ∧ _ ∧ _ from ⟨r0, r1, r2, r3⟩)
             have Hbz := hide hbz
             clear q0 q1 q2 q3 q4 r0 r1 r2 r3 hbz
             go_wp2_with fail
             obtain ⟨r0, r1, r2, r3⟩ := Hr.out
             refine bodyPost_ret (v := .tuple #[.agg #[.int .u8 2, .string ⟨sx.toArray⟩, .int .i64 ((v : Int)), .int .i64 0], .int .i64 (k : Int), .int .i64 0, .int .i64 0]) (by simp [results, Tryd.results29, go_sem, r0, r1, r2, r3, Result.andThen]; try exact Hfi.out.symm) rfl ⟨?_, Hbz.out⟩
             rw [HN.out, if_neg E1.out, if_neg E2.out, if_neg (by rw [Hc.out]; simp), if_neg E4.out, Hsx.out, Hv.out]
             try rfl)
      have hx : ((c1.toNat : Int) == 48) = false := by rw [beq_eq_false_iff_ne]; exact fun h => hx1 (h48.1 h)
      clear h48 e2 hx1
      obtain ⟨v, hv⟩ : ∃ v, Lx.val (ds.take (min n0 18)) 0 = v := ⟨_, rfl⟩
      rw [hv]
      have hsub : (k : Int) - (f : Int) = (n0 : Int) := by have := Hk.out; omega
      by_cases e4 : 18 < n0
      case pos =>
        have E4 := hide e4
        clear hv
        have q0 := HT.out
        have y0 := q0.frozen 0
        have x0 := q0.cell 0
        have y1 := q0.frozen 1
        have x1 := q0.cell 1
        have y2 := q0.frozen 2
        have x2 := q0.cell 2
        have y3 := q0.frozen 3
        have x3 := q0.cell 3
        have q1 := q0.set_ 0 (.int .u8 0)
        have q2 := q1.set_ 1 (.string ⟨#[]⟩)
        have q3 := q2.set_ 2 (.int .i64 0)
        have q4 := q3.set_ 3 (.int .i64 0)
        have r0 : ((((w1.setCell ⟨w.heap.size, 0, none⟩ (.int .u8 0)).setCell ⟨w.heap.size, 1, none⟩ (.string ⟨#[]⟩)).setCell ⟨w.heap.size, 2, none⟩ (.int .i64 0)).setCell ⟨w.heap.size, 3, none⟩ (.int .i64 0)).cell? ⟨w.heap.size, 0, none⟩ = some (.int .u8 0) := q4.cell 0
        have r1 : ((((w1.setCell ⟨w.heap.size, 0, none⟩ (.int .u8 0)).setCell ⟨w.heap.size, 1, none⟩ (.string ⟨#[]⟩)).setCell ⟨w.heap.size, 2, none⟩ (.int .i64 0)).setCell ⟨w.heap.size, 3, none⟩ (.int .i64 0)).cell? ⟨w.heap.size, 1, none⟩ = some (.string ⟨#[]⟩) := q4.cell 1
        have r2 : ((((w1.setCell ⟨w.heap.size, 0, none⟩ (.int .u8 0)).setCell ⟨w.heap.size, 1, none⟩ (.string ⟨#[]⟩)).setCell ⟨w.heap.size, 2, none⟩ (.int .i64 0)).setCell ⟨w.heap.size, 3, none⟩ (.int .i64 0)).cell? ⟨w.heap.size, 2, none⟩ = some (.int .i64 0) := q4.cell 2
        have r3 : ((((w1.setCell ⟨w.heap.size, 0, none⟩ (.int .u8 0)).setCell ⟨w.heap.size, 1, none⟩ (.string ⟨#[]⟩)).setCell ⟨w.heap.size, 2, none⟩ (.int .i64 0)).setCell ⟨w.heap.size, 3, none⟩ (.int .i64 0)).cell? ⟨w.heap.size, 3, none⟩ = some (.int .i64 0) := q4.cell 3
        have hbz : Below w.heap.size w ((((w1.setCell ⟨w.heap.size, 0, none⟩ (.int .u8 0)).setCell ⟨w.heap.size, 1, none⟩ (.string ⟨#[]⟩)).setCell ⟨w.heap.size, 2, none⟩ (.int .i64 0)).setCell ⟨w.heap.size, 3, none⟩ (.int .i64 0)) := ((((B1.out.setCell (p := ⟨w.heap.size, 0, none⟩) (Nat.le_refl _) _).setCell (p := ⟨w.heap.size, 1, none⟩) (Nat.le_refl _) _).setCell (p := ⟨w.heap.size, 2, none⟩) (Nat.le_refl _) _).setCell (p := ⟨w.heap.size, 3, none⟩) (Nat.le_refl _) _)
        have Hr := hide (show _ ∧ _ ∧ _ ∧ _ from ⟨r0, r1, r2, r3⟩)
        have Hbz := hide hbz
        clear q0 q1 q2 q3 q4 r0 r1 r2 r3 hbz
        go_wp2_with fail
        obtain ⟨r0, r1, r2, r3⟩ := Hr.out
        refine bodyPost_ret (v := .tuple #[.agg #[.int .u8 0, .string ⟨#[]⟩, .int .i64 0, .int .i64 0], .int .i64 0, .int .i64 (i : Int), .int .i64 1]) (by simp [results, Tryd.results29, go_sem, r0, r1, r2, r3, Result.andThen]; try exact Hfi.out.symm) rfl ⟨?_, Hbz.out⟩
        rw [HN.out, if_neg E1.out, if_neg E2.out, if_neg (by rw [Hc.out]; simp), if_pos E4.out]
        try rfl
      have E4 := hide e4
      have hdt : ds.take (min n0 18) = ds := by rw [show min n0 18 = ds.length by rw [Hn0.out]; omega, List.take_length]
      have hv2 : v < 1000000000000000000 := by
        have h := val_lt ds Hdall.out
        rw [hdt] at hv
        rw [hv, Hn0.out] at h
        have h2 : (10 : Nat) ^ n0 ≤ 10 ^ 18 := Nat.pow_le_pow_right (by decide) (by omega)
        have h3 : (10 : Nat) ^ 18 = 1000000000000000000 := by decide
        omega
      have hwn : IntKind.i64.wrap (-(v : Int)) = -(v : Int) := by simp [IntKind.wrap, IntKind.bits, IntKind.signed]; omega
      have hik : i ≤ k := by have := Hf.out; have := Hk.out; omega
      have Hv := hide (show Lx.val ds 0 = v by rw [← hdt]; exact hv)
      clear hv hdt
      obtain ⟨sx, hsx⟩ : ∃ sx : List UInt8, (s.take k).drop i = sx := ⟨_, rfl⟩
      have he1 : (⟨s.toArray⟩ : ByteArray).extract i k = ⟨sx.toArray⟩ := by rw [← hsx]; exact ba_extract s i k
      try
        have hif : i = f := by have := Hf.out; omega
        have he2 : (⟨s.toArray⟩ : ByteArray).extract f k = ⟨sx.toArray⟩ := by rw [← hif]; exact he1
        clear hif
      have Hsx := hide hsx
      clear hsx
      first
        | (have q0 := HT.out
           have y0 := q0.frozen 0
           have x0 := q0.cell 0
           have y1 := q0.frozen 1
           have x1 := q0.cell 1
           have y2 := q0.frozen 2
           have x2 := q0.cell 2
           have y3 := q0.frozen 3
           have x3 := q0.cell 3
           have q1 := q0.set_ 0 (.int .u8 2)
           have q2 := q1.set_ 1 (.string ⟨sx.toArray⟩)
           have q3 := q2.set_ 2 (.int .i64 (-(v : Int)))
           have q4 := q3.set_ 3 (.int .i64 0)
           have r0 : ((((w1.setCell ⟨w.heap.size, 0, none⟩ (.int .u8 2)).setCell ⟨w.heap.size, 1, none⟩ (.string ⟨sx.toArray⟩)).setCell ⟨w.heap.size, 2, none⟩ (.int .i64 (-(v : Int)))).setCell ⟨w.heap.size, 3, none⟩ (.int .i64 0)).cell? ⟨w.heap.size, 0, none⟩ = some (.int .u8 2) := q4.cell 0
           have r1 : ((((w1.setCell ⟨w.heap.size, 0, none⟩ (.int .u8 2)).setCell ⟨w.heap.size, 1, none⟩ (.string ⟨sx.toArray⟩)).setCell ⟨w.heap.size, 2, none⟩ (.int .i64 (-(v : Int)))).setCell ⟨w.heap.size, 3, none⟩ (.int .i64 0)).cell? ⟨w.heap.size, 1, none⟩ = some (.string ⟨sx.toArray⟩) := q4.cell 1
           have r2 : ((((w1.setCell ⟨w.heap.size, 0, none⟩ (.int .u8 2)).setCell ⟨w.heap.size, 1, none⟩ (.string ⟨sx.toArray⟩)).setCell ⟨w.heap.size, 2, none⟩ (.int .i64 (-(v : Int)))).setCell ⟨w.heap.size, 3, none⟩ (.int .i64 0)).cell? ⟨w.heap.size, 2, none⟩ = some (.int .i64 (-(v : Int))) := q4.cell 2
           have r3 : ((((w1.setCell ⟨w.heap.size, 0, none⟩ (.int .u8 2)).setCell ⟨w.heap.size, 1, none⟩ (.string ⟨sx.toArray⟩)).setCell ⟨w.heap.size, 2, none⟩ (.int .i64 (-(v : Int)))).setCell ⟨w.heap.size, 3, none⟩ (.int .i64 0)).cell? ⟨w.heap.size, 3, none⟩ = some (.int .i64 0) := q4.cell 3
           have hbz : Below w.heap.size w ((((w1.setCell ⟨w.heap.size, 0, none⟩ (.int .u8 2)).setCell ⟨w.heap.size, 1, none⟩ (.string ⟨sx.toArray⟩)).setCell ⟨w.heap.size, 2, none⟩ (.int .i64 (-(v : Int)))).setCell ⟨w.heap.size, 3, none⟩ (.int .i64 0)) := ((((B1.out.setCell (p := ⟨w.heap.size, 0, none⟩) (Nat.le_refl _) _).setCell (p := ⟨w.heap.size, 1, none⟩) (Nat.le_refl _) _).setCell (p := ⟨w.heap.size, 2, none⟩) (Nat.le_refl _) _).setCell (p := ⟨w.heap.size, 3, none⟩) (Nat.le_refl _) _)
           have Hr := hide (show _ ∧ _ ∧ _ ∧ _ from ⟨r0, r1, r2, r3⟩)
           have Hbz := hide hbz
           clear q0 q1 q2 q3 q4 r0 r1 r2 r3 hbz
           go_wp2_with fail
           obtain ⟨r0, r1, r2, r3⟩ := Hr.out
           refine bodyPost_ret (v := .tuple #[.agg #[.int .u8 2, .string ⟨sx.toArray⟩, .int .i64 (-(v : Int)), .int .i64 0], .int .i64 (k : Int), .int .i64 0, .int .i64 0]) (by simp [results, Tryd.results29, go_sem, r0, r1, r2, r3, Result.andThen]; try exact Hfi.out.symm) rfl ⟨?_, Hbz.out⟩
           rw [HN.out, if_neg E1.out, if_neg E2.out, if_neg (by rw [Hc.out]; simp), if_neg E4.out, Hsx.out, Hv.out]
           try rfl)
        | (have q0 := HT.out
           have y0 := q0.frozen 0
           have x0 := q0.cell 0
           have y1 := q0.frozen 1
           have x1 := q0.cell 1
           have y2 := q0.frozen 2
           have x2 := q0.cell 2
           have y3 := q0.frozen 3
           have x3 := q0.cell 3
           have q1 := q0.set_ 0 (.int .u8 2)
           have q2 := q1.set_ 1 (.string ⟨sx.toArray⟩)
           have q3 := q2.set_ 2 (.int .i64 ((v : Int)))
           have q4 := q3.set_ 3 (.int .i64 0)
           have r0 : ((((w1.setCell ⟨w.heap.size, 0, none⟩ (.int .u8 2)).setCell ⟨w.heap.size, 1, none⟩ (.string ⟨sx.toArray⟩)).setCell ⟨w.heap.size, 2, none⟩ (.int .i64 ((v : Int)))).setCell ⟨w.heap.size, 3, none⟩ (.int .i64 0)).cell? ⟨w.heap.size, 0, none⟩ = some (.int .u8 2) := q4.cell 0
           have r1 : ((((w1.setCell ⟨w.heap.size, 0, none⟩ (.int .u8 2)).setCell ⟨w.heap.size, 1, none⟩ (.string ⟨sx.toArray⟩)).setCell ⟨w.heap.size, 2, none⟩ (.int .i64 ((v : Int)))).setCell ⟨w.heap.size, 3, none⟩ (.int .i64 0)).cell? ⟨w.heap.size, 1, none⟩ = some (.string ⟨sx.toArray⟩) := q4.cell 1
           have r2 : ((((w1.setCell ⟨w.heap.size, 0, none⟩ (.int .u8 2)).setCell ⟨w.heap.size, 1, none⟩ (.string ⟨sx.toArray⟩)).setCell ⟨w.heap.size, 2, none⟩ (.int .i64 ((v : Int)))).setCell ⟨w.heap.size, 3, none⟩ (.int .i64 0)).cell? ⟨w.heap.size, 2, none⟩ = some (.int .i64 ((v : Int))) := q4.cell 2
           have r3 : ((((w1.setCell ⟨w.heap.size, 0, none⟩ (.int .u8 2)).setCell ⟨w.heap.size, 1, none⟩ (.string ⟨sx.toArray⟩)).setCell ⟨w.heap.size, 2, none⟩ (.int .i64 ((v : Int)))).setCell ⟨w.heap.size, 3, none⟩ (.int .i64 0)).cell? ⟨w.heap.size, 3, none⟩ = some (.int .i64 0) := q4.cell 3
           have hbz : Below w.heap.size w ((((w1.setCell ⟨w.heap.size, 0, none⟩ (.int .u8 2)).setCell ⟨w.heap.size, 1, none⟩ (.string ⟨sx.toArray⟩)).setCell ⟨w.heap.size, 2, none⟩ (.int .i64 ((v : Int)))).setCell ⟨w.heap.size, 3, none⟩ (.int .i64 0)) := ((((B1.out.setCell (p := ⟨w.heap.size, 0, none⟩) (Nat.le_refl _) _).setCell (p := ⟨w.heap.size, 1, none⟩) (Nat.le_refl _) _).setCell (p := ⟨w.heap.size, 2, none⟩) (Nat.le_refl _) _).setCell (p := ⟨w.heap.size, 3, none⟩) (Nat.le_refl _) _)
           have Hr := hide (show _ ∧ _ ∧ _ ∧ _ from ⟨r0, r1, r2, r3⟩)
           have Hbz := hide hbz
           clear q0 q1 q2 q3 q4 r0 r1 r2 r3 hbz
           go_wp2_with fail
           obtain ⟨r0, r1, r2, r3⟩ := Hr.out
           refine bodyPost_ret (v := .tuple #[.agg #[.int .u8 2, .string ⟨sx.toArray⟩, .int .i64 ((v : Int)), .int .i64 0], .int .i64 (k : Int), .int .i64 0, .int .i64 0]) (by simp [results, Tryd.results29, go_sem, r0, r1, r2, r3, Result.andThen]; try exact Hfi.out.symm) rfl ⟨?_, Hbz.out⟩
           rw [HN.out, if_neg E1.out, if_neg E2.out, if_neg (by rw [Hc.out]; simp), if_neg E4.out, Hsx.out, Hv.out]
           try rfl)
end Go.Proofs.YtfbkmjjcopjoeaaDoor
