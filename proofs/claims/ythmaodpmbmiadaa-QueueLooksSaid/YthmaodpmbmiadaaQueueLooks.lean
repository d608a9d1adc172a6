/-
  To look at all changes nothing, and what is told may be written over: QueueLooks answers true for any texts; no condition.
-/
import Derived.Test.YthmaodpmbmiadaaQaw
import Derived.Test.YthmaodpmbmiadaaQop
namespace Go.Proofs.Ythmaodpmbmiadaa
open Go.RowKit Go.ChangeShapes Go.WideShapes Go.ChangeAt

def strs (xs : List ByteArray) : List Value := xs.map fun s => .string s
theorem strs_one (xs : List ByteArray) : ∀ v ∈ strs xs, One v := by
  intro v hv
  simp only [strs, List.mem_map] at hv
  obtain ⟨i, _, rfl⟩ := hv
  exact ⟨rfl, rfl⟩
theorem strs_len (xs : List ByteArray) : (strs xs).length = xs.length := List.length_map _

/-- The queue holds these texts; so many are gone. -/
def SQ (w0 w : World) (S : QS) (g : Nat) (xs : List ByteArray) : Prop := OnQ w0 w 73 { S with cap := 64, gone := g, l := strs xs }
theorem SQ.put {w0 w : World} {S : QS} {g : Nat} {xs : List ByteArray} (x : ByteArray) (h : SQ w0 w S g xs) (hm : xs.length < 64) (hg : g ≤ 100000) :
    Calls Try.prog 11 #[.pointer (some ⟨S.q, 0, none⟩), .string x] w fun e w' => (∃ y, e = .returned y) ∧ SQ w0 w' S g (xs ++ [x]) := by
  refine (putStr _ (.string x) w h.at_ (by show (strs xs).length < 64; rw [strs_len]; exact hm) (by show g < _; omega)).mono ?_
  rintro e w' ⟨rfl, hq, hf⟩
  refine ⟨⟨_, rfl⟩, ?_⟩
  have h2 := OnQ.step h hq hf rfl rfl
  have e : strs (xs ++ [x]) = strs xs ++ [.string x] := by simp [strs]
  unfold SQ
  rw [e]
  exact h2
theorem SQ.take {w0 w : World} {S : QS} {g : Nat} {x : ByteArray} {xs : List ByteArray} (h : SQ w0 w S g (x :: xs)) (hg : g ≤ 100000) :
    Calls Try.prog 12 #[.pointer (some ⟨S.q, 0, none⟩)] w fun e w' => e = .returned (.tuple #[.string x, .int .i64 0]) ∧ SQ w0 w' S (g + 1) xs := by
  refine (takeStr _ (.string x) (strs xs) w h.at_ rfl (by show g < _; omega)).mono ?_
  rintro e w' ⟨rfl, hq, hf⟩
  exact ⟨rfl, OnQ.step h hq hf rfl rfl⟩
theorem SQ.gone {w0 w : World} {S : QS} {g : Nat} {xs : List ByteArray} (h : SQ w0 w S g xs) : Calls Try.prog 16 #[.pointer (some ⟨S.q, 0, none⟩)] w fun e w' => e = .returned (.int .u64 (g : Int)) ∧ w' = w :=
  goneStr { S with cap := 64, gone := g, l := strs xs } w h.at_
/-- A row of m cells that the law has made, apart from the queue. -/
def RowAt (w0 w : World) (S : QS) (A : Option Addr) (m : Nat) : Prop := m = 0 ∨ ∃ b cur, A = some ⟨b, 0, none⟩ ∧ Blk w b 9 cur ∧ m ≤ cur.size ∧ b ≠ S.q ∧ b ≠ S.c ∧ w0.heap.size ≤ b
theorem SQ.all {w0 w : World} {S : QS} {g : Nat} {xs : List ByteArray} (h : SQ w0 w S g xs) : Calls Try.prog 14 #[.pointer (some ⟨S.q, 0, none⟩)] w fun e w' =>
    ∃ A c, e = .returned (.slice A xs.length c) ∧ RowAt w0 w' S A xs.length ∧ SQ w0 w' S g xs := by
  refine (allStr _ w h.at_ (strs_one xs)).mono ?_
  rintro e w' ⟨A, c, rfl, hrow, hA, hq, hf⟩
  simp only [strs_len] at hrow
  have hqw : S.q < w.heap.size := h.at_.blk.lt
  have hcw : S.c < w.heap.size := h.at_.ch.lt
  refine ⟨A, c, by simp only [strs_len], ?_, OnQ.step h hq hf rfl rfl⟩
  rcases hrow.2.2 with ⟨_, hn⟩ | ⟨b, cap, cur, he, _, hb, hc, hm, hs, ht⟩
  · exact .inl hn
  · injection he with h1 h2 h3
    subst h1 h3
    have hbw := hA b (At.some_iff.2 rfl)
    exact .inr ⟨b, cur, rfl, hb, by omega, by omega, by omega, Nat.le_trans h.below.size hbw⟩
theorem SQ.store {w0 w : World} {S : QS} {g m b : Nat} {xs : List ByteArray} {cur : Array Value} (h : SQ w0 w S g xs) (hb : Blk w b 9 cur) (hm : m ≤ cur.size) (h1 : b ≠ S.q) (h2 : b ≠ S.c) (h3 : w0.heap.size ≤ b) (i : Nat) (u : Value) :
    SQ w0 (w.setCell ⟨b, i, none⟩ u) S g xs ∧ RowAt w0 (w.setCell ⟨b, i, none⟩ u) S (some ⟨b, 0, none⟩) m := by
  refine ⟨OnQ.fr (F := fun k => k = b) h ((Fr.refl (fun k => k = b) w).put1 i u) ?_, .inr ⟨b, _, rfl, hb.set_ i u, by simpa using hm, h1, h2, h3⟩⟩
  rintro k rfl
  refine ⟨h3, ?_⟩
  rintro (hk | hk)
  · exact h1 hk
  · exact h2 hk

set_option maxRecDepth 100000 in
set_option maxHeartbeats 4000000 in
theorem qlooks_any (A : Option Addr) (cd : Nat) (xs : List ByteArray) (x1 : Int) (w : World) (h0 : 0 ≤ x1) (h0' : x1 ≤ 255) (hb : Strs w A xs) (hl : xs.length ≤ 9223372036854775807) : Calls Try.prog 5 #[.slice A xs.length cd, .int .u8 x1] w fun e w' => e = .returned (.bool true) ∧ Below w.heap.size w w' := by
  obtain ⟨n, hn⟩ : ∃ n, xs.length = n := ⟨_, rfl⟩
  rw [hn]
  have hnm : n ≤ 9223372036854775807 := by omega
  have Hn := hide hn
  have Hb := hide hb
  clear hn hb hl
  by_cases hn60 : n ≤ 60
  · go_enter Try.func5, Try.ntmps5
    go_wp2_with fail
    refine (awake_any w).mono ?_
    rintro e w1 ⟨rfl, hb1⟩
    have Hb1 := hide hb1
    clear hb1
    go_wp2_with fail
    refine (newStr 64 7 w1 (by omega) (by omega)).mono ?_
    rintro e w2 ⟨S, rfl, hq, hcap, hgone, hl, hb, hF⟩
    have hS : ({ S with cap := 64, gone := 7, l := strs [] } : QS) = S := by
      obtain ⟨a, b, c, d, l⟩ := S
      simp only at hcap hgone hl
      subst hcap hgone hl
      rfl
    have F0 := hide (show SQ w w2 S 7 [] from by unfold SQ; rw [hS]; exact OnQ.new Hb1.out hq hb hF)
    clear hq hcap hgone hl hb hF hS
    go_wp2_with fail
    go_loopw [7] (fun iv wr => ∃ i : Nat, i ≤ n ∧ iv = .int .i64 (i : Int) ∧ SQ w wr S 7 (xs.take i)) (fun iv _ => n - (intOf iv).toNat)
    case atStart => exact ⟨0, Nat.zero_le _, rfl, F0.out⟩
    case round =>
      obtain ⟨i, hi, rfl, hq⟩ := hrel
      have Hq := hide hq
      clear hq
      by_cases hi1 : i < n
      · obtain ⟨d, hd⟩ : ∃ d, xs[i]? = some d := ⟨_, List.getElem?_eq_getElem (by rw [Hn.out]; exact hi1)⟩
        obtain ⟨gb, ob, rfl, hcell⟩ : ∃ gb ob, A = some ⟨gb, ob, none⟩ ∧ ∀ j (s : ByteArray), xs[j]? = some s → wr.cell? ⟨gb, ob + j, none⟩ = some (.string s) := by
          rcases Hb.out.below Hq.out.below with h | ⟨gb, ob, h1, h2⟩
          · subst h; simp at hd
          · exact ⟨gb, ob, h1, h2⟩
        have hd1 := hcell i d hd
        have htk : xs.take (i + 1) = xs.take i ++ [d] := by rw [List.take_add_one, hd]; rfl
        have Htk := hide htk
        have hlt : (xs.take i).length < 64 := by rw [List.length_take]; omega
        have Hlt := hide hlt
        clear hd hcell htk hlt
        go_wp2_with fail
        refine (Hq.out.put d Hlt.out (by omega)).mono ?_
        rintro e w3 ⟨⟨y, rfl⟩, hq3⟩
        have Hq3 := hide hq3
        clear hq3
        go_wp2
        go_roundw
        case rel => first | exact ⟨i + 1, by omega, by go_num, by rw [Htk.out]; exact Hq3.out⟩ | ((repeat apply Exists.intro); exact ⟨⟨i + 1, by omega, by go_num, by rw [Htk.out]; exact Hq3.out⟩, rfl⟩)
        case measure => simp [intOf]; omega
      · obtain rfl : i = n := by omega
        have hq0 := Hq.out
        rw [show xs.take i = xs from by rw [← Hn.out, List.take_length]] at hq0
        have Hq := hide hq0
        clear hq0
        go_wp2_with fail
        go_loopw [8] (fun kv wr => ∃ k : Nat, k ≤ 5 ∧ kv = .int .i64 (k : Int) ∧ SQ w wr S 7 xs) (fun kv _ => 5 - (intOf kv).toNat)
        case atStart => exact ⟨0, Nat.zero_le _, rfl, Hq.out⟩
        case round =>
          obtain ⟨k, hk, rfl, hq⟩ := hrel
          have Hq := hide hq
          clear hq
          by_cases hk1 : (k : Int) < x1 % 5
          · go_wp2_with fail
            refine (Hq.out.all).mono ?_
            rintro e w4 ⟨A4, c4, rfl, hrow, hq4⟩
            have Hq4 := hide hq4
            rw [Hn.out] at hrow ⊢
            have Hrow := hide hrow
            clear hq4 hrow
            have Hk1 := hide hk1
            clear hk1
            go_wp2_with fail
            go_loopw [10] (fun jv wr => ∃ j : Nat, j ≤ i ∧ jv = .int .i64 (j : Int) ∧ SQ w wr S 7 xs ∧ RowAt w wr S A4 i) (fun jv _ => i - (intOf jv).toNat)
            case atStart => exact ⟨0, Nat.zero_le _, rfl, Hq4.out, Hrow.out⟩
            case round =>
              obtain ⟨j, hj, rfl, hq5, hrow5⟩ := hrel
              have Hq5 := hide hq5
              clear hq5
              by_cases hj1 : j < i
              · obtain ⟨b, cur, rfl, hbk, hm, hbq, hbc, hbw⟩ : ∃ b cur, A4 = some ⟨b, 0, none⟩ ∧ Blk wr b 9 cur ∧ i ≤ cur.size ∧ b ≠ S.q ∧ b ≠ S.c ∧ w.heap.size ≤ b := by
                  rcases hrow5 with h | h
                  · omega
                  · exact h
                have z5 : wr.frozen? ⟨b, j, none⟩ = false := hbk.frozen j
                obtain ⟨vj, c5⟩ : ∃ vj, wr.cell? ⟨b, j, none⟩ = some vj := ⟨_, by rw [hbk.cell]; exact Array.getElem?_eq_getElem (by omega)⟩
                have Fin := hide (Hq5.out.store hbk hm hbq hbc hbw j (.string ⟨#[120]⟩))
                clear hbk hm hbq hbc hbw
                go_wp2
                go_roundw
                case rel => first | exact ⟨j + 1, by omega, by go_num, Fin.out.1, Fin.out.2⟩ | ((repeat apply Exists.intro); exact ⟨⟨j + 1, by omega, by go_num, Fin.out.1, Fin.out.2⟩, rfl⟩)
                case measure => simp [intOf]; omega
              · obtain rfl : j = i := by omega
                clear hrow5
                have hk1 := Hk1.out
                go_wp2
                go_roundw
                case rel => first | exact ⟨k + 1, by omega, by go_num, Hq5.out⟩ | ((repeat apply Exists.intro); exact ⟨⟨k + 1, by omega, by go_num, Hq5.out⟩, rfl⟩)
                case measure => simp [intOf]; omega
          · go_wp2_with fail
            have Hk1 := hide hk1
            clear hk1
            go_loopw [11] (fun jv wr => ∃ j : Nat, j ≤ i ∧ jv = .int .i64 (j : Int) ∧ SQ w wr S (7 + j) (xs.drop j)) (fun jv _ => i - (intOf jv).toNat)
            case atStart => exact ⟨0, Nat.zero_le _, rfl, Hq.out⟩
            case round =>
              obtain ⟨j, hj, rfl, hq5⟩ := hrel
              by_cases hj1 : j < i
              · obtain ⟨d, hd⟩ : ∃ d, xs[j]? = some d := ⟨_, List.getElem?_eq_getElem (by rw [Hn.out]; exact hj1)⟩
                have hdr : xs.drop j = d :: xs.drop (j + 1) := by
                  obtain ⟨hj', hx⟩ := List.getElem?_eq_some_iff.1 hd
                  rw [List.drop_eq_getElem_cons hj', hx]
                rw [hdr] at hq5
                have Hq5 := hide hq5
                have Hd := hide hd
                clear hq5 hdr hd
                go_wp2_with fail
                refine (Hq5.out.take (by omega)).mono ?_
                rintro e w6 ⟨rfl, hq6⟩
                have Hq6 := hide hq6
                obtain ⟨gb, ob, rfl, hcell⟩ : ∃ gb ob, A = some ⟨gb, ob, none⟩ ∧ ∀ j (s : ByteArray), xs[j]? = some s → w6.cell? ⟨gb, ob + j, none⟩ = some (.string s) := by
                  rcases Hb.out.below hq6.below with h | ⟨gb, ob, h1, h2⟩
                  · have hd := Hd.out; subst h; simp at hd
                  · exact ⟨gb, ob, h1, h2⟩
                have hd1 := hcell j d Hd.out
                clear hq6 hcell
                go_wp2
                go_roundw
                case rel => first | exact ⟨j + 1, by omega, by go_num, Hq6.out⟩ | ((repeat apply Exists.intro); exact ⟨⟨j + 1, by omega, by go_num, Hq6.out⟩, rfl⟩)
                case measure => simp [intOf]; omega
              · obtain rfl : j = i := by omega
                have Hq5 := hide hq5
                clear hq5
                go_wp2_with fail
                refine (Hq5.out.gone).mono ?_
                rintro e w6 ⟨rfl, rfl⟩
                go_wp2
                go_ret
                refine ⟨?_, Hq5.out.below⟩
                first | rfl | (show Ending.returned (.bool _) = _; congr 2; simp [IntKind.wrap_u64]; omega)
  · go_enter Try.func5, Try.ntmps5
    go_wp2_with fail
    refine (awake_any w).mono ?_
    rintro e w1 ⟨rfl, hb1⟩
    have Hb1 := hide hb1
    clear hb1
    go_wp2_with fail
    refine (awake_any w1).mono ?_
    rintro e w2 ⟨rfl, hb2⟩
    have Hb2 := hide (Hb1.out.trans (hb2.mono Hb1.out.size))
    clear hb2
    go_wp2
    go_ret
    exact ⟨rfl, Hb2.out⟩

set_option maxRecDepth 100000 in
theorem queueLooks_lifted (os : Os) (started : os.Started) (H : Type) (enc : TypeId × Value → H) :
    ReturnsInHanded {} Try.checked os 5 .any (Rows.queueLooksSpec.pre6 enc Try.prog Try.f5 Rows.queueLooksRow.domain false) (Rows.queueLooksSpec.post enc Try.prog Try.f5 false true false false) := by
  refine returnsInHanded_of_change (C := Try.checked) own0 started (by kernel_rfl) Try.func5
    (ChangeSpec.witness6 (enc := enc) (C := Try.checked) false ⟨#[], #[.slice none 0 0, .int .u8 0], []⟩ 8 (by kernel_rfl) (by kernel_rfl) (by kernel_rfl) (by kernel_rfl)) ?_
  intro W base args ds gs before hval0 hW _ _
  have hval : ∀ (j : Nat) t v, Try.f5.params[j]? = some t → args[j]? = some v → Value.okWide Try.prog W .any base t v := hval0
  have hW' := hW
  obtain ⟨p, q, hA0, hV, rfl, hfz, hnd⟩ := hW
  have hA : DataW.TrodAll enc Try.prog W 0 (fun _ => true) true Try.f5.params.toList args.toList ds p := hA0
  rw [Try.params5] at hA hval
  obtain ⟨v0, v1, d0, d1, p0, p1, rfl, rfl, rfl, h0, h1⟩ := trodAll_two hA
  obtain ⟨rfl, rfl⟩ := trodVars_none hV
  obtain ⟨A0, c0, l0, rfl, b0, m0⟩ := open_strs (hval 0 30 v0 rfl rfl) h0
  obtain ⟨x1, rfl, rfl, rfl, w1⟩ := open_int Try.underlying5 (hval 1 5 v1 rfl rfl) h1
  clear hA0 hval0
  refine (qlooks_any A0 c0 l0 x1 W (u8_of_wf w1).1 (u8_of_wf w1).2 b0 m0).mono fun e W' ⟨he, hb⟩ => ?_
  subst he
  exact ⟨_, rfl, law_close laid0 Try.underlying4 rfl rfl (by rw [Try.params5]; decide +kernel) hW' (fun gs hg => by subst hg; rfl) hb⟩

theorem queueLooks_holds : Rows.QueueLooksSaid :=
  OpenClaim.holds_of_wide 5 Try.f5 rfl rfl rfl rfl rfl rfl rfl ⟨rfl, rfl, rfl, rfl, rfl⟩ rfl rfl rfl rfl rfl (by kernel_rfl) Try.func5 (by kernel_rfl)
    (of_decide_eq_true (by kernel_rfl)) (by unfold Func.isWrapper; first | (rw [if_pos (by decide +kernel)]; kernel_rfl) | (rw [if_neg (by decide +kernel)]; exact ⟨rfl, rfl⟩))
    (fun os started H enc _ => queueLooks_lifted os started H enc)
end Go.Proofs.Ythmaodpmbmiadaa
