/- The document's answer for the ledger: Kept, With, Need, Same, Of. -/
import Derived.Test.YtbcpplndmndkiaaLogD
namespace Go.Proofs.Ytbcpplndmndkiaa
open Go.RowKit

abbrev sv (l : List UInt8) : Value := .string ⟨l.toArray⟩
/-- A row of texts of one's own. -/
def KRow (w : World) (A : Option Addr) (n c : Nat) (ls : List (List UInt8)) : Prop := ls.length = n ∧ w.ownsRow 0 9 1 (.slice A n c) n (ls.map sv)
theorem infoStr : (Try.prog.info? 9).map (fun i => (i.zero, i.size, i.bytes)) = some (some (.string ⟨#[]⟩), 1, 16) := by kernel_rfl
section
variable {w w' : World} {A : Option Addr} {n c : Nat} {ls : List (List UInt8)}
theorem KRow.fr {F : Nat → Prop} (h : KRow w A n c ls) (hf : Fr F w w') (ha : ∀ k, At A k → ¬ F k) : KRow w' A n c ls := ⟨h.1, own_fr h.2 hf (fun k hk => ha k (at_own.1 hk))⟩
theorem KRow.nil (w : World) : KRow w none 0 0 [] := ⟨rfl, World.ownsRow_nil _ _ _ _⟩
theorem KRow.cell (h : KRow w A n c ls) (i : Nat) (hi : i < n) : ∃ g, A = some ⟨g, 0, none⟩ ∧ w.cell? ⟨g, i, none⟩ = some (sv (ls.getD i [])) := by
  rcases h.2.2 with ⟨he, h0⟩ | ⟨g, cap, cur, he, _, hg, _⟩
  · omega
  · injection he with h1 h2 h3
    subst h1
    refine ⟨g, rfl, ?_⟩
    have hc := h.2.cells (g := g) rfl i (sv (ls.getD i [])) (by rw [List.getElem?_map, List.getD_eq_getElem?_getD, List.getElem?_eq_getElem (by rw [h.1]; exact hi)]; rfl)
    rwa [Addr.add_mid, Nat.zero_add] at hc
theorem KRow.lt (h : KRow w A n c ls) : ∀ k, At A k → k < w.heap.size := fun k hk => (World.ownsRow.lt h.2 k (at_own.2 hk)).2
end

def NeedPost (v : Int) (w : World) (e : Ending) (w' : World) : Prop := e = .returned (.int .i64 v) ∧ Below w.heap.size w w'
def needOf (s : List UInt8) (ls : List (List UInt8)) : Nat := s.length + 8 + (ls.map fun r => r.length + 8).sum

theorem needOf_succ (s : List UInt8) (ls : List (List UInt8)) (k : Nat) (h : k < ls.length) : needOf s (ls.take (k + 1)) = needOf s (ls.take k) + ((ls.getD k []).length + 8) := by
  unfold needOf
  rw [List.take_succ_eq_append_getElem h, List.map_append, List.sum_append, List.getD_eq_getElem?_getD, List.getElem?_eq_getElem h]
  simp
  omega
theorem needOf_take (s : List UInt8) (ls : List (List UInt8)) (k : Nat) : needOf s (ls.take k) ≤ needOf s ls := by
  have h : ls = ls.take k ++ ls.drop k := (List.take_append_drop k ls).symm
  have h2 : needOf s ls = needOf s (ls.take k) + ((ls.drop k).map fun r => r.length + 8).sum := by
    unfold needOf
    rw [show (ls.map fun r => r.length + 8) = ((ls.take k).map fun r => r.length + 8) ++ ((ls.drop k).map fun r => r.length + 8) from by rw [← List.map_append, ← h], List.sum_append]
    omega
  omega
theorem needOf_len (s : List UInt8) (ls : List (List UInt8)) : 8 * ls.length ≤ needOf s ls := by
  unfold needOf
  have : 8 * ls.length ≤ (ls.map fun r => r.length + 8).sum := by
    induction ls with
    | nil => exact Nat.le_refl _
    | cons r l ih => rw [List.length_cons, List.map_cons, List.sum_cons]; omega
  omega
set_option maxHeartbeats 2000000 in
theorem kneed_any (s : List UInt8) (A : Option Addr) (n c : Nat) (ls : List (List UInt8)) (w : World) (h : KRow w A n c ls) (hs : needOf s ls ≤ 1000000000) :
    Calls Try.prog 18 #[.agg #[sv s, .slice A n c]] w (NeedPost (needOf s ls) w) := by
  have Hh := hide h
  have hn := hide h.1
  have hsl : s.length ≤ 1000000000 := by unfold needOf at hs; omega
  have hnb : n ≤ 1000000000 := by have := needOf_len s ls; have := h.1; omega
  clear h
  go_enter Try.func18, Try.ntmps18
  go_wp2
  obtain ⟨w1, hw1⟩ : ∃ w1, w1 = w.alloc (.cells #[sv s, .slice A n c] 34) := ⟨_, rfl⟩
  rw [← hw1]
  have hb1 : Blk w1 w.heap.size 34 #[sv s, .slice A n c] := by rw [hw1]; exact Blk.new _ _ _
  have hk1 : KRow w1 A n c ls := by rw [hw1]; exact Hh.out.fr (F := fun _ => False) ((Fr.refl _ _).alloc _) (fun _ _ h => h)
  have hbel : Below w.heap.size w w1 := by rw [hw1]; exact (Below.refl _ _).alloc (Nat.le_refl _) _
  have d1 : w1.cell? ⟨w.heap.size, 1, none⟩ = some (.slice A n c) := hb1.cell 1
  have Hk1 := hide hk1
  have Hbel := hide hbel
  clear hw1 hb1 hk1 hbel
  go_loop [3, 4] (fun t i => ∃ k : Nat, k ≤ n ∧ i = .int .i64 k ∧ t = .int .i64 (needOf s (ls.take k) : Nat)) (fun _ i => n - (intOf i).toNat)
  case atStart => exact ⟨0, Nat.zero_le _, rfl, by simp [needOf]⟩
  case round =>
    obtain ⟨k, hk, rfl, rfl⟩ := hrel
    have hnk : needOf s (ls.take k) ≤ needOf s ls := needOf_take s ls k
    by_cases hlt : k < n
    · obtain ⟨g, rfl, hcell⟩ := Hk1.out.cell k hlt
      have hsucc := needOf_succ s ls k (by rw [hn.out]; exact hlt)
      have hnk2 : needOf s (ls.take (k + 1)) ≤ needOf s ls := needOf_take s ls (k + 1)
      obtain ⟨r, hr⟩ : ∃ r, r = ls.getD k [] := ⟨_, rfl⟩
      rw [← hr] at hcell hsucc
      have hrl : r.length ≤ 1000000000 := by omega
      obtain ⟨m, hm⟩ : ∃ m, m = needOf s (ls.take k) := ⟨_, rfl⟩
      rw [← hm] at hsucc hnk ⊢
      have Hsucc := hide hsucc
      have hmb : m + (r.length + 8) ≤ 1000000000 := by omega
      clear hr hm hsucc
      go_wp2
      go_round
      case rel => exact ⟨k + 1, hlt, by go_num, by rw [Hsucc.out]; rfl⟩
      case measure => simp [intOf]; omega
    · obtain rfl : k = n := by omega
      have htk : needOf s (ls.take k) = needOf s ls := by rw [List.take_of_length_le (by rw [hn.out]; exact Nat.le_refl _)]
      rw [htk]
      clear htk
      go_wp2
      go_ret
      exact ⟨rfl, Hbel.out⟩

def sameB (s1 s2 : List UInt8) (l1 l2 : List (List UInt8)) : Bool := decide (s1 = s2 ∧ l1 = l2)
def SamePost (v : Bool) (w : World) (e : Ending) (w' : World) : Prop := e = .returned (.bool v) ∧ Below w.heap.size w w'

set_option maxHeartbeats 4000000 in
theorem ksame_any (s1 s2 : List UInt8) (A1 A2 : Option Addr) (n1 n2 c1 c2 : Nat) (l1 l2 : List (List UInt8)) (w : World) (h1 : KRow w A1 n1 c1 l1) (h2 : KRow w A2 n2 c2 l2) (hb1 : n1 ≤ 1000000000) (hb2 : n2 ≤ 1000000000) :
    Calls Try.prog 22 #[.agg #[.string ⟨s1.toArray⟩, .slice A1 n1 c1], .agg #[.string ⟨s2.toArray⟩, .slice A2 n2 c2]] w (SamePost (sameB s1 s2 l1 l2) w) := by
  have hl1 := hide h1.1
  have hl2 := hide h2.1
  have H1 := hide h1
  have H2 := hide h2
  clear h1 h2
  by_cases hs : s1 = s2
  case neg =>
    have hv : sameB s1 s2 l1 l2 = false := by unfold sameB; rw [decide_eq_false_iff_not]; exact fun h => hs h.1
    rw [hv]
    have hne : (s1 == s2) = false := by rw [beq_eq_false_iff_ne]; exact hs
    clear hv hs
    go_enter Try.func22, Try.ntmps22
    go_wp2
    go_ret
    exact ⟨rfl, ((Below.refl _ _).alloc (Nat.le_refl _) _).alloc (by simp) _⟩
  subst hs
  have hss : (s1 == s1) = true := by rw [beq_iff_eq]
  by_cases hn : n1 = n2
  case neg =>
    have hv : sameB s1 s1 l1 l2 = false := by
      unfold sameB
      rw [decide_eq_false_iff_not]
      rintro ⟨_, rfl⟩
      exact hn (hl1.out.symm.trans hl2.out)
    rw [hv]
    have hne : ((n1 : Int) != (n2 : Int)) = true := by rw [bne_iff_ne]; omega
    have hne2 : (n1 == n2) = false := by rw [beq_eq_false_iff_ne]; exact hn
    clear hv hn
    go_enter Try.func22, Try.ntmps22
    go_wp2
    go_ret
    exact ⟨rfl, ((Below.refl _ _).alloc (Nat.le_refl _) _).alloc (by simp) _⟩
  subst hn
  go_enter Try.func22, Try.ntmps22
  go_wp2
  obtain ⟨w1, hw1⟩ : ∃ w1, w1 = (w.alloc (.cells #[.string ⟨s1.toArray⟩, .slice A1 n1 c1] 34)).alloc (.cells #[.string ⟨s1.toArray⟩, .slice A2 n1 c2] 34) := ⟨_, rfl⟩
  rw [← hw1]
  have hsz : w1.heap.size = w.heap.size + 1 + 1 := by rw [hw1]; simp
  have hb1' : Blk w1 w.heap.size 34 #[.string ⟨s1.toArray⟩, .slice A1 n1 c1] := by rw [hw1]; exact (Blk.new _ _ _).alloc _
  have hb2' : Blk w1 (w.heap.size + 1) 34 #[.string ⟨s1.toArray⟩, .slice A2 n1 c2] := by
    rw [hw1]
    have h := Blk.new (w.alloc (.cells #[.string ⟨s1.toArray⟩, .slice A1 n1 c1] 34)) 34 #[.string ⟨s1.toArray⟩, .slice A2 n1 c2]
    rwa [World.size_alloc] at h
  have hk1 : KRow w1 A1 n1 c1 l1 := by rw [hw1]; exact H1.out.fr (F := fun _ => False) (((Fr.refl _ _).alloc _).alloc _) (fun _ _ h => h)
  have hk2 : KRow w1 A2 n1 c2 l2 := by rw [hw1]; exact H2.out.fr (F := fun _ => False) (((Fr.refl _ _).alloc _).alloc _) (fun _ _ h => h)
  have hbel : Below w.heap.size w w1 := by rw [hw1]; exact ((Below.refl _ _).alloc (Nat.le_refl _) _).alloc (by simp) _
  have B1 := hide hb1'
  have B2 := hide hb2'
  have K1 := hide hk1
  have K2 := hide hk2
  have Hbel := hide hbel
  clear hw1 hsz hb1' hb2' hk1 hk2 hbel hss
  go_loopw [5] (fun i wr => ∃ k : Nat, k ≤ n1 ∧ i = .int .i64 k ∧ l1.take k = l2.take k ∧ ∃ q, wr = w1.drewN q) (fun i _ => n1 - (intOf i).toNat)
  case atStart => exact ⟨0, Nat.zero_le _, rfl, rfl, 0, rfl⟩
  case round =>
    obtain ⟨k, hk, rfl, htake, q, hq⟩ := hrel
    have e1 : wr.cell? ⟨w.heap.size, 1, none⟩ = some (.slice A1 n1 c1) := by rw [hq]; exact (Blk.drewN B1.out q).cell 1
    have e2 : wr.cell? ⟨w.heap.size + 1, 1, none⟩ = some (.slice A2 n1 c2) := by rw [hq]; exact (Blk.drewN B2.out q).cell 1
    have k1 : KRow wr A1 n1 c1 l1 := by rw [hq]; exact K1.out.fr (F := fun _ => False) ((Fr.refl _ _).drewN q) (fun _ _ h => h)
    have k2 : KRow wr A2 n1 c2 l2 := by rw [hq]; exact K2.out.fr (F := fun _ => False) ((Fr.refl _ _).drewN q) (fun _ _ h => h)
    have hbw : Below w.heap.size w wr := by rw [hq]; exact below_drewN Hbel.out q
    by_cases hlt : k < n1
    · obtain ⟨g1, hA1, d1⟩ := k1.cell k hlt
      obtain ⟨g2, hA2, d2⟩ := k2.cell k hlt
      subst hA1 hA2
      have hd1 : l1[k]? = some (l1.getD k []) := by rw [List.getD_eq_getElem?_getD, List.getElem?_eq_getElem (by rw [hl1.out]; exact hlt)]; rfl
      have hd2 : l2[k]? = some (l2.getD k []) := by rw [List.getD_eq_getElem?_getD, List.getElem?_eq_getElem (by rw [hl2.out]; exact hlt)]; rfl
      obtain ⟨r1, hr1⟩ : ∃ r1, r1 = l1.getD k [] := ⟨_, rfl⟩
      obtain ⟨r2, hr2⟩ : ∃ r2, r2 = l2.getD k [] := ⟨_, rfl⟩
      rw [← hr1] at d1 hd1
      rw [← hr2] at d2 hd2
      by_cases hr : r1 = r2
      · have ht : l1.take (k + 1) = l2.take (k + 1) := by rw [List.take_add_one, List.take_add_one, htake, hd1, hd2, hr]
        have Ht := hide ht
        have Hq := hide hq
        have hrb : (r1 == r2) = true := by rw [beq_iff_eq]; exact hr
        clear hd1 hd2 hr1 hr2 htake hq k1 k2 hbw ht hr
        go_upto_region 6 with fail
        go_quiet (fail)
        go_wp2
        go_roundw
        case rel => exact ⟨k + 1, hlt, by go_num, Ht.out, q + nq, by rw [Hq.out, World.drewN_drewN]⟩
        case measure => simp [intOf]; omega
      · have hv : sameB s1 s1 l1 l2 = false := by
          unfold sameB
          rw [decide_eq_false_iff_not]
          rintro ⟨_, rfl⟩
          rw [hd1] at hd2
          exact hr (Option.some.inj hd2)
        have Hv := hide hv
        have Hbw := hide hbw
        have hrb : (r1 == r2) = false := by rw [beq_eq_false_iff_ne]; exact hr
        clear hd1 hd2 hr1 hr2 htake hq k1 k2 hbw hv hr
        go_upto_region 6 with fail
        go_quiet (fail)
        go_wp2
        go_ret
        exact ⟨by rw [Hv.out]; rfl, below_drewN Hbw.out _⟩
    · obtain rfl : k = n1 := by omega
      have hv : sameB s1 s1 l1 l2 = true := by
        unfold sameB
        rw [decide_eq_true_iff]
        rw [List.take_of_length_le (by rw [hl1.out]; exact Nat.le_refl _), List.take_of_length_le (by rw [hl2.out]; exact Nat.le_refl _)] at htake
        exact ⟨rfl, htake⟩
      have Hv := hide hv
      have Hbw := hide hbw
      clear hv hbw htake hq k1 k2
      go_wp2
      go_ret
      exact ⟨by rw [Hv.out]; rfl, Hbw.out⟩
end Go.Proofs.Ytbcpplndmndkiaa
