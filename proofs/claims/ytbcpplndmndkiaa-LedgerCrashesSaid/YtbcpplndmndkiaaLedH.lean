/- slices.Chunk, over a text of bytes. -/
import Derived.Test.YtbcpplndmndkiaaLedG
import Derived.Test.YtbcpplndmndkiaaRound
namespace Go.Proofs.Ytbcpplndmndkiaa
open Go.RowKit
attribute [local go_sem] Oper.semAt_some

/-- How many chunks of 64 bytes n bytes have; the k-th one. -/
def nch (n : Nat) : Nat := (n + 63) / 64
def chunk (l : List UInt8) (k : Nat) : List UInt8 := (l.drop (64 * k)).take 64
abbrev Ix (m : Nat) := { k : Nat // k < m }
def encCh (g o n : Nat) (k : Ix (nch n)) : Array Value := #[.slice (some ⟨g, o + 64 * k.1, none⟩) (min 64 (n - 64 * k.1)) (min 64 (n - 64 * k.1))]
def firstIx (m : Nat) : Nat → List (Ix m)
  | 0 => []
  | k + 1 => if h : k < m then firstIx m k ++ [⟨k, h⟩] else firstIx m k
theorem firstIx_succ {m k : Nat} (h : k < m) : firstIx m (k + 1) = firstIx m k ++ [⟨k, h⟩] := by rw [firstIx, dif_pos h]
theorem firstIx_len {m : Nat} : ∀ k, k ≤ m → (firstIx m k).length = k
  | 0, _ => rfl
  | k + 1, h => by rw [firstIx_succ (by omega), List.length_append, firstIx_len k (by omega)]; rfl

/-- What the iterator reads between two rounds: its two boxes. -/
def KpC (bs bn : Nat) (W W' : World) : Prop := W'.heap[bs]? = W.heap[bs]? ∧ W'.heap[bn]? = W.heap[bn]?

set_option maxHeartbeats 400000 in
theorem chunkOf_any (A : Option Addr) (n c : Nat) (w : World) :
    Calls Try.prog 49 #[.slice A n c, .int .i64 64] w fun e w' => e = .returned (.func (.func 51) #[] #[.pointer (some ⟨w.heap.size, 0, none⟩), .pointer (some ⟨w.heap.size + 1, 0, none⟩)]) ∧
      w' = (w.alloc (.cells #[.slice A n c] 22)).alloc (.cells #[.int .i64 64] 3) := by
  go_enter Try.func49, Try.ntmps49
  go_wp2
  go_ret
  exact ⟨rfl, rfl⟩

set_option maxRecDepth 100000 in
set_option maxHeartbeats 2000000 in
theorem chunk1_in (n0 : Nat) (hn0 : 1 ≤ n0) (l bs bn g o n c : Nat) (hn : n ≤ 10000000) (hnc : n ≤ c) (J Jx : List (Ix (nch n)) → World → Prop)
    (hY : ∀ pre x W, J pre W → pre.length < nch n → YieldAt Fence.wide (n0 - 1) Try.prog l (encCh g o n x) W fun e W' =>
      (e = .returned (.bool true) ∧ J (pre ++ [x]) W' ∧ KpC bs bn W W') ∨ (e = .returned (.bool false) ∧ Jx (pre ++ [x]) W'))
    (W : World) (hbs : Blk W bs 22 #[.slice (some ⟨g, o, none⟩) n c]) (hbn : Blk W bn 3 #[.int .i64 64]) (h0 : J [] W) (hJd : ∀ pre W q, J pre W → J pre (W.drewN q)) :
    CallsIn Fence.wide n0 Try.prog 51 #[.func (.yield l) #[] #[], .pointer (some ⟨bs, 0, none⟩), .pointer (some ⟨bn, 0, none⟩)] W fun e W' => (∃ v, e = .returned v) ∧
      ((∃ xs, xs = firstIx (nch n) (nch n) ∧ J xs W') ∨ (∃ pre, (∃ k, k ≤ nch n ∧ pre = firstIx (nch n) k) ∧ Jx pre W')) := by
  refine callsIn_of_wp Try.func51 rfl trivial ?_ rfl
  simp only [Try.ntmps51, List.size_toArray, List.length_cons, List.length_nil, Nat.reduceAdd, Nat.reduceSub, Array.replicate_succ, Array.replicate_zero, List.push_toArray, List.append_toArray, List.nil_append, List.cons_append]
  gi_wp2
  gi_loopw [4, 5] (fun i _ wr => ∃ k : Nat, k ≤ nch n ∧ i = .int .i64 ((64 * k : Nat) : Int) ∧ J (firstIx (nch n) k) wr ∧ Blk wr bs 22 #[.slice (some ⟨g, o, none⟩) n c] ∧ Blk wr bn 3 #[.int .i64 64])
    (fun i _ _ => 64 * nch n - (intOf i).toNat)
  case atStart => exact ⟨0, Nat.zero_le _, rfl, h0, hbs, hbn⟩
  case round =>
    obtain ⟨k, hk, rfl, hJs, hb1, hb2⟩ := hrel
    have c1 : wr.cell? ⟨bs, 0, none⟩ = some (.slice (some ⟨g, o, none⟩) n c) := hb1.cell 0
    have c2 : wr.cell? ⟨bn, 0, none⟩ = some (.int .i64 64) := hb2.cell 0
    have Hb1 := hide hb1
    have Hb2 := hide hb2
    clear hb1 hb2
    by_cases hlt : 64 * k < n
    · have hkm : k < nch n := by unfold nch; omega
      obtain ⟨i, hi⟩ : ∃ i : Nat, 64 * k = i := ⟨_, rfl⟩
      rw [hi] at hlt ⊢
      have Hi := hide hi
      clear hi
      gi_wp2
      refine wpIn_wide.2 ?_
      go_quiet (fail)
      have hmin : (if ((n - i : Nat) : Int) < 64 then ((n - i : Nat) : Int) else 64) = ((min 64 (n - i) : Nat) : Int) := by split <;> omega
      simp only [hmin]
      clear hmin
      obtain ⟨e, he⟩ : ∃ e, min 64 (n - i) = e := ⟨_, rfl⟩
      have hen : encCh g o n ⟨k, hkm⟩ = #[.slice (some ⟨g, o + i, none⟩) e e] := by
        unfold encCh
        simp only [Hi.out, he]
      obtain ⟨fn, tmps, assign, body, hy, hR⟩ := hY (firstIx (nch n) k) ⟨k, hkm⟩ (wr.drewN nq) (hJd _ _ nq hJs) (by rw [firstIx_len k hk]; exact hkm)
      rw [hen] at hy
      have hie : i + e ≤ n := by omega
      have he1 : 1 ≤ e := by omega
      have hee : e ≤ 64 := by omega
      rw [he]
      have HR := hide hR
      clear hR he hen hY
      gi_wp2
      refine HR.out.mono ?_
      rintro e' W3 (⟨rfl, hJ3, hk3⟩ | ⟨rfl, hJx3⟩)
      · have b1 : Blk W3 bs 22 #[.slice (some ⟨g, o, none⟩) n c] := hk3.1.trans (Hb1.out.drewN nq)
        have b2 : Blk W3 bn 3 #[.int .i64 64] := hk3.2.trans (Hb2.out.drewN nq)
        have d2 : W3.cell? ⟨bn, 0, none⟩ = some (.int .i64 64) := b2.cell 0
        have B1 := hide b1
        have B2 := hide b2
        clear b1 b2 c1 c2
        gi_wp2
        have hi2 : ((i : Int) + 64) = ((64 * (k + 1) : Nat) : Int) := by have := Hi.out; omega
        have hi3 : nch n ≥ k + 1 ∧ i = 64 * k := ⟨hkm, Hi.out.symm⟩
        go_roundw
        case rel => exact ⟨k + 1, hkm, by rw [hi2], by rw [firstIx_succ hkm]; exact hJ3, B1.out, B2.out⟩
        case measure => rw [hi2]; simp only [intOf]; omega
      · gi_wp2
        refine bodyPost_ret (results_none rfl _ _ _) rfl ?_
        exact ⟨⟨_, rfl⟩, .inr ⟨_, ⟨k + 1, hkm, (firstIx_succ hkm).symm⟩, hJx3⟩⟩
    · have hkm : k = nch n := by unfold nch at hk ⊢; omega
      have hJ2 : J (firstIx (nch n) (nch n)) wr := by
        have e : firstIx (nch n) k = firstIx (nch n) (nch n) := congrArg (firstIx (nch n)) hkm
        rw [← e]; exact hJs
      obtain ⟨i, hi⟩ : ∃ i : Nat, 64 * k = i := ⟨_, rfl⟩
      rw [hi] at hlt ⊢
      clear hi
      gi_wp2
      go_end0
      exact ⟨⟨_, rfl⟩, .inl ⟨_, rfl, hJ2⟩⟩

/-- THE ITERATOR's CONTRACT: 64 bytes at a time. -/
theorem chunk_stops (n0 : Nat) (hn0 : 1 ≤ n0) (bs bn g o n c : Nat) (hn : n ≤ 10000000) (hnc : n ≤ c) (w : World) (hlt1 : bs < w.heap.size) (hlt2 : bn < w.heap.size) (hbs : Blk w bs 22 #[.slice (some ⟨g, o, none⟩) n c]) (hbn : Blk w bn 3 #[.int .i64 64]) :
    SeqStopsK Fence.wide n0 Try.prog 51 #[.pointer (some ⟨bs, 0, none⟩), .pointer (some ⟨bn, 0, none⟩)] (encCh g o n) (KpC bs bn) (fun xs => xs = firstIx (nch n) (nch n)) (fun pre => ∃ k, k ≤ nch n ∧ pre = firstIx (nch n) k) (nch n) w := by
  intro l J Jx W hW hJ hJx hY h0
  refine chunk1_in n0 hn0 l bs bn g o n c hn hnc J Jx hY W (hbs.below hW hlt1) (hbn.below hW hlt2) h0 ?_
  intro pre W1 q h
  exact hJ pre W1 _ none h ⟨rfl, rfl, rfl, Nat.le_refl _, fun _ _ _ => rfl⟩ (fun r hr => by cases hr)
end Go.Proofs.Ytbcpplndmndkiaa
