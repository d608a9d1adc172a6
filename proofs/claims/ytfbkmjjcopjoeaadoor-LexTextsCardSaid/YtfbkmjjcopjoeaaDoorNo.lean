/- The laws of layer 5: same: true of tokens that are the reference's, so many places on. -/
import Derived.Test.YtfbkmjjcopjoeaaDoorNn
import Derived.Deep.QuietTactic
namespace Go.Proofs.YtfbkmjjcopjoeaaDoor
open Go.RowKit

theorem shift_get {us : List Lx.Tok} {i : Nat} {t : Lx.Tok} (by_ : Nat) (h : us[i]? = some t) : (us.map (Lx.shiftT by_))[i]? = some ⟨t.kind, t.text, t.n, t.at_ + by_⟩ := by rw [List.getElem?_map, h]; rfl
set_option maxRecDepth 100000 in
set_option maxHeartbeats 8000000 in
theorem same_any (us : List Lx.Tok) (by_ : Nat) (A B : Option Addr) (n c d : Nat) (w : World) (hn : us.length = n) (hA : RowAt w A (us.map (Lx.shiftT by_))) (hB : RowAt w B us) (hat : ∀ t ∈ us, t.at_ ≤ 4000) (hby : by_ ≤ 4000) (hn2 : n ≤ 100000) :
    Calls Tryd.prog 13 #[.slice A n c, .slice B n d, .int .i64 (by_ : Int)] w fun e w' => e = .returned (.bool true) ∧ ∃ k, w' = w.drewN k := by
  have HA := hide hA
  have HB := hide hB
  have Hn := hide hn
  have Hat := hide hat
  clear hA hB hn hat
  go_enter Tryd.func13, Tryd.ntmps13
  go_wp2_with fail
  go_loopw [7] (fun iv wr => ∃ i : Nat, iv = .int .i64 (i : Int) ∧ i ≤ n ∧ ∃ k, w.drewN k = wr) (fun iv _ => n - (intOf iv).toNat)
  case atStart => exact ⟨0, rfl, Nat.zero_le _, 0, rfl⟩
  case round =>
  obtain ⟨i, rfl, hi, k, rfl⟩ := hrel
  by_cases hin : i < n
  case pos =>
    obtain ⟨t, ht⟩ : ∃ t, us[i]? = some t := ⟨_, List.getElem?_eq_getElem (by rw [Hn.out]; exact hin)⟩
    have hta := Hat.out t (List.mem_of_getElem? ht)
    obtain ⟨g, o, rfl, a0, a1, a2, a3⟩ := HA.out.get (shift_get by_ ht)
    obtain ⟨g', o', rfl, b0, b1, b2, b3⟩ := HB.out.get ht
    obtain ⟨kd, tx, nn, at_⟩ := t
    simp only at a0 a1 a2 a3 b0 b1 b2 b3 hta
    have hwr : IntKind.i64.wrap ((at_ : Int) + (by_ : Int)) = (at_ : Int) + (by_ : Int) := by simp only [IntKind.wrap, IntKind.bits, IntKind.signed]; simp; omega
    have Hin := hide hin
    clear ht
    go_upto_region 6 with fail
    go_quiet (fail)
    clear a0 a1 a2 a3 b0 b1 b2 b3 hwr
    go_wp2_with fail
    refine ⟨⟨i + 1, by go_num, Hin.out, k + nq, rfl⟩, ?_⟩
    have := Hin.out
    simp [intOf]
    omega
  case neg =>
    obtain rfl : i = n := by omega
    go_wp2
    go_ret
    exact ⟨rfl, k, rfl⟩
end Go.Proofs.YtfbkmjjcopjoeaaDoor
