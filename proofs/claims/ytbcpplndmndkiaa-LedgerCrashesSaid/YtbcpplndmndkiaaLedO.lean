/- Package ledger: nil receivers; Open, at what it refuses. -/
import Derived.Test.YtbcpplndmndkiaaLwA
namespace Go.Proofs.Ytbcpplndmndkiaa
open Go.RowKit

/-- What Open takes. -/
def okArgs (n : Nat) (at_ c : Int) : Prop := 0 ≤ at_ ∧ 4 ≤ c ∧ c % 2 = 0 ∧ at_ + c ≤ n

set_option maxHeartbeats 4000000 in
theorem open_arg (b : Nat) (F : Nat → Prop) (D : Dk) (at_ c : Int) (w : World) (hd : DiskAt w b F D) (ha : at_ < 9223372036854775808) (ha' : -9223372036854775808 ≤ at_) (hc : c < 9223372036854775808) (hc' : -9223372036854775808 ≤ c) (h : ¬ okArgs D.n at_ c) :
    Calls Try.prog 21 #[.pointer (some ⟨b, 0, none⟩), .int .i64 at_, .int .i64 c] w fun e w' => e = .returned (.tuple #[.pointer none, .slice none 0 0, .slice none 0 0, .int .i64 1]) ∧ ∃ n, w' = w.drewN n := by
  have hl := hide (len_at b F D w hd)
  have hn4 := hd.wf.hi
  clear hd
  unfold okArgs at h
  have key : ∀ W : World, (∃ n, W = w.drewN n) → _ := fun W hW => hW
  by_cases h1 : at_ < 0
  · go_enter Try.func21, Try.ntmps21
    go_wp2
    exact bodyPost_ret (v := .tuple #[.pointer none, .slice none 0 0, .slice none 0 0, .int .i64 1]) (by simp [results, Try.results21, go_sem]) rfl ⟨rfl, 0, rfl⟩
  by_cases h2 : c < 4
  · go_enter Try.func21, Try.ntmps21
    go_wp2
    exact bodyPost_ret (v := .tuple #[.pointer none, .slice none 0 0, .slice none 0 0, .int .i64 1]) (by simp [results, Try.results21, go_sem]) rfl ⟨rfl, 0, rfl⟩
  obtain ⟨m, rfl⟩ : ∃ m : Nat, c = m := ⟨c.toNat, by omega⟩
  by_cases h3 : (m : Int) % 2 = 0
  case neg =>
    have hm : ((m : Int) % 2 != 0) = true := by rw [bne_iff_ne]; exact h3
    go_enter Try.func21, Try.ntmps21
    go_wp2
    exact bodyPost_ret (v := .tuple #[.pointer none, .slice none 0 0, .slice none 0 0, .int .i64 1]) (by simp [results, Try.results21, go_sem]) rfl ⟨rfl, 0, rfl⟩
  have hm : ((m : Int) % 2 != 0) = false := by rw [bne_eq_false_iff_eq]; exact h3
  have h4 : (D.n : Int) - m < at_ := by omega
  go_enter Try.func21, Try.ntmps21
  go_wp2_with (go_at_call 37; refine hl.out.mono ?_; rintro e w' ⟨rfl, rfl⟩)
  exact bodyPost_ret (v := .tuple #[.pointer none, .slice none 0 0, .slice none 0 0, .int .i64 1]) (by simp [results, Try.results21, go_sem]) rfl ⟨rfl, 0, rfl⟩
end Go.Proofs.Ytbcpplndmndkiaa
