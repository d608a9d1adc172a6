/- The laws of layer 2: bytes of the law's own beside the ledger; what was opened, as texts. -/
import Derived.Test.YtbcpplndmndkiaaLedO
namespace Go.Proofs.Ytbcpplndmndkiaa
open Go.RowKit

section
variable {P : Program} {ops : Array Oper} {Q : Exit → Act → World → Prop} {S : World → Prop}
theorem wpPlan_doesG {K : Act → World → Prop} {o : Oper} {r : List (Bool × Oper)} {a : Act} {w : World} (hw : Region.wanted o (yielded ops a.tmps) = true)
    (h : ∀ K' : Act → World → Prop, (∀ a w, S w → wpPlan P ops Q S K r a w → K' a w) → o.wp P a w K' Q) : wpPlan P ops Q S K ((true, o) :: r) a w := by
  unfold wpPlan
  rw [if_pos hw]
  exact h _ (fun _ _ h1 h2 => ⟨h1, h2⟩)
theorem wpPlan_skipG {K : Act → World → Prop} {o : Oper} {r : List (Bool × Oper)} {a : Act} {w : World} (hw : Region.wanted o (yielded ops a.tmps) = false) (hS : S w) (h : wpPlan P ops Q S K r (a.put o.dst undef) w) : wpPlan P ops Q S K ((true, o) :: r) a w := by
  unfold wpPlan
  rw [if_neg (by rw [hw]; simp)]
  exact ⟨hS, h⟩
theorem wpPlan_skip {K : Act → World → Prop} {o : Oper} {r : List (Bool × Oper)} {a : Act} {w : World} (hw : Region.wanted o (yielded ops a.tmps) = false) (h : wpPlan P ops Q S K r (a.put o.dst undef) w) : wpPlan P ops Q S K ((false, o) :: r) a w :=
  ⟨_, .inr ⟨hw, rfl⟩, h⟩
end

section
variable {w0 w w' : World} {lb b : Nat} {F : Nat → Prop} {L : Lg} {D : Dk}
theorem LOn.own_ne (h : LOn w0 w lb b F L D) {A : Option Addr} {n c : Nat} {l : List UInt8} (ho : OwnB w A n c l) : ∀ k, At A k → ¬ (F k ∨ k = lb) := fun k hk => by
  rcases ho.form with ⟨rfl, _⟩ | ⟨g, cur, rfl, hb, _⟩
  · exact absurd hk At.none_not
  · rw [At.some_iff] at hk
    simp only at hk
    subst hk
    exact h.feet_ne hb (by decide) (by decide) (by decide) (by decide)
/-- What a ledger's call leaves of bytes of one's own. -/
theorem LOn.ownb (h : LOn w0 w lb b F L D) (hf : Fr (fun k => F k ∨ k = lb) w w') {A : Option Addr} {n c : Nat} {l : List UInt8} (ho : OwnB w A n c l) : OwnB w' A n c l := ho.fr hf (fun k hk => h.own_ne ho k hk)
/-- A byte of one's own is written. -/
theorem LOn.setCell (h : LOn w0 w lb b F L D) {g n c : Nat} {l : List UInt8} (ho : OwnB w (some ⟨g, 0, none⟩) n c l) (hg : w0.heap.size ≤ g) (i : Nat) (u : Value) : LOn w0 (w.setCell ⟨g, i, none⟩ u) lb b F L D :=
  h.fr (G := fun k => k = g) ((Fr.refl _ _).put1 i u) (fun k _ hk => by
    subst hk
    exact ⟨hg, h.own_ne ho k (At.some_iff.2 rfl)⟩)
end
theorem LOn.arm {w0 w : World} {lb b : Nat} {F : Nat → Prop} {L : Lg} {D : Dk} (h : LOn w0 w lb b F L D) (m : Int) :
    Calls Try.prog 26 #[.pointer (some ⟨b, 0, none⟩), .int .i64 m] w (Aft w0 (Dk.armE m) lb b F L (D.armD m) w) :=
  (arm_all b F D m w h.disk).mono fun _ _ hl => h.leaves hl
theorem LOn.restart {w0 w : World} {lb b : Nat} {F : Nat → Prop} {L : Lg} {D : Dk} (h : LOn w0 w lb b F L D) (hp : D.pend.length ≤ 900000) (keep torn : Int) :
    Calls Try.prog 20 #[.pointer (some ⟨b, 0, none⟩), .int .i64 keep, .int .i64 torn] w (Aft w0 0 lb b F L (D.restarted keep torn) w) :=
  (restart_any b F D keep torn w h.disk (by omega)).mono fun _ _ hl => h.leaves hl
theorem armed_fuse (D : Dk) (m : Int) (hm : m ≤ 9223372036854775807) (hf : D.fuse ≤ 9223372036854775807) : (D.armD m).fuse ≤ 9223372036854775807 := by
  unfold Dk.armD
  split
  · exact hf
  · show m.toNat ≤ _; omega
theorem armed_ops (D : Dk) (m : Int) : (D.armD m).ops = D.ops := by
  unfold Dk.armD
  split <;> rfl
/-- Behind a call of Append, and the power off and on, nothing else between: what lies there. -/
theorem St.appended {D : Dk} {L : Lg} {k : Kp} (h : St D L k) (p : List UInt8) (hp : p.length ≤ 4000) (hfit : (k.with_ p).need ≤ L.room) :
    (L.appD D p).pend.length ≤ 5000 ∧ ((L.appE D p = 0 ∧ ∀ keep torn, ∃ half, Lies ((L.appD D p).restarted keep torn) L.at_ L.bl half (k.with_ p)) ∨
      (L.appE D p = 12 ∧ ∀ keep torn, (∃ half, Lies ((L.appD D p).restarted keep torn) L.at_ L.bl half k) ∨ (∃ half, Lies ((L.appD D p).restarted keep torn) L.at_ L.bl half (k.with_ p)))) := by
  rcases h.append p with ⟨h1, _⟩ | ⟨_, h1, _⟩ | ⟨_, _, h1, h2⟩ | ⟨_, _, h1, h2, _⟩
  · omega
  · omega
  · refine ⟨by rw [h2.st.pend]; simp, .inl ⟨h1, fun keep torn => ⟨(L.appL D p).half, ?_⟩⟩⟩
    have := h2.st.lies.restarted keep torn
    rwa [h2.at_, h2.bl] at this
  · exact ⟨h2.wait, .inr ⟨h1, fun keep torn => h2.restarted h keep torn⟩⟩
theorem own_cons {w : World} {g n c : Nat} {x : UInt8} {r : List UInt8} (h : OwnB w (some ⟨g, 0, none⟩) n c (x :: r)) : w.cell? ⟨g, 0, none⟩ = some (.int .u8 (x.toNat : Int)) := by
  rcases h.bytes with h0 | ⟨g', o', he, hr⟩
  · cases h0
  · cases he
    exact hr 0 (B8 x) rfl
theorem xor_u8 (x : UInt8) (m : Nat) (hm : m < 256) : (Value.int .u8 (bits .xor .u8 (x.toNat : Int) (m : Int))) = B8 (x ^^^ UInt8.ofNat m) := by
  have h1 : (UInt8.ofNat m).toNat = m := by simp; omega
  have h2 := x.toNat_lt
  rw [B8, u8_xor _ _ (by omega) (by omega) (by omega) (by omega), UInt8.toNat_xor, h1]
  rfl
/-- string(p) is the bytes' own. -/
theorem str_run {w : World} {A : Option Addr} {n c : Nat} {l : List UInt8} (hn : l.length = n) (h : Bytes w A l) : (convert 22 9 (.slice A n c)).run Try.prog w = .ok (.string ⟨l.toArray⟩) w :=
  run_str_bytes (P := Try.prog) _ 22 9 5 Try.underlying22 Try.underlying5 Try.underlying9 A n c l hn h
/-- One record that was told. -/
theorem recs_one {w : World} {B : Nat} {R : Option Addr} {n d : Nat} {l : List UInt8} (h : RecsAt w B R n d [l]) : ∃ gR P pc, R = some ⟨gR, 0, none⟩ ∧ n = 1 ∧ w.cell? ⟨gR, 0, none⟩ = some (.slice P l.length pc) ∧ OwnB w P l.length pc l := by
  obtain ⟨ps, h1, h2, h3, h4, _⟩ := h
  obtain ⟨p, rfl⟩ : ∃ p, ps = [p] := by
    match ps, h1 with
    | [p], _ => exact ⟨p, rfl⟩
  have hn : n = 1 := h2.symm
  subst hn
  rcases h3.2 with ⟨_, h0⟩ | ⟨g, cap, cur, he, _, hg, _⟩
  · omega
  · injection he with e1 _ _
    subst e1
    have hc := h3.cells (g := g) rfl 0 (.slice p.1 l.length p.2) rfl
    rw [Addr.add_mid] at hc
    exact ⟨g, p.1, p.2, rfl, rfl, hc, (h4 0 p l rfl rfl).1⟩
end Go.Proofs.Ytbcpplndmndkiaa
