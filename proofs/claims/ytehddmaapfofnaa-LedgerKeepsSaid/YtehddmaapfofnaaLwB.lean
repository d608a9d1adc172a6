/- The laws of layer 2: bytes of the law's own beside the ledger; what was opened, as texts. -/
import Derived.Test.YtehddmaapfofnaaLedO
namespace Go.Proofs.Ytehddmaapfofnaa
open Go.RowKit

section
variable {w0 w w' : World} {lb b : Nat} {F : Nat → Prop} {L : Lg} {D : Dk}
theorem LOn.own_ne (h : LOn w0 w lb b F L D) {A : Option Addr} {n c : Nat} {l : List UInt8} (ho : OwnB w A n c l) : ∀ k, At A k → ¬ (F k ∨ k = lb) := fun k hk => by
  rcases ho.form with ⟨rfl, _⟩ | ⟨g, cur, rfl, hb, _⟩
  · exact absurd hk At.none_not
  · rw [At.some_iff] at hk
    simp only at hk
    subst hk
    exact h.feet_ne hb (by decide) (by decide) (by decide) (by decide)
/-- What a ledger's call leaves of bytes of one's own. -/
theorem LOn.ownb (h : LOn w0 w lb b F L D) (hf : Fr (fun k => F k ∨ k = lb) w w') {A : Option Addr} {n c : Nat} {l : List UInt8} (ho : OwnB w A n c l) : OwnB w' A n c l := ho.fr hf (fun k hk => h.own_ne ho k hk)
/-- A byte of one's own is written. -/
theorem LOn.setCell (h : LOn w0 w lb b F L D) {g n c : Nat} {l : List UInt8} (ho : OwnB w (some ⟨g, 0, none⟩) n c l) (hg : w0.heap.size ≤ g) (i : Nat) (u : Value) : LOn w0 (w.setCell ⟨g, i, none⟩ u) lb b F L D :=
  h.fr (G := fun k => k = g) ((Fr.refl _ _).put1 i u) (fun k _ hk => by
    subst hk
    exact ⟨hg, h.own_ne ho k (At.some_iff.2 rfl)⟩)
end
theorem own_cons {w : World} {g n c : Nat} {x : UInt8} {r : List UInt8} (h : OwnB w (some ⟨g, 0, none⟩) n c (x :: r)) : w.cell? ⟨g, 0, none⟩ = some (.int .u8 (x.toNat : Int)) := by
  rcases h.bytes with h0 | ⟨g', o', he, hr⟩
  · cases h0
  · cases he
    exact hr 0 (B8 x) rfl
theorem xor_u8 (x : UInt8) (m : Nat) (hm : m < 256) : (Value.int .u8 (bits .xor .u8 (x.toNat : Int) (m : Int))) = B8 (x ^^^ UInt8.ofNat m) := by
  have h1 : (UInt8.ofNat m).toNat = m := by simp; omega
  have h2 := x.toNat_lt
  rw [B8, u8_xor _ _ (by omega) (by omega) (by omega) (by omega), UInt8.toNat_xor, h1]
  rfl
/-- string(p) is the bytes' own. -/
theorem str_run {w : World} {A : Option Addr} {n c : Nat} {l : List UInt8} (hn : l.length = n) (h : Bytes w A l) : (convert 22 9 (.slice A n c)).run Try.prog w = .ok (.string ⟨l.toArray⟩) w :=
  run_str_bytes (P := Try.prog) _ 22 9 5 Try.underlying22 Try.underlying5 Try.underlying9 A n c l hn h
/-- One record that was told. -/
theorem recs_one {w : World} {B : Nat} {R : Option Addr} {n d : Nat} {l : List UInt8} (h : RecsAt w B R n d [l]) : ∃ gR P pc, R = some ⟨gR, 0, none⟩ ∧ n = 1 ∧ w.cell? ⟨gR, 0, none⟩ = some (.slice P l.length pc) ∧ OwnB w P l.length pc l := by
  obtain ⟨ps, h1, h2, h3, h4, _⟩ := h
  obtain ⟨p, rfl⟩ : ∃ p, ps = [p] := by
    match ps, h1 with
    | [p], _ => exact ⟨p, rfl⟩
  have hn : n = 1 := h2.symm
  subst hn
  rcases h3.2 with ⟨_, h0⟩ | ⟨g, cap, cur, he, _, hg, _⟩
  · omega
  · injection he with e1 _ _
    subst e1
    have hc := h3.cells (g := g) rfl 0 (.slice p.1 l.length p.2) rfl
    rw [Addr.add_mid] at hc
    exact ⟨g, p.1, p.2, rfl, rfl, hc, (h4 0 p l rfl rfl).1⟩
end Go.Proofs.Ytehddmaapfofnaa
