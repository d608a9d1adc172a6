/- Package wire: Form, of any value: true just of what has Form. -/
import Derived.Test.YtdkmccilnmdhmaaVvA
namespace Go.Proofs.Ytdkmccilnmdhmaa
open Go.RowKit

set_option maxRecDepth 100000 in
set_option maxHeartbeats 4000000 in
theorem formw_deep (v : V) (cs : List Value) (w : World) (hv : VC w (Old w) v cs) :
    Calls Try.prog 26 #[.agg cs.toArray, .int .i64 24] w (FPostI 0 v w) := by
  have hcs : ∃ x0 x1 x2 x3 x4, cs = [x0, x1, x2, x3, x4] := by cases hv; exact ⟨_, _, _, _, _, rfl⟩
  obtain ⟨x0, x1, x2, x3, x4, rfl⟩ := hcs
  clear hv
  have hb := hide ((Below.refl w.heap.size w).alloc (Nat.le_refl _) (.cells #[x0, x1, x2, x3, x4] 25))
  go_enter Try.func26, Try.ntmps26
  go_wp2
  go_ret
  exact ⟨false, rfl, ⟨fun h => by simp at h, fun h => h.elim⟩, hb.out⟩
set_option maxRecDepth 100000 in
set_option maxHeartbeats 4000000 in
theorem formw_big (d op : Nat) (v : V) (cs : List Value) (w : World) (hd : op < 24) (hv : VC w (Old w) v cs) (hk : 8 < v.kind) :
    Calls Try.prog 26 #[.agg cs.toArray, .int .i64 (op : Int)] w (FPostI d v w) := by
  have hpv := hv.boxed
  obtain ⟨KA, LA, kc, lc, rfl⟩ := hv.cells
  have hb0 := (Below.refl w.heap.size w).alloc (Nat.le_refl _) (.cells #[.int .u8 (v.kind : Int), .int .i64 v.n, sv v.s, .slice KA v.ks.length kc, .slice LA v.ls.length lc] 25)
  have hblk := Blk.new w 25 #[.int .u8 (v.kind : Int), .int .i64 v.n, sv v.s, .slice KA v.ks.length kc, .slice LA v.ls.length lc]
  obtain ⟨w0, hw0⟩ : ∃ w0, w.alloc (.cells #[.int .u8 (v.kind : Int), .int .i64 v.n, sv v.s, .slice KA v.ks.length kc, .slice LA v.ls.length lc] 25) = w0 := ⟨_, rfl⟩
  rw [hw0] at hb0 hblk
  have Hb0 := hide hb0
  have c0 := hblk.cell 0
  obtain ⟨kn, hkn⟩ : ∃ kn, v.kind = kn := ⟨_, rfl⟩
  rw [hkn] at c0 hk hw0
  have Hkn := hide hkn
  rw [hkn]
  have c0 : w0.cell? ⟨w.heap.size, 0, none⟩ = some (.int .u8 (kn : Int)) := c0
  clear hv hpv hb0 hblk hkn
  go_enter Try.func26, Try.ntmps26
  go_wp2
  go_ret
  exact ⟨false, rfl, ⟨fun h => by simp at h, fun hf => by
    cases d with
    | zero => exact hf.elim
    | succ d => have := hf.1.k; have := Hkn.out; omega⟩, Hb0.out⟩
theorem formw_iff : ∀ (d op : Nat) (v : V) (cs : List Value) (w : World), op + d = 24 → VC w (Old w) v cs →
    Calls Try.prog 26 #[.agg cs.toArray, .int .i64 (op : Int)] w (FPostI d v w) := by
  intro d
  induction d with
  | zero =>
    intro op v cs w hd hv
    obtain rfl : op = 24 := by omega
    exact formw_deep v cs w hv
  | succ d ih =>
    intro op v cs w hd hv
    have hih := fun (x : V) (cs' : List Value) (w' : World) (hx : VC w' (Old w') x cs') => ih (op + 1) x cs' w' (by omega) hx
    by_cases h8 : 8 < v.kind
    · exact formw_big (d + 1) op v cs w (by omega) hv h8
    · have hc : v.kind = 0 ∨ v.kind = 1 ∨ v.kind = 2 ∨ v.kind = 3 ∨ v.kind = 4 ∨ v.kind = 5 ∨ v.kind = 6 ∨ v.kind = 7 ∨ v.kind = 8 := by omega
      rcases hc with h | h | h | h | h | h | h | h | h
      · exact formw_k0 d op v cs w hd hv h hih
      · exact formw_k1 d op v cs w hd hv h hih
      · exact formw_k2 d op v cs w hd hv h hih
      · exact formw_k3 d op v cs w hd hv h hih
      · exact formw_k4 d op v cs w hd hv h hih
      · exact formw_k5 d op v cs w hd hv h hih
      · exact formw_k6 d op v cs w hd hv h hih
      · exact formw_k7 d op v cs w hd hv h hih
      · exact formw_k8 d op v cs w hd hv h hih
set_option maxHeartbeats 1000000 in
theorem wForm_any (v : V) (cs : List Value) (w : World) (hv : VC w (Old w) v cs) : Calls Try.prog 9 #[.agg cs.toArray] w (FPostI 24 v w) := by
  have hcs : ∃ x0 x1 x2 x3 x4, cs = [x0, x1, x2, x3, x4] := by cases hv; exact ⟨_, _, _, _, _, rfl⟩
  obtain ⟨x0, x1, x2, x3, x4, rfl⟩ := hcs
  have hb := (Below.refl w.heap.size w).alloc (Nat.le_refl _) (.cells #[x0, x1, x2, x3, x4] 25)
  have hv' := hv.later hb
  have hbx := Blk.new w 25 #[x0, x1, x2, x3, x4]
  obtain ⟨w0, hw0⟩ : ∃ w0, w.alloc (.cells #[x0, x1, x2, x3, x4] 25) = w0 := ⟨_, rfl⟩
  rw [hw0] at hb hv' hbx
  have b0 := hbx.cell 0
  have b1 := hbx.cell 1
  have b2 := hbx.cell 2
  have b3 := hbx.cell 3
  have b4 := hbx.cell 4
  have Hb := hide hb
  have H := hide (show Calls Try.prog 26 #[.agg [x0, x1, x2, x3, x4].toArray, .int .i64 0] w0 (FPostI 24 v w0) from formw_iff 24 0 v _ w0 (by omega) hv')
  clear hv hv' hbx hb
  go_enter Try.func9, Try.ntmps9
  go_wp2_with fail
  refine H.out.mono ?_
  rintro e w2 ⟨b, rfl, h1, h2⟩
  have Hx := hide (show _ ∧ _ from ⟨h1, Hb.out.trans (h2.mono Hb.out.size)⟩)
  clear h1 h2
  go_wp2
  go_ret
  exact ⟨b, rfl, Hx.out⟩
end Go.Proofs.Ytdkmccilnmdhmaa
