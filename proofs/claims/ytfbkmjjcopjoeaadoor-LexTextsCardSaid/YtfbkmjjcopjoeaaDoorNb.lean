/- Package lex: classes of bytes: what a call of one tells. -/
import Derived.Test.YtfbkmjjcopjoeaaDoorShelf
import Derived.Test.YtfbkmjjcopjoeaaDoorOwnV
import Derived.Test.YtfbkmjjcopjoeaaDoorMa
import Derived.Lib.IndexAny
namespace Go.Proofs.YtfbkmjjcopjoeaaDoor
open Go.RowKit

/-- A class of bytes: in every world that keeps w0's blocks its call tells p. -/
structure ClsK (B : Nat) (w0 : World) (k : Nat) (caps : Array Value) (p : UInt8 → Bool) : Prop where
  ent : ∀ (args : Array Value) (w : World), (callFunc k args).run Tryd.prog w = .ok (.enter k args) w
  call : ∀ w, Fr (fun k => k < B) w0 w → ∀ c : UInt8, Calls Tryd.prog k (#[.int .u8 (c.toNat : Int)] ++ caps) w fun e w' => e = .returned (.bool (p c)) ∧ w = w'
def Cls (B : Nat) (w0 : World) (f : Value) (p : UInt8 → Bool) : Prop := ∃ k caps, f = .func (.func k) #[] caps ∧ ClsK B w0 k caps p
theorem Cls.later {B : Nat} {w0 w1 : World} {f : Value} {p : UInt8 → Bool} (h : Cls B w0 f p) (hb : Fr (fun k => k < B) w0 w1) : Cls B w1 f p := by
  obtain ⟨k, caps, rfl, h1, h2⟩ := h
  exact ⟨k, caps, rfl, h1, fun w hw c => h2 w (hb.trans' hw (fun _ _ h => h)) c⟩
theorem Cls.below {B : Nat} {w0 w1 : World} {f : Value} {p : UInt8 → Bool} (h : Cls B w0 f p) (hb : Below w0.heap.size w0 w1) : Cls B w1 f p := h.later (Fr.of_below hb)
theorem Cls.ext {B : Nat} {w0 : World} {f : Value} {p q : UInt8 → Bool} (h : Cls B w0 f p) (hq : ∀ c, p c = q c) : Cls B w0 f q := by rwa [← funext hq]
theorem hmfunc (fn : Fn) (first cap : Array Value) (w : World) : (Instr.makeFunc fn first cap).run Tryd.prog w = .ok (.func fn first cap) w := rfl

/-! ### between -/
set_option maxHeartbeats 1000000 in
theorem between1_any (a b c : UInt8) (g h : Nat) (w : World) (B1 : Blk w g 5 #[.int .u8 (a.toNat : Int)]) (B2 : Blk w h 5 #[.int .u8 (b.toNat : Int)]) :
    Calls Tryd.prog 32 #[.int .u8 (c.toNat : Int), .pointer (some ⟨g, 0, none⟩), .pointer (some ⟨h, 0, none⟩)] w fun e w' => e = .returned (.bool (decide (a ≤ c) && decide (c ≤ b))) ∧ w = w' := by
  have b1 := B1.cell 0
  have b2 := B2.cell 0
  have h1 : decide (a ≤ c) = decide (a.toNat ≤ c.toNat) := decide_eq_decide.2 UInt8.le_iff_toNat_le
  have h2 : decide (c ≤ b) = decide (c.toNat ≤ b.toNat) := decide_eq_decide.2 UInt8.le_iff_toNat_le
  rw [h1, h2]
  clear h1 h2
  cases hx : decide (a.toNat ≤ c.toNat) <;> cases hy : decide (c.toNat ≤ b.toNat)
  all_goals
    go_enter Tryd.func32, Tryd.ntmps32
    go_wp2
    go_ret
    first | exact ⟨rfl, rfl⟩ | (refine ⟨?_, rfl⟩; simp [hx, hy])
set_option maxHeartbeats 1000000 in
theorem between_any (a b : Nat) (A B : UInt8) (hA : A.toNat = a) (hB : B.toNat = b) (B0 : Nat) (w : World) (h0 : B0 ≤ w.heap.size) : Calls Tryd.prog 19 #[.int .u8 (a : Int), .int .u8 (b : Int)] w fun e w' => ∃ f, e = .returned f ∧ Cls B0 w' f (fun c => decide (A ≤ c) && decide (c ≤ B)) ∧ Below w.heap.size w w' := by
  have hmf := hmfunc
  subst hA hB
  go_enter Tryd.func19, Tryd.ntmps19
  go_wp2
  go_ret
  refine ⟨_, rfl, ?_, ((Below.refl _ _).alloc (Nat.le_refl _) _).alloc (by simp) _⟩
  obtain ⟨w1, hw1⟩ : ∃ w1, (w.alloc (.cells #[.int .u8 (A.toNat : Int)] 5)).alloc (.cells #[.int .u8 (B.toNat : Int)] 5) = w1 := ⟨_, rfl⟩
  have B1 : Blk w1 w.heap.size 5 #[.int .u8 (A.toNat : Int)] := by rw [← hw1]; exact (Blk.new w 5 #[.int .u8 (A.toNat : Int)]).alloc _
  have B2 : Blk w1 (w.heap.size + 1) 5 #[.int .u8 (B.toNat : Int)] := by
    rw [← hw1]
    have h := Blk.new (w.alloc (.cells #[.int .u8 (A.toNat : Int)] 5)) 5 #[.int .u8 (B.toNat : Int)]
    rw [World.size_alloc] at h
    exact h
  rw [hw1]
  refine ⟨32, _, rfl, (fun args w => by kernel_rfl), fun w2 hw2 c => ?_⟩
  exact between1_any A B c _ _ w2 (B1.fr hw2 (by omega)) (B2.fr hw2 (by omega))

/-! ### among -/
theorem index_any (s : List UInt8) (c : UInt8) (w : World) : Calls Tryd.prog 34 #[.string ⟨s.toArray⟩, .int .u8 (c.toNat : Int)] w fun e w' => e = .returned (.int .i64 (Lib.indexByte s c)) ∧ w = w' := by
  refine (Tryd.strings_IndexByte ⟨s.toArray⟩ (c.toNat : Int) w).mono ?_
  rintro e w' ⟨rfl, rfl⟩
  refine ⟨?_, rfl⟩
  congr 4
  simp
theorem index_mem (s : List UInt8) (c : UInt8) : decide ((0 : Int) ≤ Lib.indexByte s c) = s.contains c := by
  rw [Lib.contains_iff_indexByte]
set_option maxHeartbeats 1000000 in
theorem among1_any (s : List UInt8) (c : UInt8) (g : Nat) (w : World) (B1 : Blk w g 9 #[.string ⟨s.toArray⟩]) :
    Calls Tryd.prog 33 #[.int .u8 (c.toNat : Int), .pointer (some ⟨g, 0, none⟩)] w fun e w' => e = .returned (.bool (s.contains c)) ∧ w = w' := by
  have b1 := B1.cell 0
  have H := hide (index_any s c w)
  rw [← index_mem]
  obtain ⟨n, hn⟩ : ∃ n, Lib.indexByte s c = n := ⟨_, rfl⟩
  rw [hn] at H ⊢
  clear hn
  go_enter Tryd.func33, Tryd.ntmps33
  go_wp2_with (go_at_call 34; refine H.out.mono ?_; rintro e w' ⟨rfl, rfl⟩)
  go_ret
  exact ⟨rfl, rfl⟩
set_option maxHeartbeats 1000000 in
theorem among_any (s : List UInt8) (B0 : Nat) (w : World) (h0 : B0 ≤ w.heap.size) : Calls Tryd.prog 20 #[.string ⟨s.toArray⟩] w fun e w' => ∃ f, e = .returned f ∧ Cls B0 w' f (fun c => s.contains c) ∧ Below w.heap.size w w' := by
  have hmf := hmfunc
  go_enter Tryd.func20, Tryd.ntmps20
  go_wp2
  go_ret
  refine ⟨_, rfl, ?_, (Below.refl _ _).alloc (Nat.le_refl _) _⟩
  have B1 := Blk.new w 9 #[.string ⟨s.toArray⟩]
  refine ⟨33, _, rfl, (fun args w => by kernel_rfl), fun w2 hw2 c => ?_⟩
  exact among1_any s c _ w2 (B1.fr hw2 (by omega))

/-! ### not -/
set_option maxHeartbeats 1000000 in
theorem not1_any (B0 : Nat) (w : World) (g : Nat) (f : Value) (p : UInt8 → Bool) (c : UInt8) (hb : Blk w g 42 #[f]) (h : Cls B0 w f p) :
    Calls Tryd.prog 35 #[.int .u8 (c.toNat : Int), .pointer (some ⟨g, 0, none⟩)] w fun e w' => e = .returned (.bool (!(p c))) ∧ w = w' := by
  obtain ⟨k, caps, rfl, hent, hcall⟩ := h
  have b0 := hb.cell 0
  have H := hide (hcall w (Fr.refl _ _) c)
  clear hcall
  go_enter Tryd.func35, Tryd.ntmps35
  go_wp2_with (refine H.out.mono ?_; rintro e w' ⟨rfl, rfl⟩)
  go_ret
  exact ⟨rfl, rfl⟩
set_option maxHeartbeats 1000000 in
theorem not_any (B0 : Nat) (w : World) (f : Value) (p : UInt8 → Bool) (h : Cls B0 w f p) (h0 : B0 ≤ w.heap.size) : Calls Tryd.prog 21 #[f] w fun e w' => ∃ g, e = .returned g ∧ Cls B0 w' g (fun c => !(p c)) ∧ Below w.heap.size w w' := by
  have hmf := hmfunc
  have H := hide h
  obtain ⟨k, caps, rfl, hent, hcall⟩ := h
  clear hcall
  go_enter Tryd.func21, Tryd.ntmps21
  go_wp2
  go_ret
  refine ⟨_, rfl, ?_, (Below.refl _ _).alloc (Nat.le_refl _) _⟩
  have B1 := Blk.new w 42 #[.func (.func k) #[] caps]
  have hb1 : Below w.heap.size w (w.alloc (.cells #[.func (.func k) #[] caps] 42)) := (Below.refl _ _).alloc (Nat.le_refl _) _
  have H2 := H.out.below hb1
  refine ⟨35, _, rfl, (fun args w => by kernel_rfl), fun w2 hw2 c => ?_⟩
  exact not1_any B0 w2 _ _ p c (B1.fr hw2 (by omega)) (H2.later hw2)
end Go.Proofs.YtfbkmjjcopjoeaaDoor
