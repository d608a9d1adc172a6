/- Package columbaryref03: Value, of any value that has Form. -/
import Derived.Test.YtdkmccilnmdhmaaVgA
namespace Go.Proofs.Ytdkmccilnmdhmaa
open Go.RowKit

theorem rval_any : ∀ (d : Nat) (v : V) (cs : List Value) (w : World), VC w (Old w) v cs → formP d v → (encV v).length ≤ 1000000000 →
    Calls Try.prog 15 #[.agg cs.toArray] w (ClonePost (encV v) (encV v).length w) := by
  intro d
  induction d with
  | zero => intro v cs w _ hf; exact hf.elim
  | succ d ih =>
    intro v cs w hv hf hb
    have hih : ∀ (x : V) (cs' : List Value) (w' : World), VC w' (Old w') x cs' → formP d x → (encV x).length ≤ 1000000000 → Calls Try.prog 15 #[.agg cs'.toArray] w' (ClonePost (encV x) (encV x).length w') := fun x cs' w' h1 h2 h3 => ih x cs' w' h1 h2 h3
    have h8 := hf.1.k
    have hc : v.kind = 0 ∨ v.kind = 1 ∨ v.kind = 2 ∨ v.kind = 3 ∨ v.kind = 4 ∨ v.kind = 5 ∨ v.kind = 6 ∨ v.kind = 7 ∨ v.kind = 8 := by omega
    rcases hc with h | h | h | h | h | h | h | h | h
    · exact rval_k0 d v cs w hv hf h hb hih
    · exact rval_k1 d v cs w hv hf h hb hih
    · exact rval_k2 d v cs w hv hf h hb hih
    · exact rval_k3 d v cs w hv hf h hb hih
    · exact rval_k4 d v cs w hv hf h hb hih
    · exact rval_k5 d v cs w hv hf h hb hih
    · exact rval_k6 d v cs w hv hf h hb hih
    · exact rval_k7 d v cs w hv hf h hb hih
    · exact rval_k8 d v cs w hv hf h hb hih

/-! ### How long a value's bytes are -/
theorem text_len (s : List UInt8) (h : s.length ≤ 1000) : (textB s).length ≤ 10 + s.length := by
  have := Lib.uvarint_length64 (x := s.length) (by omega)
  rw [textB, List.length_append]; omega
theorem VC.sub {w : World} {G : Nat → Prop} {v : V} {cs : List Value} (h : VC w G v cs) : (-9223372036854775808 ≤ v.n ∧ v.n ≤ 9223372036854775807) ∧ ∀ (j : Nat) (x : V), v.ls[j]? = some x → ∃ cs', VC w G x cs' := by
  cases h with
  | mk hk hn hs hks hkl hll hK hA hL => exact ⟨hn, fun j x hx => ⟨_, hL j x hx⟩⟩
theorem enc_len {w : World} {G : Nat → Prop} : ∀ (d : Nat) (v : V), formP d v → (∃ cs, VC w G v cs) → (encV v).length + 60 ≤ 300 * nodes v := by
  intro d
  induction d with
  | zero => intro v h; exact h.elim
  | succ d ih =>
    intro v hf hV
    obtain ⟨hn, hsub⟩ := hV.choose_spec.sub
    have h8 := hf.1.k
    have hk := Lib.uvarint_length64 (x := v.kind) (by omega)
    rw [nodes_eq]
    by_cases h5 : v.kind = 5 ∨ v.kind = 6
    · have he := hf.1.els h5
      have hl := hf.1.l
      have hu := Lib.uvarint_length64 (x := v.els) (by omega)
      have key : ∀ j, j ≤ v.ls.length → (restB v (v.ls.length - j)).length ≤ 300 * nodesL (v.ls.drop (v.ls.length - j)) := by
        intro j
        induction j with
        | zero => intro _; rw [restB_done v _ (by omega)]; simp
        | succ j ihj =>
          intro hj
          obtain ⟨x, hx⟩ : ∃ x, v.ls[v.ls.length - (j + 1)]? = some x := ⟨_, List.getElem?_eq_getElem (by omega)⟩
          have hfx := hf.2 x (List.mem_of_getElem? hx)
          have h1 := ih x hfx (hsub _ _ hx)
          have h2 := ihj (by omega)
          have e : v.ls.length - (j + 1) + 1 = v.ls.length - j := by omega
          have hd : v.ls.drop (v.ls.length - (j + 1)) = x :: v.ls.drop (v.ls.length - j) := by
            obtain ⟨hj', hx'⟩ := List.getElem?_eq_some_iff.1 hx
            rw [List.drop_eq_getElem_cons hj', hx', e]
          rw [hd, nodesL]
          have h3 : 1 ≤ nodes x := by rw [nodes_eq]; omega
          rcases h5 with h5 | h6
          · rw [restB_step5 v _ x h5 hx, e, ← List.append_assoc, ← encV_eq, List.length_append]
            omega
          · obtain ⟨y, hy⟩ : ∃ y, v.ks[v.ls.length - (j + 1)]? = some y := ⟨_, List.getElem?_eq_getElem (by have := hf.1.o h6; omega)⟩
            have hy32 := hf.1.x y (List.mem_of_getElem? hy)
            have ht := text_len y (by omega)
            rw [restB_step6 v _ x y h6 hx hy, e, List.length_append, ← List.append_assoc, ← encV_eq, List.length_append]
            omega
      have := key v.ls.length (Nat.le_refl _)
      rw [Nat.sub_self, List.drop_zero] at this
      rw [enc_l v h5, List.length_append, List.length_append]
      omega
    · by_cases h1 : v.kind = 1 ∨ v.kind = 3
      · rw [enc_n v h1, List.length_append]
        have : (Lib.uvarint (Lib.zigzag v.n)).length ≤ 10 := Lib.uvarint_length64 (Lib.zigzag_lt hn.1 hn.2)
        omega
      · by_cases h2 : v.kind = 2 ∨ v.kind = 4 ∨ v.kind = 7 ∨ v.kind = 8
        · have hs := hf.1.s
          have := text_len v.s (by omega)
          rw [enc_s v h2, List.length_append]
          omega
        · rw [enc_0 v (by omega)]
          have := Lib.uvarint_length64 (x := 0) (by omega)
          omega
end Go.Proofs.Ytdkmccilnmdhmaa
