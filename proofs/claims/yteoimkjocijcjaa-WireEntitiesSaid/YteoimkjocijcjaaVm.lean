/- Package wire: what a reader reads as a value, of any bytes, as a plain function: it reads back what was written, and nothing of what was cut short. -/
import Derived.Test.YteoimkjocijcjaaVh
import Derived.Test.YteoimkjocijcjaaVl
namespace Go.Proofs.Yteoimkjocijcjaa
open Go.RowKit

abbrev u64max : Nat := 18446744073709551615
mutual
/-- A value, of which d levels are left. -/
def rdV : Nat → List UInt8 → Option (V × List UInt8)
  | 0, _ => none
  | d + 1, l =>
    match rdUint 8 l with
    | none => none
    | some (k, l1) =>
      if k = 0 then some (.mk 0 0 [] [] [], l1)
      else if k = 1 then (rdUint u64max l1).map fun x => (.mk 1 (unzig x.1) [] [] [], x.2)
      else if k = 3 then (rdUint u64max l1).bind fun x => if unzig x.1 = 0 ∨ unzig x.1 = 1 then some (.mk 3 (unzig x.1) [] [] [], x.2) else none
      else if k = 5 then (rdUint 200 l1).bind fun x => (rdL d x.1 x.2).map fun y => (.mk 5 0 [] [] y.1, y.2)
      else if k = 6 then (rdUint 200 l1).bind fun x => (rdO d x.1 x.2).map fun y => (.mk 6 0 [] y.1 y.2.1, y.2.2)
      else (rdText 200 l1).map fun x => (.mk k 0 x.1 [] [], x.2)
def rdL : Nat → Nat → List UInt8 → Option (List V × List UInt8)
  | _, 0, l => some ([], l)
  | d, n + 1, l => (rdV d l).bind fun x => (rdL d n x.2).map fun y => (x.1 :: y.1, y.2)
def rdO : Nat → Nat → List UInt8 → Option (List (List UInt8) × List V × List UInt8)
  | _, 0, l => some ([], [], l)
  | d, n + 1, l => (rdText 32 l).bind fun s => (rdV d s.2).bind fun x => (rdO d n x.2).map fun y => (s.1 :: y.1, x.1 :: y.2.1, y.2.2)
end

theorem V.eta (v : V) : v = .mk v.kind v.n v.s v.ks v.ls := by cases v; rfl
theorem LocP.mk_eq {v : V} (k : Nat) (n : Int) (s : List UInt8) (ks : List (List UInt8)) (ls : List V) (h0 : v.kind = k) (h1 : v.n = n) (h2 : v.s = s) (h3 : v.ks = ks) (h4 : v.ls = ls) : V.mk k n s ks ls = v := by
  rw [V.eta v, h0, h1, h2, h3, h4]

/-- What was written is read back. -/
theorem rdV_enc {w : World} {G : Nat → Prop} : ∀ (d : Nat) (v : V) (r : List UInt8), formP d v → (∃ cs, VC w G v cs) → rdV d (encV v ++ r) = some (v, r) := by
  intro d
  induction d with
  | zero => intro v r h; exact h.elim
  | succ d ih =>
    intro v r hf hV
    obtain ⟨hn, hsub⟩ := hV.choose_spec.sub
    have h8 := hf.1.k
    have hu : ∀ t, rdUint 8 (Lib.uvarint v.kind ++ t) = some (v.kind, t) := fun t => by rw [rdUint_enc _ _ _ (by omega), if_pos h8]
    by_cases h5 : v.kind = 5 ∨ v.kind = 6
    · have hl := hf.1.l
      have hels := hf.1.els h5
      have hu2 : ∀ t, rdUint 200 (Lib.uvarint v.els ++ t) = some (v.els, t) := fun t => by rw [rdUint_enc _ _ _ (by omega), if_pos (by omega)]
      rw [enc_l v h5]
      simp only [List.append_assoc]
      rw [rdV, hu]
      simp only []
      rcases h5 with h5 | h6
      · have key : ∀ m, m ≤ v.ls.length → rdL d m (restB v (v.ls.length - m) ++ r) = some (v.ls.drop (v.ls.length - m), r) := by
          intro m
          induction m with
          | zero => intro _; rw [rdL, restB_done v _ (by omega), Nat.sub_zero, List.drop_length]; rfl
          | succ m ihm =>
            intro hm
            obtain ⟨x, hx⟩ : ∃ x, v.ls[v.ls.length - (m + 1)]? = some x := ⟨_, List.getElem?_eq_getElem (by omega)⟩
            have e : v.ls.length - (m + 1) + 1 = v.ls.length - m := by omega
            have hd : v.ls.drop (v.ls.length - (m + 1)) = x :: v.ls.drop (v.ls.length - m) := by
              obtain ⟨hj', hx'⟩ := List.getElem?_eq_some_iff.1 hx
              rw [List.drop_eq_getElem_cons hj', hx', e]
            rw [rdL, restB_step5 v _ x h5 hx, e, ← List.append_assoc (beginB x), ← encV_eq, List.append_assoc, ih x _ (hf.2 x (List.mem_of_getElem? hx)) (hsub _ _ hx)]
            simp only [Option.bind_some]
            rw [ihm (by omega), hd]
            rfl
        have hk := key v.ls.length (Nat.le_refl _)
        rw [Nat.sub_self, List.drop_zero] at hk
        rw [if_neg (by omega), if_neg (by omega), if_neg (by omega), if_pos h5, hu2]
        simp only [Option.bind_some]
        rw [hels, hk]
        simp only [Option.map_some, Option.some.injEq, Prod.mk.injEq, and_true]
        exact LocP.mk_eq _ _ _ _ _ h5 (hf.1.n0 (by omega) (by omega)) (hf.1.s0 (by omega)) (hf.1.k0 (by omega)) rfl
      · have ho := hf.1.o h6
        have key : ∀ m, m ≤ v.ls.length → rdO d m (restB v (v.ls.length - m) ++ r) = some (v.ks.drop (v.ls.length - m), v.ls.drop (v.ls.length - m), r) := by
          intro m
          induction m with
          | zero => intro _; rw [rdO, restB_done v _ (by omega), Nat.sub_zero, List.drop_length, ← ho, List.drop_length]; rfl
          | succ m ihm =>
            intro hm
            obtain ⟨x, hx⟩ : ∃ x, v.ls[v.ls.length - (m + 1)]? = some x := ⟨_, List.getElem?_eq_getElem (by omega)⟩
            obtain ⟨y, hy⟩ : ∃ y, v.ks[v.ls.length - (m + 1)]? = some y := ⟨_, List.getElem?_eq_getElem (by omega)⟩
            have e : v.ls.length - (m + 1) + 1 = v.ls.length - m := by omega
            have hd : v.ls.drop (v.ls.length - (m + 1)) = x :: v.ls.drop (v.ls.length - m) := by
              obtain ⟨hj', hx'⟩ := List.getElem?_eq_some_iff.1 hx
              rw [List.drop_eq_getElem_cons hj', hx', e]
            have hd2 : v.ks.drop (v.ls.length - (m + 1)) = y :: v.ks.drop (v.ls.length - m) := by
              obtain ⟨hj', hx'⟩ := List.getElem?_eq_some_iff.1 hy
              rw [List.drop_eq_getElem_cons hj', hx', e]
            have hy32 := hf.1.x y (List.mem_of_getElem? hy)
            rw [rdO, restB_step6 v _ x y h6 hx hy, e, List.append_assoc, rdText_enc _ _ _ (by omega), if_pos hy32]
            simp only [Option.bind_some]
            rw [← List.append_assoc (beginB x), ← encV_eq, List.append_assoc, ih x _ (hf.2 x (List.mem_of_getElem? hx)) (hsub _ _ hx)]
            simp only [Option.bind_some]
            rw [ihm (by omega), hd, hd2]
            rfl
        have hk := key v.ls.length (Nat.le_refl _)
        rw [Nat.sub_self, List.drop_zero, List.drop_zero] at hk
        rw [if_neg (by omega), if_neg (by omega), if_neg (by omega), if_neg (by omega), if_pos h6, hu2]
        simp only [Option.bind_some]
        rw [hels, hk]
        simp only [Option.map_some, Option.some.injEq, Prod.mk.injEq, and_true]
        exact LocP.mk_eq _ _ _ _ _ h6 (hf.1.n0 (by omega) (by omega)) (hf.1.s0 (by omega)) rfl rfl
    · have hls := hf.1.l0 h5
      have hks := hf.1.k0 (by omega)
      by_cases h1 : v.kind = 1 ∨ v.kind = 3
      · have hz := Lib.zigzag_lt hn.1 hn.2
        have hu3 : rdUint u64max (Lib.uvarint (Lib.zigzag v.n) ++ r) = some (Lib.zigzag v.n, r) := by rw [rdUint_enc _ _ _ hz, if_pos (by unfold u64max; omega)]
        rw [enc_n v h1, List.append_assoc, rdV, hu]
        simp only []
        rcases h1 with h1 | h3
        · rw [if_neg (by omega), if_pos h1, hu3]
          simp only [Option.map_some, unzig_zig, Option.some.injEq, Prod.mk.injEq, and_true]
          exact LocP.mk_eq _ _ _ _ _ h1 rfl (hf.1.s0 (by omega)) hks hls
        · have h01 : v.n = 0 ∨ v.n = 1 := by
            rcases hf.1.n with h | h | h
            · omega
            · exact h.2
            · exact .inl h
          rw [if_neg (by omega), if_neg (by omega), if_pos h3, hu3]
          simp only [Option.bind_some, unzig_zig, if_pos h01, Option.some.injEq, Prod.mk.injEq, and_true]
          exact LocP.mk_eq _ _ _ _ _ h3 rfl (hf.1.s0 (by omega)) hks hls
      · by_cases h2 : v.kind = 2 ∨ v.kind = 4 ∨ v.kind = 7 ∨ v.kind = 8
        · have hs := hf.1.s
          rw [enc_s v h2, List.append_assoc, rdV, hu]
          simp only []
          rw [if_neg (by omega), if_neg (by omega), if_neg (by omega), if_neg (by omega), if_neg (by omega), rdText_enc _ _ _ (by omega), if_pos hs]
          simp only [Option.map_some, Option.some.injEq, Prod.mk.injEq, and_true]
          exact LocP.mk_eq _ _ _ _ _ rfl (hf.1.n0 (by omega) (by omega)) rfl hks hls
        · have h0 : v.kind = 0 := by omega
          have hu0 := hu r
          rw [h0] at hu0
          rw [enc_0 v h0, rdV, hu0]
          simp only [if_true, Option.some.injEq, Prod.mk.injEq, and_true]
          exact LocP.mk_eq _ _ _ _ _ h0 (hf.1.n0 (by omega) (by omega)) (hf.1.s0 (by omega)) hks hls

/-- What was read stays so when more follows. -/
theorem rdV_mono : ∀ (d : Nat) (l : List UInt8) (v : V) (r x : List UInt8), rdV d l = some (v, r) → rdV d (l ++ x) = some (v, r ++ x) := by
  intro d
  induction d with
  | zero => intro l v r x h; rw [rdV] at h; cases h
  | succ d ih =>
    intro l v r x h
    have hL : ∀ n l ls r x, rdL d n l = some (ls, r) → rdL d n (l ++ x) = some (ls, r ++ x) := by
      intro n
      induction n with
      | zero => intro l ls r x h; rw [rdL] at h ⊢; simp only [Option.some.injEq, Prod.mk.injEq] at h ⊢; exact ⟨h.1, by rw [h.2]⟩
      | succ n ihn =>
        intro l ls r x h
        rw [rdL] at h ⊢
        simp only [Option.bind_eq_some_iff, Option.map_eq_some_iff] at h
        obtain ⟨⟨a, l1⟩, h1, ⟨⟨b, l2⟩, h2, h3⟩⟩ := h
        rw [ih _ _ _ x h1]
        simp only [Option.bind_some]
        rw [ihn _ _ _ x h2]
        simp only [Prod.mk.injEq] at h3
        simp only [Option.map_some, Option.some.injEq, Prod.mk.injEq]
        exact ⟨h3.1, by rw [h3.2]⟩
    have hO : ∀ n l ks ls r x, rdO d n l = some (ks, ls, r) → rdO d n (l ++ x) = some (ks, ls, r ++ x) := by
      intro n
      induction n with
      | zero => intro l ks ls r x h; rw [rdO] at h ⊢; simp only [Option.some.injEq, Prod.mk.injEq] at h ⊢; exact ⟨h.1, h.2.1, by rw [h.2.2]⟩
      | succ n ihn =>
        intro l ks ls r x h
        rw [rdO] at h ⊢
        simp only [Option.bind_eq_some_iff, Option.map_eq_some_iff] at h
        obtain ⟨⟨s, l0⟩, h0, ⟨⟨a, l1⟩, h1, ⟨⟨b, c, l2⟩, h2, h3⟩⟩⟩ := h
        rw [rdText_mono h0 x]
        simp only [Option.bind_some]
        rw [ih _ _ _ x h1]
        simp only [Option.bind_some]
        rw [ihn _ _ _ _ x h2]
        simp only [Prod.mk.injEq] at h3
        simp only [Option.map_some, Option.some.injEq, Prod.mk.injEq]
        exact ⟨h3.1, h3.2.1, by rw [h3.2.2]⟩
    rw [rdV] at h ⊢
    cases hk : rdUint 8 l with
    | none => rw [hk] at h; cases h
    | some p =>
      obtain ⟨k, l1⟩ := p
      rw [hk] at h
      rw [rdUint_mono hk x]
      simp only [] at h ⊢
      by_cases k0 : k = 0
      · rw [if_pos k0] at h ⊢
        simp only [Option.some.injEq, Prod.mk.injEq] at h ⊢
        exact ⟨h.1, by rw [h.2]⟩
      rw [if_neg k0] at h ⊢
      by_cases k1 : k = 1
      · rw [if_pos k1] at h ⊢
        simp only [Option.map_eq_some_iff] at h
        obtain ⟨⟨z, l2⟩, h1, h2⟩ := h
        rw [rdUint_mono h1 x]
        simp only [Prod.mk.injEq] at h2
        simp only [Option.map_some, Option.some.injEq, Prod.mk.injEq]
        exact ⟨h2.1, by rw [h2.2]⟩
      rw [if_neg k1] at h ⊢
      by_cases k3 : k = 3
      · rw [if_pos k3] at h ⊢
        simp only [Option.bind_eq_some_iff] at h
        obtain ⟨⟨z, l2⟩, h1, h2⟩ := h
        rw [rdUint_mono h1 x]
        simp only [Option.bind_some]
        by_cases h01 : unzig z = 0 ∨ unzig z = 1
        · simp only [if_pos h01, Option.some.injEq, Prod.mk.injEq] at h2 ⊢
          exact ⟨h2.1, by rw [h2.2]⟩
        · simp only [if_neg h01] at h2
          cases h2
      rw [if_neg k3] at h ⊢
      by_cases k5 : k = 5
      · rw [if_pos k5] at h ⊢
        simp only [Option.bind_eq_some_iff, Option.map_eq_some_iff] at h
        obtain ⟨⟨z, l2⟩, h1, ⟨⟨ls, l3⟩, h2, h3⟩⟩ := h
        rw [rdUint_mono h1 x]
        simp only [Option.bind_some]
        rw [hL _ _ _ _ x h2]
        simp only [Prod.mk.injEq] at h3
        simp only [Option.map_some, Option.some.injEq, Prod.mk.injEq]
        exact ⟨h3.1, by rw [h3.2]⟩
      rw [if_neg k5] at h ⊢
      by_cases k6 : k = 6
      · rw [if_pos k6] at h ⊢
        simp only [Option.bind_eq_some_iff, Option.map_eq_some_iff] at h
        obtain ⟨⟨z, l2⟩, h1, ⟨⟨ks, ls, l3⟩, h2, h3⟩⟩ := h
        rw [rdUint_mono h1 x]
        simp only [Option.bind_some]
        rw [hO _ _ _ _ _ x h2]
        simp only [Prod.mk.injEq] at h3
        simp only [Option.map_some, Option.some.injEq, Prod.mk.injEq]
        exact ⟨h3.1, by rw [h3.2]⟩
      rw [if_neg k6] at h ⊢
      simp only [Option.map_eq_some_iff] at h
      obtain ⟨⟨s, l2⟩, h1, h2⟩ := h
      rw [rdText_mono h1 x]
      simp only [Prod.mk.injEq] at h2
      simp only [Option.map_some, Option.some.injEq, Prod.mk.injEq]
      exact ⟨h2.1, by rw [h2.2]⟩
/-- Bytes that are cut short are no value. -/
theorem rdV_cut {w : World} {G : Nat → Prop} (d : Nat) (v : V) (l y : List UInt8) (hf : formP d v) (hV : ∃ cs, VC w G v cs) (h : encV v = l ++ y) (hy : y ≠ []) : rdV d l = none := by
  cases hr : rdV d l with
  | none => rfl
  | some p =>
    obtain ⟨u, r⟩ := p
    have h1 := rdV_mono d l u r y hr
    have h2 := rdV_enc d v [] hf hV
    rw [List.append_nil, h, h1] at h2
    simp only [Option.some.injEq, Prod.mk.injEq, List.append_eq_nil_iff] at h2
    exact absurd h2.2.2 hy
end Go.Proofs.Yteoimkjocijcjaa
