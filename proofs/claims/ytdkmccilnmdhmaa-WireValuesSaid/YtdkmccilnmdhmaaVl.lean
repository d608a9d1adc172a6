/- Package wire: two values that have Form and the same bytes are one. -/
import Derived.Test.YtdkmccilnmdhmaaVh
import Derived.Test.YtdkmccilnmdhmaaVj
import Derived.Test.YtdkmccilnmdhmaaRe
namespace Go.Proofs.Ytdkmccilnmdhmaa
open Go.RowKit

def big : Nat := 18446744073709551615
theorem uv_inj {n m : Nat} {r r' : List UInt8} (hn : n < 18446744073709551616) (hm : m < 18446744073709551616) (h : Lib.uvarint n ++ r = Lib.uvarint m ++ r') : n = m ∧ r = r' := by
  have h1 := rdUint_enc n big r hn
  have h2 := rdUint_enc m big r' hm
  rw [if_pos (by unfold big; omega)] at h1 h2
  rw [h, h2] at h1
  simp only [Option.some.injEq, Prod.mk.injEq] at h1
  exact ⟨h1.1.symm, h1.2.symm⟩
theorem text_inj {s t : List UInt8} {r r' : List UInt8} (hs : s.length < 18446744073709551616) (ht : t.length < 18446744073709551616) (h : textB s ++ r = textB t ++ r') : s = t ∧ r = r' := by
  have h1 := rdText_enc s big r hs
  have h2 := rdText_enc t big r' ht
  rw [if_pos (by unfold big; omega)] at h1 h2
  rw [h, h2] at h1
  simp only [Option.some.injEq, Prod.mk.injEq] at h1
  exact ⟨h1.1.symm, h1.2.symm⟩
theorem zig_inj {a b : Int} (h : Lib.zigzag a = Lib.zigzag b) : a = b := by
  have := congrArg unzig h
  rwa [unzig_zig, unzig_zig] at this
theorem LocP.n0 {v : V} (h : LocP v) (h1 : ¬ v.kind = 1) (h3 : ¬ v.kind = 3) : v.n = 0 := by
  rcases h.n with h | h | h
  · exact absurd h h1
  · exact absurd h.1 h3
  · exact h
theorem LocP.s0 {v : V} (h : LocP v) (h1 : ¬ (v.kind = 2 ∨ v.kind = 4 ∨ v.kind = 7 ∨ v.kind = 8)) : v.s = [] := h.t.resolve_left h1
theorem LocP.l0 {v : V} (h : LocP v) (h1 : ¬ (v.kind = 5 ∨ v.kind = 6)) : v.ls = [] := by
  rcases h.e with h | h | h
  · exact absurd (.inl h) h1
  · exact absurd (.inr h) h1
  · exact h
theorem LocP.k0 {v : V} (h : LocP v) (h1 : ¬ v.kind = 6) : v.ks = [] := h.o2.resolve_left h1

theorem enc_inj {w : World} {G : Nat → Prop} : ∀ (d : Nat) (x y : V) (r r' : List UInt8), formP d x → formP d y → (∃ cs, VC w G x cs) → (∃ cs, VC w G y cs) → encV x ++ r = encV y ++ r' → x = y ∧ r = r' := by
  intro d
  induction d with
  | zero => intro x y r r' h; exact h.elim
  | succ d ih =>
    intro x y r r' hx hy hVx hVy h
    obtain ⟨hnx, hsx⟩ := hVx.choose_spec.sub
    obtain ⟨hny, hsy⟩ := hVy.choose_spec.sub
    have h8x := hx.1.k
    have h8y := hy.1.k
    have hkind : x.kind = y.kind := by
      have e1 : ∀ v : V, ∃ t, encV v = Lib.uvarint v.kind ++ t := fun v => ⟨_, by rw [encV_eq, beginB, List.append_assoc]⟩
      obtain ⟨t1, ht1⟩ := e1 x
      obtain ⟨t2, ht2⟩ := e1 y
      rw [ht1, ht2, List.append_assoc, List.append_assoc] at h
      exact (uv_inj (by omega) (by omega) h).1
    by_cases h5 : x.kind = 5 ∨ x.kind = 6
    · have h5y : y.kind = 5 ∨ y.kind = 6 := by rw [← hkind]; exact h5
      have hlx := hx.1.l
      have hly := hy.1.l
      rw [enc_l x h5, enc_l y h5y, hkind, hx.1.els h5, hy.1.els h5y] at h
      simp only [List.append_assoc] at h
      obtain ⟨_, h⟩ := uv_inj (by omega) (by omega) h
      obtain ⟨hll, h⟩ := uv_inj (by omega) (by omega) h
      have key : ∀ m, m ≤ x.ls.length → ∀ r r', restB x (x.ls.length - m) ++ r = restB y (x.ls.length - m) ++ r' → (∀ j, x.ls.length - m ≤ j → x.ls[j]? = y.ls[j]? ∧ (x.kind = 6 → x.ks[j]? = y.ks[j]?)) ∧ r = r' := by
        intro m
        induction m with
        | zero =>
          intro _ r r' h
          rw [restB_done x _ (by rw [hx.1.els h5]; omega), restB_done y _ (by rw [hy.1.els h5y]; omega)] at h
          refine ⟨fun j hj => ⟨by rw [List.getElem?_eq_none (by omega), List.getElem?_eq_none (by omega)], fun h6 => ?_⟩, by simpa using h⟩
          have h1 := hx.1.o h6
          have h2 := hy.1.o (by rw [← hkind]; exact h6)
          rw [List.getElem?_eq_none (by omega), List.getElem?_eq_none (by omega)]
        | succ m ihm =>
          intro hm r r' h
          obtain ⟨a, ha⟩ : ∃ a, x.ls[x.ls.length - (m + 1)]? = some a := ⟨_, List.getElem?_eq_getElem (by omega)⟩
          obtain ⟨b, hb⟩ : ∃ b, y.ls[x.ls.length - (m + 1)]? = some b := ⟨_, List.getElem?_eq_getElem (by omega)⟩
          have e : x.ls.length - (m + 1) + 1 = x.ls.length - m := by omega
          have hfa := hx.2 a (List.mem_of_getElem? ha)
          have hfb := hy.2 b (List.mem_of_getElem? hb)
          have step : ∀ (t t' : List UInt8), encV a ++ (restB x (x.ls.length - m) ++ t) = encV b ++ (restB y (x.ls.length - m) ++ t') → a = b ∧ (∀ j, x.ls.length - m ≤ j → x.ls[j]? = y.ls[j]? ∧ (x.kind = 6 → x.ks[j]? = y.ks[j]?)) ∧ t = t' := by
            intro t t' ht
            obtain ⟨h1, h2⟩ := ih a b _ _ hfa hfb (hsx _ _ ha) (hsy _ _ hb) ht
            obtain ⟨h3, h4⟩ := ihm (by omega) t t' h2
            exact ⟨h1, h3, h4⟩
          rcases h5 with h5' | h6
          · have h5y' : y.kind = 5 := by rw [← hkind]; exact h5'
            rw [restB_step5 x _ a h5' ha, restB_step5 y _ b h5y' hb, e] at h
            simp only [List.append_assoc] at h
            rw [← List.append_assoc (beginB a), ← encV_eq, ← List.append_assoc (beginB b), ← encV_eq] at h
            obtain ⟨h1, h2, h3⟩ := step r r' h
            refine ⟨fun j hj => ?_, h3⟩
            rcases Nat.lt_or_ge j (x.ls.length - m) with hlt | hge
            · obtain rfl : j = x.ls.length - (m + 1) := by omega
              exact ⟨by rw [ha, hb, h1], fun h => by omega⟩
            · exact h2 j hge
          · have h6y : y.kind = 6 := by rw [← hkind]; exact h6
            obtain ⟨na, hna⟩ : ∃ s, x.ks[x.ls.length - (m + 1)]? = some s := ⟨_, List.getElem?_eq_getElem (by have := hx.1.o h6; omega)⟩
            obtain ⟨nb, hnb⟩ : ∃ s, y.ks[x.ls.length - (m + 1)]? = some s := ⟨_, List.getElem?_eq_getElem (by have := hy.1.o h6y; omega)⟩
            have l1 := hx.1.x na (List.mem_of_getElem? hna)
            have l2 := hy.1.x nb (List.mem_of_getElem? hnb)
            rw [restB_step6 x _ a na h6 ha hna, restB_step6 y _ b nb h6y hb hnb, e] at h
            simp only [List.append_assoc] at h
            obtain ⟨hnm, h⟩ := text_inj (by omega) (by omega) h
            rw [← List.append_assoc (beginB a), ← encV_eq, ← List.append_assoc (beginB b), ← encV_eq] at h
            obtain ⟨h1, h2, h3⟩ := step r r' h
            refine ⟨fun j hj => ?_, h3⟩
            rcases Nat.lt_or_ge j (x.ls.length - m) with hlt | hge
            · obtain rfl : j = x.ls.length - (m + 1) := by omega
              exact ⟨by rw [ha, hb, h1], fun _ => by rw [hna, hnb, hnm]⟩
            · exact h2 j hge
      have hk := key x.ls.length (Nat.le_refl _) r r' (by rw [Nat.sub_self]; exact h)
      rw [Nat.sub_self] at hk
      have hls : x.ls = y.ls := List.ext_getElem? (fun j => (hk.1 j (Nat.zero_le _)).1)
      have hks : x.ks = y.ks := by
        by_cases h6 : x.kind = 6
        · exact List.ext_getElem? (fun j => (hk.1 j (Nat.zero_le _)).2 h6)
        · rw [hx.1.k0 h6, hy.1.k0 (by rw [← hkind]; exact h6)]
      refine ⟨(V.ext_iff' x y).2 ⟨⟨hkind, ?_, ?_, hks, by rw [hls]⟩, hls⟩, hk.2⟩
      · rw [hx.1.n0 (by omega) (by omega), hy.1.n0 (by omega) (by omega)]
      · rw [hx.1.s0 (by omega), hy.1.s0 (by omega)]
    · have hls : x.ls = y.ls := by rw [hx.1.l0 h5, hy.1.l0 (by rw [← hkind]; exact h5)]
      have hks : x.ks = y.ks := by rw [hx.1.k0 (by omega), hy.1.k0 (by omega)]
      by_cases h1 : x.kind = 1 ∨ x.kind = 3
      · rw [enc_n x h1, enc_n y (by rw [← hkind]; exact h1), hkind] at h
        simp only [List.append_assoc] at h
        obtain ⟨_, h⟩ := uv_inj (by omega) (by omega) h
        obtain ⟨hz, h⟩ := uv_inj (Lib.zigzag_lt hnx.1 hnx.2) (Lib.zigzag_lt hny.1 hny.2) h
        refine ⟨(V.ext_iff' x y).2 ⟨⟨hkind, zig_inj hz, ?_, hks, by rw [hls]⟩, hls⟩, h⟩
        rw [hx.1.s0 (by omega), hy.1.s0 (by omega)]
      · by_cases h2 : x.kind = 2 ∨ x.kind = 4 ∨ x.kind = 7 ∨ x.kind = 8
        · rw [enc_s x h2, enc_s y (by rw [← hkind]; exact h2), hkind] at h
          have l1 := hx.1.s
          have l2 := hy.1.s
          simp only [List.append_assoc] at h
          obtain ⟨_, h⟩ := uv_inj (by omega) (by omega) h
          obtain ⟨hz, h⟩ := text_inj (by omega) (by omega) h
          refine ⟨(V.ext_iff' x y).2 ⟨⟨hkind, ?_, hz, hks, by rw [hls]⟩, hls⟩, h⟩
          rw [hx.1.n0 (by omega) (by omega), hy.1.n0 (by omega) (by omega)]
        · rw [enc_0 x (by omega), enc_0 y (by omega)] at h
          obtain ⟨_, h⟩ := uv_inj (by omega) (by omega) h
          refine ⟨(V.ext_iff' x y).2 ⟨⟨hkind, ?_, ?_, hks, by rw [hls]⟩, hls⟩, h⟩
          · rw [hx.1.n0 (by omega) (by omega), hy.1.n0 (by omega) (by omega)]
          · rw [hx.1.s0 (by omega), hy.1.s0 (by omega)]
end Go.Proofs.Ytdkmccilnmdhmaa
