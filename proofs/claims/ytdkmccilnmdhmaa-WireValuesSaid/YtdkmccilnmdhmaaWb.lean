/- Package wire: values as plain data, as bytes, and as they lie in memory. -/
import Derived.Test.YtdkmccilnmdhmaaWa
import Derived.BigQuiet
import Derived.Deep.QuietTactic
namespace Go.Proofs.Ytdkmccilnmdhmaa
open Go.RowKit

inductive V where
  | mk (kind : Nat) (n : Int) (s : List UInt8) (ks : List (List UInt8)) (ls : List V)
namespace V
def kind : V → Nat | mk k _ _ _ _ => k
def n : V → Int | mk _ n _ _ _ => n
def s : V → List UInt8 | mk _ _ s _ _ => s
def ks : V → List (List UInt8) | mk _ _ _ ks _ => ks
def ls : V → List V | mk _ _ _ _ ls => ls
/-- How many elements are written. -/
def els (v : V) : Nat := if v.kind = 5 then v.ls.length else if v.kind = 6 then min v.ks.length v.ls.length else 0
end V
def textB (s : List UInt8) : List UInt8 := Lib.uvarint s.length ++ s
/-- A value without its elements. -/
def beginB (v : V) : List UInt8 :=
  Lib.uvarint v.kind ++ (if v.kind = 1 ∨ v.kind = 3 then Lib.uvarint (Lib.zigzag v.n) else if v.kind = 2 ∨ v.kind = 4 ∨ v.kind = 7 ∨ v.kind = 8 then textB v.s else if v.kind = 5 ∨ v.kind = 6 then Lib.uvarint v.els else [])
mutual
def encV : V → List UInt8
  | .mk k n s ks ls => beginB (.mk k n s ks ls) ++ (if k = 5 then encL ls else if k = 6 then encO ks ls else [])
def encL : List V → List UInt8
  | [] => []
  | x :: r => encV x ++ encL r
def encO : List (List UInt8) → List V → List UInt8
  | n :: ns, x :: r => textB n ++ (encV x ++ encO ns r)
  | _, [] => []
  | [], _ => []
end
/-- What stands behind the elements that were written. -/
def restB (v : V) (j : Nat) : List UInt8 := if v.kind = 5 then encL (v.ls.drop j) else if v.kind = 6 then encO (v.ks.drop j) (v.ls.drop j) else []
theorem encV_eq (v : V) : encV v = beginB v ++ restB v 0 := by
  cases v with
  | mk k n s ks ls => simp only [encV, restB, V.kind, V.ks, V.ls, List.drop_zero]
theorem encO_nil_left (ls : List V) : encO [] ls = [] := by cases ls <;> simp [encO]
theorem encO_nil_right (ks : List (List UInt8)) : encO ks [] = [] := by cases ks <;> simp [encO]
theorem restB_done (v : V) (j : Nat) (h : v.els ≤ j) : restB v j = [] := by
  unfold restB V.els at *
  by_cases h5 : v.kind = 5
  · rw [if_pos h5] at h ⊢
    rw [List.drop_eq_nil_of_le h, encL]
  · rw [if_neg h5] at h ⊢
    by_cases h6 : v.kind = 6
    · rw [if_pos h6] at h ⊢
      rcases Nat.le_total v.ks.length v.ls.length with hk | hk
      · rw [Nat.min_eq_left hk] at h
        rw [List.drop_eq_nil_of_le h, encO_nil_left]
      · rw [Nat.min_eq_right hk] at h
        have hd : v.ls.drop j = [] := List.drop_eq_nil_of_le h
        rw [hd, encO_nil_right]
    · rw [if_neg h6] at h ⊢
theorem restB_step5 (v : V) (j : Nat) (x : V) (h5 : v.kind = 5) (hx : v.ls[j]? = some x) : restB v j = beginB x ++ (restB x 0 ++ restB v (j + 1)) := by
  unfold restB
  rw [if_pos h5, if_pos h5]
  obtain ⟨hj, hx⟩ := List.getElem?_eq_some_iff.1 hx
  rw [List.drop_eq_getElem_cons hj, encL, encV_eq, hx, List.append_assoc]
  unfold restB
  rfl
theorem restB_step6 (v : V) (j : Nat) (x : V) (nm : List UInt8) (h6 : v.kind = 6) (hx : v.ls[j]? = some x) (hn : v.ks[j]? = some nm) : restB v j = textB nm ++ (beginB x ++ (restB x 0 ++ restB v (j + 1))) := by
  have h5 : ¬ v.kind = 5 := by omega
  unfold restB
  rw [if_neg h5, if_neg h5, if_pos h6, if_pos h6]
  obtain ⟨hj, hx⟩ := List.getElem?_eq_some_iff.1 hx
  obtain ⟨hjn, hn⟩ := List.getElem?_eq_some_iff.1 hn
  rw [List.drop_eq_getElem_cons hj, List.drop_eq_getElem_cons hjn, encO, encV_eq, hx, hn, List.append_assoc]
  unfold restB
  rfl

/-! ### In memory -/
abbrev sv (l : List UInt8) : Value := .string ⟨l.toArray⟩
def SRow (w : World) (G : Nat → Prop) (A : Option Addr) (ks : List (List UInt8)) : Prop := ks = [] ∨ ∃ g o, A = some ⟨g, o, none⟩ ∧ G g ∧ w.rangeAt g o (ks.map sv)
/-- The cells of a value that lies in the blocks of G. -/
inductive VC (w : World) (G : Nat → Prop) : V → List Value → Prop
  | mk {k : Nat} {n : Int} {s : List UInt8} {ks : List (List UInt8)} {ls : List V} {KA LA : Option Addr} {kc lc : Nat} {cs : Nat → List Value} (hk : k ≤ 255) (hn : -9223372036854775808 ≤ n ∧ n ≤ 9223372036854775807)
      (hs : s.length ≤ 9223372036854775807) (hks : ∀ x ∈ ks, x.length ≤ 9223372036854775807) (hkl : ks.length ≤ 9223372036854775807) (hll : ls.length ≤ 9223372036854775807)
      (hK : SRow w G KA ks) (hA : ls = [] ∨ ∃ g o, LA = some ⟨g, o, none⟩ ∧ G g ∧ ∀ j x, ls[j]? = some x → w.rangeAt g (o + 5 * j) (cs j)) (hL : ∀ j x, ls[j]? = some x → VC w G x (cs j)) :
      VC w G (.mk k n s ks ls) [.int .u8 (k : Int), .int .i64 n, sv s, .slice KA ks.length kc, .slice LA ls.length lc]

theorem rangeAt_fr {w w' : World} {F : Nat → Prop} {g o : Nat} {vs : List Value} (h : w.rangeAt g o vs) (hf : Fr F w w') (hg : ¬ F g) : w'.rangeAt g o vs := fun j v hv => by
  have h1 := h j v hv
  exact (hf.cell (p := ⟨g, o + j, none⟩) (World.block_lt_of_cell? w _ h1) hg).trans h1
theorem SRow.fr {w w' : World} {G F : Nat → Prop} {A : Option Addr} {ks : List (List UInt8)} (h : SRow w G A ks) (hf : Fr F w w') (hG : ∀ k, G k → ¬ F k) : SRow w' G A ks := by
  rcases h with h | ⟨g, o, h1, h2, h3⟩
  · exact .inl h
  · exact .inr ⟨g, o, h1, h2, rangeAt_fr h3 hf (hG g h2)⟩
theorem VC.fr {w w' : World} {G F : Nat → Prop} {v : V} {cs : List Value} (h : VC w G v cs) (hf : Fr F w w') (hG : ∀ k, G k → ¬ F k) : VC w' G v cs := by
  induction h with
  | mk hk hn hs hks hkl hll hK hA _ ih =>
    refine .mk hk hn hs hks hkl hll (hK.fr hf hG) ?_ ih
    rcases hA with h | ⟨g, o, h1, h2, h3⟩
    · exact .inl h
    · exact .inr ⟨g, o, h1, h2, fun j x hx => rangeAt_fr (h3 j x hx) hf (hG g h2)⟩
theorem VC.mono {w : World} {G G' : Nat → Prop} {v : V} {cs : List Value} (h : VC w G v cs) (hG : ∀ k, G k → G' k) : VC w G' v cs := by
  induction h with
  | mk hk hn hs hks hkl hll hK hA _ ih =>
    refine .mk hk hn hs hks hkl hll ?_ ?_ ih
    · rcases hK with h | ⟨g, o, h1, h2, h3⟩
      · exact .inl h
      · exact .inr ⟨g, o, h1, hG g h2, h3⟩
    · rcases hA with h | ⟨g, o, h1, h2, h3⟩
      · exact .inl h
      · exact .inr ⟨g, o, h1, hG g h2, h3⟩
/-- A value lies at ⟨g, o⟩. -/
def PV (w : World) (G : Nat → Prop) (g o : Nat) (v : V) : Prop := ∃ cs, G g ∧ w.rangeAt g o cs ∧ VC w G v cs
theorem PV.fr {w w' : World} {G F : Nat → Prop} {g o : Nat} {v : V} (h : PV w G g o v) (hf : Fr F w w') (hG : ∀ k, G k → ¬ F k) : PV w' G g o v := by
  obtain ⟨cs, h1, h2, h3⟩ := h
  exact ⟨cs, h1, rangeAt_fr h2 hf (hG g h1), h3.fr hf hG⟩
/-- What a value's cells are. -/
structure PVat (w : World) (G : Nat → Prop) (g o : Nat) (v : V) (KA LA : Option Addr) (kc lc : Nat) : Prop where
  c0 : w.cell? ⟨g, o, none⟩ = some (.int .u8 (v.kind : Int))
  c1 : w.cell? ⟨g, o + 1, none⟩ = some (.int .i64 v.n)
  c2 : w.cell? ⟨g, o + 2, none⟩ = some (sv v.s)
  c3 : w.cell? ⟨g, o + 3, none⟩ = some (.slice KA v.ks.length kc)
  c4 : w.cell? ⟨g, o + 4, none⟩ = some (.slice LA v.ls.length lc)
  k : v.kind ≤ 255
  n : -9223372036854775808 ≤ v.n ∧ v.n ≤ 9223372036854775807
  s : v.s.length ≤ 9223372036854775807
  ks : ∀ x ∈ v.ks, x.length ≤ 9223372036854775807
  kl : v.ks.length ≤ 9223372036854775807
  ll : v.ls.length ≤ 9223372036854775807
  K : SRow w G KA v.ks
  L : v.ls = [] ∨ ∃ g' o', LA = some ⟨g', o', none⟩ ∧ ∀ j x, v.ls[j]? = some x → PV w G g' (o' + 5 * j) x
theorem PV.at_ {w : World} {G : Nat → Prop} {g o : Nat} {v : V} (h : PV w G g o v) : ∃ KA LA kc lc, PVat w G g o v KA LA kc lc := by
  obtain ⟨cs, hg, hr, hv⟩ := h
  cases hv with
  | mk hk hn hs hks hkl hll hK hA hL =>
    rename_i k n s ks ls KA LA kc lc cs
    refine ⟨KA, LA, kc, lc, hr 0 _ rfl, hr 1 _ rfl, hr 2 _ rfl, hr 3 _ rfl, hr 4 _ rfl, hk, hn, hs, hks, hkl, hll, hK, ?_⟩
    rcases hA with h | ⟨g', o', h1, h2, h3⟩
    · exact .inl h
    · exact .inr ⟨g', o', h1, fun j x hx => ⟨cs j, h2, h3 j x hx, hL j x hx⟩⟩
theorem PVat.els_le {w : World} {G : Nat → Prop} {g o : Nat} {v : V} {KA LA : Option Addr} {kc lc : Nat} (h : PVat w G g o v KA LA kc lc) : v.els ≤ 9223372036854775807 := by
  have := h.ll
  unfold V.els
  split
  · exact this
  · split
    · omega
    · omega

def DrewP (v : Value) (w : World) (e : Ending) (w' : World) : Prop := e = .returned v ∧ ∃ n, w' = w.drewN n
set_option maxRecDepth 100000 in
set_option maxHeartbeats 2000000 in
theorem elements_any (G : Nat → Prop) (g o : Nat) (v : V) (w : World) (h : PV w G g o v) :
    Calls Try.prog 28 #[.pointer (some ⟨g, o, none⟩)] w (DrewP (.int .i64 (v.els : Int)) w) := by
  obtain ⟨KA, LA, kc, lc, h⟩ := h.at_
  have c0 := h.c0
  have c3 := h.c3
  have c4 := h.c4
  have hk := h.k
  have hkl := h.kl
  have hll := h.ll
  obtain ⟨kn, hkn⟩ : ∃ kn, kn = v.kind := ⟨_, rfl⟩
  obtain ⟨nk, hnk⟩ : ∃ nk, nk = v.ks.length := ⟨_, rfl⟩
  obtain ⟨nl, hnl⟩ : ∃ nl, nl = v.ls.length := ⟨_, rfl⟩
  have he : v.els = if kn = 5 then nl else if kn = 6 then min nk nl else 0 := by rw [V.els, hkn, hnk, hnl]
  rw [he]
  rw [← hkn] at c0 hk
  rw [← hnk] at c3 hkl
  rw [← hnl] at c4 hll
  clear he hkn hnk hnl h
  by_cases h5 : kn = 5
  · subst h5
    go_enter Try.func28, Try.ntmps28
    go_wp2
    go_ret
    exact ⟨rfl, 0, rfl⟩
  · have b5 : ((kn : Int) == 5) = false := by rw [beq_eq_false_iff_ne]; omega
    by_cases h6 : kn = 6
    · subst h6
      rw [if_neg (by omega), if_pos rfl]
      go_enter Try.func28, Try.ntmps28
      go_upto_region 5 with fail
      go_quiet (fail)
      go_wp2
      all_goals
        go_ret
        first | exact ⟨by rw [show min nk nl = nl by omega]; rfl, _, rfl⟩ | exact ⟨by rw [show min nk nl = nk by omega]; rfl, _, rfl⟩
    · have b6 : ((kn : Int) == 6) = false := by rw [beq_eq_false_iff_ne]; omega
      rw [if_neg h5, if_neg h6]
      go_enter Try.func28, Try.ntmps28
      go_wp2
      go_ret
      exact ⟨rfl, 0, rfl⟩
end Go.Proofs.Ytdkmccilnmdhmaa
