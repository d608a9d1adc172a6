/- The plain lexer: what its tokens cover. Pure. -/
import Derived.Test.YtfbkmjjcopjoeaaDoorLq
namespace Go.Proofs.YtfbkmjjcopjoeaaDoor
namespace Lx

theorem skip_suffix : ∀ (l : List UInt8) (b : Bool), l.drop (l.length - (skipL b l).length) = skipL b l
  | [], b => by cases b <;> simp [skipL]
  | c :: r, false => by
    have h1 := skipL_le r false
    have h2 := skipL_le r true
    rw [skipL]
    split
    · rw [List.length_cons, show r.length + 1 - (skipL false r).length = (r.length - (skipL false r).length) + 1 by omega, List.drop_succ_cons]
      exact skip_suffix r false
    · split
      · rw [List.length_cons, show r.length + 1 - (skipL true r).length = (r.length - (skipL true r).length) + 1 by omega, List.drop_succ_cons]
        exact skip_suffix r true
      · simp
  | c :: r, true => by
    have h1 := skipL_le r false
    have h2 := skipL_le r true
    rw [skipL]
    split
    · rw [List.length_cons, show r.length + 1 - (skipL false r).length = (r.length - (skipL false r).length) + 1 by omega, List.drop_succ_cons]
      exact skip_suffix r false
    · rw [List.length_cons, show r.length + 1 - (skipL true r).length = (r.length - (skipL true r).length) + 1 by omega, List.drop_succ_cons]
      exact skip_suffix r true
theorem takeWhile_take (p : UInt8 → Bool) : ∀ l : List UInt8, l.takeWhile p = l.take (l.takeWhile p).length
  | [] => by simp
  | c :: r => by
    rw [List.takeWhile_cons]
    split
    · rw [List.length_cons, List.take_succ_cons, ← takeWhile_take p r]
    · simp
/-- What a token that is no text says stands there. -/
theorem oneT_text {l : List UInt8} {kd : Nat} {t : List UInt8} {n : Int} {len : Nat} (h : oneT l = .ok kd t n len) : kd ≠ 0 ∧ (kd = 3 ∨ t = l.take len) := by
  cases l with
  | nil => simp [oneT] at h
  | cons c r =>
    rw [oneT] at h
    split at h
    · simp only at h
      split at h
      · cases h
      · injection h with h1 h2 h3 h4
        rw [← h1, ← h2, ← h4]
        exact ⟨by decide, .inr (takeWhile_take _ _)⟩
    · have hnum : ∀ m, numT (c :: r) m = .ok kd t n len → kd ≠ 0 ∧ (kd = 3 ∨ t = (c :: r).take len) := fun m h => by
        have h1 := numT_len h
        exact ⟨by omega, .inr h1.2.2.2⟩
      split at h
      · exact hnum 1 h
      · split at h
        · exact hnum 0 h
        · split at h
          · have := textT_len _ _ _ _ _ _ _ h
            exact ⟨by omega, .inl this.2.2.1⟩
          · split at h
            · split at h
              · rename_i h46 hr
                injection h with h1 h2 h3 h4
                rw [← h1, ← h2, ← h4]
                refine ⟨by decide, .inr ?_⟩
                rw [List.take_succ_cons, hr, h46]
              · cases h
            · split at h
              · injection h with h1 h2 h3 h4
                rw [← h1, ← h2, ← h4]
                exact ⟨by decide, .inr (by simp)⟩
              · cases h
theorem textT_bad : ∀ (l acc : List UInt8) (k off e : Nat), textT l acc k = .bad off e → off ≤ k + l.length
  | [], acc, k, off, e, h => by
    simp [textT] at h
    simp
    omega
  | c :: r, acc, k, off, e, h => by
    rw [textT.eq_def] at h
    simp only at h
    split at h
    · split at h
      · injection h with h1; omega
      · cases h
    · split at h
      · injection h with h1; omega
      · split at h
        · split at h
          · injection h with h1; simp; omega
          · rename_i x r'
            split at h
            · have := textT_bad r' _ _ _ _ h
              simp at this ⊢
              omega
            · injection h with h1; simp; omega
        · have := textT_bad r _ _ _ _ h
          simp at this ⊢
          omega
theorem numT_bad {l : List UInt8} {m off e : Nat} (hm : m ≤ l.length) (h : numT l m = .bad off e) : off ≤ l.length := by
  have h2 := takeWhile_le isDigit (l.drop m)
  rw [List.length_drop] at h2
  unfold numT at h
  simp only at h
  split at h
  · injection h with h1; omega
  · split at h
    · rename_i h3
      injection h with h1
      omega
    · split at h
      · injection h with h1; omega
      · split at h
        · injection h with h1; omega
        · cases h
theorem oneT_bad {l : List UInt8} {off e : Nat} (h : oneT l = .bad off e) : off ≤ l.length := by
  cases l with
  | nil => simp [oneT] at h; omega
  | cons c r =>
    rw [oneT] at h
    split at h
    · simp only at h
      split at h
      · injection h with h1; omega
      · cases h
    · split at h
      · exact numT_bad (by simp) h
      · split at h
        · exact numT_bad (by simp) h
        · split at h
          · have := textT_bad _ _ _ _ _ h
            simp
            omega
          · split at h
            · split at h
              · cases h
              · injection h with h1; omega
            · split at h
              · cases h
              · injection h with h1; omega
theorem allL_bad : ∀ (f : Nat) (l : List UInt8) (i : Nat) (p : Nat × Nat), l.length < f → allL l i = .inr p → p.1 ≤ i + l.length
  | 0, _, _, _, h, _ => by omega
  | f + 1, l, i, p, hf, h => by
    rw [allL_eq] at h
    have hle := skipL_le l false
    cases hs : skipL false l with
    | nil => rw [hs] at h; cases h
    | cons c r =>
      rw [hs] at h hle
      simp only at h
      cases h2 : oneT (c :: r) with
      | bad off e =>
        rw [h2] at h
        injection h with h
        have := oneT_bad h2
        rw [← h]
        simp at this hle ⊢
        omega
      | ok k t n len =>
        rw [h2] at h
        simp only at h
        have hlt := skip_drop_lt hs (oneT_len h2).1
        cases h3 : allL (List.drop len (c :: r)) (i + (l.length - (c :: r).length) + len) with
        | inl us => rw [h3] at h; cases h
        | inr p' =>
          rw [h3] at h
          injection h with h
          have := allL_bad f _ _ _ (by omega) h3
          have h4 := (oneT_len h2).2
          rw [← h]
          rw [List.length_drop] at this
          simp at this hle h4 ⊢
          omega
/-- The tokens rise, the last one alone is the end, and all but texts stand as they are written. -/
structure Cov (l : List UInt8) (i : Nat) (ts : List Tok) : Prop where
  last : ∃ ks, ts = ks ++ [⟨0, [], 0, i + l.length⟩] ∧ ∀ t ∈ ks, t.kind ≠ 0
  rise : ts.Pairwise fun a b => a.at_ < b.at_
  low : ∀ t ∈ ts, i ≤ t.at_ ∧ t.at_ ≤ i + l.length
  text : ∀ t ∈ ts, t.kind = 3 ∨ (t.at_ - i + t.text.length ≤ l.length ∧ (l.drop (t.at_ - i)).take t.text.length = t.text)
theorem allL_cov : ∀ (f : Nat) (l : List UInt8) (i : Nat) (ts : List Tok), l.length < f → allL l i = .inl ts → Cov l i ts
  | 0, _, _, _, h, _ => by omega
  | f + 1, l, i, ts, hf, h => by
    rw [allL_eq] at h
    have hle := skipL_le l false
    have hsf := skip_suffix l false
    cases hs : skipL false l with
    | nil =>
      rw [hs] at h
      injection h with h
      subst h
      exact ⟨⟨[], rfl, by simp⟩, by simp, by simp, by simp⟩
    | cons c r =>
      rw [hs] at h hle hsf
      simp only at h
      cases h2 : oneT (c :: r) with
      | bad off e => rw [h2] at h; cases h
      | ok k t n len =>
        rw [h2] at h
        simp only at h
        have hol := oneT_len h2
        have hot := oneT_text h2
        have hlt := skip_drop_lt hs hol.1
        cases h3 : allL (List.drop len (c :: r)) (i + (l.length - (c :: r).length) + len) with
        | inr p' => rw [h3] at h; cases h
        | inl us =>
          rw [h3] at h
          injection h with h
          subst h
          have hc := allL_cov f _ _ _ (by omega) h3
          have hdl : (List.drop len (c :: r)).length = (c :: r).length - len := List.length_drop
          obtain ⟨ks, hk, hk0⟩ := hc.last
          generalize hd : l.length - (c :: r).length = d at *
          have hlen : l.length = d + (c :: r).length := by omega
          refine ⟨⟨⟨k, t, n, i + d⟩ :: ks, ?_, ?_⟩, ?_, ?_, ?_⟩
          · rw [hk, hdl, List.cons_append]
            congr 3
            simp only [Tok.mk.injEq, true_and]
            omega
          · intro u hu
            rcases List.mem_cons.1 hu with rfl | hu
            · exact hot.1
            · exact hk0 u hu
          · refine List.pairwise_cons.2 ⟨fun u hu => ?_, hc.rise⟩
            have := (hc.low u hu).1
            simp only
            omega
          · intro u hu
            rcases List.mem_cons.1 hu with rfl | hu
            · simp only; omega
            · have := hc.low u hu
              rw [hdl] at this
              omega
          · intro u hu
            rcases List.mem_cons.1 hu with rfl | hu
            · rcases hot.2 with h4 | h4
              · exact .inl h4
              · refine .inr ⟨?_, ?_⟩
                · simp only
                  rw [h4, List.length_take]
                  omega
                · simp only
                  rw [show i + d - i = d by omega, hsf, h4, List.length_take]
                  congr 1
                  omega
            · rcases hc.text u hu with h4 | ⟨h4, h5⟩
              · exact .inl h4
              · have hlo := (hc.low u hu).1
                refine .inr ⟨by omega, ?_⟩
                rw [← hsf, List.drop_drop, List.drop_drop, show d + (len + (u.at_ - (i + d + len))) = u.at_ - i by omega] at h5
                exact h5
end Lx
end Go.Proofs.YtfbkmjjcopjoeaaDoor
