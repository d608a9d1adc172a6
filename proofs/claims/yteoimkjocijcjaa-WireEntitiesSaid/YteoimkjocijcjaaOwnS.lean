/- append of a string onto a row of bytes of one's own: and where the row lies then. Plain, over any program. -/
import Derived.Test.YteoimkjocijcjaaOwnC
import Derived.Lib.AppendStr
namespace Go.Proofs.Yteoimkjocijcjaa
open Go.RowKit

section
variable {P : Program}
theorem wpList_append_str {ops : Array Oper} {rest : List Oper} {o : Oper} {a : Act} {w : World} {Q : Exit → Act → World → Prop} (hgd : o.guard = none) (sl x : Operand) (t u : TypeId)
    (ho : o.op = .call { callee := .builtin .append, args := #[sl, x], argTypes := #[t, u] })
    (ht : P.underlying t = some (.slice 5)) (hu : P.underlying u = some .string) (hi : (P.info? 5).map (fun i => (i.zero, i.size, i.bytes)) = some (some (.int .u8 0), 1, 1))
    (A : Option Addr) (n c : Nat) (l : List UInt8) (hs : a.eval sl = .slice A n c) (hown : OwnB w A n c l) (s : List UInt8) (hx : a.eval x = .string ⟨s.toArray⟩) (h63 : n + s.length ≤ 140737488355328)
    (h : ∀ A' c' w', OwnB w' A' (n + s.length) c' (l ++ s) → Fr (At A) w w' → (∀ k, At A' k → At A k ∨ w.heap.size ≤ k) → wpList P ops Q rest (a.put o.dst (.slice A' (n + s.length) c')) w') : wpList P ops Q (o :: rest) a w := by
  obtain ⟨i, hi', hz, hss, hbb⟩ := info_parts hi
  have hsz : (⟨s.toArray⟩ : ByteArray).size = s.length := by simp [ByteArray.size]
  have hsc : Lib.strCells ⟨s.toArray⟩ = B8s s := by
    rw [Lib.strCells, B8s]
    rfl
  refine wpList_plain hgd fun K hK => ?_
  obtain ⟨v', w', hr, h2, h3, h4⟩ := Lib.run_append_own_string (P := P) (w := w) 0 t u o.type _ i ht hu hi' hz hss hbb (.slice A n c) n (B8s l) hown.2 ⟨s.toArray⟩ (by rw [hsz]; simp only [maxLen]; omega) (by rw [hsz]; omega) (Nat.zero_le _)
  rw [hsz] at h2
  have hpl : v'.ownBlock = (Value.slice A n c).ownBlock ∨ v'.ownBlock = some w.heap.size := by
    rcases hown.form with ⟨rfl, rfl, rfl, rfl⟩ | ⟨g, cur, rfl, hb, hnc, hcm, hcs, htk⟩
    · by_cases h0 : s.length = 0
      · exact .inl (by rw [h4.2 ⟨rfl, by rw [hsz]; exact h0⟩])
      · have hr2 := run_append_nil_string (P := P) w t u o.type _ i (.int .u8 0) ht hu hi' hz ⟨s.toArray⟩ (by rw [hsz]; omega) (by rw [hsz]; omega) (by rw [hsz, hbb]; omega)
        rw [hr2] at hr
        injection hr with hr _
        exact .inr (by rw [← hr]; rfl)
    · by_cases hroom : n + s.length ≤ c
      · have hr2 := Lib.run_append_room_string (P := P) (w := w) t u o.type _ i ht hu hi' hss g n c cur hb ⟨s.toArray⟩ (by rw [hsz]; exact hroom) (by rw [hsz, hcs]; exact hroom)
        rw [hr2] at hr
        injection hr with hr _
        exact .inl (by rw [← hr]; rfl)
      · have hln : (B8s l).length = n := by rw [B8s_length]; exact hown.1
        have hr2 := Lib.run_append_grow_string (P := P) (w := w) t u o.type _ i (.int .u8 0) ht hu hi' hz ⟨g, 0, none⟩ n c (B8s l) (by rw [hss, hln, Nat.mul_one]) (hown.2.cells (g := g) rfl) ⟨s.toArray⟩ (by rw [hsz]; omega) (by rw [hsz]; omega) (by rw [hsz, hbb]; exact growslice_fits (by omega) (by omega))
        rw [hr2] at hr
        injection hr with hr _
        exact .inr (by rw [← hr]; rfl)
  obtain ⟨A', c'', rfl⟩ : ∃ A' c'', v' = .slice A' (n + s.length) c'' := by
    rcases h2.2 with ⟨rfl, h0⟩ | ⟨g, cap, cur, rfl, _⟩
    · exact ⟨none, 0, by rw [h0]⟩
    · exact ⟨_, _, rfl⟩
  unfold Oper.wp execOp
  simp only [ho, resolve, invoke, builtin, Sem.run_bind, Sem.run_pure, Result.andThen_ok, List.map_toArray, List.map_cons, List.map_nil, hs, hx, hr]
  refine hK _ _ (h A' c'' w' ⟨by rw [List.length_append, hown.1], ?_⟩ ((Fr.refl _ _).grown h3 (fun g hg => .inl (at_own.1 hg))) (fun k hk => ?_))
  · rw [hsc] at h2
    rw [B8s, List.map_append]
    exact h2
  · rcases hpl with h5 | h5
    · exact .inl (at_own.1 (by rw [← h5]; exact at_own.2 hk))
    · have h6 : (Value.slice A' (n + s.length) c'').ownBlock = some k := at_own.2 hk
      rw [h5] at h6
      injection h6 with h6
      exact .inr (by omega)
end
end Go.Proofs.Yteoimkjocijcjaa
