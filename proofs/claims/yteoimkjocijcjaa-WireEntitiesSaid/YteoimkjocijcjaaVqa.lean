/- Package wire: Reader.elements: what a round does. -/
import Derived.Test.YteoimkjocijcjaaVp
namespace Go.Proofs.Yteoimkjocijcjaa
open Go.RowKit

def rdE (d k : Nat) (l : List UInt8) : Option (List (List UInt8) × List V × List UInt8) := (rdUint 200 l).bind fun x => rdS d k x.1 x.2
def EPost (rb vb d k : Nat) (l : List UInt8) (w : World) (e : Ending) (w' : World) : Prop :=
  e = .returned (.tuple #[]) ∧ Fr (fun g => g = rb ∨ g = vb) w w' ∧ ∃ KA LA kn kc ln lc, Blk w' vb 27 #[.int .u8 (k : Int), .int .i64 0, .string ⟨#[]⟩, .slice KA kn kc, .slice LA ln lc] ∧
    ((∃ ks ls r, rdE d k l = some (ks, ls, r) ∧ VC w' (New w w') (.mk k 0 [] ks ls) [.int .u8 (k : Int), .int .i64 0, sv [], .slice KA kn kc, .slice LA ln lc] ∧ Rd w' rb r false) ∨ (rdE d k l = none ∧ Rd w' rb [] true))
structure ELs (rb vb d k n : Nat) (l : List UInt8) (w wr : World) (i : Nat) (KA LA : Option Addr) (kc lc : Nat) (ks : List (List UInt8)) (ls : List V) (css : List (List Value)) (lr : List UInt8) : Prop where
  e : Elr w wr vb k KA LA ks.length kc ls.length lc (ks.map sv) css.flatten
  v : Vals wr (fun g => New w wr g ∧ ¬ At KA g ∧ ¬ At LA g) ls css
  nl : ls.length = i
  k6 : k = 6 → ks.length = i
  k5 : k ≠ 6 → ks = []
  x : ∀ x ∈ ks, x.length ≤ 200
  f : Fr (fun g => g = rb ∨ g = vb) w wr
  q : rdS d k n l = (rdS d k (n - i) lr).map fun y => (ks ++ y.1, ls ++ y.2.1, y.2.2)
def ERel (rb vb d k n : Nat) (l : List UInt8) (w : World) (iv : Value) (wr : World) : Prop :=
  ∃ i KA LA kc lc ks ls css lr, iv = .int .u64 (i : Nat) ∧ i ≤ n ∧ Rd wr rb lr false ∧ ELs rb vb d k n l w wr i KA LA kc lc ks ls css lr
/-- A value is to come: all keys are there. -/
structure EMd (rb vb d k n : Nat) (l : List UInt8) (w wr : World) (i : Nat) (KA LA : Option Addr) (kc lc : Nat) (ks : List (List UInt8)) (ls : List V) (css : List (List Value)) (lm : List UInt8) (bad : Bool) : Prop where
  e : Elr w wr vb k KA LA ks.length kc ls.length lc (ks.map sv) css.flatten
  v : Vals wr (fun g => New w wr g ∧ ¬ At KA g ∧ ¬ At LA g) ls css
  nl : ls.length = i
  k6 : k = 6 → ks.length = i + 1
  k5 : k ≠ 6 → ks = []
  x : ∀ x ∈ ks, x.length ≤ 200
  f : Fr (fun g => g = rb ∨ g = vb) w wr
  rd : Rd wr rb lm bad
  q : rdS d k n l = (rdV d lm).bind fun x => (rdS d k (n - (i + 1)) x.2).map fun y => (ks ++ y.1, ls ++ x.1 :: y.2.1, y.2.2)
theorem mid_five {rb vb d k n i kc lc : Nat} {w wr : World} {KA LA : Option Addr} {l lr : List UInt8} {ks : List (List UInt8)} {ls : List V} {css : List (List Value)}
    (hk : k ≠ 6) (hin : i < n) (hr : Rd wr rb lr false) (hE : ELs rb vb d k n l w wr i KA LA kc lc ks ls css lr) : EMd rb vb d k n l w wr i KA LA kc lc ks ls css lr false := by
  refine ⟨hE.e, hE.v, hE.nl, fun h => absurd h hk, hE.k5, hE.x, hE.f, hr, ?_⟩
  rw [hE.q, show n - i = (n - (i + 1)) + 1 by omega, rdS_five d _ hk lr]
  cases rdV d lr with
  | none => rfl
  | some x =>
    simp only [Option.bind_some]
    cases rdS d k (n - (i + 1)) x.2 <;> simp
theorem rdV_nil (d : Nat) : rdV d [] = none := by
  cases d with
  | zero => rw [rdV]
  | succ d => rw [rdV, rdUint_nil]
theorem mid_six {rb vb d n i kc lc c' kn' : Nat} {w wr wt w9 : World} {KA KA' LA : Option Addr} {l lr : List UInt8} {ks : List (List UInt8)} {ls : List V} {css : List (List Value)} {sx : List UInt8} {lm : List UInt8} {bad : Bool}
    (hin : i < n) (hrb : rb < w.heap.size) (hvr : vb ≠ rb) (hE : ELs rb vb d 6 n l w wr i KA LA kc lc ks ls css lr) (hft : Fr (fun q => q = rb) wr wt) (hrt : Rd wt rb lm bad)
    (hT : (rdText 32 lr = some (sx, lm) ∧ bad = false) ∨ (rdText 32 lr = none ∧ sx = [] ∧ lm = [] ∧ bad = true)) (hkn : kn' = ks.length + 1)
    (ho : w9.ownsRow 0 9 1 (.slice KA' kn' c') kn' (ks.map sv ++ [sv sx])) (hf9 : Fr (At KA) wt w9) (hn9 : ∀ q, At KA' q → At KA q ∨ wt.heap.size ≤ q) :
    EMd rb vb d 6 n l w (w9.setCell ⟨vb, 3, none⟩ (.slice KA' kn' c')) i KA' LA c' lc (ks ++ [sx]) ls css lm bad := by
  have ho0 := hE.e.old
  have het := hE.e.fr hft hvr (fun q hq e => by have := hE.e.knew q hq; omega) (fun q hq e => by have := hE.e.lnew q hq; omega)
  have hk' := het.key ho hf9 hn9
  have hFs : Fr (fun q => q = vb ∨ At KA q) wt (w9.setCell ⟨vb, 3, none⟩ (.slice KA' kn' c')) := (hf9.mono (fun _ _ h => .inr h)).setCell (p := ⟨vb, 3, none⟩) (.inl (.inl rfl)) _
  have hle := hE.e.le
  refine ⟨?_, ?_, hE.nl, (fun _ => by rw [List.length_append, hE.k6 rfl]; rfl), (fun h => absurd rfl h), ?_, ?_, ?_, ?_⟩
  · rw [List.length_append, List.map_append]
    rw [hkn] at hk' ⊢
    exact hk'
  · have h1 := (hE.v.fr hft (fun q hq e => by have := hq.1.1; omega)).fr hFs (by
      rintro q ⟨hq1, hq2, hq3⟩ (e | e)
      · have := hq1.1; omega
      · exact hq2 e)
    refine h1.mono ?_
    rintro q ⟨hq1, hq2, hq3⟩
    refine ⟨⟨hq1.1, Nat.lt_of_lt_of_le hq1.2 (Nat.le_trans hft.size hFs.size)⟩, fun e => ?_, hq3⟩
    rcases hn9 q e with h' | h'
    · exact hq2 h'
    · have := hq1.2; have := hft.size; omega
  · intro x hx
    rcases List.mem_append.1 hx with h | h
    · exact hE.x x h
    · simp only [List.mem_singleton] at h
      subst h
      rcases hT with ⟨h, _⟩ | ⟨_, h, _⟩
      · have := rdText_le h; simp only at this; omega
      · rw [h]; exact Nat.zero_le _
  · refine (hE.f.trans' hft (fun _ _ h => .inl h)).trans' hFs ?_
    rintro q hq (rfl | h')
    · exact .inr rfl
    · have := het.knew _ h'; omega
  · refine hrt.apart hFs ?_ ?_
    · rintro (e | h')
      · exact hvr e.symm
      · have := het.knew _ h'; omega
    · rintro q (rfl | h')
      · exact .inr ⟨27, _, by decide, het.blk⟩
      · exact .inr ⟨9, (own_blk het.kown _ h').choose, by decide, (own_blk het.kown _ h').choose_spec⟩
  · rw [hE.q, show n - i = (n - (i + 1)) + 1 by omega, rdS_six]
    rcases hT with ⟨h, _⟩ | ⟨h, _, h2, _⟩
    · rw [h]
      simp only [Option.bind_some]
      cases rdV d lm with
      | none => rfl
      | some x =>
        simp only [Option.bind_some]
        cases rdS d 6 (n - (i + 1)) x.2 <;> simp
    · rw [h, h2, rdV_nil]
      rfl
/-- One round: a value more, or a fault. -/
theorem mid_step {rb vb d k n i kc lc c' g : Nat} {w wr wd w9 w' : World} {KA LA : Option Addr} {l l1 lm : List UInt8} {bad : Bool} {ks : List (List UInt8)} {ls : List V} {css : List (List Value)} {zs cs : List Value}
    (hE : EMd rb vb d k n l1 w wr i KA LA kc lc ks ls css lm bad) (_hin : i < n) (hrb : rb < w.heap.size) (hvr : vb ≠ rb) (hfd : Fr (fun q => q = rb) wr wd)
    (hO : (∃ v r, rdV d lm = some (v, r) ∧ VC wd (New wr wd) v cs ∧ Rd wd rb r false) ∨ (rdV d lm = none ∧ Rd wd rb [] true))
    (ho : w9.ownsRow 0 27 5 (.slice (some ⟨g, 0, none⟩) (ls.length + 1) c') (ls.length + 1) (css.flatten ++ zs)) (hf9 : Fr (At LA) wd w9) (hn9 : ∀ q, At (some ⟨g, 0, none⟩) q → At LA q ∨ wd.heap.size ≤ q) (hc : cs.length = 5)
    (hw : w' = (w9.setCells g (ls.length * 5) cs).setCell ⟨vb, 4, none⟩ (.slice (some ⟨g, 0, none⟩) (ls.length + 1) c') ∨ w' = (w9.setCell ⟨vb, 4, none⟩ (.slice (some ⟨g, 0, none⟩) (ls.length + 1) c')).setCells g (ls.length * 5) cs)
    (hz : rdUint 200 l = some (n, l1)) :
    ∃ r bad, Rd w' rb r bad ∧ ((bad = false ∧ ∃ ls' css', ELs rb vb d k n l1 w w' (i + 1) KA (some ⟨g, 0, none⟩) kc c' ks ls' css' r) ∨ (bad = true ∧ EPost rb vb d k l w (.returned (.tuple #[])) w')) := by
  obtain ⟨he', hf', hr0, hF⟩ : Elr w w' vb k KA (some ⟨g, 0, none⟩) ks.length kc (ls.length + 1) c' (ks.map sv) (css.flatten ++ cs) ∧ Fr (fun q => q = rb ∨ q = vb) w w' ∧ (∀ r b, Rd wd rb r b → Rd w' rb r b) ∧ Fr (fun q => q = vb ∨ q = g ∨ At LA q) wd w' := by
    rcases hO with ⟨x, r, hq, hvx, hrx⟩ | ⟨hq, hrx⟩
    · obtain ⟨a, b, _, d⟩ := step_mem hE.e hrb hvr hE.f hfd hrx ho hf9 hn9 hc hw
      exact ⟨a, b, fun r b h => (step_mem hE.e hrb hvr hE.f hfd h ho hf9 hn9 hc hw).2.2.1, d⟩
    · obtain ⟨a, b, _, d⟩ := step_mem hE.e hrb hvr hE.f hfd hrx ho hf9 hn9 hc hw
      exact ⟨a, b, fun r b h => (step_mem hE.e hrb hvr hE.f hfd h ho hf9 hn9 hc hw).2.2.1, d⟩
  rcases hO with ⟨x, r, hq, hvx, hrx⟩ | ⟨hq, hrx⟩
  · have hv' := step_vals hE.e hrb hfd hF (hn9 g ⟨_, rfl, rfl⟩) hE.v hvx
    refine ⟨r, false, hr0 _ _ hrx, .inl ⟨rfl, ls ++ [x], css ++ [cs], ⟨?_, hv', by simp [hE.nl], hE.k6, hE.k5, hE.x, hf', ?_⟩⟩⟩
    · rw [List.length_append, List.flatten_append, List.flatten_singleton]
      exact he'
    · rw [hE.q, hq]
      simp only [Option.bind_some]
      cases rdS d k (n - (i + 1)) r <;> simp
  · refine ⟨[], true, hr0 _ _ hrx, .inr ⟨rfl, rfl, hf', _, _, _, _, _, _, he'.blk, .inr ⟨?_, hr0 _ _ hrx⟩⟩⟩
    rw [rdE, hz]
    simp only [Option.bind_some]
    rw [hE.q, hq]
    rfl
end Go.Proofs.Yteoimkjocijcjaa
