/- Package ledger, as plain data: blocks after some of the writes that wait, one of them torn. -/
import Derived.Test.YtbcpplndmndkiaaLedL
namespace Go.Proofs.Ytbcpplndmndkiaa
open Go.RowKit

def W64 (f : Nat → List UInt8) : Prop := ∀ i, (f i).length = 64
/-- Byte x from block a on. -/
def bt (f : Nat → List UInt8) (a x : Nat) : UInt8 := (f (a + x / 64)).getD (x % 64) 0

theorem getD_some {l : List UInt8} {i : Nat} (h : i < l.length) : l[i]? = some (l.getD i 0) := by
  rw [List.getD_eq_getElem?_getD, List.getElem?_eq_getElem h, Option.getD_some]
theorem areaK_get {f : Nat → List UInt8} (h : W64 f) (a : Nat) : ∀ (m x : Nat), x < 64 * m → (areaK f a m)[x]? = some (bt f a x)
  | 0, x, hx => by omega
  | m + 1, x, hx => by
    rw [areaK_succ]
    have hl : (areaK f a m).length = 64 * m := areaK_len f a m h
    by_cases h1 : x < 64 * m
    · rw [List.getElem?_append_left (by omega)]
      exact areaK_get h a m x h1
    · rw [List.getElem?_append_right (by omega), hl, bt, show x / 64 = m from by omega, show x - 64 * m = x % 64 from by omega]
      exact getD_some (by rw [h]; omega)

theorem lays_of {f : Nat → List UInt8} (h : W64 f) {at_ bl half : Nat} {k : Kp} (hu : used f at_ bl = half) (hle : k.enc.length ≤ 64 * (bl - 1)) (hb : ∀ x, x < k.enc.length → bt f (at_ + half * bl + 1) x = k.enc.getD x 0)
    (hz : k.enc.length < 64 * (bl - 1) → bt f (at_ + half * bl + 1) k.enc.length = 0) : Lays f at_ bl half k := by
  have hl : (areaK f (at_ + half * bl + 1) (bl - 1)).length = 64 * (bl - 1) := areaK_len f _ _ h
  refine ⟨hu, (areaK f (at_ + half * bl + 1) (bl - 1)).drop k.enc.length, ?_, ?_⟩
  · have h1 : (areaK f (at_ + half * bl + 1) (bl - 1)).take k.enc.length = k.enc := by
      apply List.ext_getElem?
      intro x
      rw [List.getElem?_take]
      by_cases hx : x < k.enc.length
      · rw [if_pos hx, areaK_get h _ _ _ (by omega), hb x hx, getD_some hx]
      · rw [if_neg hx, List.getElem?_eq_none (by omega)]
    rw [← List.take_append_drop k.enc.length (areaK f (at_ + half * bl + 1) (bl - 1)), h1]
    congr 1
    rw [List.drop_append_of_le_length (by omega), List.drop_eq_nil_of_le (Nat.le_refl _), List.nil_append]
  · intro x hx
    rw [List.head?_drop] at hx
    by_cases hlt : k.enc.length < 64 * (bl - 1)
    · rw [areaK_get h _ _ _ hlt, hz hlt] at hx
      exact (Option.some.inj hx).symm
    · rw [List.getElem?_eq_none (by omega)] at hx
      cases hx
theorem Lays.len {f : Nat → List UInt8} (h : W64 f) {at_ bl half : Nat} {k : Kp} (hk : Lays f at_ bl half k) : k.enc.length ≤ 64 * (bl - 1) := by
  obtain ⟨rest, h1, _⟩ := hk.area
  have := areaK_len f (at_ + half * bl + 1) (bl - 1) h
  rw [h1, List.length_append] at this
  omega
theorem Lays.byte {f : Nat → List UInt8} (h : W64 f) {at_ bl half : Nat} {k : Kp} (hk : Lays f at_ bl half k) (x : Nat) (hx : x < k.enc.length) : bt f (at_ + half * bl + 1) x = k.enc.getD x 0 := by
  have hle := hk.len h
  obtain ⟨rest, h1, _⟩ := hk.area
  have h2 := areaK_get h (at_ + half * bl + 1) (bl - 1) x (by omega)
  rw [h1, List.getElem?_append_left hx, getD_some hx] at h2
  exact (Option.some.inj h2).symm
theorem Lays.zero {f : Nat → List UInt8} (h : W64 f) {at_ bl half : Nat} {k : Kp} (hk : Lays f at_ bl half k) (hx : k.enc.length < 64 * (bl - 1)) : bt f (at_ + half * bl + 1) k.enc.length = 0 := by
  obtain ⟨rest, h1, hq⟩ := hk.area
  have h2 := areaK_get h (at_ + half * bl + 1) (bl - 1) _ hx
  rw [h1, List.getElem?_append_right (Nat.le_refl _), Nat.sub_self] at h2
  exact hq _ (by rw [List.head?_eq_getElem?]; exact h2)

/-! ### Some of the writes, one torn -/
def tear (f : Nat → List UInt8) (ws : List (Nat × List UInt8)) (j t : Nat) : Nat → List UInt8 :=
  match ws[j]? with
  | some p => upd (view f (ws.take j)) p.1 (over (view f (ws.take j) p.1) (p.2.take t))
  | none => view f (ws.take j)
theorem upd_same (f : Nat → List UInt8) (i : Nat) : upd f i (f i) = f := by
  funext k
  unfold upd
  split
  · rename_i h; rw [h]
  · rfl
theorem over_nil (c : List UInt8) : over c [] = c := rfl
theorem tear_zero (f : Nat → List UInt8) (ws : List (Nat × List UInt8)) (j : Nat) : tear f ws j 0 = view f (ws.take j) := by
  unfold tear
  split
  · rw [List.take_zero, over_nil, upd_same]
  · rfl
theorem tear_take (f : Nat → List UInt8) (ws : List (Nat × List UInt8)) (q j t : Nat) (hj : j ≤ q) : ∃ t', t' ≤ t ∧ tear f (ws.take q) j t = tear f ws j t' := by
  by_cases h : j < q
  · refine ⟨t, Nat.le_refl _, ?_⟩
    unfold tear
    rw [List.getElem?_take, if_pos h, List.take_take, Nat.min_eq_left hj]
  · refine ⟨0, Nat.zero_le _, ?_⟩
    rw [tear_zero]
    unfold tear
    rw [List.getElem?_take, if_neg h, List.take_take, Nat.min_eq_left hj]
/-- What may be left of f when the writes ws wait. -/
def Cr (f : Nat → List UInt8) (ws : List (Nat × List UInt8)) (f' : Nat → List UInt8) : Prop := ∃ j t, j ≤ ws.length ∧ t ≤ 64 ∧ f' = tear f ws j t
theorem left_tear (D : Dk) (keep torn : Int) : D.left keep torn = tear D.dur D.pend (cl keep D.pend.length) (cl torn 64) := rfl
theorem left_cr (D : Dk) (ws : List (Nat × List UInt8)) (q : Nat) (h : D.pend = ws.take q) (keep torn : Int) : Cr D.dur ws (D.left keep torn) := by
  rw [left_tear, h]
  have h1 := cl_le keep (ws.take q).length
  have h2 := cl_le torn 64
  have h3 : (ws.take q).length ≤ q := List.length_take_le _ _
  have h4 : (ws.take q).length ≤ ws.length := List.length_take_le' _ _
  obtain ⟨t', ht, he⟩ := tear_take D.dur ws q (cl keep (ws.take q).length) (cl torn 64) (by omega)
  exact ⟨_, t', by omega, by omega, he⟩

/-! ### The writes of a text -/
def tw (i : Nat) : List (List UInt8) → List (Nat × List UInt8)
  | [] => []
  | c :: r => (i, pad c) :: tw (i + 1) r
theorem tw_len (cs : List (List UInt8)) : ∀ i, (tw i cs).length = cs.length := by
  induction cs with
  | nil => exact fun _ => rfl
  | cons c r ih => exact fun i => by rw [tw, List.length_cons, ih, List.length_cons]
theorem tw_get (cs : List (List UInt8)) : ∀ i j, (tw i cs)[j]? = (cs[j]?).map fun c => (i + j, pad c) := by
  induction cs with
  | nil => exact fun _ _ => rfl
  | cons c r ih =>
    intro i j
    cases j with
    | zero => rfl
    | succ j =>
      rw [tw, List.getElem?_cons_succ, List.getElem?_cons_succ, ih, show i + 1 + j = i + (j + 1) from by omega]
theorem tw_take (cs : List (List UInt8)) : ∀ i j, (tw i cs).take j = tw i (cs.take j) := by
  induction cs with
  | nil => intro i j; simp [tw]
  | cons c r ih =>
    intro i j
    cases j with
    | zero => rfl
    | succ j => rw [tw, List.take_succ_cons, ih, List.take_succ_cons]; rfl
theorem putL_dur (cs : List (List UInt8)) : ∀ (D : Dk) (i : Nat), (D.putL i cs).dur = D.dur := by
  induction cs with
  | nil => exact fun _ _ => rfl
  | cons c r ih => exact fun D i => ih _ _
theorem putL_pend (cs : List (List UInt8)) : ∀ (D : Dk) (i : Nat), (D.putL i cs).pend = D.pend ++ tw i cs := by
  induction cs with
  | nil => exact fun _ _ => (List.append_nil _).symm
  | cons c r ih => exact fun D i => by rw [Dk.putL, ih]; show (D.pend ++ [(i, pad c)]) ++ _ = _; rw [List.append_assoc]; rfl
theorem view_cons (f : Nat → List UInt8) (p : Nat × List UInt8) (l : List (Nat × List UInt8)) : view f (p :: l) = view (upd f p.1 p.2) l := rfl
theorem view_append (f : Nat → List UInt8) (l l' : List (Nat × List UInt8)) : view f (l ++ l') = view (view f l) l' := by simp [view]
theorem view_tw (cs : List (List UInt8)) : ∀ (f : Nat → List UInt8) (i b : Nat), view f (tw i cs) b = if i ≤ b ∧ b < i + cs.length then pad (cs.getD (b - i) []) else f b := by
  induction cs with
  | nil => intro f i b; rw [if_neg (by simp only [List.length_nil]; omega)]; rfl
  | cons c r ih =>
    intro f i b
    rw [tw, view_cons, ih]
    simp only [List.length_cons]
    by_cases h1 : i + 1 ≤ b ∧ b < i + 1 + r.length
    · rw [if_pos h1, if_pos (by omega), show b - i = (b - (i + 1)) + 1 from by omega]
      rfl
    · rw [if_neg h1]
      unfold upd
      by_cases h2 : b = i
      · subst h2
        rw [if_pos rfl, if_pos (by omega), Nat.sub_self]
        rfl
      · rw [if_neg h2, if_neg (by omega)]
theorem pad_getD (c : List UInt8) (y : Nat) : (pad c).getD y 0 = c.getD y 0 := by
  unfold pad over zero64
  rw [List.getD_eq_getElem?_getD, List.getD_eq_getElem?_getD]
  by_cases h : y < c.length
  · rw [List.getElem?_append_left h]
  · rw [List.getElem?_append_right (by omega), List.getElem?_eq_none (l := c) (by omega), List.getElem?_drop, List.getElem?_replicate]
    split <;> rfl
theorem chunk_getD (l : List UInt8) (m y : Nat) (hy : y < 64) : (chunk l m).getD y 0 = l.getD (64 * m + y) 0 := by
  unfold chunk
  rw [List.getD_eq_getElem?_getD, List.getElem?_take, if_pos hy, List.getElem?_drop, List.getD_eq_getElem?_getD]
theorem chunksOf_getD (l : List UInt8) (m : Nat) (h : m < nch l.length) : (chunksOf l).getD m [] = chunk l m := by
  unfold chunksOf
  rw [List.getD_eq_getElem?_getD, List.getElem?_map, List.getElem?_range h]
  rfl
theorem chunk_le (l : List UInt8) (m : Nat) : (chunk l m).length ≤ 64 := by rw [chunk_len]; omega

/-- Some bytes of f' are those of the text. -/
structure Mix (f f' : Nat → List UInt8) (i : Nat) (text : List UInt8) : Prop where
  w : W64 f'
  out : ∀ b, b < i ∨ i + nch text.length ≤ b → f' b = f b
  byte : ∀ b y, y < 64 → (f' b).getD y 0 = (f b).getD y 0 ∨ (i ≤ b ∧ (f' b).getD y 0 = text.getD (64 * (b - i) + y) 0)
/-- All. -/
structure Full (f f' : Nat → List UInt8) (i : Nat) (text : List UInt8) : Prop where
  w : W64 f'
  out : ∀ b, b < i ∨ i + nch text.length ≤ b → f' b = f b
  byte : ∀ b y, y < 64 → i ≤ b → b < i + nch text.length → (f' b).getD y 0 = text.getD (64 * (b - i) + y) 0
theorem Full.mix {f f' : Nat → List UInt8} {i : Nat} {text : List UInt8} (h : Full f f' i text) : Mix f f' i text :=
  ⟨h.w, h.out, fun b y hy => by
    by_cases hb : i ≤ b ∧ b < i + nch text.length
    · exact .inr ⟨hb.1, h.byte b y hy hb.1 hb.2⟩
    · exact .inl (by rw [h.out b (by omega)])⟩
theorem view_w64 {f : Nat → List UInt8} (h : W64 f) {l : List (Nat × List UInt8)} (hl : ∀ p ∈ l, p.2.length = 64) : W64 (view f l) := view_len l f h hl
theorem tw_mem (cs : List (List UInt8)) (hc : ∀ c ∈ cs, c.length ≤ 64) : ∀ i, ∀ p ∈ tw i cs, p.2.length = 64 := by
  induction cs with
  | nil => intro i p hp; cases hp
  | cons c r ih =>
    intro i p hp
    rcases List.mem_cons.1 hp with rfl | hp
    · exact pad_len c (hc c List.mem_cons_self)
    · exact ih (fun c hc' => hc c (List.mem_cons_of_mem _ hc')) _ p hp
theorem chunksOf_mem (l : List UInt8) : ∀ c ∈ chunksOf l, c.length ≤ 64 := by
  intro c hc
  unfold chunksOf at hc
  obtain ⟨m, _, rfl⟩ := List.mem_map.1 hc
  exact chunk_le l m
theorem tw_chunks_view (f : Nat → List UInt8) (i : Nat) (text : List UInt8) (j : Nat) (hj : j ≤ nch text.length) (b : Nat) : view f ((tw i (chunksOf text)).take j) b = if i ≤ b ∧ b < i + j then pad (chunk text (b - i)) else f b := by
  rw [tw_take, view_tw, List.length_take, chunksOf_len, Nat.min_eq_left hj]
  by_cases h : i ≤ b ∧ b < i + j
  · rw [if_pos h, if_pos h]
    congr 1
    rw [List.getD_eq_getElem?_getD, List.getElem?_take, if_pos (by omega), ← List.getD_eq_getElem?_getD, chunksOf_getD _ _ (by omega)]
  · rw [if_neg h, if_neg h]
theorem view_take_w64 {f : Nat → List UInt8} (h : W64 f) (i : Nat) (text : List UInt8) (j : Nat) : W64 (view f ((tw i (chunksOf text)).take j)) :=
  view_w64 h (fun p hp => tw_mem _ (chunksOf_mem text) i p (List.mem_of_mem_take hp))
theorem full_view {f : Nat → List UInt8} (h : W64 f) (i : Nat) (text : List UInt8) : Full f (view f (tw i (chunksOf text))) i text := by
  have e : tw i (chunksOf text) = (tw i (chunksOf text)).take (nch text.length) := by
    rw [List.take_of_length_le (by rw [tw_len, chunksOf_len]; exact Nat.le_refl _)]
  refine ⟨by rw [e]; exact view_take_w64 h i text _, fun b hb => ?_, fun b y hy h1 h2 => ?_⟩
  · rw [e, tw_chunks_view f i text _ (Nat.le_refl _), if_neg (by omega)]
  · rw [e, tw_chunks_view f i text _ (Nat.le_refl _), if_pos ⟨h1, h2⟩, pad_getD, chunk_getD _ _ _ hy]
theorem over_getD (c : List UInt8) (d : List UInt8) (t y : Nat) (_ : c.length = 64) (hd : d.length = 64) (ht : t ≤ 64) : (over c (d.take t)).getD y 0 = if y < t then d.getD y 0 else c.getD y 0 := by
  unfold over
  have h1 : (d.take t).length = t := by rw [List.length_take]; omega
  rw [List.getD_eq_getElem?_getD]
  by_cases h : y < t
  · rw [if_pos h, List.getElem?_append_left (by omega), List.getElem?_take, if_pos h, List.getD_eq_getElem?_getD]
  · rw [if_neg h, List.getElem?_append_right (by omega), List.getElem?_drop, h1, show t + (y - t) = y from by omega, List.getD_eq_getElem?_getD]
theorem mix_tear {f : Nat → List UInt8} (h : W64 f) (i : Nat) (text : List UInt8) (ws : List (Nat × List UInt8)) (j t : Nat) (hj : j < nch text.length) (ht : t ≤ 64) : Mix f (tear f (tw i (chunksOf text) ++ ws) j t) i text := by
  have hlen : (tw i (chunksOf text)).length = nch text.length := by rw [tw_len, chunksOf_len]
  have hget : (tw i (chunksOf text) ++ ws)[j]? = some (i + j, pad (chunk text j)) := by
    rw [List.getElem?_append_left (by omega), tw_get]
    have : (chunksOf text)[j]? = some (chunk text j) := by
      unfold chunksOf
      rw [List.getElem?_map, List.getElem?_range hj]
      rfl
    rw [this]
    rfl
  have htake : (tw i (chunksOf text) ++ ws).take j = (tw i (chunksOf text)).take j := List.take_append_of_le_length (by omega)
  have he : tear f (tw i (chunksOf text) ++ ws) j t = upd (view f ((tw i (chunksOf text)).take j)) (i + j) (over (view f ((tw i (chunksOf text)).take j) (i + j)) ((pad (chunk text j)).take t)) := by
    unfold tear
    rw [hget, htake]
  have hw := view_take_w64 h i text j
  have hpl : (pad (chunk text j)).length = 64 := pad_len _ (chunk_le _ _)
  rw [he]
  refine ⟨upd_len hw _ _ (by rw [over_len _ _ (by rw [List.length_take, hw]; omega)]; exact hw _), fun b hb => ?_, fun b y hy => ?_⟩
  · unfold upd
    rw [if_neg (by omega), tw_chunks_view f i text j (by omega), if_neg (by omega)]
  · unfold upd
    by_cases hb : b = i + j
    · rw [if_pos hb, over_getD _ _ _ _ (hw _) hpl ht]
      subst hb
      by_cases hyt : y < t
      · rw [if_pos hyt, pad_getD, chunk_getD _ _ _ hy]
        exact .inr ⟨by omega, by rw [show i + j - i = j from by omega]⟩
      · rw [if_neg hyt, tw_chunks_view f i text j (by omega), if_neg (by omega)]
        exact .inl rfl
    · rw [if_neg hb, tw_chunks_view f i text j (by omega)]
      by_cases h1 : i ≤ b ∧ b < i + j
      · rw [if_pos h1, pad_getD, chunk_getD _ _ _ hy]
        exact .inr ⟨h1.1, rfl⟩
      · rw [if_neg h1]
        exact .inl rfl
end Go.Proofs.Ytbcpplndmndkiaa
