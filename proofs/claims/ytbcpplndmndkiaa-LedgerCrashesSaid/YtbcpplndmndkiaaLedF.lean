/- Package ledger: load. -/
import Derived.Test.YtbcpplndmndkiaaLedE
namespace Go.Proofs.Ytbcpplndmndkiaa
open Go.RowKit

/-- What is kept: a snapshot, and the records after it. -/
structure Kp where
  snap : List UInt8
  recs : List (List UInt8)
def recB (r : List UInt8) : List UInt8 := hd 1 r.length ++ r
def encR (l : List (List UInt8)) : List UInt8 := l.flatMap recB
def Kp.enc (k : Kp) : List UInt8 := hd 0 k.snap.length ++ k.snap ++ encR k.recs
def Kp.offs (k : Kp) (j : Nat) : Nat := 8 + k.snap.length + (encR (k.recs.take j)).length
theorem recB_len (r : List UInt8) : (recB r).length = 8 + r.length := by rw [recB, List.length_append, hd_len]
theorem encR_cons (r : List UInt8) (l : List (List UInt8)) : encR (r :: l) = recB r ++ encR l := rfl
theorem encR_append (l l' : List (List UInt8)) : encR (l ++ l') = encR l ++ encR l' := by simp [encR]
theorem Kp.enc_len (k : Kp) : k.enc.length = k.offs k.recs.length := by
  rw [Kp.enc, Kp.offs, List.take_length, List.length_append, List.length_append, hd_len]
theorem encR_ge (l : List (List UInt8)) : 8 * l.length ≤ (encR l).length := by
  induction l with
  | nil => simp [encR]
  | cons r l ih => rw [encR_cons, List.length_append, recB_len, List.length_cons]; omega
theorem Kp.drop_offs (k : Kp) (rest : List UInt8) (j : Nat) : (k.enc ++ rest).drop (k.offs j) = encR (k.recs.drop j) ++ rest := by
  have h1 : k.enc ++ rest = (hd 0 k.snap.length ++ k.snap ++ encR (k.recs.take j)) ++ (encR (k.recs.drop j) ++ rest) := by
    rw [Kp.enc, show encR k.recs = encR (k.recs.take j) ++ encR (k.recs.drop j) from by rw [← encR_append, List.take_append_drop]]
    simp only [List.append_assoc]
  have h2 : (hd 0 k.snap.length ++ k.snap ++ encR (k.recs.take j)).length = k.offs j := by
    rw [Kp.offs, List.length_append, List.length_append, hd_len]
  rw [h1, ← h2, List.drop_left]
theorem Kp.offs_succ (k : Kp) (j : Nat) (hj : j < k.recs.length) : k.offs (j + 1) = k.offs j + 8 + k.recs[j].length := by
  rw [Kp.offs, Kp.offs, take_snoc' k.recs j hj, encR_append, List.length_append, encR_cons, List.length_append, recB_len]
  simp [encR]
  omega
where
  take_snoc' (l : List (List UInt8)) (k : Nat) (h : k < l.length) : l.take (k + 1) = l.take k ++ [l[k]] := List.take_succ_eq_append_getElem h
theorem Kp.drop_at (k : Kp) (rest : List UInt8) (j : Nat) (hj : j < k.recs.length) : (k.enc ++ rest).drop (k.offs j) = hd 1 k.recs[j].length ++ k.recs[j] ++ (encR (k.recs.drop (j + 1)) ++ rest) := by
  rw [k.drop_offs rest j, List.drop_eq_getElem_cons hj, encR_cons, recB]
  simp only [List.append_assoc]
theorem Kp.drop_zero (k : Kp) (rest : List UInt8) : (k.enc ++ rest).drop 0 = hd 0 k.snap.length ++ k.snap ++ (encR k.recs ++ rest) := by
  rw [List.drop_zero, Kp.enc]; simp only [List.append_assoc]
/-- Behind what is kept stands no mark. -/
def Quiet (rest : List UInt8) : Prop := ∀ x, rest.head? = some x → x = 0

theorem Kp.offs_le (k : Kp) (j : Nat) (hj : j < k.recs.length) : k.offs j < k.offs (j + 1) := by rw [k.offs_succ j hj]; omega
/-- Slices of bytes as cells. -/
def recCells (ps : List (Option Addr × Nat)) (ls : List (List UInt8)) : List Value := List.zipWith (fun p l => Value.slice p.1 l.length p.2) ps ls
def Each (w : World) (B : Nat) (ps : List (Option Addr × Nat)) (ls : List (List UInt8)) : Prop := ∀ (i : Nat) (p : Option Addr × Nat) (l : List UInt8), ps[i]? = some p → ls[i]? = some l → OwnB w p.1 l.length p.2 l ∧ ∀ k, At p.1 k → B ≤ k
def RecsAt (w : World) (B : Nat) (A : Option Addr) (n c : Nat) (ls : List (List UInt8)) : Prop :=
  ∃ ps : List (Option Addr × Nat), ps.length = ls.length ∧ ls.length = n ∧ w.ownsRow 0 22 1 (.slice A n c) n (recCells ps ls) ∧ Each w B ps ls ∧ ∀ k, At A k → B ≤ k
theorem recCells_snoc (ps : List (Option Addr × Nat)) (ls : List (List UInt8)) (p : Option Addr × Nat) (l : List UInt8) (h : ps.length = ls.length) : recCells (ps ++ [p]) (ls ++ [l]) = recCells ps ls ++ [.slice p.1 l.length p.2] := by
  simp [recCells, List.zipWith_append h]
theorem Each.fr {F : Nat → Prop} {w w' : World} {B : Nat} {ps : List (Option Addr × Nat)} {ls : List (List UInt8)} (h : Each w B ps ls) (hf : Fr F w w') (ha : ∀ k cs, Blk w k 5 cs → ¬ F k) : Each w' B ps ls := fun i p l hp hl => by
  obtain ⟨h1, h2⟩ := h i p l hp hl
  refine ⟨h1.fr hf (fun k hk => ?_), h2⟩
  rcases h1.form with ⟨hA, _⟩ | ⟨g, cur, hA, hb, _⟩
  · rw [hA] at hk; exact absurd hk At.none_not
  · rw [hA, At.some_iff] at hk
    simp only at hk
    subst hk
    exact ha _ _ hb
theorem Each.snoc {w : World} {B : Nat} {ps : List (Option Addr × Nat)} {ls : List (List UInt8)} {p : Option Addr × Nat} {l : List UInt8} (h : Each w B ps ls) (he : ps.length = ls.length) (hp : OwnB w p.1 l.length p.2 l) (hn : ∀ k, At p.1 k → B ≤ k) : Each w B (ps ++ [p]) (ls ++ [l]) := fun i q m hq hm => by
  rcases Nat.lt_or_ge i ps.length with hi | hi
  · rw [List.getElem?_append_left hi] at hq
    rw [List.getElem?_append_left (by omega)] at hm
    exact h i q m hq hm
  · rw [List.getElem?_append_right hi] at hq
    rw [List.getElem?_append_right (by omega)] at hm
    rcases Nat.eq_zero_or_pos (i - ps.length) with h0 | h0
    · rw [h0] at hq
      rw [← he, h0] at hm
      simp only [List.getElem?_cons_zero, Option.some.injEq] at hq hm
      subst hq hm
      exact ⟨hp, hn⟩
    · rw [List.getElem?_eq_none (by simp; omega)] at hq
      cases hq
theorem RecsAt.more {w : World} {B B' : Nat} {A : Option Addr} {n c : Nat} {ls : List (List UInt8)} (h : RecsAt w B A n c ls) (hB : B' ≤ B) : RecsAt w B' A n c ls := by
  obtain ⟨ps, h1, h2, h3, h4, h5⟩ := h
  exact ⟨ps, h1, h2, h3, fun i p l hp hl => ⟨(h4 i p l hp hl).1, fun k hk => Nat.le_trans hB ((h4 i p l hp hl).2 k hk)⟩, fun k hk => Nat.le_trans hB (h5 k hk)⟩
theorem own_type_ne {w : World} {A : Option Addr} {n c : Nat} {xs : List Value} (h : w.ownsRow 0 22 1 (.slice A n c) n xs) {k : Nat} {cs : Array Value} (hb : Blk w k 5 cs) : ¬ At A k := fun hk =>
  own_blk_ne h hb (by decide) (at_own.2 hk)
theorem RecsAt.fr {F : Nat → Prop} {w w' : World} {B : Nat} {A : Option Addr} {n c : Nat} {ls : List (List UInt8)} (h : RecsAt w B A n c ls) (hf : Fr F w w') (hF : ∀ k, F k → k < B) : RecsAt w' B A n c ls := by
  obtain ⟨ps, h1, h2, h3, h4, h5⟩ := h
  refine ⟨ps, h1, h2, own_fr h3 hf (fun k hk hF' => by have := h5 k (at_own.1 hk); have := hF k hF'; omega), fun i p l hp hl => ?_, h5⟩
  obtain ⟨k1, k2⟩ := h4 i p l hp hl
  exact ⟨k1.fr hf (fun k hk hF' => by have := k2 k hk; have := hF k hF'; omega), k2⟩
theorem infoS : (Try.prog.info? 22).map (fun i => (i.zero, i.size, i.bytes)) = some (some (.slice none 0 0), 1, 24) := by kernel_rfl

def Lg.loaded (L : Lg) (half : Nat) (k : Kp) : Lg := { L with half := half, ed := k.enc.length, cnt := k.recs.length }
def LoadPost (lb b : Nat) (L : Lg) (half : Nat) (k : Kp) (w : World) (e : Ending) (w' : World) : Prop :=
  ∃ A c R d, e = .returned (.tuple #[.slice A k.snap.length c, .slice R k.recs.length d, .int .i64 0]) ∧ OwnB w' A k.snap.length c k.snap ∧ (∀ j, At A j → w.heap.size ≤ j) ∧ RecsAt w' w.heap.size R k.recs.length d k.recs ∧
    Led w' lb b (L.loaded half k) ∧ Fr (fun j => j = lb) w w'

set_option maxHeartbeats 2000000 in
theorem load_on (lb b : Nat) (F : Nat → Prop) (L : Lg) (D : Dk) (half : Nat) (k : Kp) (rest : List UInt8) (w : World) (hl : Led w lb b L) (hd : DiskAt w b F D) (ok : L.Ok D.n) (ho : D.off = false) (hu : used (view D.dur D.pend) L.at_ L.bl = half)
    (ha : areaK (view D.dur D.pend) (L.at_ + half * L.bl + 1) (L.bl - 1) = k.enc ++ rest) (hq : Quiet rest) :
    Calls Try.prog 38 #[.pointer (some ⟨lb, 0, none⟩)] w (LoadPost lb b L half k w) := by
  have hhalf : half ≤ 1 := by have := used_lt (view D.dur D.pend) L.at_ L.bl; omega
  have c1 := inUse_on lb b F L D w hl hd ok ho
  rw [hu] at c1
  have c2 := fun W (hb : Below w.heap.size w W) => area_on lb b F L D half W (hl.below hb) (hd.below hb) ok ho hhalf
  rw [ha] at c2
  have hlen : (k.enc ++ rest).length = 64 * (L.bl - 1) := by rw [← ha, areaK_len _ _ _ hd.wf.vlen]
  have hbl : L.bl ≤ 4096 := by have := ok.room; have := ok.n; omega
  obtain ⟨ar, har⟩ : ∃ ar, ar = k.enc ++ rest := ⟨_, rfl⟩
  have h0 := k.drop_zero rest
  have hJ := k.drop_at rest
  have hE := k.drop_offs rest k.recs.length
  rw [List.drop_length, show encR [] = [] from rfl, List.nil_append] at hE
  rw [← har] at c2 hlen h0 hJ hE
  obtain ⟨N, hN⟩ : ∃ N, ar.length = N := ⟨_, rfl⟩
  have hNb : N ≤ 300000 := by omega
  have hcnt : 8 * k.recs.length ≤ N := by
    have h1 := encR_ge k.recs
    have h2 : k.enc.length ≤ N := by rw [← hN, har, List.length_append]; omega
    rw [Kp.enc, List.length_append] at h2
    omega
  have hoff : ∀ j, j ≤ k.recs.length → k.offs j ≤ N := by
    intro j hj
    have h2 : k.enc.length ≤ N := by rw [← hN, har, List.length_append]; omega
    have h3 : (encR (k.recs.take j)).length ≤ (encR k.recs).length := by
      have : encR k.recs = encR (k.recs.take j) ++ encR (k.recs.drop j) := by rw [← encR_append, List.take_append_drop]
      rw [this, List.length_append]; omega
    rw [Kp.enc, List.length_append, List.length_append, hd_len] at h2
    rw [Kp.offs]
    omega
  have hz : k.offs 0 = 8 + k.snap.length := rfl
  have C1 := hide c1
  have C2 := hide c2
  have Hl := hide hl
  have Hd := hide hd
  have Hq := hide hq
  have H0 := hide h0
  have HJ := hide hJ
  have HE := hide hE
  have HN := hide hN
  have Hoff := hide hoff
  have Hz := hide hz
  have Hen := hide k.enc_len
  clear c1 c2 hl hd ok ho hu ha hq hlen hbl har h0 hJ hE hN hoff hz
  go_enter Try.func38, Try.ntmps38
  go_wp2_with fail
  refine C1.out.mono ?_
  rintro e w1 ⟨rfl, hb1⟩
  have Hb1 := hide hb1
  clear hb1 C1
  go_wp2_with fail
  refine (C2.out w1 Hb1.out).mono ?_
  rintro e w2 ⟨g, c, rfl, hown2, hg2, hb2⟩
  rw [HN.out] at hown2 ⊢
  have hbel2 : Below w.heap.size w w2 := Hb1.out.trans (hb2.mono Hb1.out.size)
  have hg0 : w.heap.size ≤ g := Nat.le_trans Hb1.out.size hg2
  have hcN : N ≤ c := by
    rcases hown2.form with ⟨h, _⟩ | ⟨_, _, _, _, h, _⟩
    · cases h
    · exact h
  have c3 := entry_any g 0 c ar N 0 0 k.snap _ w2 HN.out hown2.bytes H0.out (by omega) hcN
  have Hown2 := hide hown2
  have Hbel2 := hide hbel2
  have C3 := hide c3
  clear hown2 hbel2 hb2 hg2 C2 c3
  go_wp2_with fail
  refine C3.out.mono ?_
  rintro e w3 ⟨A, cA, rfl, hownA, hnewA, hb3⟩
  have hbel3 : Below w.heap.size w w3 := Hbel2.out.trans (hb3.mono Hbel2.out.size)
  have Hown3 := hide (Hown2.out.fr (Fr.of_below hb3) (fun _ _ h => h))
  have HownA := hide hownA
  have HnewA := hide (fun j hj => Nat.le_trans Hbel2.out.size (hnewA j hj))
  have Hbel3 := hide hbel3
  clear hownA hnewA hb3 hbel3 C3 Hown2
  go_wp2_with fail
  go_loopw [9, 10] (fun en rs wr => ∃ j R d, j ≤ k.recs.length ∧ en = .int .i64 (k.offs j : Nat) ∧ rs = .slice R j d ∧ RecsAt wr w3.heap.size R j d (k.recs.take j) ∧ Below w3.heap.size w3 wr) (fun en _ _ => N + 1 - (intOf en).toNat)
  case atStart =>
    refine ⟨0, none, 0, Nat.zero_le _, ?_, rfl, ⟨[], rfl, rfl, World.ownsRow_nil _ _ _ _, fun i p l h => by simp at h, fun j hj => absurd hj At.none_not⟩, Below.refl _ _⟩
    rw [Hz.out]
    simp
  case round =>
    obtain ⟨j, R, d, hj, rfl, rfl, hrec, hb⟩ := hrel
    have hbw : Below w.heap.size w wr := Hbel3.out.trans (hb.mono Hbel3.out.size)
    have hown := Hown3.out.fr (Fr.of_below hb) (fun _ _ h => h)
    have hoj := Hoff.out j hj
    by_cases hlt : j < k.recs.length
    · have hdr := HJ.out j hlt
      have hsucc := k.offs_succ j hlt
      have hos := Hoff.out (j + 1) hlt
      have hc0 : wr.cell? ⟨g, 0 + k.offs j, none⟩ = some (.int .u8 1) := by
        have hx : ar[k.offs j]? = some 1 := by
          have : (ar.drop (k.offs j))[0]? = some 1 := by rw [hdr]; rfl
          rwa [List.getElem?_drop, Nat.add_zero] at this
        rcases hown.bytes with h | ⟨g', o', he, hr⟩
        · rw [h] at hx; cases hx
        · cases he
          exact hr _ (B8 1) (by rw [B8s_get, hx]; rfl)
      rw [Nat.zero_add] at hc0
      have c4 := entry_any g 0 c ar N (k.offs j) 1 k.recs[j] _ wr HN.out hown.bytes hdr (by omega) hcN
      have C4 := hide c4
      have Hrec := hide hrec
      have Hbw := hide hbw
      have Hb := hide hb
      have Hsucc := hide hsucc
      have hle : k.offs j + 8 ≤ N := by omega
      clear c4 hrec hbw hb hown hdr hsucc hos
      obtain ⟨a, ha⟩ : ∃ a, k.offs j = a := ⟨_, rfl⟩
      rw [ha] at C4 hc0 hle hoj ⊢
      have Ha := hide ha
      clear ha
      go_wp2_with fail
      refine C4.out.mono ?_
      rintro e w4 ⟨B, cB, rfl, hownB, hnewB, hb4⟩
      obtain ⟨ps, hps, hls, hrow, heach, hnewR⟩ := Hrec.out
      have hcell : ∀ i u, [Value.slice B k.recs[j].length cB][i]? = some u → (w4.alloc (.cells #[.slice B k.recs[j].length cB] 22)).cell? ((⟨w4.heap.size, 0, none⟩ : Addr).add i) = some u := cell_one_new w4 _ _
      have hbw4 : Below w.heap.size w w4 := Hbw.out.trans (hb4.mono Hbw.out.size)
      have hrow4 : (w4.alloc (.cells #[.slice B k.recs[j].length cB] 22)).ownsRow 0 22 1 (.slice R j d) j (recCells ps (k.recs.take j)) := (own_fr hrow (Fr.of_below hb4) (fun _ _ h => h)).alloc _
      have he4 : Each (w4.alloc (.cells #[.slice B k.recs[j].length cB] 22)) w3.heap.size (ps ++ [(B, cB)]) (k.recs.take j ++ [k.recs[j]]) :=
        ((heach.fr (Fr.of_below hb4) (fun _ _ _ h => h)).snoc hps hownB (fun q hq => Nat.le_trans Hb.out.size (hnewB q hq))).fr (F := fun _ => False) ((Fr.refl _ _).alloc _) (fun _ _ _ h => h)
      have hsz : w3.heap.size ≤ w4.heap.size := Nat.le_trans Hb.out.size hb4.size
      have Hcell := hide hcell
      have Hrow4 := hide hrow4
      have He4 := hide he4
      have Hb4 := hide hb4
      have Hps := hide hps
      have Hls := hide hls
      have HnewR := hide hnewR
      have Hbw4 := hide hbw4
      clear hcell hrow4 he4 hb4 hps hls hrow heach hnewR hownB hnewB Hrec hbw4
      go_wp2_with (refine wpList_append_at (w4.alloc (.cells #[.slice B k.recs[j].length cB] 22)) rfl (.tmp 52) (.tmp 54) 42 rfl 0 22 (.slice none 0 0) 1 24 Try.underlying42 infoS rfl (by decide) R j d _ rfl Hrow4.out ⟨w4.heap.size, 0, none⟩ 1 1 [.slice B k.recs[j].length cB] rfl rfl Hcell.out (by intro u hu; simp only [List.mem_singleton] at hu; subst hu; rfl) (by simp only [maxLen]; omega) (by omega) (Nat.zero_le _) ?_; intro R' d' w6 hrow6 hf6 hnew6)
      have hf7 : Fr (At R) w4 w6 := ((Fr.refl _ _).alloc _).trans' hf6 (fun q _ hq => at_own.1 hq)
      have hb6 : Below w3.heap.size w3 w6 := (Hb.out.trans (Hb4.out.mono Hb.out.size)).trans (hf7.below hsz HnewR.out)
      have he6 := He4.out.fr hf6 (fun q cs hq hh => own_type_ne Hrow4.out hq (at_own.1 hh))
      have hn6 : ∀ q, At R' q → w3.heap.size ≤ q := fun q hq => by
        rcases hnew6 q (at_own.2 hq) with h | h
        · exact HnewR.out q (at_own.1 h)
        · exact Nat.le_trans hsz (Nat.le_trans (by simp) h)
      have hrec6 : RecsAt w6 w3.heap.size R' (j + 1) d' (k.recs.take (j + 1)) := by
        rw [List.take_succ_eq_append_getElem hlt]
        refine ⟨ps ++ [(B, cB)], by rw [List.length_append, List.length_append, Hps.out]; rfl, by rw [List.length_append, Hls.out]; rfl, ?_, he6, hn6⟩
        rw [recCells_snoc _ _ _ _ Hps.out]
        exact hrow6
      have hoff1 := k.offs_le j hlt
      rw [Ha.out] at hoff1
      have hsum : (a : Int) + 8 + (k.recs[j].length : Int) = ((k.offs (j + 1) : Nat) : Int) := by
        rw [Hsucc.out, Ha.out]
        omega
      have hoff2 := Hoff.out (j + 1) hlt
      go_roundw
      case rel => exact ⟨j + 1, R', d', by omega, by rw [hsum], rfl, hrec6, hb6⟩
      case measure => rw [hsum]; simp only [intOf]; omega
    · obtain rfl : j = k.recs.length := by omega
      rw [List.take_length] at hrec
      have hdr := HE.out
      have hend : k.offs k.recs.length + 8 ≤ N → ∃ x r, rest = x :: r := by
        intro h
        cases hr : rest with
        | nil =>
          exfalso
          have h1 := congrArg List.length hdr
          rw [List.length_drop, HN.out, hr] at h1
          simp only [List.length_nil] at h1
          omega
        | cons x r => exact ⟨x, r, rfl⟩
      have hcell : k.offs k.recs.length + 8 ≤ N → wr.cell? ⟨g, k.offs k.recs.length, none⟩ = some (.int .u8 0) := by
        intro h
        obtain ⟨x, r, hxr⟩ := hend h
        have hx0 : x = 0 := Hq.out x (by rw [hxr]; rfl)
        have hx : ar[k.offs k.recs.length]? = some 0 := by
          have : (ar.drop (k.offs k.recs.length))[0]? = some 0 := by rw [hdr, hxr, hx0]; rfl
          rwa [List.getElem?_drop, Nat.add_zero] at this
        rcases hown.bytes with h | ⟨g', o', he, hr⟩
        · rw [h] at hx; cases hx
        · cases he
          have := hr _ (B8 0) (by rw [B8s_get, hx]; rfl)
          rwa [Nat.zero_add] at this
      have hbw' := hide hbw
      have Hb := hide hb
      have Hrec := hide hrec
      have HL := hide (Hl.out.below hbw)
      have d3 : wr.frozen? ⟨lb, 3, none⟩ = false := HL.out.frozen 3
      have d4 : wr.frozen? ⟨lb, 4, none⟩ = false := HL.out.frozen 4
      have d5 : wr.frozen? ⟨lb, 5, none⟩ = false := HL.out.frozen 5
      have e3 : wr.cell? ⟨lb, 3, none⟩ = some (.int .i64 (L.half : Int)) := HL.out.cell 3
      have e4 : wr.cell? ⟨lb, 4, none⟩ = some (.int .i64 (L.ed : Int)) := HL.out.cell 4
      have e5 : wr.cell? ⟨lb, 5, none⟩ = some (.int .i64 (L.cnt : Int)) := HL.out.cell 5
      clear hdr hend hbw hb hrec hown
      obtain ⟨a, ha⟩ : ∃ a, k.offs k.recs.length = a := ⟨_, rfl⟩
      rw [ha] at hcell hoj ⊢
      have Ha := hide ha
      have Hcell := hide hcell
      clear ha hcell
      have fin : LoadPost lb b L half k w (.returned (.tuple #[.slice A k.snap.length cA, .slice R k.recs.length d, .int .i64 0])) (((wr.setCell ⟨lb, 3, none⟩ (.int .i64 (half : Int))).setCell ⟨lb, 4, none⟩ (.int .i64 (a : Int))).setCell ⟨lb, 5, none⟩ (.int .i64 (k.recs.length : Int))) := by
        have hlt : lb < w.heap.size := Blk.lt Hl.out
        have hf : Fr (fun j => j = lb) wr (((wr.setCell ⟨lb, 3, none⟩ (.int .i64 (half : Int))).setCell ⟨lb, 4, none⟩ (.int .i64 (a : Int))).setCell ⟨lb, 5, none⟩ (.int .i64 (k.recs.length : Int))) := (((Fr.refl _ _).put1 3 _).put1 4 _).put1 5 _
        refine ⟨A, cA, R, d, rfl, (HownA.out.fr (Fr.of_below Hb.out) (fun _ _ h => h)).fr hf (fun j hj e => by have := HnewA.out j hj; omega), HnewA.out, (Hrec.out.more Hbel3.out.size).fr hf (fun j e => by omega), ?_, ((Fr.of_below hbw'.out).mono (fun _ _ h => False.elim h)).trans' hf (fun _ _ e => e)⟩
        have hblk := ((HL.out.set_ 3 (.int .i64 (half : Int))).set_ 4 (.int .i64 (a : Int))).set_ 5 (.int .i64 (k.recs.length : Int))
        have he : (Lg.loaded L half k).ed = a := by show k.enc.length = a; rw [Hen.out, Ha.out]
        have h2 : lcells b (Lg.loaded L half k) = (((lcells b L).setIfInBounds 3 (.int .i64 (half : Int))).setIfInBounds 4 (.int .i64 (a : Int))).setIfInBounds 5 (.int .i64 (k.recs.length : Int)) := by
          unfold lcells
          rw [he]
          simp [Lg.loaded]
        show Blk _ lb _ (lcells b (Lg.loaded L half k))
        rw [h2]
        exact hblk
      have Fin := hide fin
      clear fin
      by_cases h8 : a + 8 ≤ N
      · have hc := Hcell.out h8
        go_wp2
        exact bodyPost_ret (v := .tuple #[.slice A k.snap.length cA, .slice R k.recs.length d, .int .i64 0]) (by simp [results, Try.results38, go_sem]) rfl Fin.out
      · go_wp2
        exact bodyPost_ret (v := .tuple #[.slice A k.snap.length cA, .slice R k.recs.length d, .int .i64 0]) (by simp [results, Try.results38, go_sem]) rfl Fin.out
end Go.Proofs.Ytbcpplndmndkiaa
