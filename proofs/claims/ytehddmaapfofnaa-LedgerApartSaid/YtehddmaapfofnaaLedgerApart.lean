/-
  Two ledgers on one disk don't touch one another: LedgerApart answers true for any record and script; no condition.
-/
import Derived.Test.YtehddmaapfofnaaLwC
import Derived.Test.YtehddmaapfofnaaActsB
import Derived.Test.YtehddmaapfofnaaRegionF
import Derived.Deep.CutRange
import Derived.Deep.CutBlock
namespace Go.Proofs.Ytehddmaapfofnaa
open Go.RowKit Go.ChangeShapes Go.WideShapes Go.ChangeAt

theorem lays_own {f f' : Nat → List UInt8} {lo hi at_ bl half : Nat} {k : Kp} (hf : W64 f) (h2 : 2 ≤ bl) (hk : Lays f at_ bl half k) (h : Own f f' lo hi) (ha : at_ + 2 * bl ≤ lo ∨ hi ≤ at_) : Lays f' at_ bl half k := by
  have hle := hk.le1
  have hh : half * bl ≤ bl := by
    rcases Nat.le_one_iff_eq_zero_or_eq_one.1 hle with e | e
    · rw [e]; omega
    · rw [e]; omega
  refine lays_out hf h.w h2 hk ?_ (fun b h1 h2' => h.out b (by omega))
  unfold used sw
  rw [h.out at_ (by omega), h.out (at_ + bl) (by omega)]

def ApSt (w0 : World) (lb b ha : Nat) (p : List UInt8) (j : Nat) (wr : World) : Prop :=
  ∃ F L D k, LOn w0 wr lb b F L D ∧ St D L k ∧ L.at_ = 12 ∧ L.bl = 6 ∧ D.fuse = 0 ∧ D.ops ≤ 6000 * (j + 1) ∧ D.n = 24 ∧ ∃ half, half = ha ∧ Lays D.dur 0 6 half ⟨[], [p]⟩

theorem ApSt.snap {w0 wr : World} {lb b ha : Nat} {p : List UInt8} {j : Nat} (h : ApSt w0 lb b ha p j wr) (hj : j ≤ 20) (A : Option Addr) (n c : Nat) (q : List UInt8) (hn : q.length = n) (hb : Bytes wr A q) (hnl : n ≤ 500) :
    Calls Try.prog 19 #[.pointer (some ⟨lb, 0, none⟩), .slice A n c] wr fun e w' => ∃ E, e = .returned (.int .i64 E) ∧ ApSt w0 lb b ha p (j + 1) w' := by
  obtain ⟨F, L, D, k, h1, h2, h3, h4, h5, h6, h7, half, h8, h9⟩ := h
  refine (h1.snapshot h2 (by omega) (by omega) A n c q hn hb (by omega)).mono fun e w' ⟨F', he, hl, _, _⟩ => ⟨_, he, ?_⟩
  rcases h2.snapshot q with ⟨_, _, e1, e2⟩ | ⟨_, _, hd⟩ | ⟨_, _, _, hf⟩
  · rw [e1, e2] at hl
    exact ⟨F', L, D, k, hl, h2, h3, h4, h5, by omega, h7, half, h8, h9⟩
  · have ho := hd.own
    rw [h3, h4] at ho
    exact ⟨F', _, _, _, hl, hd.st, by rw [hd.at_, h3], by rw [hd.bl, h4], hd.fuse0 h5, by have := hd.ops; omega, by rw [hd.n, h7], half, h8, lays_own h2.w (by omega) h9 ho (.inl (by omega))⟩
  · exact absurd h5 hf
theorem ApSt.app {w0 wr : World} {lb b ha : Nat} {p : List UInt8} {j : Nat} (h : ApSt w0 lb b ha p j wr) (hj : j ≤ 20) (A : Option Addr) (n c : Nat) (q : List UInt8) (hn : q.length = n) (hb : Bytes wr A q) (hnl : n ≤ 500) :
    Calls Try.prog 16 #[.pointer (some ⟨lb, 0, none⟩), .slice A n c] wr fun e w' => ∃ E, e = .returned (.int .i64 E) ∧ ApSt w0 lb b ha p (j + 1) w' := by
  obtain ⟨F, L, D, k, h1, h2, h3, h4, h5, h6, h7, half, h8, h9⟩ := h
  refine (h1.append h2 (by omega) (by omega) A n c q hn hb (by omega)).mono fun e w' ⟨F', he, hl, _, _⟩ => ⟨_, he, ?_⟩
  rcases h2.append q with ⟨_, _, e1, e2⟩ | ⟨_, _, _, e1, e2⟩ | ⟨_, _, _, hd⟩ | ⟨_, _, _, _, hf⟩
  · rw [e1, e2] at hl
    exact ⟨F', L, D, k, hl, h2, h3, h4, h5, by omega, h7, half, h8, h9⟩
  · rw [e1, e2] at hl
    exact ⟨F', L, D, k, hl, h2, h3, h4, h5, by omega, h7, half, h8, h9⟩
  · have ho := hd.own
    rw [h3, h4] at ho
    exact ⟨F', _, _, _, hl, hd.st, by rw [hd.at_, h3], by rw [hd.bl, h4], hd.fuse0 h5, by have := hd.ops; omega, by rw [hd.n, h7], half, h8, lays_own h2.w (by omega) h9 ho (.inl (by omega))⟩
  · exact absurd h5 hf
theorem ApSt.below {w0 wr : World} {lb b ha : Nat} {p : List UInt8} {j : Nat} (h : ApSt w0 lb b ha p j wr) : Below w0.heap.size w0 wr := by
  obtain ⟨F, L, D, k, h1, _⟩ := h
  exact h1.below
theorem ApSt.up {w0 wr : World} {lb b ha : Nat} {p : List UInt8} {j : Nat} (h : ApSt w0 lb b ha p j wr) (hj : j ≤ 20) : ApSt w0 lb b ha p 20 wr := by
  obtain ⟨F, L, D, k, h1, h2, h3, h4, h5, h6, h7, h8⟩ := h
  exact ⟨F, L, D, k, h1, h2, h3, h4, h5, by omega, h7, h8⟩

set_option maxHeartbeats 1000000 in
theorem apart_long (A : Option Addr) (l c : Nat) (v1 : Value) (w : World) (h : 100 < l) :
    Calls Try.prog 6 #[.slice A l c, v1] w fun e w' => e = .returned (.bool true) ∧ Below w.heap.size w w' := by
  go_enter Try.func6, Try.ntmps6
  go_wp2_with fail
  refine (awake_any w).mono ?_
  rintro e w1 ⟨rfl, hb1⟩
  have Hb1 := hide hb1
  clear hb1
  go_wp2_with fail
  refine (awake_any w1).mono ?_
  rintro e w2 ⟨rfl, hb2⟩
  have Hb2 := hide (Hb1.out.trans (hb2.mono Hb1.out.size))
  clear hb2
  go_wp2
  go_ret
  exact ⟨rfl, Hb2.out⟩

set_option maxHeartbeats 16000000 in
theorem apart_any (A : Option Addr) (l c : Nat) (p : List UInt8) (S : Option Addr) (cs : Nat) (xs : List ActD) (w : World) (hp : p.length = l) (h100 : l ≤ 100) (hb : Bytes w A p) (hxs : Acts w S xs) (hxl : xs.length ≤ 9223372036854775807) :
    Calls Try.prog 6 #[.slice A l c, .slice S xs.length cs] w fun e w' => e = .returned (.bool true) ∧ Below w.heap.size w w' := by
  have Hb := hide hb
  have Hp := hide hp
  have Hx := hide hxs
  clear hb hp hxs
  go_enter Try.func6, Try.ntmps6
  go_wp2_with fail
  refine (awake_any w).mono ?_
  rintro e w1 ⟨rfl, hb1⟩
  have Hb1 := hide hb1
  clear hb1
  go_wp2_with fail
  have c0 : Calls Try.prog 27 #[.int .i64 24] w1 (NewPost 24 w1) := new_any 24 w1 (by omega) (by omega)
  refine c0.mono ?_
  rintro e w2 ⟨b, F0, rfl, hd0, hb0, hF0⟩
  have Hd0 := hide hd0
  have Hb2 := hide (Hb1.out.trans (hb0.mono Hb1.out.size))
  have HF0 := hide (fun k (hk : F0 k) => Nat.le_trans Hb1.out.size (hF0 k hk))
  clear hd0 hb0 hF0 c0 Hb1
  go_wp2_with fail
  have c1 := open_lies (w0 := w) (lies_new 24 0 6 (by omega) (by omega) (by omega)) Hd0.out Hb2.out HF0.out
  refine c1.mono ?_
  rintro e w3 ⟨la, _, _, _, _, rfl, _, _, ha3, hla, hb3, _⟩
  have Ha3 := hide ha3
  clear ha3 hb3 c1
  go_wp2_with fail
  have c2 := open_lies (w0 := w) (lies_new 24 12 6 (by omega) (by omega) (by omega)) Ha3.out.disk Ha3.out.below Ha3.out.own
  refine c2.mono ?_
  rintro e w4 ⟨lb, _, _, _, _, rfl, _, _, hb4, hlb, hbl4, _⟩
  have Hne := hide (show lb ≠ la from fun e => by have := Ha3.out.lb_lt; omega)
  have Ha4 := hide (Ha3.out.below_ hbl4)
  have Hb4 := hide hb4
  have sa := (lies_new 24 0 6 (by omega) (by omega) (by omega)).opened
  have Sa := hide sa
  clear hb4 hbl4 c2 sa Ha3 Hd0 Hb2 HF0 hlb hla
  go_wp2_with fail
  refine (Ha4.out.append_ok Sa.out (Nat.zero_le _) rfl A l c p Hp.out (Ha4.out.bytes Hb.out) (by omega) (by rw [Kp.need_with, Hp.out]; show 0 + 8 + 0 + 8 + l ≤ 64 * 5; omega)).mono ?_
  rintro e w5 ⟨L1, D1, hd1, F1, rfl, ha5, hf5, hF5⟩
  have hst : ApSt w lb b L1.half p 0 w5 := by
    have h0 := Hb4.out
    have hne1 : ¬ F1 lb := fun h => (hF5 lb h).elim h0.ne (fun h' => by have := h0.lb_lt; omega)
    have hw0 : W64 (Dk.new 24).dur := zero_w64
    have hL : Lays D1.dur 12 6 0 ⟨[], []⟩ := lays_own hw0 (by omega) (lays_new 12 6 (by omega)) hd1.own (.inr (by show 0 + 2 * 6 ≤ 12; omega))
    refine ⟨F1, Lg.opened 12 6 0 ⟨[], []⟩, D1, ⟨[], []⟩, ⟨Blk.fr h0.led hf5 (fun h => h.elim h0.ne Hne.out), ha5.disk, hne1, ha5.below, ha5.own, h0.lown⟩, ?_, rfl, rfl, hd1.fuse0 rfl, by have := hd1.ops; show D1.ops ≤ 6000; simp only [Dk.new] at this; omega, hd1.n, L1.half, rfl, ?_⟩
    · exact Lies.opened ⟨by omega, by rw [hd1.n]; show 12 + 2 * 6 ≤ 24; omega, by rw [hd1.n]; show 24 ≤ 4096; omega, hd1.st.pend, hd1.st.off, hd1.st.w, hL⟩
    · have h := hd1.st.lays
      rw [hd1.at_, hd1.bl] at h
      exact h
  have Hst := hide hst
  clear hst hd1 ha5 hf5 hF5 Ha4 Hb4 Sa Hne
  go_upto_block 0 with fail
  obtain ⟨ha, hha⟩ : ∃ ha, ha = L1.half := ⟨_, rfl⟩
  rw [← hha] at Hst
  clear hha
  go_cut [15] from 58 to 95 (fun _ w' => ApSt w lb b ha p 20 w')
  case first =>
    go_wp2_with fail
    go_loopw [15] (fun i wr => ∃ j : Nat, j ≤ 20 ∧ i = .int .i64 (j : Int) ∧ ApSt w lb b ha p j wr) (fun i _ => 20 - (intOf i).toNat)
    case atStart => exact ⟨0, by omega, rfl, Hst.out⟩
    case round =>
      obtain ⟨j, hj, rfl, hst⟩ := hrel
      clear Hst
      by_cases hl : j < xs.length
      · by_cases h20 : j < 20
        · obtain ⟨x, hx⟩ : ∃ x, xs[j]? = some x := ⟨_, List.getElem?_eq_getElem hl⟩
          obtain ⟨g, o, rfl, hat⟩ : ∃ g o, S = some ⟨g, o, none⟩ ∧ ActAt wr g (o + j * 5) x := by
            rcases Hx.out.below hst.below with h | ⟨g, o, h1, h2⟩
            · rw [h] at hl; simp at hl
            · exact ⟨g, o, h1, h2 j x hx⟩
          have k0 := hat.kind
          have k1 := hat.p
          have Hby := hide hat.bytes
          have hpl := hat.plen
          obtain ⟨hk0, hk255⟩ := hat.kwf
          have Hst := hide hst
          have Hxb := hide hst.below
          clear hst hat hx
          by_cases h500 : 500 < x.p.length
          · go_wp2
            go_ret
            exact ⟨rfl, Hxb.out⟩
          · by_cases hk : x.kind % 3 = 0
            · have hm : (x.kind % 3 == 0) = true := by rw [beq_iff_eq]; exact hk
              go_wp2_with fail
              refine (Hst.out.snap hj x.A x.p.length x.c x.p rfl Hby.out (by omega)).mono ?_
              rintro e w6 ⟨E, rfl, hst6⟩
              have Hst6 := hide hst6
              clear hst6 Hst k0 k1
              go_wp2
              go_roundw
              case rel => exact ⟨j + 1, by omega, by go_num, Hst6.out⟩
              case measure => simp [intOf]; omega
            · have hm : (x.kind % 3 == 0) = false := by rw [beq_eq_false_iff_ne]; exact hk
              go_wp2_with fail
              refine (Hst.out.app hj x.A x.p.length x.c x.p rfl Hby.out (by omega)).mono ?_
              rintro e w6 ⟨E, rfl, hst6⟩
              have Hst6 := hide hst6
              clear hst6 Hst k0 k1
              go_wp2
              go_roundw
              case rel => exact ⟨j + 1, by omega, by go_num, Hst6.out⟩
              case measure => simp [intOf]; omega
        · obtain rfl : j = 20 := by omega
          have Hd := hide hst
          clear hst
          go_wp2
          go_meet
          case rel => exact Hd.out
      · have Hd := hide (hst.up hj)
        clear hst
        go_wp2
        go_meet
        case rel => exact Hd.out
  case rest =>
    obtain ⟨F, L, D, k, h1, h2, h3, h4, h5, h6, h7, half, _, h9⟩ := hcut
    have hl9 : Lies D 0 6 half ⟨[], [p]⟩ := ⟨by omega, by rw [h7]; omega, by rw [h7]; omega, h2.pend, h2.off, h2.w, h9⟩
    have hop := open_lies (w0 := w) hl9 h1.disk h1.below h1.own
    have Hop := hide hop
    clear h1 h2 h3 h4 h5 h6 h7 h9 hl9 hop Hst
    go_wp2_with fail
    refine Hop.out.mono ?_
    rintro e w9 ⟨lb2, A9, c9, R9, d9, rfl, hA9, hR9, h9', _, hb9, _⟩
    have Hbw := hide (h9'.bytes Hb.out)
    have HA9 := hide hA9
    have HR9 := hide hR9
    have HB9 := hide h9'.below
    clear hA9 hR9 h9' hb9 Hop
    go_upto_region 17 with fail
    refine wp_region_tree (fun W => Below w9.heap.size w9 W) 12 (.read 0 (.read 1 (.read 2 (.read 3 (.read 4 (.read 6 (.read 7 (.fork 5 (.eff 8 (.read 9 (.eff 10 (.read 11 .nil)))) 8 (.read 9 (.eff 5 (.eff 10 (.read 11 .nil)))))))))))) (by kernel_rfl) (by kernel_rfl) (fun _ _ d _ _ h => by cases d <;> exact h) (Below.refl _ _).drew ?_
    simp only [Plan.ops, List.getElem?_toArray, List.getElem?_cons_zero, List.getElem?_cons_succ, Option.elim, List.drop_succ_cons, List.drop_zero]
    iterate 6 (refine wpTree_read rfl (fun W hW => (by go_simp; try with_reducible rfl)) ?_)
    refine wpTree_read (v := .string ⟨p.toArray⟩) rfl (fun W hW => (by
      have hc := str_run (c := c) Hp.out (Hbw.out.below hW (Nat.le_refl _))
      clear hW
      go_simp)) ?_
    simp only [Act.put, List.setIfInBounds_toArray, List.set_cons_zero, List.set_cons_succ]
    refine wpTree_fork ?_ ?_
    · refine wpEff_does rfl (fun K hK => ?_)
      refine wp_call_by 23 #[.slice A9 0 c9, .slice R9 1 d9] (by kernel_rfl) (kof_any A9 0 c9 [] _ R9 1 d9 [p] w9.drew rfl (HA9.out.fr (F := fun _ => False) (Fr.refl _ _).drew (fun _ _ h => h)) (HR9.out.fr (F := fun _ => False) (Fr.refl _ _).drew (fun _ h => False.elim h)) (by omega)) ?_
      rintro e w10 ⟨R10, c10, rfl, hk10, _, hb10⟩
      have hs10 : Below w9.heap.size w9 w10 := (Below.refl _ _).drew.trans hb10
      refine ⟨_, rfl, hK _ _ hs10 ?_⟩
      clear hK hb10
      simp only [Act.put, List.setIfInBounds_toArray, List.set_cons_zero, List.set_cons_succ]
      refine wpTree_eff (wpEff_does rfl (fun K hK => ?_))
      refine wp_buildSlice_cell 32 (.tmp 110) rfl (.string ⟨p.toArray⟩) rfl rfl 9 16 (.string ⟨#[]⟩) Try.underlying32 infoStr ?_
      have hs11 : Below w9.heap.size w9 (w10.alloc (.cells #[.string ⟨p.toArray⟩] 9)) := hs10.alloc hs10.size _
      refine hK _ _ hs11 ?_
      clear hK
      simp only [Act.put, List.setIfInBounds_toArray, List.set_cons_zero, List.set_cons_succ]
      refine wpTree_read (v := .agg #[.string ⟨#[]⟩, .slice (some ⟨w10.heap.size, 0, none⟩) 1 1]) rfl (fun W hW => (by first | (go_simp; done) | kernel_rfl | rfl)) ?_
      simp only [Act.put, List.setIfInBounds_toArray, List.set_cons_zero, List.set_cons_succ]
      refine wpTree_eff (wpEff_does rfl (fun K hK => ?_))
      refine wp_call_by 22 #[.agg #[.string ⟨#[]⟩, .slice R10 1 c10], .agg #[.string ⟨#[]⟩, .slice (some ⟨w10.heap.size, 0, none⟩) 1 1]] (by kernel_rfl) (ksame_any [] [] R10 (some ⟨w10.heap.size, 0, none⟩) 1 1 c10 1 [p] [p] _ (hk10.fr (F := fun _ => False) ((Fr.refl _ _).alloc _) (fun _ _ h => h)) (krow_lit w10 p) (by omega) (by omega)) ?_
      rintro e w14 ⟨rfl, hb14⟩
      have hs14 : Below w9.heap.size w9 w14 := hs11.trans (hb14.mono hs11.size)
      refine ⟨_, rfl, hK _ _ hs14 ?_⟩
      clear hK hb14
      rw [show sameB [] [] [p] [p] = true from decide_eq_true ⟨rfl, rfl⟩]
      simp only [Act.put, List.setIfInBounds_toArray, List.set_cons_zero, List.set_cons_succ]
      refine wpTree_read rfl (fun W hW => (by go_simp; try with_reducible rfl)) ?_
      refine wpTree_nil ?_
      simp only [Act.put, List.setIfInBounds_toArray, List.set_cons_zero, List.set_cons_succ]
      have Hfin := hide (HB9.out.trans (hs14.mono HB9.out.size))
      clear hs10 hs11 hk10 hs14
      go_wp2
      go_ret
      exact ⟨rfl, Hfin.out⟩
    · refine wpEff_does rfl (fun K hK => ?_)
      refine wp_buildSlice_cell 32 (.tmp 110) rfl (.string ⟨p.toArray⟩) rfl rfl 9 16 (.string ⟨#[]⟩) Try.underlying32 infoStr ?_
      have hs10 : Below w9.heap.size w9 (w9.drew.alloc (.cells #[.string ⟨p.toArray⟩] 9)) := (Below.refl _ _).drew.alloc (Nat.le_refl _) _
      have hf10 : Fr (fun _ => False) w9 (w9.drew.alloc (.cells #[.string ⟨p.toArray⟩] 9)) := (Fr.refl _ _).drew.alloc _
      refine hK _ _ hs10 ?_
      clear hK
      simp only [Act.put, List.setIfInBounds_toArray, List.set_cons_zero, List.set_cons_succ]
      refine wpTree_read (v := .agg #[.string ⟨#[]⟩, .slice (some ⟨w9.drew.heap.size, 0, none⟩) 1 1]) rfl (fun W hW => (by first | (go_simp; done) | kernel_rfl | rfl)) ?_
      simp only [Act.put, List.setIfInBounds_toArray, List.set_cons_zero, List.set_cons_succ]
      refine wpTree_eff (wpEff_does rfl (fun K hK => ?_))
      refine wp_call_by 23 #[.slice A9 0 c9, .slice R9 1 d9] (by kernel_rfl) (kof_any A9 0 c9 [] _ R9 1 d9 [p] _ rfl (HA9.out.fr (F := fun _ => False) hf10 (fun _ _ h => h)) (HR9.out.fr (F := fun _ => False) hf10 (fun _ h => False.elim h)) (by omega)) ?_
      rintro e w11 ⟨R10, c10, rfl, hk10, _, hb11⟩
      have hs11 : Below w9.heap.size w9 w11 := hs10.trans (hb11.mono hs10.size)
      refine ⟨_, rfl, hK _ _ hs11 ?_⟩
      clear hK
      simp only [Act.put, List.setIfInBounds_toArray, List.set_cons_zero, List.set_cons_succ]
      refine wpTree_eff (wpEff_does rfl (fun K hK => ?_))
      refine wp_call_by 22 #[.agg #[.string ⟨#[]⟩, .slice R10 1 c10], .agg #[.string ⟨#[]⟩, .slice (some ⟨w9.drew.heap.size, 0, none⟩) 1 1]] (by kernel_rfl) (ksame_any [] [] R10 (some ⟨w9.drew.heap.size, 0, none⟩) 1 1 c10 1 [p] [p] w11 hk10 ((krow_lit w9.drew p).fr (F := fun _ => False) (Fr.of_below hb11) (fun _ _ h => h)) (by omega) (by omega)) ?_
      rintro e w14 ⟨rfl, hb14⟩
      have hs14 : Below w9.heap.size w9 w14 := hs11.trans (hb14.mono hs11.size)
      refine ⟨_, rfl, hK _ _ hs14 ?_⟩
      clear hK hb14
      rw [show sameB [] [] [p] [p] = true from decide_eq_true ⟨rfl, rfl⟩]
      simp only [Act.put, List.setIfInBounds_toArray, List.set_cons_zero, List.set_cons_succ]
      refine wpTree_read rfl (fun W hW => (by go_simp; try with_reducible rfl)) ?_
      refine wpTree_nil ?_
      simp only [Act.put, List.setIfInBounds_toArray, List.set_cons_zero, List.set_cons_succ]
      have Hfin := hide (HB9.out.trans (hs14.mono HB9.out.size))
      clear hs10 hf10 hs11 hk10 hb11 hs14
      go_wp2
      go_ret
      exact ⟨rfl, Hfin.out⟩

theorem apart_walk (A : Option Addr) (c : Nat) (p : List UInt8) (S : Option Addr) (cs : Nat) (xs : List ActD) (w : World) (hb : Bytes w A p) (hxs : Acts w S xs) (hxl : xs.length ≤ 9223372036854775807) :
    Calls Try.prog 6 #[.slice A p.length c, .slice S xs.length cs] w fun e w' => e = .returned (.bool true) ∧ Below w.heap.size w w' := by
  by_cases h : 100 < p.length
  · exact apart_long A _ c _ w h
  · exact apart_any A _ c p S cs xs w rfl (by omega) hb hxs hxl

set_option maxRecDepth 100000 in
theorem ledgerApart_lifted (os : Os) (started : os.Started) (H : Type) (enc : TypeId × Value → H) :
    ReturnsInHanded {} Try.checked os 6 .any (Rows.ledgerApartSpec.pre6 enc Try.prog Try.f6 Rows.ledgerApartRow.domain false) (Rows.ledgerApartSpec.post enc Try.prog Try.f6 false true false false) := by
  refine returnsInHanded_of_change (C := Try.checked) own0 started (by kernel_rfl) Try.func6
    (ChangeSpec.witness6 (enc := enc) (C := Try.checked) false ⟨#[], #[.slice none 0 0, .slice none 0 0], []⟩ 8 (by kernel_rfl) (by kernel_rfl) (by kernel_rfl) (by kernel_rfl)) ?_
  intro W base args ds gs before hval0 hW _ _
  have hval : ∀ (j : Nat) t v, Try.f6.params[j]? = some t → args[j]? = some v → Value.okWide Try.prog W .any base t v := hval0
  have hW' := hW
  obtain ⟨p, q, hA0, hV, rfl, hfz, hnd⟩ := hW
  have hA : DataW.TrodAll enc Try.prog W 0 (fun _ => true) true Try.f6.params.toList args.toList ds p := hA0
  rw [Try.params6] at hA hval
  obtain ⟨v0, v1, d0, d1, p0, p1, rfl, rfl, rfl, h0, h1⟩ := trodAll_two hA
  obtain ⟨rfl, rfl⟩ := trodVars_none hV
  obtain ⟨A0, c0, l0, rfl, b0, m0⟩ := open_bytes Try.underlying22 Try.underlying5 (by kernel_rfl) (hval 0 22 v0 rfl rfl) h0
  obtain ⟨A1, c1, l1, rfl, b1, m1⟩ := open_acts (hval 1 27 v1 rfl rfl) h1
  clear hA0 hval0
  refine (apart_walk A0 c0 l0 A1 c1 l1 W b0 b1 m1).mono fun e W' ⟨he, hb⟩ => ?_
  subst he
  exact ⟨_, rfl, law_close laid0 Try.underlying4 rfl rfl (by rw [Try.params6]; decide +kernel) hW' (fun gs hg => by subst hg; rfl) hb⟩

theorem ledgerApart_holds : Rows.LedgerApartSaid :=
  OpenClaim.holds_of_wide 6 Try.f6 rfl rfl rfl rfl rfl rfl rfl ⟨rfl, rfl, rfl, rfl, rfl⟩ rfl rfl rfl rfl rfl (by kernel_rfl) Try.func6 (by kernel_rfl)
    (of_decide_eq_true (by kernel_rfl)) (by unfold Func.isWrapper; first | (rw [if_pos (by decide +kernel)]; kernel_rfl) | (rw [if_neg (by decide +kernel)]; exact ⟨rfl, rfl⟩))
    (fun os started H enc _ => ledgerApart_lifted os started H enc)

end Go.Proofs.Ytehddmaapfofnaa
