/-
  What was synced stays, but for the first bytes of one block, if a write of it was torn: BlockTorn answers true for all bytes and numbers; no condition.
-/
import Derived.Test.YtfplafdpdfhpiaaOn
import Derived.Test.YtfplafdpdfhpiaaLaw
import Derived.Deep.CutRange
namespace Go.Proofs.Ytfplafdpdfhpiaa
open Go.RowKit Go.ChangeShapes Go.WideShapes Go.ChangeAt

set_option maxHeartbeats 1000000 in
theorem torn_long (A A' : Option Addr) (l c l' c' : Nat) (k t : Int) (w : World) (h : 64 < l ∨ 64 < l') :
    Calls Try.prog 4 #[.slice A l c, .slice A' l' c', .int .i64 k, .int .i64 t] w fun e w' => e = .returned (.bool true) ∧ Below w.heap.size w w' := by
  by_cases h1 : 64 < l
  all_goals
    have h2 : 64 < l ∨ 64 < l' := h
    clear h
    go_enter Try.func4, Try.ntmps4
    go_wp2_with fail
    refine (awake_any _).mono ?_
    rintro e w1 ⟨rfl, hb⟩
    have Hb := hide hb
    clear hb
    go_wp2_with fail
    refine (awake_any _).mono ?_
    rintro e w2 ⟨rfl, hb⟩
    have Hb2 := hide hb
    clear hb
    go_wp2
    go_ret
    exact ⟨rfl, Hb.out.trans (Hb2.out.mono Hb.out.size)⟩

theorem mk64_get (k : Nat) (hk : k < 64) : mk64[k]? = some (B8 0) := by
  have hz : ∀ m, m < 1 → ((Value.int .u8 0).cells)[m]! = B8 0 := by
    intro m hm
    obtain rfl : m = 0 := by omega
    rfl
  have hs : (Value.int .u8 0).cells.size = 1 := rfl
  unfold mk64 madeCells
  rw [Array.getElem?_map, Array.getElem?_range, if_pos hk]
  simp only [Option.map_some]
  rw [hs, hz _ (Nat.mod_lt _ (by omega))]
theorem splice_mk64 (p : List UInt8) (h : p.length ≤ 64) : Array.splice mk64 0 (B8s (p.take 64)) = (B8s (pad p)).toArray := by
  rw [List.take_of_length_le h]
  have hpl := pad_len p h
  apply Array.ext_getElem?
  intro m
  rw [splice_get _ _ _ _ (by rw [B8s_length, mk64_size]; omega), B8s_length]
  show _ = (B8s (pad p)).toArray[m]?
  rw [@List.getElem?_toArray Value (B8s (pad p)) m, B8s_get (pad p) m]
  by_cases h1 : m < p.length
  · rw [if_pos (by omega), Nat.sub_zero, B8s_get, pad, over, List.getElem?_append_left h1]
  · rw [if_neg (by omega)]
    by_cases h2 : m < 64
    · rw [mk64_get m h2, pad, over, List.getElem?_append_right (by omega), List.getElem?_drop, zero64, List.getElem?_replicate, if_pos (by omega)]
      rfl
    · rw [Array.getElem?_eq_none (by rw [mk64_size]; omega), List.getElem?_eq_none (by omega)]
      rfl

/-- so many blocks written with one content. -/
def same (c : List UInt8) (j : Nat) : List (Nat × List UInt8) := (List.range j).map fun i => (i, c)
theorem same_succ (c : List UInt8) (j : Nat) : same c (j + 1) = same c j ++ [(j, c)] := by simp [same, List.range_succ]
theorem same_len (c : List UInt8) (j : Nat) : (same c j).length = j := by simp [same]

/-- The two loops that write: ahead of round j. -/
def WrRel (w0 : World) (b : Nat) (dur : Nat → List UInt8) (n0 : Nat) (c : List UInt8) (i : Value) (wr : World) : Prop :=
  ∃ j : Nat, j ≤ 3 ∧ i = .int .i64 j ∧ ∃ F, On w0 wr b F ⟨3, dur, same c j, n0 + j, 0, false⟩

/-- The last loop: ahead of round j. -/
def TornRel (w0 : World) (b : Nat) (F : Nat → Prop) (D : Dk) (gw : Nat) (l l' : List UInt8) (i : Value) (wr : World) : Prop :=
  ∃ j : Nat, j ≤ 3 ∧ i = .int .i64 j ∧ On w0 wr b F D ∧ Blk wr gw 5 (B8s (pad l)).toArray ∧ Blk wr (gw + 1) 5 (B8s (pad l')).toArray

/-- what is left of three blocks of content P over which Q was written. -/
theorem torn_left (D : Dk) (P Q : List UInt8) (hd : ∀ i, i < 3 → D.dur i = P) (hp : D.pend = same Q 3) (keep torn : Int) (i : Nat) (hi : i < 3) :
    D.left keep torn i = if (i : Int) < max 0 keep then Q else if (i : Int) = max 0 keep then over P (Q.take (cl torn 64)) else P := by
  have e0 := hd 0 (by omega)
  have e1 := hd 1 (by omega)
  have e2 := hd 2 (by omega)
  unfold Dk.left
  rw [hp, same_len]
  have h3 : cl keep 3 = 0 ∧ max 0 keep = 0 ∨ cl keep 3 = 1 ∧ max 0 keep = 1 ∨ cl keep 3 = 2 ∧ max 0 keep = 2 ∨ cl keep 3 = 3 ∧ 3 ≤ max 0 keep := by unfold cl; omega
  have hi3 : i = 0 ∨ i = 1 ∨ i = 2 := by omega
  have hs : same Q 3 = [(0, Q), (1, Q), (2, Q)] := rfl
  rw [hs]
  rcases h3 with ⟨h, hk⟩ | ⟨h, hk⟩ | ⟨h, hk⟩ | ⟨h, hk⟩ <;> rw [h] <;> rcases hi3 with rfl | rfl | rfl <;> simp [view, upd, e0, e1, e2, hk] <;> intros <;> omega

set_option maxHeartbeats 1000000 in
theorem torn_any (A A' : Option Addr) (c c' : Nat) (l l' : List UInt8) (k t : Int) (w : World) (hl : l.length ≤ 64) (hl' : l'.length ≤ 64) (hb : Bytes w A l) (hb' : Bytes w A' l') :
    Calls Try.prog 4 #[.slice A l.length c, .slice A' l'.length c', .int .i64 k, .int .i64 t] w fun e w' => e = .returned (.bool true) ∧ Below w.heap.size w w' := by
  have Hb := hide hb
  have Hb' := hide hb'
  clear hb hb'
  go_enter Try.func4, Try.ntmps4
  go_wp2_with fail
  refine (awake_any _).mono ?_
  rintro e w1 ⟨rfl, hb1⟩
  have Hb1 := hide hb1
  clear hb1
  go_wp2_with fail
  have c0 : Calls Try.prog 11 #[.int .i64 3] w1 (NewPost 3 w1) := new_any 3 w1 (by decide) (by decide)
  refine c0.mono ?_
  intro e w2 hn
  obtain ⟨b, F, rfl, hon, _, _⟩ := On.of_new Hb1.out hn
  have Hon := hide hon
  clear hon hn c0
  go_wp2_with fail
  go_loopw [11] (fun i wr => WrRel w b (fun _ => zero64) 0 (pad l) i wr) (fun i _ => 3 - (intOf i).toNat)
  case atStart => exact ⟨0, by omega, rfl, F, Hon.out⟩
  case round =>
    obtain ⟨j, hj, rfl, F1, hon1⟩ := hrel
    by_cases hlt : j < 3
    · have hwd : Dk.writeD ⟨3, fun _ => zero64, same (pad l) j, 0 + j, 0, false⟩ (j : Int) l = ⟨3, fun _ => zero64, same (pad l) (j + 1), 0 + (j + 1), 0, false⟩ := by
        have hr : refuse ⟨3, fun _ => zero64, same (pad l) j, 0 + j, 0, false⟩ (j : Int) = 0 := by
          unfold refuse
          rw [if_neg (by simp only; omega)]
          rfl
        unfold Dk.writeD
        rw [if_neg (fun h => h hr), if_neg (by omega), same_succ]
        simp [Dk.wrote, Dk.begun]
      have Hwd := hide hwd
      have cw := write_all b F1 _ (j : Int) A c l.length l wr hon1.disk rfl (hon1.bytes Hb.out) ⟨by simp only; omega, by simp, by simp only [same_len]; omega⟩
      rw [hwd] at cw
      have Hon1 := hide hon1
      have Cw := hide cw
      clear hwd cw hon1
      go_wp2_with fail
      refine Cw.out.mono ?_
      intro e w3 hlv
      obtain ⟨rfl, F3, hon3, _, _⟩ := Hon1.out.leaves hlv
      have Hon3 := hide hon3
      clear hon3 hlv
      go_wp2
      go_roundw
      case rel => exact ⟨j + 1, by omega, by go_num, F3, Hon3.out⟩
      case measure => simp [intOf]; omega
    · obtain rfl : j = 3 := by omega
      have cs := sync_all b F1 _ wr hon1.disk ⟨by simp, by simp, by simp only [same_len]; omega⟩
      generalize Dk.syncE _ = es at cs
      have Hon1 := hide hon1
      have Cs := hide cs
      clear hon1 cs
      go_wp2_with fail
      refine Cs.out.mono ?_
      intro e w3 hlv
      obtain ⟨rfl, F3, hon3, _, _⟩ := Hon1.out.leaves hlv
      obtain ⟨P3, hP3⟩ : ∃ P3, P3 = view (fun _ => zero64) (same (pad l) 3) := ⟨_, rfl⟩
      have hon3' : On w w3 b F3 ⟨3, P3, same (pad l') 0, 4 + 0, 0, false⟩ := by rw [hP3]; exact hon3
      have hPd : ∀ i, i < 3 → P3 i = pad l := by
        intro i hi
        rw [hP3]
        have : i = 0 ∨ i = 1 ∨ i = 2 := by omega
        rcases this with rfl | rfl | rfl <;> rfl
      have Hon3 := hide hon3'
      have HPd := hide hPd
      clear hon3 hon3' hlv Hon1 hP3 hPd
      go_wp2_with fail
      go_loopw [12] (fun i wr => WrRel w b P3 4 (pad l') i wr) (fun i _ => 3 - (intOf i).toNat)
      case atStart => exact ⟨0, by omega, rfl, F3, Hon3.out⟩
      case round =>
        obtain ⟨j, hj, rfl, F1, hon1⟩ := hrel
        by_cases hlt : j < 3
        · have hwd : Dk.writeD ⟨3, P3, same (pad l') j, 4 + j, 0, false⟩ (j : Int) l' = ⟨3, P3, same (pad l') (j + 1), 4 + (j + 1), 0, false⟩ := by
            have hr : refuse ⟨3, P3, same (pad l') j, 4 + j, 0, false⟩ (j : Int) = 0 := by
              unfold refuse
              rw [if_neg (by simp only; omega)]
              rfl
            unfold Dk.writeD
            rw [if_neg (fun h => h hr), if_neg (by omega), same_succ]
            simp [Dk.wrote, Dk.begun]
            omega
          have cw := write_all b F1 _ (j : Int) A' c' l'.length l' _ hon1.disk rfl (hon1.bytes Hb'.out) ⟨by simp only; omega, by simp, by simp only [same_len]; omega⟩
          rw [hwd] at cw
          have Hon1 := hide hon1
          have Cw := hide cw
          clear hwd cw hon1
          go_wp2_with fail
          refine Cw.out.mono ?_
          intro e w3 hlv
          obtain ⟨rfl, F3, hon3, _, _⟩ := Hon1.out.leaves hlv
          have Hon3 := hide hon3
          clear hon3 hlv
          go_wp2
          go_roundw
          case rel => exact ⟨j + 1, by omega, by go_num, F3, Hon3.out⟩
          case measure => simp [intOf]; omega
        · obtain rfl : j = 3 := by omega
          have cr := restart_all b F1 _ k t _ hon1.disk ⟨by simp, by simp, by simp only [same_len]; omega⟩
          have Hon1 := hide hon1
          have Cr := hide cr
          clear hon1 cr
          go_wp2_with fail
          refine Cr.out.mono ?_
          intro e w5 hlv
          obtain ⟨rfl, F5, hon5, _, _⟩ := Hon1.out.leaves hlv
          obtain ⟨D5, hD5⟩ : ∃ D5, D5 = Dk.restarted ⟨3, P3, same (pad l') 3, 4 + 3, 0, false⟩ k t := ⟨_, rfl⟩
          rw [← hD5] at hon5
          have hn5 : D5.n = 3 := by rw [hD5]; rfl
          have ho5 : D5.off = false := by rw [hD5]; rfl
          have hv5 : ∀ i, i < 3 → view D5.dur D5.pend i = if (i : Int) < max 0 k then pad l' else if (i : Int) = max 0 k then over (pad l) ((pad l').take (cl t 64)) else pad l := by
            intro i hi
            rw [hD5]
            exact torn_left _ (pad l) (pad l') HPd.out rfl k t i hi
          have Hon5 := hide hon5
          have Hn5 := hide hn5
          have Ho5 := hide ho5
          have Hv5 := hide hv5
          clear hon5 hn5 ho5 hv5 hD5 hlv Hon1 Cr Hon3 Cs
          go_upto_if 62 with fail
          go_cut [13] from 60 to 62 (fun s w' => s = .int .i64 (max 0 k) ∧ w5 = w')
          case first =>
            by_cases hk : k < 0
            · go_wp2
              go_meet
              case rel => exact ⟨by rw [show max 0 k = 0 from by omega], rfl⟩
            · go_wp2
              go_meet
              case rel => exact ⟨by rw [show max 0 k = k from by omega], rfl⟩
          case rest =>
            obtain ⟨rfl, rfl⟩ := hcut
            have hk0 : 0 ≤ max 0 k := by omega
            generalize hkk : max 0 k = kk at *
            have Hkk := hide hkk
            clear hkk
            go_upto_if 65 with fail
            go_cut [14] from 63 to 65 (fun s w' => s = .int .i64 (max 0 t) ∧ w5 = w')
            case first =>
              by_cases hk : t < 0
              · go_wp2
                go_meet
                case rel => exact ⟨by rw [show max 0 t = 0 from by omega], rfl⟩
              · go_wp2
                go_meet
                case rel => exact ⟨by rw [show max 0 t = t from by omega], rfl⟩
            case rest =>
              obtain ⟨rfl, rfl⟩ := hcut
              go_upto_if 67 with fail
              go_cut [14] from 66 to 67 (fun s w' => s = .int .i64 ((cl t 64 : Nat) : Int) ∧ w5 = w')
              case first =>
                by_cases hk : 64 < max 0 t
                · go_wp2
                  go_meet
                  case rel => exact ⟨by rw [show ((cl t 64 : Nat) : Int) = 64 from by unfold cl; omega], rfl⟩
                · go_wp2
                  go_meet
                  case rel => exact ⟨by rw [show ((cl t 64 : Nat) : Int) = max 0 t from by unfold cl; omega], rfl⟩
              case rest =>
                obtain ⟨rfl, rfl⟩ := hcut
                have ht64 := cl_le t 64
                generalize htt : cl t 64 = tt at *
                clear htt
                have hmk : ∀ W : World, (Instr.makeSlice 31 (.int .i64 64) (.int .i64 64)).run Try.prog W = .ok (.slice (some ⟨W.heap.size, 0, none⟩) 64 64) (W.alloc (.cells mk64 5)) := fun W =>
                  run_make_all (P := Try.prog) 31 5 (.int .u8 0) 1 1 Try.underlying31 infoU8 .i64 .i64 64 (by omega) (by omega) (by omega) W
                go_upto_region 24 with fail
                have hon6 := (Hon5.out.alloc (.cells mk64 5)).alloc (.cells mk64 5)
                have hw6 : Blk ((w5.alloc (.cells mk64 5)).alloc (.cells mk64 5)) w5.heap.size 5 mk64 := (Blk.new _ _ _).alloc _
                have hn6 : Blk ((w5.alloc (.cells mk64 5)).alloc (.cells mk64 5)) (w5.heap.size + 1) 5 mk64 := by
                  have := Blk.new (w5.alloc (.cells mk64 5)) 5 mk64
                  rwa [show (w5.alloc (.cells mk64 5)).heap.size = w5.heap.size + 1 from by simp] at this
                have hgw : ¬ F5 w5.heap.size := fun h => by have := Hon5.out.lt _ h; omega
                have hgn : ¬ F5 (w5.heap.size + 1) := fun h => by have := Hon5.out.lt _ h; omega
                have hgw0 : w.heap.size ≤ w5.heap.size := Hon5.out.below.size
                obtain ⟨w6, hw6'⟩ : ∃ w6, w6 = (w5.alloc (.cells mk64 5)).alloc (.cells mk64 5) := ⟨_, rfl⟩
                rw [← hw6'] at hon6 hw6 hn6 ⊢
                obtain ⟨gw, hgwe⟩ : ∃ gw, gw = w5.heap.size := ⟨_, rfl⟩
                rw [← hgwe] at hw6 hn6 hgw hgn hgw0 ⊢
                have Hon6 := hide hon6
                have Hw6 := hide hw6
                have Hn6 := hide hn6
                clear hw6' hgwe hon6 hw6 hn6 hmk Hon5
                go_upto_region 25 with (refine wpList_copy_bytes rfl (.tmp 70) (.tmp 71) 31 31 rfl 5 Try.underlying31 (by kernel_rfl) gw 0 64 64 A l.length c rfl rfl l rfl (Hon6.out.bytes Hb.out) (Hw6.out.there 0 _ (by rw [mk64_size]; omega)) ?_)
                simp only [Act.put, List.setIfInBounds_toArray, List.set_cons_zero, List.set_cons_succ]
                generalize goInt _ = x72
                have hon7 : On w (w6.setCells gw 0 (B8s (l.take 64))) b F5 D5 := Hon6.out.fr (G := fun k => k = gw) ((Fr.refl _ _).puts1 _ _) (fun k hk e => hgw (e ▸ hk)) (fun k e => by omega)
                have hw7 : Blk (w6.setCells gw 0 (B8s (l.take 64))) gw 5 (B8s (pad l)).toArray := by
                  rw [← splice_mk64 l hl]; exact Blk.sets _ _ _ _ Hw6.out
                have hn7 : Blk (w6.setCells gw 0 (B8s (l.take 64))) (gw + 1) 5 mk64 := Hn6.out.fars (by omega) _ _
                obtain ⟨w7, hw7'⟩ : ∃ w7, w7 = w6.setCells gw 0 (B8s (l.take 64)) := ⟨_, rfl⟩
                rw [← hw7'] at hon7 hw7 hn7 ⊢
                have Hon7 := hide hon7
                have Hw7 := hide hw7
                have Hn7 := hide hn7
                clear hw7' hon7 hw7 hn7 Hon6 Hw6 Hn6
                go_upto_region 26 with (refine wpList_copy_bytes rfl (.tmp 73) (.tmp 74) 31 31 rfl 5 Try.underlying31 (by kernel_rfl) (gw + 1) 0 64 64 A' l'.length c' rfl rfl l' rfl (Hon7.out.bytes Hb'.out) (Hn7.out.there 0 _ (by rw [mk64_size]; omega)) ?_)
                simp only [Act.put, List.setIfInBounds_toArray, List.set_cons_zero, List.set_cons_succ]
                generalize goInt _ = x75
                have hon8 : On w (w7.setCells (gw + 1) 0 (B8s (l'.take 64))) b F5 D5 := Hon7.out.fr (G := fun k => k = gw + 1) ((Fr.refl _ _).puts1 _ _) (fun k hk e => hgn (e ▸ hk)) (fun k e => by omega)
                have hw8 : Blk (w7.setCells (gw + 1) 0 (B8s (l'.take 64))) gw 5 (B8s (pad l)).toArray := Hw7.out.fars (by omega) _ _
                have hn8 : Blk (w7.setCells (gw + 1) 0 (B8s (l'.take 64))) (gw + 1) 5 (B8s (pad l')).toArray := by
                  rw [← splice_mk64 l' hl']; exact Blk.sets _ _ _ _ Hn7.out
                obtain ⟨w8, hw8'⟩ : ∃ w8, w8 = w7.setCells (gw + 1) 0 (B8s (l'.take 64)) := ⟨_, rfl⟩
                rw [← hw8'] at hon8 hw8 hn8 ⊢
                have Hon8 := hide hon8
                have Hw8 := hide hw8
                have Hn8 := hide hn8
                clear hw8' hon8 hw8 hn8 Hon7 Hw7 Hn7
                have hpl := pad_len l hl
                have hpl' := pad_len l' hl'
                have Hpl := hide hpl
                have Hpl' := hide hpl'
                clear hpl hpl'
                go_wp2_with fail
                go_loopw [17] (fun i wr => TornRel w b F5 D5 gw l l' i wr) (fun i _ => 3 - (intOf i).toNat)
                case atStart => exact ⟨0, by omega, rfl, Hon8.out, Hw8.out, Hn8.out⟩
                case round =>
                  obtain ⟨j, hj, rfl, hon, hw, hn⟩ := hrel
                  by_cases hlt : j < 3
                  · have hr : refuse D5 (j : Int) = 0 := by unfold refuse; rw [Hn5.out, if_neg (by omega), Ho5.out]; rfl
                    have hv := Hv5.out j hlt
                    rcases Int.lt_or_le (j : Int) kk with hjk | hjk
                    · have cr := hon.read (j : Int) hr (pad l') (by rw [Int.toNat_natCast, hv, if_pos hjk])
                      have hne : ((j : Int) == kk) = false := by rw [beq_eq_false_iff_ne]; omega
                      have Hw := hide hw
                      have Hn := hide hn
                      have Cr := hide cr
                      clear hon hw hn hr hv cr
                      go_wp2_with fail
                      refine Cr.out.mono ?_
                      rintro e w9 ⟨ga, rfl, hon9, hblk9, hga, hga0, hf9, _⟩
                      have hw9 := Hw.out.fr hf9 (fun h => h)
                      have hn9 := Hn.out.fr hf9 (fun h => h)
                      have s1 : (convert 31 9 (.slice (some ⟨gw, 0, none⟩) 64 64)).run Try.prog w9 = .ok (.string ⟨(pad l).toArray⟩) w9 := run_str_bytes _ _ _ 5 Try.underlying31 Try.underlying5 Try.underlying9 _ 64 64 _ Hpl.out hw9.bytes
                      have s2 : (convert 31 9 (.slice (some ⟨gw + 1, 0, none⟩) 64 64)).run Try.prog w9 = .ok (.string ⟨(pad l').toArray⟩) w9 := run_str_bytes _ _ _ 5 Try.underlying31 Try.underlying5 Try.underlying9 _ 64 64 _ Hpl'.out hn9.bytes
                      have s3 : (convert 31 9 (.slice (some ⟨ga, 0, none⟩) 64 64)).run Try.prog w9 = .ok (.string ⟨(pad l').toArray⟩) w9 := run_str_bytes _ _ _ 5 Try.underlying31 Try.underlying5 Try.underlying9 _ 64 64 _ Hpl'.out hblk9.bytes
                      have Hon9 := hide hon9
                      have Hw9 := hide hw9
                      have Hn9 := hide hn9
                      clear hon9 hw9 hn9 hblk9 hf9 Hw Hn Cr
                      go_wp2
                      go_roundw
                      case rel => exact ⟨j + 1, by omega, by go_num, Hon9.out, Hw9.out, Hn9.out⟩
                      case measure => simp [intOf]; omega
                    · rcases Int.lt_or_eq_of_le hjk with hjk' | hjk'
                      · have cr := hon.read (j : Int) hr (pad l) (by rw [Int.toNat_natCast, hv, if_neg (by omega), if_neg (by omega)])
                        have hne : ((j : Int) == kk) = false := by rw [beq_eq_false_iff_ne]; omega
                        have Hw := hide hw
                        have Hn := hide hn
                        have Cr := hide cr
                        clear hon hw hn hr hv cr
                        go_wp2_with fail
                        refine Cr.out.mono ?_
                        rintro e w9 ⟨ga, rfl, hon9, hblk9, hga, hga0, hf9, _⟩
                        have hw9 := Hw.out.fr hf9 (fun h => h)
                        have hn9 := Hn.out.fr hf9 (fun h => h)
                        have s1 : (convert 31 9 (.slice (some ⟨gw, 0, none⟩) 64 64)).run Try.prog w9 = .ok (.string ⟨(pad l).toArray⟩) w9 := run_str_bytes _ _ _ 5 Try.underlying31 Try.underlying5 Try.underlying9 _ 64 64 _ Hpl.out hw9.bytes
                        have s3 : (convert 31 9 (.slice (some ⟨ga, 0, none⟩) 64 64)).run Try.prog w9 = .ok (.string ⟨(pad l).toArray⟩) w9 := run_str_bytes _ _ _ 5 Try.underlying31 Try.underlying5 Try.underlying9 _ 64 64 _ Hpl.out hblk9.bytes
                        have Hon9 := hide hon9
                        have Hw9 := hide hw9
                        have Hn9 := hide hn9
                        clear hon9 hw9 hn9 hblk9 hf9 Hw Hn Cr
                        go_wp2
                        go_roundw
                        case rel => exact ⟨j + 1, by omega, by go_num, Hon9.out, Hw9.out, Hn9.out⟩
                        case measure => simp [intOf]; omega
                      · have hov : (over (pad l) ((pad l').take tt)).length = 64 := by rw [over_len _ _ (by rw [List.length_take, Hpl.out]; omega), Hpl.out]
                        have cr := hon.read (j : Int) hr (over (pad l) ((pad l').take tt)) (by rw [Int.toNat_natCast, hv, if_neg (by omega), if_pos (by omega)])
                        have hne : ((j : Int) == kk) = true := by rw [beq_iff_eq]; omega
                        have hnl : decide ((j : Int) < kk) = false := by rw [decide_eq_false_iff_not]; omega
                        clear hjk hjk'
                        have htl : ((pad l').take tt).length = tt := by rw [List.length_take, Hpl'.out]; omega
                        have ht1 : (tt : Int) ≤ 64 := by omega
                        have ht0 : (0 : Int) ≤ (tt : Int) := by omega
                        have Hw := hide hw
                        have Hn := hide hn
                        have Cr := hide cr
                        have Hov := hide hov
                        have Htl := hide htl
                        clear hon hw hn hr hv cr hov htl
                        go_wp2_with fail
                        refine Cr.out.mono ?_
                        rintro e w9 ⟨ga, rfl, hon9, hblk9, hga, hga0, hf9, _⟩
                        have hw9 := Hw.out.fr hf9 (fun h => h)
                        have hn9 := Hn.out.fr hf9 (fun h => h)
                        have s1 : ∀ n, (convert 31 9 (.slice (some ⟨gw, 0, none⟩) 64 64)).run Try.prog (w9.drewN n) = .ok (.string ⟨(pad l).toArray⟩) (w9.drewN n) := fun n => run_str_bytes _ _ _ 5 Try.underlying31 Try.underlying5 Try.underlying9 _ 64 64 _ Hpl.out (Blk.drewN hw9 n).bytes
                        have s1' : (convert 31 9 (.slice (some ⟨gw, 0, none⟩) 64 64)).run Try.prog w9 = .ok (.string ⟨(pad l).toArray⟩) w9 := run_str_bytes _ _ _ 5 Try.underlying31 Try.underlying5 Try.underlying9 _ 64 64 _ Hpl.out hw9.bytes
                        have s2 : ∀ n, (convert 31 9 (.slice (some ⟨gw + 1, 0, none⟩) tt 64)).run Try.prog (w9.drewN n) = .ok (.string ⟨((pad l').take tt).toArray⟩) (w9.drewN n) := fun n => run_str_bytes _ _ _ 5 Try.underlying31 Try.underlying5 Try.underlying9 _ tt 64 _ Htl.out ((Blk.drewN hn9 n).bytes.take tt)
                        have s3 : ∀ n, (convert 31 9 (.slice (some ⟨ga, 0, none⟩) 64 64)).run Try.prog (w9.drewN n) = .ok (.string ⟨(over (pad l) ((pad l').take tt)).toArray⟩) (w9.drewN n) := fun n => run_str_bytes _ _ _ 5 Try.underlying31 Try.underlying5 Try.underlying9 _ 64 64 _ Hov.out (Blk.drewN hblk9 n).bytes
                        have s4 : ∀ n, (convert 31 9 (.slice (some ⟨gw, tt, none⟩) (64 - tt) (64 - tt))).run Try.prog (w9.drewN n) = .ok (.string ⟨((pad l).drop tt).toArray⟩) (w9.drewN n) := fun n => run_str_bytes _ _ _ 5 Try.underlying31 Try.underlying5 Try.underlying9 _ (64 - tt) (64 - tt) _ (by rw [List.length_drop, Hpl.out]) (by
                          have := (Blk.drewN hw9 n).bytes.drop tt
                          rwa [Nat.zero_add] at this)
                        have s5 : ∀ n, (convert 31 9 (.slice (some ⟨gw, 0, none⟩) 0 0)).run Try.prog (w9.drewN n) = .ok (.string ⟨#[]⟩) (w9.drewN n) := fun n => run_str_bytes _ _ _ 5 Try.underlying31 Try.underlying5 Try.underlying9 _ 0 0 [] rfl (.inl rfl)
                        have Hon9 := hide hon9
                        have Hw9 := hide hw9
                        have Hn9 := hide hn9
                        clear hon9 hw9 hn9 hblk9 hf9 Hw Hn Cr
                        by_cases h64 : tt = 64
                        · subst h64
                          have hadd : ∀ W : World, (Op.stringOp .add ⟨((pad l').take 64).toArray⟩ ⟨#[]⟩).run Try.prog W = .ok (.string ⟨(over (pad l) ((pad l').take 64)).toArray⟩) W := fun W => by
                            rw [run_string_add_sum (P := Try.prog) W _ _ (by
                              show ((pad l').take 64).toArray.size + (#[] : Array UInt8).size ≤ _
                              rw [List.size_toArray, Htl.out]
                              decide)]
                            congr 2
                            rw [over_all _ _ (by rw [Hpl.out, Htl.out])]
                            apply ByteArray.ext
                            simp
                          go_upto_region 34 with fail
                          go_quiet (fail)
                          have Hq := hide (Hon9.out.drewN nq)
                          have Hq1 := hide (Blk.drewN Hw9.out nq)
                          have Hq2 := hide (Blk.drewN Hn9.out nq)
                          go_wp2
                          go_roundw
                          case rel => ((repeat apply Exists.intro); exact ⟨⟨j + 1, by omega, by go_num, Hq.out, Hq1.out, Hq2.out⟩, rfl⟩)
                          case measure => simp [intOf]; omega
                        · have h64' : ¬ 64 = tt := fun h => h64 h.symm
                          have hadd : ∀ W : World, (Op.stringOp .add ⟨((pad l').take tt).toArray⟩ ⟨((pad l).drop tt).toArray⟩).run Try.prog W = .ok (.string ⟨(over (pad l) ((pad l').take tt)).toArray⟩) W := fun W => by
                            rw [run_string_add_sum (P := Try.prog) W _ _ (by
                              show ((pad l').take tt).toArray.size + ((pad l).drop tt).toArray.size ≤ _
                              rw [List.size_toArray, List.size_toArray, Htl.out, List.length_drop, Hpl.out]
                              omega)]
                            congr 2
                            rw [over, Htl.out]
                            apply ByteArray.ext
                            simp
                          go_upto_region 34 with fail
                          go_quiet (fail)
                          have Hq := hide (Hon9.out.drewN nq)
                          have Hq1 := hide (Blk.drewN Hw9.out nq)
                          have Hq2 := hide (Blk.drewN Hn9.out nq)
                          go_wp2
                          go_roundw
                          case rel => exact ⟨j + 1, by omega, by go_num, Hq.out, Hq1.out, Hq2.out⟩
                          case measure => simp [intOf]; omega
                  · obtain rfl : j = 3 := by omega
                    have Hon := hide hon
                    clear hon hw hn
                    go_wp2
                    go_ret
                    exact ⟨rfl, Hon.out.below⟩

theorem torn_walk (A A' : Option Addr) (c c' : Nat) (l l' : List UInt8) (k t : Int) (w : World) (hb : Bytes w A l) (hb' : Bytes w A' l') :
    Calls Try.prog 4 #[.slice A l.length c, .slice A' l'.length c', .int .i64 k, .int .i64 t] w fun e w' => e = .returned (.bool true) ∧ Below w.heap.size w w' := by
  by_cases h : 64 < l.length ∨ 64 < l'.length
  · exact torn_long A A' l.length c l'.length c' k t w h
  · exact torn_any A A' c c' l l' k t w (by omega) (by omega) hb hb'

set_option maxRecDepth 100000 in
theorem blockTorn_lifted (os : Os) (started : os.Started) (H : Type) (enc : TypeId × Value → H) :
    ReturnsInHanded {} Try.checked os 4 .any (Rows.blockTornSpec.pre6 enc Try.prog Try.f4 Rows.blockTornRow.domain false) (Rows.blockTornSpec.post enc Try.prog Try.f4 false true false false) := by
  refine returnsInHanded_of_change (C := Try.checked) own0 started (by kernel_rfl) Try.func4
    (ChangeSpec.witness6 (enc := enc) (C := Try.checked) false ⟨#[], #[.slice none 0 0, .slice none 0 0, .int .i64 0, .int .i64 0], []⟩ 8 (by kernel_rfl) (by kernel_rfl) (by kernel_rfl) (by kernel_rfl)) ?_
  intro W base args ds gs before hval0 hW _ _
  have hval : ∀ (j : Nat) t v, Try.f4.params[j]? = some t → args[j]? = some v → Value.okWide Try.prog W .any base t v := hval0
  have hW' := hW
  obtain ⟨p, q, hA0, hV, rfl, hfz, hnd⟩ := hW
  have hA : DataW.TrodAll enc Try.prog W 0 (fun _ => true) true Try.f4.params.toList args.toList ds p := hA0
  rw [Try.params4] at hA hval
  obtain ⟨v0, v1, v2, v3, d0, d1, d2, d3, p0, p1, p2, p3, rfl, rfl, rfl, h0, h1, h2, h3⟩ := trodAll_four hA
  obtain ⟨rfl, rfl⟩ := trodVars_none hV
  obtain ⟨A0, c0, l0, rfl, b0, m0⟩ := open_bytes Try.underlying31 Try.underlying5 (by kernel_rfl) (hval 0 31 v0 rfl rfl) h0
  obtain ⟨A1, c1, l1, rfl, b1, m1⟩ := open_bytes Try.underlying31 Try.underlying5 (by kernel_rfl) (hval 1 31 v1 rfl rfl) h1
  obtain ⟨x2, rfl, rfl, rfl, w2⟩ := open_int Try.underlying3 (hval 2 3 v2 rfl rfl) h2
  obtain ⟨x3, rfl, rfl, rfl, w3⟩ := open_int Try.underlying3 (hval 3 3 v3 rfl rfl) h3
  clear hA0 hval0
  refine (torn_walk A0 A1 c0 c1 l0 l1 x2 x3 W b0 b1).mono fun e W' ⟨he, hb⟩ => ?_
  subst he
  exact ⟨_, rfl, law_close laid0 Try.underlying4 rfl rfl (by rw [Try.params4]; decide +kernel) hW' (fun gs hg => by subst hg; rfl) hb⟩

theorem blockTorn_holds : Rows.BlockTornSaid :=
  OpenClaim.holds_of_wide 4 Try.f4 rfl rfl rfl rfl rfl rfl rfl ⟨rfl, rfl, rfl, rfl, rfl⟩ rfl rfl rfl rfl rfl (by kernel_rfl) Try.func4 (by kernel_rfl)
    (of_decide_eq_true (by kernel_rfl)) (by unfold Func.isWrapper; first | (rw [if_pos (by decide +kernel)]; kernel_rfl) | (rw [if_neg (by decide +kernel)]; exact ⟨rfl, rfl⟩))
    (fun os started H enc _ => blockTorn_lifted os started H enc)

end Go.Proofs.Ytfplafdpdfhpiaa
