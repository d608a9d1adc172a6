/- Package block: Restart. -/
import Derived.Test.YtbcpplndmndkiaaDiskC
import Derived.Deep.CutRange
namespace Go.Proofs.Ytbcpplndmndkiaa
open Go.RowKit

set_option maxHeartbeats 400000 in
theorem restart_nil (k t : Int) (w : World) :
    Calls Try.prog 20 #[.pointer none, .int .i64 k, .int .i64 t] w fun e w' => e = .returned (.int .i64 6) ∧ w = w' := by
  go_enter Try.func20, Try.ntmps20
  go_wp2
  go_ret
  exact ⟨rfl, rfl⟩

/-- The first n as clamp has it. -/
def cl (k : Int) (n : Nat) : Nat := (max 0 (min k n)).toNat
theorem cl_le (k : Int) (n : Nat) : cl k n ≤ n := by unfold cl; omega
theorem cl_int (k : Int) (n : Nat) : max 0 (min k (n : Int)) = ((cl k n : Nat) : Int) := by unfold cl; omega

/-- What is durable behind a restart. -/
def Dk.left (D : Dk) (keep torn : Int) : Nat → List UInt8 :=
  match D.pend[cl keep D.pend.length]? with
  | some p => upd (view D.dur (D.pend.take (cl keep D.pend.length))) p.1 (over (view D.dur (D.pend.take (cl keep D.pend.length)) p.1) (p.2.take (cl torn 64)))
  | none => view D.dur (D.pend.take (cl keep D.pend.length))
def Dk.restarted (D : Dk) (keep torn : Int) : Dk := { D with dur := D.left keep torn, pend := [], fuse := 0, off := false }

/-- Of the blocks that the first k writes were to, what is durable; of the others, as it was. -/
def latK (lat dur : Nat → List UInt8) (l : List (Nat × List UInt8)) : Nat → List UInt8 := l.foldl (fun f p => upd f p.1 (dur p.1)) lat
theorem latK_snoc (lat dur : Nat → List UInt8) (l : List (Nat × List UInt8)) (p : Nat × List UInt8) : latK lat dur (l ++ [p]) = upd (latK lat dur l) p.1 (dur p.1) := by simp [latK]
theorem latK_at (lat dur : Nat → List UInt8) (l : List (Nat × List UInt8)) (j : Nat) : latK lat dur l j = if j ∈ l.map (·.1) then dur j else lat j := by
  have key : ∀ (l : List (Nat × List UInt8)) (lat : Nat → List UInt8), latK lat dur l j = if j ∈ l.map (·.1) then dur j else lat j := by
    intro l
    induction l with
    | nil => intro lat; simp [latK]
    | cons p r ih =>
      intro lat
      show latK (upd lat p.1 (dur p.1)) dur r j = _
      rw [ih]
      by_cases h1 : j ∈ r.map (·.1)
      · rw [if_pos h1, if_pos (by rw [List.map_cons]; exact List.mem_cons_of_mem _ h1)]
      · rw [if_neg h1]
        unfold upd
        by_cases h2 : j = p.1
        · rw [if_pos h2, if_pos (by rw [List.map_cons, h2]; exact List.mem_cons_self), h2]
        · rw [if_neg h2, if_neg (by rw [List.map_cons, List.mem_cons]; exact fun h => h.elim h2 h1)]
  exact key l lat
/-- a block that no write is to is as it was. -/
theorem view_other (l : List (Nat × List UInt8)) : ∀ (f : Nat → List UInt8) (j : Nat), j ∉ l.map (·.1) → view f l j = f j := by
  induction l with
  | nil => intro f j _; rfl
  | cons p r ih =>
    intro f j hj
    rw [List.map_cons, List.mem_cons] at hj
    show view (upd f p.1 p.2) r j = _
    rw [ih _ j (fun h => hj (.inr h))]
    exact if_neg (fun h => hj (.inl h))
theorem left_other (D : Dk) (keep torn : Int) (j : Nat) (hj : j ∉ D.pend.map (·.1)) : D.left keep torn j = D.dur j := by
  have hv : view D.dur (D.pend.take (cl keep D.pend.length)) j = D.dur j := view_other _ _ _ (fun h => hj (by
    obtain ⟨p, hp, he⟩ := List.mem_map.1 h
    exact List.mem_map.2 ⟨p, List.mem_of_mem_take hp, he⟩))
  unfold Dk.left
  cases hp : D.pend[cl keep D.pend.length]? with
  | none => exact hv
  | some p =>
    simp only
    unfold upd
    rw [if_neg (fun h => hj (List.mem_map.2 ⟨p, List.mem_of_getElem? hp, h.symm⟩))]
    exact hv
theorem latK_all (D : Dk) (keep torn : Int) : latK (view D.dur D.pend) (D.left keep torn) D.pend = D.left keep torn := by
  funext j
  rw [latK_at]
  by_cases h : j ∈ D.pend.map (·.1)
  · rw [if_pos h]
  · rw [if_neg h, view_other _ _ _ h, left_other _ _ _ _ h]
theorem left_len (D : Dk) (h : D.Wf) (keep torn : Int) : ∀ j, (D.left keep torn j).length = 64 := by
  have hv : ∀ j, (view D.dur (D.pend.take (cl keep D.pend.length)) j).length = 64 := view_len _ _ h.dlen (fun p hp => h.plen p (List.mem_of_mem_take hp))
  intro j
  unfold Dk.left
  cases hp : D.pend[cl keep D.pend.length]? with
  | none => exact hv j
  | some p =>
    refine upd_len hv _ _ ?_ j
    rw [over_len _ _ (by have := h.plen p (List.mem_of_getElem? hp); rw [hv, List.length_take]; omega)]
    exact hv _

/-- The loop of Restart: behind k rounds. -/
def RsRel (b bd bl : Nat) (pv : Value) (D : Dk) (lat : Nat → List UInt8) (F : Nat → Prop) (w : World) (i : Value) (wr : World) : Prop :=
  ∃ k : Nat, k ≤ D.pend.length ∧ i = .int .i64 k ∧ DiskL wr b bd bl pv D (latK lat D.dur (D.pend.take k)) ∧ Fr F w wr

set_option maxHeartbeats 1000000 in
theorem restart_any (b : Nat) (F : Nat → Prop) (D : Dk) (keep torn : Int) (w : World) (h : DiskAt w b F D) (hl : D.pend.length < 1000000) :
    Calls Try.prog 20 #[.pointer (some ⟨b, 0, none⟩), .int .i64 keep, .int .i64 torn] w (Leaves 0 b F (D.restarted keep torn) w) := by
  obtain ⟨bd, bl, pv, h, rfl⟩ := h
  obtain ⟨a, cp, rfl⟩ := pen_form h.pen
  have c2 : w.cell? ⟨b, 2, none⟩ = some (.slice a D.pend.length cp) := h.str.cell 2
  have H := hide h
  clear h
  have hk := cl_le keep D.pend.length
  generalize hkk : cl keep D.pend.length = k at *
  have hkc : max 0 (min keep (D.pend.length : Int)) = (k : Int) := by rw [cl_int, hkk]
  have Hkc := hide hkc
  have Hkk := hide hkk
  clear hkc hkk
  go_enter Try.func20, Try.ntmps20
  go_upto_if 28 with (first
    | (go_at_call 35; refine (clamp_any _ _ _).mono ?_; rintro e w1 ⟨rfl, rfl⟩; rw [Hkc.out])
    | (go_at_call 36; refine (settle_any _ _ _ _ D _ k _ H.out hk hl).mono ?_; rintro e w2 ⟨rfl, hd2, hfr2⟩; have k2 : w2.cell? ⟨b, 2, none⟩ = some (.slice a D.pend.length cp) := hd2.str.cell 2; have Hd2 := hide hd2; have Hfr2 := hide hfr2; clear hd2 hfr2 c2))
  go_cut [6] from 28 to 51 (fun s6 wc => s6 = .int .i64 0 ∧ DiskL wc b bd bl (.slice a D.pend.length cp) { D with dur := D.left keep torn } (view D.dur D.pend) ∧ Fr (fun k => k = bd) w wc)
  case first =>
    by_cases hlt : k < D.pend.length
    · obtain ⟨p, hp⟩ : ∃ p, D.pend[k]? = some p := ⟨_, List.getElem?_eq_getElem (by omega)⟩
      obtain ⟨g, rfl⟩ : ∃ g, a = some ⟨g, 0, none⟩ := by
        rcases H.out.pen.2 with ⟨_, h0⟩ | ⟨g, cap, cur, he, _⟩
        · omega
        · injection he with he; exact ⟨g, he⟩
      have hr : w2.rangeAt g (k * 65) (Value.int .i64 (p.1 : Int) :: B8s p.2) := pend_range Hd2.out.pen Hd2.out.wf.plen k p hp
      have e0 : w2.cell? ⟨g, k * 65, none⟩ = some (.int .i64 (p.1 : Int)) := hr 0 _ rfl
      have f0 : w2.cell? ⟨b, 0, none⟩ = some (.slice (some ⟨bd, 0, none⟩) D.n D.n) := Hd2.out.str.cell 0
      have hpn := H.out.wf.pat p (List.mem_of_getElem? hp)
      have hpl := H.out.wf.plen p (List.mem_of_getElem? hp)
      have hn4 := H.out.wf.hi
      have ht := cl_le torn 64
      have hcap : D.pend.length ≤ cp := by
        rcases H.out.pen.2 with ⟨_, h0⟩ | ⟨g, cap, cur, he, _, _, hc, _⟩
        · omega
        · injection he with _ _ he; omega
      generalize htt : cl torn 64 = t at *
      have htc : max 0 (min torn 64) = (t : Int) := by have := cl_int torn 64; rw [htt] at this; exact this
      have htl : (p.2.take t).length = t := by rw [List.length_take]; omega
      have hsrc : Bytes w2.drew (some ⟨g, k * 65 + 1, none⟩) (p.2.take t) := .inr ⟨g, k * 65 + 1, rfl, fun j v hv => by
        rw [B8s_get, List.getElem?_take] at hv
        split at hv
        · have := hr (j + 1) v (by rw [List.getElem?_cons_succ, B8s_get]; exact hv)
          rw [show k * 65 + (j + 1) = k * 65 + 1 + j from by omega] at this
          exact this
        · simp at hv⟩
      have ht1 : (t : Int) ≤ 64 := by omega
      have ht0 : (0 : Int) ≤ (t : Int) := by omega
      have Hp := hide hp
      have Hpl := hide hpl
      have Htc := hide htc
      have Htl := hide htl
      have Hsrc := hide hsrc
      have Htt := hide htt
      clear hr hp hpl htc htl hsrc htt
      go_upto_region 7 with fail
      refine wp_region_tail 16 (by kernel_rfl) (by kernel_rfl) ?_
      simp only [List.take_succ_cons, List.take_zero, List.drop_succ_cons, List.drop_zero]
      iterate 14 still_step
      still_call (show Calls Try.prog 35 #[.int .i64 torn, .int .i64 64] _ (fun e w' => e = .returned (.int .i64 (t : Int)) ∧ w' = _) from (clamp_any torn 64 _).mono (fun _ _ h => ⟨h.1.trans (by rw [Htc.out]), h.2.symm⟩))
      still_step
      refine wpStill_nil ?_
      refine wpList_copy_bytes rfl (.tmp 44) (.tmp 50) 22 22 rfl 5 Try.underlying22 (by kernel_rfl) bd (p.1 * 64) 64 64 (some ⟨g, k * 65 + 1, none⟩) t 64 rfl rfl _ Htl.out Hsrc.out (by have := Hd2.out.dur.there p.1 hpn 0 (min t 64) (by omega); simpa using this) ?_
      rw [List.take_of_length_le (by rw [Htl.out]; exact ht)]
      have hd3 : DiskL (w2.drew.setCells bd (p.1 * 64) (B8s (p.2.take t))) b bd bl (.slice (some ⟨g, 0, none⟩) D.pend.length cp) { D with dur := D.left keep torn } (view D.dur D.pend) := by
        have hq := (DiskL.fr Hd2.out (F := fun _ => False) ((Fr.refl _ _).drew) (fun _ _ hh => hh)).over p.1 hpn (p.2.take t) (by rw [Htl.out]; exact ht) (own_ne_dur Hd2.out)
        have e : D.left keep torn = upd (view D.dur (D.pend.take k)) p.1 (over (view D.dur (D.pend.take k) p.1) (p.2.take t)) := by
          unfold Dk.left
          rw [Hkk.out, Hp.out, Htt.out]
        rw [e]
        exact hq
      have hf3 : Fr (fun k => k = bd) w (w2.drew.setCells bd (p.1 * 64) (B8s (p.2.take t))) := Hfr2.out.drew.puts1 _ _
      have Hd3 := hide hd3
      have Hf3 := hide hf3
      clear hd3 hf3
      simp only [Act.put, List.setIfInBounds_toArray, List.set_cons_zero, List.set_cons_succ]
      go_wp2
      go_meet
      case rel => exact ⟨rfl, Hd3.out, Hf3.out⟩
    · have e : D.left keep torn = view D.dur (D.pend.take k) := by
        unfold Dk.left
        rw [Hkk.out, List.getElem?_eq_none (by omega)]
      have hd3 : DiskL w2 b bd bl (.slice a D.pend.length cp) { D with dur := D.left keep torn } (view D.dur D.pend) := by rw [e]; exact Hd2.out
      have Hd3 := hide hd3
      clear hd3 e
      go_wp2
      go_meet
      case rel => exact ⟨rfl, Hd3.out, Hfr2.out⟩
  case rest =>
    obtain ⟨rfl, hd, hf⟩ := hcut
    have e2 : wc.cell? ⟨b, 2, none⟩ = some (.slice a D.pend.length cp) := hd.str.cell 2
    have Hd := hide hd
    have Hf := hide hf
    clear hd hf k2 Hd2 Hfr2 Hkc Hkk hk
    go_wp2
    go_loopw [57] (fun i wr => RsRel b bd bl (.slice a D.pend.length cp) { D with dur := D.left keep torn } (view D.dur D.pend) (fun k => k = bd ∨ k = bl) w i wr) (fun i _ => D.pend.length - (intOf i).toNat)
    case atStart => exact ⟨0, Nat.zero_le _, rfl, Hd.out, Hf.out.mono (fun _ _ e => .inl e)⟩
    case round =>
      obtain ⟨k, hk, rfl, hd, hf⟩ := hrel
      have Hdr := hide hd
      have Hfr := hide hf
      simp only at hk
      by_cases hlt : k < D.pend.length
      · obtain ⟨p, hp⟩ : ∃ p, D.pend[k]? = some p := ⟨_, List.getElem?_eq_getElem (by omega)⟩
        obtain ⟨g, rfl⟩ : ∃ g, a = some ⟨g, 0, none⟩ := by
          rcases H.out.pen.2 with ⟨_, h0⟩ | ⟨g, cap, cur, he, _⟩
          · omega
          · injection he with he; exact ⟨g, he⟩
        have hr : wr.rangeAt g (k * 65) (Value.int .i64 (p.1 : Int) :: B8s p.2) := pend_range hd.pen hd.wf.plen k p hp
        have hpn := H.out.wf.pat p (List.mem_of_getElem? hp)
        have hpl := H.out.wf.plen p (List.mem_of_getElem? hp)
        have hcl : (Value.int .i64 (p.1 : Int) :: B8s p.2).length = 65 := by simp [B8s_length, hpl]
        have hn4 := H.out.wf.hi
        have hcap : D.pend.length ≤ cp := by
          rcases H.out.pen.2 with ⟨_, h0⟩ | ⟨g, cap, cur, he, _, _, hc, _⟩
          · omega
          · injection he with _ _ he; omega
        have hiw : (Try.prog.info? 74).map (·.size) = some (Value.int .i64 (p.1 : Int) :: B8s p.2).length := by rw [hcl]; kernel_rfl
        have hll := left_len D H.out.wf keep torn p.1
        have hil : (Try.prog.info? 72).map (·.size) = some (B8s (D.left keep torn p.1)).length := by rw [B8s_length, hll]; kernel_rfl
        have Hr := hide hr
        have Hp := hide hp
        have Hpl := hide hpl
        have Hcl := hide hcl
        have Hiw := hide hiw
        have Hll := hide hll
        have Hil := hide hil
        have zw := zeroW
        clear hr hp hpl hiw hd hf hcl hll hil Hd Hf e2
        go_upto_region 11 with (first
          | (refine wpList_load_mid rfl 74 (.tmp 59) rfl g (k * 65) rfl _ _ Hr.out Try.underlying74 rfl Hiw.out ?_)
          | (refine wpList_store_mid rfl 74 (.tmp 9) (.tmp 60) rfl wr.heap.size 0 _ rfl rfl (there_new _ _ _ _ (by rw [ZW_size, List.size_toArray, Hcl.out]; exact Nat.le_refl _)) (by rw [List.size_toArray]; exact Hiw.out) (all_oneCell_toArray (wcells_one p)) ?_
             rw [List.toList_toArray, setCells_new _ _ _ _ (by rw [Hcl.out, ZW_size])]))
        obtain ⟨w1, hw1⟩ : ∃ w1, w1 = wr.alloc (.cells (Value.int .i64 (p.1 : Int) :: B8s p.2).toArray 74) := ⟨_, rfl⟩
        rw [← hw1]
        have hd1 : DiskL w1 b bd bl (.slice (some ⟨g, 0, none⟩) D.pend.length cp) { D with dur := D.left keep torn } (latK (view D.dur D.pend) (D.left keep torn) (D.pend.take k)) := by rw [hw1]; exact Hdr.out.alloc _
        have hf1 : Fr (fun k => k = bd ∨ k = bl) w w1 := by rw [hw1]; exact Hfr.out.alloc _
        have hx : Blk w1 wr.heap.size 74 (Value.int .i64 (p.1 : Int) :: B8s p.2).toArray := by rw [hw1]; exact Blk.new _ _ _
        clear hw1
        have e0 : w1.cell? ⟨b, 0, none⟩ = some (.slice (some ⟨bd, 0, none⟩) D.n D.n) := hd1.str.cell 0
        have e1 : w1.cell? ⟨b, 1, none⟩ = some (.slice (some ⟨bl, 0, none⟩) D.n D.n) := hd1.str.cell 1
        have x0 : w1.cell? ⟨wr.heap.size, 0, none⟩ = some (.int .i64 (p.1 : Int)) := hx.cell 0
        have hrd : w1.drew.rangeAt bd (p.1 * 64) (B8s (D.left keep torn p.1)) := hd1.dur.range p.1 hpn Hll.out
        have Hd1 := hide hd1
        have Hf1 := hide hf1
        have Hrd := hide hrd
        clear hd1 hf1 hrd hx Hdr Hfr Hr
        simp only [Act.put]
        refine wp_region_tail 15 (by kernel_rfl) (by kernel_rfl) ?_
        simp only [List.take_succ_cons, List.take_zero, List.drop_succ_cons, List.drop_zero]
        iterate 13 still_step
        refine wpStill_load_mid rfl 72 (.tmp 73) rfl bd (p.1 * 64) rfl _ _ Hrd.out Try.underlying72 rfl Hil.out ?_
        still_step
        refine wpStill_nil ?_
        refine wpList_store_mid rfl 72 (.tmp 75) (.tmp 74) rfl bl (p.1 * 64) _ rfl rfl (by rw [List.size_toArray, B8s_length, Hll.out]; exact Hd1.out.lat.there p.1 hpn 0 64 (by omega)) (by rw [List.size_toArray]; exact Hil.out) (all_oneCell_toArray (B8s_one _)) ?_
        rw [List.toList_toArray]
        have Hfin : DiskL (w1.drew.setCells bl (p.1 * 64) (B8s (D.left keep torn p.1))) b bd bl (.slice (some ⟨g, 0, none⟩) D.pend.length cp) { D with dur := D.left keep torn } (latK (view D.dur D.pend) (D.left keep torn) (D.pend.take (k + 1))) := by
          have hq := (Hd1.out.fr (F := fun _ => False) ((Fr.refl _ _).drew) (fun _ _ hh => hh)).overLat p.1 hpn (D.left keep torn p.1) Hll.out
          rw [List.take_add_one, Hp.out, Option.toList_some, latK_snoc]
          exact hq
        have Hffin : Fr (fun k => k = bd ∨ k = bl) w (w1.drew.setCells bl (p.1 * 64) (B8s (D.left keep torn p.1))) := Fr.setCells (F := fun k => k = bd ∨ k = bl) (.inl (.inr rfl)) _ _ _ Hf1.out.drew
        have HFin := hide Hfin
        have HFfin := hide Hffin
        clear Hfin Hffin
        simp only [Act.put]
        go_wp2
        go_roundw
        case rel => exact ⟨k + 1, by simp only; omega, by go_num, HFin.out, HFfin.out⟩
        case measure => simp [intOf]; omega
      · obtain rfl : k = D.pend.length := by omega
        have d2 : wr.cell? ⟨b, 2, none⟩ = some (.slice a D.pend.length cp) := hd.str.cell 2
        have d4 : wr.cell? ⟨b, 4, none⟩ = some (.int .i64 D.fuse) := hd.str.cell 4
        have d5 : wr.cell? ⟨b, 5, none⟩ = some (.bool D.off) := hd.str.cell 5
        have z := hd.str.frozen
        clear hd hf Hd Hf e2
        go_wp2
        go_ret
        have hs := (DiskL.strike Hdr.out)
        rw [List.take_length, latK_all] at hs
        have hf4 : Fr (fun k => k = b) (wr.setCell ⟨b, 2, none⟩ (.slice none 0 0)) (((wr.setCell ⟨b, 2, none⟩ (.slice none 0 0)).setCell ⟨b, 4, none⟩ (.int .i64 0)).setCell ⟨b, 5, none⟩ (.bool false)) := ((Fr.refl _ _).put1 4 _).put1 5 _
        have hfin : DiskL (((wr.setCell ⟨b, 2, none⟩ (.slice none 0 0)).setCell ⟨b, 4, none⟩ (.int .i64 0)).setCell ⟨b, 5, none⟩ (.bool false)) b bd bl (.slice none 0 0) (D.restarted keep torn) (D.left keep torn) := by
          refine hs.1.put ⟨hs.1.wf.lo, hs.1.wf.hi, hs.1.wf.dlen, by simp [Dk.restarted], by simp [Dk.restarted]⟩ rfl rfl rfl ?_ hf4 (by simp [Value.ownBlock])
          have hb := (hs.1.str.set_ 4 (.int .i64 0)).set_ 5 (.bool false)
          simpa [dcells, Dk.restarted] using hb
        refine ⟨feet b bd bl (.slice none 0 0), rfl, ⟨bd, bl, _, hfin, rfl⟩, ?_, ?_⟩
        · refine ((Hfr.out.mono (fun _ _ e => ?_)).trans' hs.2 (fun _ _ e => .inl e)).trans' hf4 (fun _ _ e => .inl e)
          rcases e with e | e
          · exact .inr (.inl e)
          · exact .inr (.inr (.inl e))
        · rintro k (rfl | rfl | rfl | hk)
          · exact .inl (.inl rfl)
          · exact .inl (.inr (.inl rfl))
          · exact .inl (.inr (.inr (.inl rfl)))
          · cases hk

end Go.Proofs.Ytbcpplndmndkiaa
