/- Package wire: Reader.Entity, of an entity's bytes. -/
import Derived.Test.YteoimkjocijcjaaVs
import Derived.Test.YteoimkjocijcjaaEa
import Derived.Test.YteoimkjocijcjaaEb
namespace Go.Proofs.Yteoimkjocijcjaa
open Go.RowKit

theorem zeroEnt (w : World) : (zeroValue 25).run Try.prog w = .ok (.agg #[.string ⟨#[]⟩, .string ⟨#[]⟩, .slice none 0 0, .slice none 0 0]) w := by
  have h : (Try.prog.info? 25).map (·.zero) = some (some (.agg #[.string ⟨#[]⟩, .string ⟨#[]⟩, .slice none 0 0, .slice none 0 0])) := by kernel_rfl
  obtain ⟨i, hi, hz⟩ := Option.map_eq_some_iff.1 h
  simp [zeroValue, typeInfo, hi, hz]
theorem buildEnt (a b : List UInt8) (KA LA : Option Addr) (n c m d : Nat) (w : World) : (Instr.build 25 #[(0, sv a), (1, sv b), (2, .slice KA n c), (3, .slice LA m d)]).run Try.prog w = .ok (.agg #[sv a, sv b, .slice KA n c, .slice LA m d]) w := run_build w _ _ _ (by kernel_rfl)
theorem buildEnt0 (w : World) : (Instr.build 25 #[]).run Try.prog w = .ok (.agg #[.string ⟨#[]⟩, .string ⟨#[]⟩, .slice none 0 0, .slice none 0 0]) w := run_build w _ _ _ (by kernel_rfl)
theorem VC.srow {w : World} {G : Nat → Prop} {k : Nat} {n : Int} {s : List UInt8} {ks : List (List UInt8)} {ls : List V} {a b c : Value} {KA : Option Addr} {m d : Nat} {e : Value} (h : VC w G (.mk k n s ks ls) [a, b, c, .slice KA m d, e]) : SRow w G KA ks := by
  cases h; assumption
/-- What Reader.Entity has come to. -/
def EntPost (rb : Nat) (typ eid : List UInt8) (ks : List (List UInt8)) (ls : List V) (w : World) (e : Ending) (w' : World) : Prop :=
  ∃ c0 c1 c2 c3, e = .returned (.agg #[c0, c1, c2, c3]) ∧ (∀ u ∈ [c0, c1, c2, c3], u.oneCell' = true) ∧ Fr (fun k => k = rb) w w' ∧
    ((IncP ks ks.length ∧ c0 = sv typ ∧ c1 = sv eid ∧ VC w' (New w w') (.mk 6 0 [] ks ls) [.int .u8 6, .int .i64 0, sv [], c2, c3] ∧ Rd w' rb [] false) ∨ (¬ IncP ks ks.length ∧ Rd w' rb [] true))
set_option maxRecDepth 100000 in
set_option maxHeartbeats 4000000 in
theorem rentityM_any (rb : Nat) (typ eid : List UInt8) (ks : List (List UInt8)) (ls : List V) (w : World) (h : Rd w rb (entB typ eid (.mk 6 0 [] ks ls)) false) (hf : formP 24 (.mk 6 0 [] ks ls)) (hvc : ∃ w0 G cs, VC w0 G (.mk 6 0 [] ks ls) cs)
    (ht : typ.length ≤ 32) (hi : eid.length ≤ 200) :
    Calls Try.prog 10 #[.pointer (some ⟨rb, 0, none⟩)] w (EntPost rb typ eid ks ls w) := by
  have hq : rdV 24 (encV (.mk 6 0 [] ks ls)) = some (.mk 6 0 [] ks ls, []) := by
    obtain ⟨w0, G, cs, hv⟩ := hvc
    have h := rdV_enc 24 (.mk 6 0 [] ks ls) [] hf ⟨cs, hv⟩
    rwa [List.append_nil] at h
  have hE := Blk.new w 25 #[.string ⟨#[]⟩, .string ⟨#[]⟩, .slice none 0 0, .slice none 0 0]
  have f0 : Fr (fun k => k = rb) w (w.alloc (.cells #[.string ⟨#[]⟩, .string ⟨#[]⟩, .slice none 0 0, .slice none 0 0] 25)) := (Fr.refl _ _).alloc _
  have h0 : Rd (w.alloc (.cells #[.string ⟨#[]⟩, .string ⟨#[]⟩, .slice none 0 0, .slice none 0 0] 25)) rb (entB typ eid (.mk 6 0 [] ks ls)) false := h.fr (F := fun _ => False) ((Fr.refl _ _).alloc _) (fun _ h => h.elim)
  obtain ⟨w1, hw1⟩ : ∃ w1, w.alloc (.cells #[.string ⟨#[]⟩, .string ⟨#[]⟩, .slice none 0 0, .slice none 0 0] 25) = w1 := ⟨_, rfl⟩
  rw [hw1] at hE f0 h0
  obtain ⟨eb, hx⟩ : ∃ eb, w.heap.size = eb := ⟨_, rfl⟩
  rw [hx] at hE
  have hne : eb ≠ rb := by
    obtain ⟨A, c, hr, _⟩ := h0
    exact hE.ne_ hr (by decide)
  have hs1 : w1.heap.size = eb + 1 := by rw [← hw1, ← hx]; simp
  have ht1 := rtext_all rb _ false 32 w1 h0 (by omega)
  rw [show (32 : Int).toNat = 32 from rfl, entB, rdText_enc typ 32 _ (by omega), if_pos ht] at ht1
  have Ht1 := hide (show Calls Try.prog 19 #[.pointer (some ⟨rb, 0, none⟩), .int .i64 32] w1 (RPost rb (sv typ) (textB eid ++ encV (.mk 6 0 [] ks ls)) false w1) from ht1)
  have Hx := hide hx
  have HE := hide hE
  have F0 := hide f0
  have Hne := hide hne
  have Hs1 := hide hs1
  have Hq := hide hq
  have Hi := hide hi
  have za := zeroEnt
  have zv := zeroV
  clear h hf hvc ht hi hq hE f0 h0 hne hs1 ht1
  go_enter Try.func10, Try.ntmps10
  go_wp2_with fail
  refine Ht1.out.mono ?_
  rintro e w2 ⟨rfl, h2, f2⟩
  have ht2 := rtext_all rb _ false 200 w2 h2 (by omega)
  rw [show (200 : Int).toNat = 200 from rfl, rdText_enc eid 200 _ (by have := Hi.out; omega), if_pos Hi.out] at ht2
  have Ht2 := hide (show Calls Try.prog 19 #[.pointer (some ⟨rb, 0, none⟩), .int .i64 200] w2 (RPost rb (sv eid) (encV (.mk 6 0 [] ks ls)) false w2) from ht2)
  have HE2 := hide (HE.out.fr f2 Hne.out)
  have F2 := hide (F0.out.trans' f2 (fun _ _ h => h))
  have Hs2 := hide f2.size
  clear h2 f2 ht2 Ht1 HE F0
  go_wp2_with fail
  refine Ht2.out.mono ?_
  rintro e w3 ⟨rfl, h3, f3⟩
  have Hv := hide (rvalueM_any rb _ false w3 h3)
  have HE3 := hide (HE2.out.fr f3 Hne.out)
  have F3 := hide (F2.out.trans' f3 (fun _ _ h => h))
  have Hs3 := hide (show w1.heap.size ≤ w3.heap.size from Nat.le_trans Hs2.out f3.size)
  clear h3 f3 Ht2 HE2 F2 Hs2
  go_wp2_with fail
  refine Hv.out.mono ?_
  rintro e w4 ⟨cs4, rfl, h14, f4, hcase⟩
  rcases hcase with ⟨v, r, hq4, hv4, hr4⟩ | ⟨hq4, _⟩
  case inr => exact absurd (Hq.out.symm.trans hq4) (by simp)
  have he4 := Hq.out.symm.trans hq4
  injection he4 with he4
  injection he4 with he1 he2
  subst he1 he2
  obtain ⟨KA, LA, kc, lc, hcs4⟩ : ∃ KA LA kc lc, cs4 = [.int .u8 6, .int .i64 0, sv [], .slice KA ks.length kc, .slice LA ls.length lc] := by cases hv4; exact ⟨_, _, _, _, rfl⟩
  subst hcs4
  have hkl : ks.length ≤ 9223372036854775807 := by cases hv4; assumption
  have HE4 := hide (HE3.out.fr f4 Hne.out)
  have F4 := hide (F3.out.trans' f4 (fun _ _ h => h))
  have Hs4 := hide (show w1.heap.size ≤ w4.heap.size from Nat.le_trans Hs3.out f4.size)
  have Hv4 := hide hv4
  have Hr4 := hide hr4
  have Hkl := hide hkl
  clear hv4 hr4 f4 h14 hq4 Hv HE3 F3 hkl
  go_upto_region 3 with (first
    | (refine wpList_store_mid rfl 27 (.tmp 5) (.tmp 11) rfl w4.heap.size 0 #[.int .u8 6, .int .i64 0, sv [], .slice KA ks.length kc, .slice LA ls.length lc] rfl rfl (there_new _ _ _ _ (by show 5 ≤ 5; omega)) (by kernel_rfl) (by rfl) ?_
       rw [show (#[.int .u8 6, .int .i64 0, sv [], .slice KA ks.length kc, .slice LA ls.length lc] : Array Value).toList = [.int .u8 6, .int .i64 0, sv [], .slice KA ks.length kc, .slice LA ls.length lc] from rfl, setCells_new _ _ _ _ (by rfl)]))
  obtain ⟨w5, hw5⟩ : ∃ w5, w4.alloc (.cells [.int .u8 6, .int .i64 0, sv [], .slice KA ks.length kc, .slice LA ls.length lc].toArray 27) = w5 := ⟨_, rfl⟩
  have f5 : Fr (fun _ => False) w4 w5 := by rw [← hw5]; exact (Fr.refl _ _).alloc _
  have Bv : Blk w5 w4.heap.size 27 #[.int .u8 6, .int .i64 0, sv [], .slice KA ks.length kc, .slice LA ls.length lc] := by rw [← hw5]; exact Blk.new _ _ _
  have HE5 := hide (HE4.out.fr f5 (fun h => h))
  have F5 := hide (F4.out.trans' f5 (fun _ _ h => h.elim))
  have Hv5 := hide (Hv4.out.fr f5 (fun _ _ h => h))
  have Hr5 := hide (Hr4.out.fr f5 (fun _ h => h.elim))
  have Hs5 := hide f5.size
  rw [hw5]
  obtain ⟨vb, hvb⟩ : ∃ vb, w4.heap.size = vb := ⟨_, rfl⟩
  rw [hvb] at Bv ⊢
  have v0 := Bv.cell 0
  have v3 := Bv.cell 3
  have v4 := Bv.cell 4
  have Hinc := hide (incr_any _ KA ks kc w5 Hv5.out.srow Hkl.out)
  have HBv := hide Bv
  clear f5 hw5 Bv HE4 F4 Hv4 Hr4 hvb
  go_wp2_with fail
  refine Hinc.out.mono ?_
  rintro e w6 ⟨b, rfl, hb, nq, hw6⟩
  have f6 : Fr (fun _ => False) w5 w6 := by rw [hw6]; exact (Fr.refl _ _).drewN nq
  have Bz := HE5.out.fr f6 (fun h => h)
  have FW := hide (F5.out.trans' f6 (fun _ _ h => h.elim))
  have RW := Hr5.out.fr f6 (fun _ h => h.elim)
  have Bv := HBv.out.fr f6 (fun h => h)
  have Hv6 := hide (Hv5.out.fr f6 (fun _ _ h => h))
  have Hs6 := hide (show w4.heap.size ≤ w6.heap.size from Nat.le_trans Hs5.out f6.size)
  have Hb := hide hb
  clear hw6 f6 hb v0 v3 v4 Hinc HE5 F5 Hr5 Hv5 HBv
  cases b with
  | true =>
    have v0 := Bv.cell 0
    have v3 := Bv.cell 3
    have v4 := Bv.cell 4
    have be := buildEnt typ eid KA LA ks.length kc ls.length lc
    have Hbd := hide (rbad_any rb [] false w6 RW)
    clear Bv
    go_upto_region 7 with (go_at_call 23; refine Hbd.out.mono ?_; rintro e w' ⟨rfl, rfl⟩)
    clear Hbd
    have q1 := Bz.set_ 0 (sv typ)
    have q2 := q1.set_ 1 (sv eid)
    have q3 := q2.set_ 2 (.slice KA ks.length kc)
    have q4 := q3.set_ 3 (.slice LA ls.length lc)
    have r0 : ((((w6.setCell ⟨eb, 0, none⟩ (sv typ)).setCell ⟨eb, 1, none⟩ (sv eid)).setCell ⟨eb, 2, none⟩ (.slice KA ks.length kc)).setCell ⟨eb, 3, none⟩ (.slice LA ls.length lc)).cell? ⟨eb, 0, none⟩ = some (sv typ) := q4.cell 0
    have r1 : ((((w6.setCell ⟨eb, 0, none⟩ (sv typ)).setCell ⟨eb, 1, none⟩ (sv eid)).setCell ⟨eb, 2, none⟩ (.slice KA ks.length kc)).setCell ⟨eb, 3, none⟩ (.slice LA ls.length lc)).cell? ⟨eb, 1, none⟩ = some (sv eid) := q4.cell 1
    have r2 : ((((w6.setCell ⟨eb, 0, none⟩ (sv typ)).setCell ⟨eb, 1, none⟩ (sv eid)).setCell ⟨eb, 2, none⟩ (.slice KA ks.length kc)).setCell ⟨eb, 3, none⟩ (.slice LA ls.length lc)).cell? ⟨eb, 2, none⟩ = some (.slice KA ks.length kc) := q4.cell 2
    have r3 : ((((w6.setCell ⟨eb, 0, none⟩ (sv typ)).setCell ⟨eb, 1, none⟩ (sv eid)).setCell ⟨eb, 2, none⟩ (.slice KA ks.length kc)).setCell ⟨eb, 3, none⟩ (.slice LA ls.length lc)).cell? ⟨eb, 3, none⟩ = some (.slice LA ls.length lc) := q4.cell 3
    have FZ : Fr (fun q => q = eb) w6 ((((w6.setCell ⟨eb, 0, none⟩ (sv typ)).setCell ⟨eb, 1, none⟩ (sv eid)).setCell ⟨eb, 2, none⟩ (.slice KA ks.length kc)).setCell ⟨eb, 3, none⟩ (.slice LA ls.length lc)) := ((((Fr.refl (fun q => q = eb) w6).put1 0 _).put1 1 _).put1 2 _).put1 3 _
    have hRf := RW.apart FZ (fun e => Hne.out e.symm) (fun q hq => .inr ⟨25, #[.string ⟨#[]⟩, .string ⟨#[]⟩, .slice none 0 0, .slice none 0 0], by decide, by have e : q = eb := hq; rw [e]; exact Bz⟩)
    have z0 := Bz.cell 0
    have y0 := Bz.frozen 0
    have z1 := Bz.cell 1
    have y1 := Bz.frozen 1
    have z2 := Bz.cell 2
    have y2 := Bz.frozen 2
    have z3 := Bz.cell 3
    have y3 := Bz.frozen 3
    have Hr := hide (show _ ∧ _ ∧ _ ∧ _ from ⟨r0, r1, r2, r3⟩)
    have HZ := hide FZ
    have HR := hide hRf
    clear FZ hRf q1 q2 q3 q4 r0 r1 r2 r3 Bz RW
    go_wp2
    obtain ⟨r0, r1, r2, r3⟩ := Hr.out
    refine bodyPost_ret (v := .agg #[sv typ, sv eid, .slice KA ks.length kc, .slice LA ls.length lc]) (by simp [results, Try.results10, go_sem, r0, r1, r2, r3, Result.andThen]) rfl ⟨_, _, _, _, rfl, ?_, (FW.out.trans' HZ.out (fun q hq e => by have e : q = eb := e; have := Hx.out; omega)), .inl ⟨Hb.out.1 (by simp), rfl, rfl, (Hv6.out.fr HZ.out (fun q hq e => by have h1 : w3.heap.size ≤ q := hq.1; have := Hs3.out; have := Hs1.out; have e : q = eb := e; omega)).mono (fun q hq => ⟨by have h1 : w3.heap.size ≤ q := hq.1; have := Hs3.out; have := Hs1.out; have := Hx.out; omega, Nat.lt_of_lt_of_le hq.2 (Nat.le_trans Hs6.out HZ.out.size)⟩), HR.out⟩⟩
    intro u hu
    simp only [List.mem_cons, List.not_mem_nil, or_false] at hu
    rcases hu with rfl | rfl | rfl | rfl <;> rfl
  | false =>
    have be := buildEnt0
    have Hfl := hide (rfail_any rb [] false w6 RW)
    have HBz := hide Bz
    clear Bv Bz RW
    go_wp2_with fail
    refine Hfl.out.mono ?_
    rintro e w7 ⟨rfl, RW, f7⟩
    have Bz := HBz.out.fr f7 Hne.out
    have FW' := hide (FW.out.trans' f7 (fun _ _ h => h))
    have Hbd := hide (rbad_any rb [] true w7 RW)
    clear f7 Hfl HBz FW
    have FW := FW'
    clear FW'
    go_upto_region 6 with (go_at_call 23; refine Hbd.out.mono ?_; rintro e w' ⟨rfl, rfl⟩)
    clear Hbd
    have q1 := Bz.set_ 0 (.string ⟨#[]⟩)
    have q2 := q1.set_ 1 (.string ⟨#[]⟩)
    have q3 := q2.set_ 2 (.slice none 0 0)
    have q4 := q3.set_ 3 (.slice none 0 0)
    have r0 : ((((w7.setCell ⟨eb, 0, none⟩ (.string ⟨#[]⟩)).setCell ⟨eb, 1, none⟩ (.string ⟨#[]⟩)).setCell ⟨eb, 2, none⟩ (.slice none 0 0)).setCell ⟨eb, 3, none⟩ (.slice none 0 0)).cell? ⟨eb, 0, none⟩ = some (.string ⟨#[]⟩) := q4.cell 0
    have r1 : ((((w7.setCell ⟨eb, 0, none⟩ (.string ⟨#[]⟩)).setCell ⟨eb, 1, none⟩ (.string ⟨#[]⟩)).setCell ⟨eb, 2, none⟩ (.slice none 0 0)).setCell ⟨eb, 3, none⟩ (.slice none 0 0)).cell? ⟨eb, 1, none⟩ = some (.string ⟨#[]⟩) := q4.cell 1
    have r2 : ((((w7.setCell ⟨eb, 0, none⟩ (.string ⟨#[]⟩)).setCell ⟨eb, 1, none⟩ (.string ⟨#[]⟩)).setCell ⟨eb, 2, none⟩ (.slice none 0 0)).setCell ⟨eb, 3, none⟩ (.slice none 0 0)).cell? ⟨eb, 2, none⟩ = some (.slice none 0 0) := q4.cell 2
    have r3 : ((((w7.setCell ⟨eb, 0, none⟩ (.string ⟨#[]⟩)).setCell ⟨eb, 1, none⟩ (.string ⟨#[]⟩)).setCell ⟨eb, 2, none⟩ (.slice none 0 0)).setCell ⟨eb, 3, none⟩ (.slice none 0 0)).cell? ⟨eb, 3, none⟩ = some (.slice none 0 0) := q4.cell 3
    have FZ : Fr (fun q => q = eb) w7 ((((w7.setCell ⟨eb, 0, none⟩ (.string ⟨#[]⟩)).setCell ⟨eb, 1, none⟩ (.string ⟨#[]⟩)).setCell ⟨eb, 2, none⟩ (.slice none 0 0)).setCell ⟨eb, 3, none⟩ (.slice none 0 0)) := ((((Fr.refl (fun q => q = eb) w7).put1 0 _).put1 1 _).put1 2 _).put1 3 _
    have hRf := RW.apart FZ (fun e => Hne.out e.symm) (fun q hq => .inr ⟨25, #[.string ⟨#[]⟩, .string ⟨#[]⟩, .slice none 0 0, .slice none 0 0], by decide, by have e : q = eb := hq; rw [e]; exact Bz⟩)
    have z0 := Bz.cell 0
    have y0 := Bz.frozen 0
    have z1 := Bz.cell 1
    have y1 := Bz.frozen 1
    have z2 := Bz.cell 2
    have y2 := Bz.frozen 2
    have z3 := Bz.cell 3
    have y3 := Bz.frozen 3
    have Hr := hide (show _ ∧ _ ∧ _ ∧ _ from ⟨r0, r1, r2, r3⟩)
    have HZ := hide FZ
    have HR := hide hRf
    clear FZ hRf q1 q2 q3 q4 r0 r1 r2 r3 Bz RW
    go_wp2
    obtain ⟨r0, r1, r2, r3⟩ := Hr.out
    refine bodyPost_ret (v := .agg #[.string ⟨#[]⟩, .string ⟨#[]⟩, .slice none 0 0, .slice none 0 0]) (by simp [results, Try.results10, go_sem, r0, r1, r2, r3, Result.andThen]) rfl ⟨_, _, _, _, rfl, ?_, (FW.out.trans' HZ.out (fun q hq e => by have e : q = eb := e; have := Hx.out; omega)), .inr ⟨fun h => by have := Hb.out.2 h; simp at this, HR.out⟩⟩
    intro u hu
    simp only [List.mem_cons, List.not_mem_nil, or_false] at hu
    rcases hu with rfl | rfl | rfl | rfl <;> rfl
end Go.Proofs.Yteoimkjocijcjaa
