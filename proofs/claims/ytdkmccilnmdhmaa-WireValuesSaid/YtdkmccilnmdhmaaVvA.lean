/- Vv0, Vv1, Vv2, Vv3, Vv4, Vv5, Vv6, Vv7, Vv8, in one text. -/
import Derived.Test.YtdkmccilnmdhmaaVu
/- Package wire: form, one kind of value. -/
namespace Go.Proofs.Ytdkmccilnmdhmaa
open Go.RowKit

set_option maxRecDepth 100000 in
set_option maxHeartbeats 4000000 in
theorem formw_k0 (d op : Nat) (v : V) (cs : List Value) (w : World) (hd : op + (d + 1) = 24) (hv : VC w (Old w) v cs) (hk : v.kind = 0)
    (ih : ∀ (x : V) (cs' : List Value) (w' : World), VC w' (Old w') x cs' → Calls Try.prog 26 #[.agg cs'.toArray, .int .i64 ((op + 1 : Nat) : Int)] w' (FPostI d x w')) :
    Calls Try.prog 26 #[.agg cs.toArray, .int .i64 (op : Int)] w (FPostI (d + 1) v w) := by
  have hpv := hv.boxed
  obtain ⟨KA, LA, kc, lc, rfl⟩ := hv.cells
  have hb0 := (Below.refl w.heap.size w).alloc (Nat.le_refl _) (.cells #[.int .u8 (v.kind : Int), .int .i64 v.n, sv v.s, .slice KA v.ks.length kc, .slice LA v.ls.length lc] 25)
  have hblk := Blk.new w 25 #[.int .u8 (v.kind : Int), .int .i64 v.n, sv v.s, .slice KA v.ks.length kc, .slice LA v.ls.length lc]
  obtain ⟨KA', LA', kc', lc', hat⟩ := hpv.at_
  obtain ⟨w0, hw0⟩ : ∃ w0, w.alloc (.cells #[.int .u8 (v.kind : Int), .int .i64 v.n, sv v.s, .slice KA v.ks.length kc, .slice LA v.ls.length lc] 25) = w0 := ⟨_, rfl⟩
  have hw0' : w.alloc (.cells [.int .u8 (v.kind : Int), .int .i64 v.n, sv v.s, .slice KA v.ks.length kc, .slice LA v.ls.length lc].toArray 25) = w0 := hw0
  rw [hw0'] at hat
  rw [hw0] at hb0 hblk
  obtain ⟨rfl, rfl⟩ : KA = KA' ∧ kc = kc' := by
    have h1 : w0.cell? ⟨w.heap.size, 3, none⟩ = some (.slice KA' v.ks.length kc') := by have := hat.c3; simpa using this
    have h2 := h1.symm.trans (hblk.cell 3)
    simp at h2
    exact ⟨h2.1.symm, h2.2.symm⟩
  obtain ⟨rfl, rfl⟩ : LA = LA' ∧ lc = lc' := by
    have h1 : w0.cell? ⟨w.heap.size, 4, none⟩ = some (.slice LA' v.ls.length lc') := by have := hat.c4; simpa using this
    have h2 := h1.symm.trans (hblk.cell 4)
    simp at h2
    exact ⟨h2.1.symm, h2.2.symm⟩
  have Hb0 := hide hb0
  have hkl := hat.kl
  have hll := hat.ll
  have hsl := hat.s
  have hk255 := hat.k
  have hnr := hat.n
  have c0 := hblk.cell 0
  have c1 := hblk.cell 1
  have c2 := hblk.cell 2
  have c3 := hblk.cell 3
  have c4 := hblk.cell 4
  have Hblk := hide hblk
  have Hv0 := hide (hv.later hb0)
  have y1 := hblk.frozen 1
  have y2 := hblk.frozen 2
  have y3 := hblk.frozen 3
  have y4 := hblk.frozen 4
  have hop : op < 24 := by omega
  have Ih := hide ih
  have Hwlt := hide (show w.heap.size < w0.heap.size from hblk.lt)
  clear hv ih hb0 hblk hpv hat hw0' hk255 hd
  obtain ⟨nk, hnk⟩ : ∃ nk, v.ks.length = nk := ⟨_, rfl⟩
  obtain ⟨nl, hnl⟩ : ∃ nl, v.ls.length = nl := ⟨_, rfl⟩
  obtain ⟨nn, hnn⟩ : ∃ nn, v.n = nn := ⟨_, rfl⟩
  obtain ⟨ss, hss⟩ : ∃ ss, v.s = ss := ⟨_, rfl⟩
  rw [hk, hnn, hss, hnk, hnl] at hw0 Hblk Hv0
  rw [hk] at c0
  rw [hnk] at c3 hkl
  rw [hnl] at c4 hll
  rw [hnn] at c1 hnr
  rw [hss] at c2 hsl
  rw [hk, hnk, hnl, hnn, hss]
  have hw0 : w.alloc (.cells #[.int .u8 0, .int .i64 nn, sv ss, .slice KA nk kc, .slice LA nl lc] 25) = w0 := hw0
  have c0 : w0.cell? ⟨w.heap.size, 0, none⟩ = some (.int .u8 0) := c0
  have c1 : w0.cell? ⟨w.heap.size, 1, none⟩ = some (.int .i64 nn) := c1
  have c2 : w0.cell? ⟨w.heap.size, 2, none⟩ = some (sv ss) := c2
  have c3 : w0.cell? ⟨w.heap.size, 3, none⟩ = some (.slice KA nk kc) := c3
  have c4 : w0.cell? ⟨w.heap.size, 4, none⟩ = some (.slice LA nl lc) := c4
  rw [show (((0 : Nat)) : Int) = 0 from rfl]
  have Hk := hide hk
  have Hnk := hide hnk
  have Hnl := hide hnl
  have Hnn := hide hnn
  have Hss := hide hss
  clear hnr
  clear hk hnk hnl hnn hss
  go_enter Try.func26, Try.ntmps26
  by_cases e3 : nn = 0
  case neg =>
    have e3' : (nn == 0) = false := by rw [beq_eq_false_iff_ne]; exact e3
    have E3 := hide e3
    clear e3
    go_wp2
    go_ret
    exact ⟨false, rfl, ⟨fun h => by simp at h, fun hf => by exfalso; have e3 := E3.out; have hl := loc_facts hf.1 Hnk.out Hnl.out Hnn.out Hss.out Hk.out; first | omega | (rcases hl.2.2.2.1 with h | h; omega; rw [h] at e4'; simp at e4')⟩, Hb0.out⟩
  subst e3
  by_cases e4 : ss = []
  case neg =>
    have e4' : ss.isEmpty = false := by
      cases ss with
      | nil => exact absurd rfl e4
      | cons a r => rfl
    clear e4
    go_wp2
    go_ret
    exact ⟨false, rfl, ⟨fun h => by simp at h, fun hf => by exfalso; have hl := loc_facts hf.1 Hnk.out Hnl.out Hnn.out Hss.out Hk.out; first | omega | (rcases hl.2.2.2.1 with h | h; omega; rw [h] at e4'; simp at e4')⟩, Hb0.out⟩
  subst e4
  by_cases e5 : nk = 0
  case neg =>
    have e5' : ((nk : Int) == 0) = false := by rw [beq_eq_false_iff_ne]; omega
    have E5 := hide e5
    clear e5
    go_wp2
    go_ret
    exact ⟨false, rfl, ⟨fun h => by simp at h, fun hf => by exfalso; have e5 := E5.out; have hl := loc_facts hf.1 Hnk.out Hnl.out Hnn.out Hss.out Hk.out; first | omega | (rcases hl.2.2.2.1 with h | h; omega; rw [h] at e4'; simp at e4')⟩, Hb0.out⟩
  subst e5
  by_cases e6 : nl = 0
  case neg =>
    have e6' : ((nl : Int) == 0) = false := by rw [beq_eq_false_iff_ne]; omega
    have E6 := hide e6
    clear e6
    go_wp2
    go_ret
    exact ⟨false, rfl, ⟨fun h => by simp at h, fun hf => by exfalso; have e6 := E6.out; have hl := loc_facts hf.1 Hnk.out Hnl.out Hnn.out Hss.out Hk.out; first | omega | (rcases hl.2.2.2.1 with h | h; omega; rw [h] at e4'; simp at e4')⟩, Hb0.out⟩
  subst e6
  go_wp2
  go_ret
  refine ⟨true, rfl, ⟨fun _ => ⟨⟨by rw [Hk.out]; omega, by rw [Hnl.out]; omega, by rw [Hss.out]; first | omega | simp, .inr (.inr Hnn.out), .inr Hss.out, .inr (.inr (List.eq_nil_of_length_eq_zero Hnl.out)), fun h => absurd (h.symm.trans Hk.out) (by decide), .inr (List.eq_nil_of_length_eq_zero Hnk.out), by rw [List.eq_nil_of_length_eq_zero Hnk.out]; simp⟩, ?_⟩, fun _ => rfl⟩, Hb0.out⟩
  rw [List.eq_nil_of_length_eq_zero Hnl.out]
  simp
end Go.Proofs.Ytdkmccilnmdhmaa

/- Package wire: form, one kind of value. -/
namespace Go.Proofs.Ytdkmccilnmdhmaa
open Go.RowKit

set_option maxRecDepth 100000 in
set_option maxHeartbeats 4000000 in
theorem formw_k1 (d op : Nat) (v : V) (cs : List Value) (w : World) (hd : op + (d + 1) = 24) (hv : VC w (Old w) v cs) (hk : v.kind = 1)
    (ih : ∀ (x : V) (cs' : List Value) (w' : World), VC w' (Old w') x cs' → Calls Try.prog 26 #[.agg cs'.toArray, .int .i64 ((op + 1 : Nat) : Int)] w' (FPostI d x w')) :
    Calls Try.prog 26 #[.agg cs.toArray, .int .i64 (op : Int)] w (FPostI (d + 1) v w) := by
  have hpv := hv.boxed
  obtain ⟨KA, LA, kc, lc, rfl⟩ := hv.cells
  have hb0 := (Below.refl w.heap.size w).alloc (Nat.le_refl _) (.cells #[.int .u8 (v.kind : Int), .int .i64 v.n, sv v.s, .slice KA v.ks.length kc, .slice LA v.ls.length lc] 25)
  have hblk := Blk.new w 25 #[.int .u8 (v.kind : Int), .int .i64 v.n, sv v.s, .slice KA v.ks.length kc, .slice LA v.ls.length lc]
  obtain ⟨KA', LA', kc', lc', hat⟩ := hpv.at_
  obtain ⟨w0, hw0⟩ : ∃ w0, w.alloc (.cells #[.int .u8 (v.kind : Int), .int .i64 v.n, sv v.s, .slice KA v.ks.length kc, .slice LA v.ls.length lc] 25) = w0 := ⟨_, rfl⟩
  have hw0' : w.alloc (.cells [.int .u8 (v.kind : Int), .int .i64 v.n, sv v.s, .slice KA v.ks.length kc, .slice LA v.ls.length lc].toArray 25) = w0 := hw0
  rw [hw0'] at hat
  rw [hw0] at hb0 hblk
  obtain ⟨rfl, rfl⟩ : KA = KA' ∧ kc = kc' := by
    have h1 : w0.cell? ⟨w.heap.size, 3, none⟩ = some (.slice KA' v.ks.length kc') := by have := hat.c3; simpa using this
    have h2 := h1.symm.trans (hblk.cell 3)
    simp at h2
    exact ⟨h2.1.symm, h2.2.symm⟩
  obtain ⟨rfl, rfl⟩ : LA = LA' ∧ lc = lc' := by
    have h1 : w0.cell? ⟨w.heap.size, 4, none⟩ = some (.slice LA' v.ls.length lc') := by have := hat.c4; simpa using this
    have h2 := h1.symm.trans (hblk.cell 4)
    simp at h2
    exact ⟨h2.1.symm, h2.2.symm⟩
  have Hb0 := hide hb0
  have hkl := hat.kl
  have hll := hat.ll
  have hsl := hat.s
  have hk255 := hat.k
  have hnr := hat.n
  have c0 := hblk.cell 0
  have c1 := hblk.cell 1
  have c2 := hblk.cell 2
  have c3 := hblk.cell 3
  have c4 := hblk.cell 4
  have Hblk := hide hblk
  have Hv0 := hide (hv.later hb0)
  have y1 := hblk.frozen 1
  have y2 := hblk.frozen 2
  have y3 := hblk.frozen 3
  have y4 := hblk.frozen 4
  have hop : op < 24 := by omega
  have Ih := hide ih
  have Hwlt := hide (show w.heap.size < w0.heap.size from hblk.lt)
  clear hv ih hb0 hblk hpv hat hw0' hk255 hd
  obtain ⟨nk, hnk⟩ : ∃ nk, v.ks.length = nk := ⟨_, rfl⟩
  obtain ⟨nl, hnl⟩ : ∃ nl, v.ls.length = nl := ⟨_, rfl⟩
  obtain ⟨nn, hnn⟩ : ∃ nn, v.n = nn := ⟨_, rfl⟩
  obtain ⟨ss, hss⟩ : ∃ ss, v.s = ss := ⟨_, rfl⟩
  rw [hk, hnn, hss, hnk, hnl] at hw0 Hblk Hv0
  rw [hk] at c0
  rw [hnk] at c3 hkl
  rw [hnl] at c4 hll
  rw [hnn] at c1 hnr
  rw [hss] at c2 hsl
  rw [hk, hnk, hnl, hnn, hss]
  have hw0 : w.alloc (.cells #[.int .u8 1, .int .i64 nn, sv ss, .slice KA nk kc, .slice LA nl lc] 25) = w0 := hw0
  have c0 : w0.cell? ⟨w.heap.size, 0, none⟩ = some (.int .u8 1) := c0
  have c1 : w0.cell? ⟨w.heap.size, 1, none⟩ = some (.int .i64 nn) := c1
  have c2 : w0.cell? ⟨w.heap.size, 2, none⟩ = some (sv ss) := c2
  have c3 : w0.cell? ⟨w.heap.size, 3, none⟩ = some (.slice KA nk kc) := c3
  have c4 : w0.cell? ⟨w.heap.size, 4, none⟩ = some (.slice LA nl lc) := c4
  rw [show (((1 : Nat)) : Int) = 1 from rfl]
  have Hk := hide hk
  have Hnk := hide hnk
  have Hnl := hide hnl
  have Hnn := hide hnn
  have Hss := hide hss
  clear hnr
  clear hk hnk hnl hnn hss
  go_enter Try.func26, Try.ntmps26
  by_cases e4 : ss = []
  case neg =>
    have e4' : ss.isEmpty = false := by
      cases ss with
      | nil => exact absurd rfl e4
      | cons a r => rfl
    clear e4
    go_wp2
    go_ret
    exact ⟨false, rfl, ⟨fun h => by simp at h, fun hf => by exfalso; have hl := loc_facts hf.1 Hnk.out Hnl.out Hnn.out Hss.out Hk.out; first | omega | (rcases hl.2.2.2.1 with h | h; omega; rw [h] at e4'; simp at e4')⟩, (Hb0.out.setCell (p := ⟨w.heap.size, 1, none⟩) (Nat.le_refl _) _)⟩
  subst e4
  by_cases e5 : nk = 0
  case neg =>
    have e5' : ((nk : Int) == 0) = false := by rw [beq_eq_false_iff_ne]; omega
    have E5 := hide e5
    clear e5
    go_wp2
    go_ret
    exact ⟨false, rfl, ⟨fun h => by simp at h, fun hf => by exfalso; have e5 := E5.out; have hl := loc_facts hf.1 Hnk.out Hnl.out Hnn.out Hss.out Hk.out; first | omega | (rcases hl.2.2.2.1 with h | h; omega; rw [h] at e4'; simp at e4')⟩, (Hb0.out.setCell (p := ⟨w.heap.size, 1, none⟩) (Nat.le_refl _) _)⟩
  subst e5
  by_cases e6 : nl = 0
  case neg =>
    have e6' : ((nl : Int) == 0) = false := by rw [beq_eq_false_iff_ne]; omega
    have E6 := hide e6
    clear e6
    go_wp2
    go_ret
    exact ⟨false, rfl, ⟨fun h => by simp at h, fun hf => by exfalso; have e6 := E6.out; have hl := loc_facts hf.1 Hnk.out Hnl.out Hnn.out Hss.out Hk.out; first | omega | (rcases hl.2.2.2.1 with h | h; omega; rw [h] at e4'; simp at e4')⟩, (Hb0.out.setCell (p := ⟨w.heap.size, 1, none⟩) (Nat.le_refl _) _)⟩
  subst e6
  go_wp2
  go_ret
  refine ⟨true, rfl, ⟨fun _ => ⟨⟨by rw [Hk.out]; omega, by rw [Hnl.out]; omega, by rw [Hss.out]; first | omega | simp, .inl Hk.out, .inr Hss.out, .inr (.inr (List.eq_nil_of_length_eq_zero Hnl.out)), fun h => absurd (h.symm.trans Hk.out) (by decide), .inr (List.eq_nil_of_length_eq_zero Hnk.out), by rw [List.eq_nil_of_length_eq_zero Hnk.out]; simp⟩, ?_⟩, fun _ => rfl⟩, (Hb0.out.setCell (p := ⟨w.heap.size, 1, none⟩) (Nat.le_refl _) _)⟩
  rw [List.eq_nil_of_length_eq_zero Hnl.out]
  simp
end Go.Proofs.Ytdkmccilnmdhmaa

/- Package wire: form, one kind of value. -/
namespace Go.Proofs.Ytdkmccilnmdhmaa
open Go.RowKit

set_option maxRecDepth 100000 in
set_option maxHeartbeats 4000000 in
theorem formw_k2 (d op : Nat) (v : V) (cs : List Value) (w : World) (hd : op + (d + 1) = 24) (hv : VC w (Old w) v cs) (hk : v.kind = 2)
    (ih : ∀ (x : V) (cs' : List Value) (w' : World), VC w' (Old w') x cs' → Calls Try.prog 26 #[.agg cs'.toArray, .int .i64 ((op + 1 : Nat) : Int)] w' (FPostI d x w')) :
    Calls Try.prog 26 #[.agg cs.toArray, .int .i64 (op : Int)] w (FPostI (d + 1) v w) := by
  have hpv := hv.boxed
  obtain ⟨KA, LA, kc, lc, rfl⟩ := hv.cells
  have hb0 := (Below.refl w.heap.size w).alloc (Nat.le_refl _) (.cells #[.int .u8 (v.kind : Int), .int .i64 v.n, sv v.s, .slice KA v.ks.length kc, .slice LA v.ls.length lc] 25)
  have hblk := Blk.new w 25 #[.int .u8 (v.kind : Int), .int .i64 v.n, sv v.s, .slice KA v.ks.length kc, .slice LA v.ls.length lc]
  obtain ⟨KA', LA', kc', lc', hat⟩ := hpv.at_
  obtain ⟨w0, hw0⟩ : ∃ w0, w.alloc (.cells #[.int .u8 (v.kind : Int), .int .i64 v.n, sv v.s, .slice KA v.ks.length kc, .slice LA v.ls.length lc] 25) = w0 := ⟨_, rfl⟩
  have hw0' : w.alloc (.cells [.int .u8 (v.kind : Int), .int .i64 v.n, sv v.s, .slice KA v.ks.length kc, .slice LA v.ls.length lc].toArray 25) = w0 := hw0
  rw [hw0'] at hat
  rw [hw0] at hb0 hblk
  obtain ⟨rfl, rfl⟩ : KA = KA' ∧ kc = kc' := by
    have h1 : w0.cell? ⟨w.heap.size, 3, none⟩ = some (.slice KA' v.ks.length kc') := by have := hat.c3; simpa using this
    have h2 := h1.symm.trans (hblk.cell 3)
    simp at h2
    exact ⟨h2.1.symm, h2.2.symm⟩
  obtain ⟨rfl, rfl⟩ : LA = LA' ∧ lc = lc' := by
    have h1 : w0.cell? ⟨w.heap.size, 4, none⟩ = some (.slice LA' v.ls.length lc') := by have := hat.c4; simpa using this
    have h2 := h1.symm.trans (hblk.cell 4)
    simp at h2
    exact ⟨h2.1.symm, h2.2.symm⟩
  have Hb0 := hide hb0
  have hkl := hat.kl
  have hll := hat.ll
  have hsl := hat.s
  have hk255 := hat.k
  have hnr := hat.n
  have c0 := hblk.cell 0
  have c1 := hblk.cell 1
  have c2 := hblk.cell 2
  have c3 := hblk.cell 3
  have c4 := hblk.cell 4
  have Hblk := hide hblk
  have Hv0 := hide (hv.later hb0)
  have y1 := hblk.frozen 1
  have y2 := hblk.frozen 2
  have y3 := hblk.frozen 3
  have y4 := hblk.frozen 4
  have hop : op < 24 := by omega
  have Ih := hide ih
  have Hwlt := hide (show w.heap.size < w0.heap.size from hblk.lt)
  clear hv ih hb0 hblk hpv hat hw0' hk255 hd
  obtain ⟨nk, hnk⟩ : ∃ nk, v.ks.length = nk := ⟨_, rfl⟩
  obtain ⟨nl, hnl⟩ : ∃ nl, v.ls.length = nl := ⟨_, rfl⟩
  obtain ⟨nn, hnn⟩ : ∃ nn, v.n = nn := ⟨_, rfl⟩
  obtain ⟨ss, hss⟩ : ∃ ss, v.s = ss := ⟨_, rfl⟩
  rw [hk, hnn, hss, hnk, hnl] at hw0 Hblk Hv0
  rw [hk] at c0
  rw [hnk] at c3 hkl
  rw [hnl] at c4 hll
  rw [hnn] at c1 hnr
  rw [hss] at c2 hsl
  rw [hk, hnk, hnl, hnn, hss]
  have hw0 : w.alloc (.cells #[.int .u8 2, .int .i64 nn, sv ss, .slice KA nk kc, .slice LA nl lc] 25) = w0 := hw0
  have c0 : w0.cell? ⟨w.heap.size, 0, none⟩ = some (.int .u8 2) := c0
  have c1 : w0.cell? ⟨w.heap.size, 1, none⟩ = some (.int .i64 nn) := c1
  have c2 : w0.cell? ⟨w.heap.size, 2, none⟩ = some (sv ss) := c2
  have c3 : w0.cell? ⟨w.heap.size, 3, none⟩ = some (.slice KA nk kc) := c3
  have c4 : w0.cell? ⟨w.heap.size, 4, none⟩ = some (.slice LA nl lc) := c4
  rw [show (((2 : Nat)) : Int) = 2 from rfl]
  have Hk := hide hk
  have Hnk := hide hnk
  have Hnl := hide hnl
  have Hnn := hide hnn
  have Hss := hide hss
  clear hnr
  clear hk hnk hnl hnn hss
  go_enter Try.func26, Try.ntmps26
  by_cases e2 : 200 < ss.length
  case pos =>
    go_wp2
    go_ret
    exact ⟨false, rfl, ⟨fun h => by simp at h, fun hf => by exfalso; have hl := loc_facts hf.1 Hnk.out Hnl.out Hnn.out Hss.out Hk.out; first | omega | (rcases hl.2.2.2.1 with h | h; omega; rw [h] at e4'; simp at e4')⟩, Hb0.out⟩
  by_cases e3 : nn = 0
  case neg =>
    have e3' : (nn == 0) = false := by rw [beq_eq_false_iff_ne]; exact e3
    have E3 := hide e3
    clear e3
    go_wp2
    go_ret
    exact ⟨false, rfl, ⟨fun h => by simp at h, fun hf => by exfalso; have e3 := E3.out; have hl := loc_facts hf.1 Hnk.out Hnl.out Hnn.out Hss.out Hk.out; first | omega | (rcases hl.2.2.2.1 with h | h; omega; rw [h] at e4'; simp at e4')⟩, (Hb0.out.setCell (p := ⟨w.heap.size, 2, none⟩) (Nat.le_refl _) _)⟩
  subst e3
  by_cases e5 : nk = 0
  case neg =>
    have e5' : ((nk : Int) == 0) = false := by rw [beq_eq_false_iff_ne]; omega
    have E5 := hide e5
    clear e5
    go_wp2
    go_ret
    exact ⟨false, rfl, ⟨fun h => by simp at h, fun hf => by exfalso; have e5 := E5.out; have hl := loc_facts hf.1 Hnk.out Hnl.out Hnn.out Hss.out Hk.out; first | omega | (rcases hl.2.2.2.1 with h | h; omega; rw [h] at e4'; simp at e4')⟩, (Hb0.out.setCell (p := ⟨w.heap.size, 2, none⟩) (Nat.le_refl _) _)⟩
  subst e5
  by_cases e6 : nl = 0
  case neg =>
    have e6' : ((nl : Int) == 0) = false := by rw [beq_eq_false_iff_ne]; omega
    have E6 := hide e6
    clear e6
    go_wp2
    go_ret
    exact ⟨false, rfl, ⟨fun h => by simp at h, fun hf => by exfalso; have e6 := E6.out; have hl := loc_facts hf.1 Hnk.out Hnl.out Hnn.out Hss.out Hk.out; first | omega | (rcases hl.2.2.2.1 with h | h; omega; rw [h] at e4'; simp at e4')⟩, (Hb0.out.setCell (p := ⟨w.heap.size, 2, none⟩) (Nat.le_refl _) _)⟩
  subst e6
  go_wp2
  go_ret
  refine ⟨true, rfl, ⟨fun _ => ⟨⟨by rw [Hk.out]; omega, by rw [Hnl.out]; omega, by rw [Hss.out]; first | omega | simp, .inr (.inr Hnn.out), .inl (by rw [Hk.out]; omega), .inr (.inr (List.eq_nil_of_length_eq_zero Hnl.out)), fun h => absurd (h.symm.trans Hk.out) (by decide), .inr (List.eq_nil_of_length_eq_zero Hnk.out), by rw [List.eq_nil_of_length_eq_zero Hnk.out]; simp⟩, ?_⟩, fun _ => rfl⟩, (Hb0.out.setCell (p := ⟨w.heap.size, 2, none⟩) (Nat.le_refl _) _)⟩
  rw [List.eq_nil_of_length_eq_zero Hnl.out]
  simp
end Go.Proofs.Ytdkmccilnmdhmaa

/- Package wire: form, one kind of value. -/
namespace Go.Proofs.Ytdkmccilnmdhmaa
open Go.RowKit

set_option maxRecDepth 100000 in
set_option maxHeartbeats 4000000 in
theorem formw_k3 (d op : Nat) (v : V) (cs : List Value) (w : World) (hd : op + (d + 1) = 24) (hv : VC w (Old w) v cs) (hk : v.kind = 3)
    (ih : ∀ (x : V) (cs' : List Value) (w' : World), VC w' (Old w') x cs' → Calls Try.prog 26 #[.agg cs'.toArray, .int .i64 ((op + 1 : Nat) : Int)] w' (FPostI d x w')) :
    Calls Try.prog 26 #[.agg cs.toArray, .int .i64 (op : Int)] w (FPostI (d + 1) v w) := by
  have hpv := hv.boxed
  obtain ⟨KA, LA, kc, lc, rfl⟩ := hv.cells
  have hb0 := (Below.refl w.heap.size w).alloc (Nat.le_refl _) (.cells #[.int .u8 (v.kind : Int), .int .i64 v.n, sv v.s, .slice KA v.ks.length kc, .slice LA v.ls.length lc] 25)
  have hblk := Blk.new w 25 #[.int .u8 (v.kind : Int), .int .i64 v.n, sv v.s, .slice KA v.ks.length kc, .slice LA v.ls.length lc]
  obtain ⟨KA', LA', kc', lc', hat⟩ := hpv.at_
  obtain ⟨w0, hw0⟩ : ∃ w0, w.alloc (.cells #[.int .u8 (v.kind : Int), .int .i64 v.n, sv v.s, .slice KA v.ks.length kc, .slice LA v.ls.length lc] 25) = w0 := ⟨_, rfl⟩
  have hw0' : w.alloc (.cells [.int .u8 (v.kind : Int), .int .i64 v.n, sv v.s, .slice KA v.ks.length kc, .slice LA v.ls.length lc].toArray 25) = w0 := hw0
  rw [hw0'] at hat
  rw [hw0] at hb0 hblk
  obtain ⟨rfl, rfl⟩ : KA = KA' ∧ kc = kc' := by
    have h1 : w0.cell? ⟨w.heap.size, 3, none⟩ = some (.slice KA' v.ks.length kc') := by have := hat.c3; simpa using this
    have h2 := h1.symm.trans (hblk.cell 3)
    simp at h2
    exact ⟨h2.1.symm, h2.2.symm⟩
  obtain ⟨rfl, rfl⟩ : LA = LA' ∧ lc = lc' := by
    have h1 : w0.cell? ⟨w.heap.size, 4, none⟩ = some (.slice LA' v.ls.length lc') := by have := hat.c4; simpa using this
    have h2 := h1.symm.trans (hblk.cell 4)
    simp at h2
    exact ⟨h2.1.symm, h2.2.symm⟩
  have Hb0 := hide hb0
  have hkl := hat.kl
  have hll := hat.ll
  have hsl := hat.s
  have hk255 := hat.k
  have hnr := hat.n
  have c0 := hblk.cell 0
  have c1 := hblk.cell 1
  have c2 := hblk.cell 2
  have c3 := hblk.cell 3
  have c4 := hblk.cell 4
  have Hblk := hide hblk
  have Hv0 := hide (hv.later hb0)
  have y1 := hblk.frozen 1
  have y2 := hblk.frozen 2
  have y3 := hblk.frozen 3
  have y4 := hblk.frozen 4
  have hop : op < 24 := by omega
  have Ih := hide ih
  have Hwlt := hide (show w.heap.size < w0.heap.size from hblk.lt)
  clear hv ih hb0 hblk hpv hat hw0' hk255 hd
  obtain ⟨nk, hnk⟩ : ∃ nk, v.ks.length = nk := ⟨_, rfl⟩
  obtain ⟨nl, hnl⟩ : ∃ nl, v.ls.length = nl := ⟨_, rfl⟩
  obtain ⟨nn, hnn⟩ : ∃ nn, v.n = nn := ⟨_, rfl⟩
  obtain ⟨ss, hss⟩ : ∃ ss, v.s = ss := ⟨_, rfl⟩
  rw [hk, hnn, hss, hnk, hnl] at hw0 Hblk Hv0
  rw [hk] at c0
  rw [hnk] at c3 hkl
  rw [hnl] at c4 hll
  rw [hnn] at c1 hnr
  rw [hss] at c2 hsl
  rw [hk, hnk, hnl, hnn, hss]
  have hw0 : w.alloc (.cells #[.int .u8 3, .int .i64 nn, sv ss, .slice KA nk kc, .slice LA nl lc] 25) = w0 := hw0
  have c0 : w0.cell? ⟨w.heap.size, 0, none⟩ = some (.int .u8 3) := c0
  have c1 : w0.cell? ⟨w.heap.size, 1, none⟩ = some (.int .i64 nn) := c1
  have c2 : w0.cell? ⟨w.heap.size, 2, none⟩ = some (sv ss) := c2
  have c3 : w0.cell? ⟨w.heap.size, 3, none⟩ = some (.slice KA nk kc) := c3
  have c4 : w0.cell? ⟨w.heap.size, 4, none⟩ = some (.slice LA nl lc) := c4
  rw [show (((3 : Nat)) : Int) = 3 from rfl]
  have Hk := hide hk
  have Hnk := hide hnk
  have Hnl := hide hnl
  have Hnn := hide hnn
  have Hss := hide hss
  
  clear hk hnk hnl hnn hss
  go_enter Try.func26, Try.ntmps26
  rcases (show nn = 0 ∨ nn = 1 ∨ (¬ nn = 0 ∧ ¬ nn = 1) by omega) with rfl | rfl | ⟨h0, h1⟩
  · by_cases e4 : ss = []
    case neg =>
      have e4' : ss.isEmpty = false := by
        cases ss with
        | nil => exact absurd rfl e4
        | cons a r => rfl
      clear e4
      go_wp2
      go_ret
      exact ⟨false, rfl, ⟨fun h => by simp at h, fun hf => by exfalso; have hl := loc_facts hf.1 Hnk.out Hnl.out Hnn.out Hss.out Hk.out; first | omega | (rcases hl.2.2.2.1 with h | h; omega; rw [h] at e4'; simp at e4')⟩, (Hb0.out.setCell (p := ⟨w.heap.size, 1, none⟩) (Nat.le_refl _) _)⟩
    subst e4
    by_cases e5 : nk = 0
    case neg =>
      have e5' : ((nk : Int) == 0) = false := by rw [beq_eq_false_iff_ne]; omega
      have E5 := hide e5
      clear e5
      go_wp2
      go_ret
      exact ⟨false, rfl, ⟨fun h => by simp at h, fun hf => by exfalso; have e5 := E5.out; have hl := loc_facts hf.1 Hnk.out Hnl.out Hnn.out Hss.out Hk.out; first | omega | (rcases hl.2.2.2.1 with h | h; omega; rw [h] at e4'; simp at e4')⟩, (Hb0.out.setCell (p := ⟨w.heap.size, 1, none⟩) (Nat.le_refl _) _)⟩
    subst e5
    by_cases e6 : nl = 0
    case neg =>
      have e6' : ((nl : Int) == 0) = false := by rw [beq_eq_false_iff_ne]; omega
      have E6 := hide e6
      clear e6
      go_wp2
      go_ret
      exact ⟨false, rfl, ⟨fun h => by simp at h, fun hf => by exfalso; have e6 := E6.out; have hl := loc_facts hf.1 Hnk.out Hnl.out Hnn.out Hss.out Hk.out; first | omega | (rcases hl.2.2.2.1 with h | h; omega; rw [h] at e4'; simp at e4')⟩, (Hb0.out.setCell (p := ⟨w.heap.size, 1, none⟩) (Nat.le_refl _) _)⟩
    subst e6
    go_wp2
    go_ret
    refine ⟨true, rfl, ⟨fun _ => ⟨⟨by rw [Hk.out]; omega, by rw [Hnl.out]; omega, by rw [Hss.out]; first | omega | simp, .inr (.inl ⟨Hk.out, by rw [Hnn.out]; omega⟩), .inr Hss.out, .inr (.inr (List.eq_nil_of_length_eq_zero Hnl.out)), fun h => absurd (h.symm.trans Hk.out) (by decide), .inr (List.eq_nil_of_length_eq_zero Hnk.out), by rw [List.eq_nil_of_length_eq_zero Hnk.out]; simp⟩, ?_⟩, fun _ => rfl⟩, (Hb0.out.setCell (p := ⟨w.heap.size, 1, none⟩) (Nat.le_refl _) _)⟩
    rw [List.eq_nil_of_length_eq_zero Hnl.out]
    simp
  · by_cases e4 : ss = []
    case neg =>
      have e4' : ss.isEmpty = false := by
        cases ss with
        | nil => exact absurd rfl e4
        | cons a r => rfl
      clear e4
      go_wp2
      go_ret
      exact ⟨false, rfl, ⟨fun h => by simp at h, fun hf => by exfalso; have hl := loc_facts hf.1 Hnk.out Hnl.out Hnn.out Hss.out Hk.out; first | omega | (rcases hl.2.2.2.1 with h | h; omega; rw [h] at e4'; simp at e4')⟩, (Hb0.out.setCell (p := ⟨w.heap.size, 1, none⟩) (Nat.le_refl _) _)⟩
    subst e4
    by_cases e5 : nk = 0
    case neg =>
      have e5' : ((nk : Int) == 0) = false := by rw [beq_eq_false_iff_ne]; omega
      have E5 := hide e5
      clear e5
      go_wp2
      go_ret
      exact ⟨false, rfl, ⟨fun h => by simp at h, fun hf => by exfalso; have e5 := E5.out; have hl := loc_facts hf.1 Hnk.out Hnl.out Hnn.out Hss.out Hk.out; first | omega | (rcases hl.2.2.2.1 with h | h; omega; rw [h] at e4'; simp at e4')⟩, (Hb0.out.setCell (p := ⟨w.heap.size, 1, none⟩) (Nat.le_refl _) _)⟩
    subst e5
    by_cases e6 : nl = 0
    case neg =>
      have e6' : ((nl : Int) == 0) = false := by rw [beq_eq_false_iff_ne]; omega
      have E6 := hide e6
      clear e6
      go_wp2
      go_ret
      exact ⟨false, rfl, ⟨fun h => by simp at h, fun hf => by exfalso; have e6 := E6.out; have hl := loc_facts hf.1 Hnk.out Hnl.out Hnn.out Hss.out Hk.out; first | omega | (rcases hl.2.2.2.1 with h | h; omega; rw [h] at e4'; simp at e4')⟩, (Hb0.out.setCell (p := ⟨w.heap.size, 1, none⟩) (Nat.le_refl _) _)⟩
    subst e6
    go_wp2
    go_ret
    refine ⟨true, rfl, ⟨fun _ => ⟨⟨by rw [Hk.out]; omega, by rw [Hnl.out]; omega, by rw [Hss.out]; first | omega | simp, .inr (.inl ⟨Hk.out, by rw [Hnn.out]; omega⟩), .inr Hss.out, .inr (.inr (List.eq_nil_of_length_eq_zero Hnl.out)), fun h => absurd (h.symm.trans Hk.out) (by decide), .inr (List.eq_nil_of_length_eq_zero Hnk.out), by rw [List.eq_nil_of_length_eq_zero Hnk.out]; simp⟩, ?_⟩, fun _ => rfl⟩, (Hb0.out.setCell (p := ⟨w.heap.size, 1, none⟩) (Nat.le_refl _) _)⟩
    rw [List.eq_nil_of_length_eq_zero Hnl.out]
    simp
  · have H01 := hide (show ¬ nn = 0 ∧ ¬ nn = 1 from ⟨h0, h1⟩)
    clear h0 h1
    have ha := andNot_one nn hnr.1 hnr.2 H01.out.1 H01.out.2
    clear hnr
    go_wp2
    go_ret
    exact ⟨false, rfl, ⟨fun h => by simp at h, fun hf => by exfalso; have h01 := H01.out; have hl := loc_facts hf.1 Hnk.out Hnl.out Hnn.out Hss.out Hk.out; first | omega | (rcases hl.2.2.2.1 with h | h; omega; rw [h] at e4'; simp at e4')⟩, (Hb0.out.setCell (p := ⟨w.heap.size, 1, none⟩) (Nat.le_refl _) _)⟩
end Go.Proofs.Ytdkmccilnmdhmaa

/- Package wire: form, one kind of value. -/
namespace Go.Proofs.Ytdkmccilnmdhmaa
open Go.RowKit

set_option maxRecDepth 100000 in
set_option maxHeartbeats 4000000 in
theorem formw_k4 (d op : Nat) (v : V) (cs : List Value) (w : World) (hd : op + (d + 1) = 24) (hv : VC w (Old w) v cs) (hk : v.kind = 4)
    (ih : ∀ (x : V) (cs' : List Value) (w' : World), VC w' (Old w') x cs' → Calls Try.prog 26 #[.agg cs'.toArray, .int .i64 ((op + 1 : Nat) : Int)] w' (FPostI d x w')) :
    Calls Try.prog 26 #[.agg cs.toArray, .int .i64 (op : Int)] w (FPostI (d + 1) v w) := by
  have hpv := hv.boxed
  obtain ⟨KA, LA, kc, lc, rfl⟩ := hv.cells
  have hb0 := (Below.refl w.heap.size w).alloc (Nat.le_refl _) (.cells #[.int .u8 (v.kind : Int), .int .i64 v.n, sv v.s, .slice KA v.ks.length kc, .slice LA v.ls.length lc] 25)
  have hblk := Blk.new w 25 #[.int .u8 (v.kind : Int), .int .i64 v.n, sv v.s, .slice KA v.ks.length kc, .slice LA v.ls.length lc]
  obtain ⟨KA', LA', kc', lc', hat⟩ := hpv.at_
  obtain ⟨w0, hw0⟩ : ∃ w0, w.alloc (.cells #[.int .u8 (v.kind : Int), .int .i64 v.n, sv v.s, .slice KA v.ks.length kc, .slice LA v.ls.length lc] 25) = w0 := ⟨_, rfl⟩
  have hw0' : w.alloc (.cells [.int .u8 (v.kind : Int), .int .i64 v.n, sv v.s, .slice KA v.ks.length kc, .slice LA v.ls.length lc].toArray 25) = w0 := hw0
  rw [hw0'] at hat
  rw [hw0] at hb0 hblk
  obtain ⟨rfl, rfl⟩ : KA = KA' ∧ kc = kc' := by
    have h1 : w0.cell? ⟨w.heap.size, 3, none⟩ = some (.slice KA' v.ks.length kc') := by have := hat.c3; simpa using this
    have h2 := h1.symm.trans (hblk.cell 3)
    simp at h2
    exact ⟨h2.1.symm, h2.2.symm⟩
  obtain ⟨rfl, rfl⟩ : LA = LA' ∧ lc = lc' := by
    have h1 : w0.cell? ⟨w.heap.size, 4, none⟩ = some (.slice LA' v.ls.length lc') := by have := hat.c4; simpa using this
    have h2 := h1.symm.trans (hblk.cell 4)
    simp at h2
    exact ⟨h2.1.symm, h2.2.symm⟩
  have Hb0 := hide hb0
  have hkl := hat.kl
  have hll := hat.ll
  have hsl := hat.s
  have hk255 := hat.k
  have hnr := hat.n
  have c0 := hblk.cell 0
  have c1 := hblk.cell 1
  have c2 := hblk.cell 2
  have c3 := hblk.cell 3
  have c4 := hblk.cell 4
  have Hblk := hide hblk
  have Hv0 := hide (hv.later hb0)
  have y1 := hblk.frozen 1
  have y2 := hblk.frozen 2
  have y3 := hblk.frozen 3
  have y4 := hblk.frozen 4
  have hop : op < 24 := by omega
  have Ih := hide ih
  have Hwlt := hide (show w.heap.size < w0.heap.size from hblk.lt)
  clear hv ih hb0 hblk hpv hat hw0' hk255 hd
  obtain ⟨nk, hnk⟩ : ∃ nk, v.ks.length = nk := ⟨_, rfl⟩
  obtain ⟨nl, hnl⟩ : ∃ nl, v.ls.length = nl := ⟨_, rfl⟩
  obtain ⟨nn, hnn⟩ : ∃ nn, v.n = nn := ⟨_, rfl⟩
  obtain ⟨ss, hss⟩ : ∃ ss, v.s = ss := ⟨_, rfl⟩
  rw [hk, hnn, hss, hnk, hnl] at hw0 Hblk Hv0
  rw [hk] at c0
  rw [hnk] at c3 hkl
  rw [hnl] at c4 hll
  rw [hnn] at c1 hnr
  rw [hss] at c2 hsl
  rw [hk, hnk, hnl, hnn, hss]
  have hw0 : w.alloc (.cells #[.int .u8 4, .int .i64 nn, sv ss, .slice KA nk kc, .slice LA nl lc] 25) = w0 := hw0
  have c0 : w0.cell? ⟨w.heap.size, 0, none⟩ = some (.int .u8 4) := c0
  have c1 : w0.cell? ⟨w.heap.size, 1, none⟩ = some (.int .i64 nn) := c1
  have c2 : w0.cell? ⟨w.heap.size, 2, none⟩ = some (sv ss) := c2
  have c3 : w0.cell? ⟨w.heap.size, 3, none⟩ = some (.slice KA nk kc) := c3
  have c4 : w0.cell? ⟨w.heap.size, 4, none⟩ = some (.slice LA nl lc) := c4
  rw [show (((4 : Nat)) : Int) = 4 from rfl]
  have Hk := hide hk
  have Hnk := hide hnk
  have Hnl := hide hnl
  have Hnn := hide hnn
  have Hss := hide hss
  clear hnr
  clear hk hnk hnl hnn hss
  go_enter Try.func26, Try.ntmps26
  by_cases e2 : 200 < ss.length
  case pos =>
    go_wp2
    go_ret
    exact ⟨false, rfl, ⟨fun h => by simp at h, fun hf => by exfalso; have hl := loc_facts hf.1 Hnk.out Hnl.out Hnn.out Hss.out Hk.out; first | omega | (rcases hl.2.2.2.1 with h | h; omega; rw [h] at e4'; simp at e4')⟩, Hb0.out⟩
  by_cases e3 : nn = 0
  case neg =>
    have e3' : (nn == 0) = false := by rw [beq_eq_false_iff_ne]; exact e3
    have E3 := hide e3
    clear e3
    go_wp2
    go_ret
    exact ⟨false, rfl, ⟨fun h => by simp at h, fun hf => by exfalso; have e3 := E3.out; have hl := loc_facts hf.1 Hnk.out Hnl.out Hnn.out Hss.out Hk.out; first | omega | (rcases hl.2.2.2.1 with h | h; omega; rw [h] at e4'; simp at e4')⟩, (Hb0.out.setCell (p := ⟨w.heap.size, 2, none⟩) (Nat.le_refl _) _)⟩
  subst e3
  by_cases e5 : nk = 0
  case neg =>
    have e5' : ((nk : Int) == 0) = false := by rw [beq_eq_false_iff_ne]; omega
    have E5 := hide e5
    clear e5
    go_wp2
    go_ret
    exact ⟨false, rfl, ⟨fun h => by simp at h, fun hf => by exfalso; have e5 := E5.out; have hl := loc_facts hf.1 Hnk.out Hnl.out Hnn.out Hss.out Hk.out; first | omega | (rcases hl.2.2.2.1 with h | h; omega; rw [h] at e4'; simp at e4')⟩, (Hb0.out.setCell (p := ⟨w.heap.size, 2, none⟩) (Nat.le_refl _) _)⟩
  subst e5
  by_cases e6 : nl = 0
  case neg =>
    have e6' : ((nl : Int) == 0) = false := by rw [beq_eq_false_iff_ne]; omega
    have E6 := hide e6
    clear e6
    go_wp2
    go_ret
    exact ⟨false, rfl, ⟨fun h => by simp at h, fun hf => by exfalso; have e6 := E6.out; have hl := loc_facts hf.1 Hnk.out Hnl.out Hnn.out Hss.out Hk.out; first | omega | (rcases hl.2.2.2.1 with h | h; omega; rw [h] at e4'; simp at e4')⟩, (Hb0.out.setCell (p := ⟨w.heap.size, 2, none⟩) (Nat.le_refl _) _)⟩
  subst e6
  go_wp2
  go_ret
  refine ⟨true, rfl, ⟨fun _ => ⟨⟨by rw [Hk.out]; omega, by rw [Hnl.out]; omega, by rw [Hss.out]; first | omega | simp, .inr (.inr Hnn.out), .inl (by rw [Hk.out]; omega), .inr (.inr (List.eq_nil_of_length_eq_zero Hnl.out)), fun h => absurd (h.symm.trans Hk.out) (by decide), .inr (List.eq_nil_of_length_eq_zero Hnk.out), by rw [List.eq_nil_of_length_eq_zero Hnk.out]; simp⟩, ?_⟩, fun _ => rfl⟩, (Hb0.out.setCell (p := ⟨w.heap.size, 2, none⟩) (Nat.le_refl _) _)⟩
  rw [List.eq_nil_of_length_eq_zero Hnl.out]
  simp
end Go.Proofs.Ytdkmccilnmdhmaa

/- Package wire: form, one kind of value. -/
namespace Go.Proofs.Ytdkmccilnmdhmaa
open Go.RowKit

set_option maxRecDepth 100000 in
set_option maxHeartbeats 4000000 in
theorem formw_k5 (d op : Nat) (v : V) (cs : List Value) (w : World) (hd : op + (d + 1) = 24) (hv : VC w (Old w) v cs) (hk : v.kind = 5)
    (ih : ∀ (x : V) (cs' : List Value) (w' : World), VC w' (Old w') x cs' → Calls Try.prog 26 #[.agg cs'.toArray, .int .i64 ((op + 1 : Nat) : Int)] w' (FPostI d x w')) :
    Calls Try.prog 26 #[.agg cs.toArray, .int .i64 (op : Int)] w (FPostI (d + 1) v w) := by
  have hpv := hv.boxed
  obtain ⟨KA, LA, kc, lc, rfl⟩ := hv.cells
  have hb0 := (Below.refl w.heap.size w).alloc (Nat.le_refl _) (.cells #[.int .u8 (v.kind : Int), .int .i64 v.n, sv v.s, .slice KA v.ks.length kc, .slice LA v.ls.length lc] 25)
  have hblk := Blk.new w 25 #[.int .u8 (v.kind : Int), .int .i64 v.n, sv v.s, .slice KA v.ks.length kc, .slice LA v.ls.length lc]
  obtain ⟨KA', LA', kc', lc', hat⟩ := hpv.at_
  obtain ⟨w0, hw0⟩ : ∃ w0, w.alloc (.cells #[.int .u8 (v.kind : Int), .int .i64 v.n, sv v.s, .slice KA v.ks.length kc, .slice LA v.ls.length lc] 25) = w0 := ⟨_, rfl⟩
  have hw0' : w.alloc (.cells [.int .u8 (v.kind : Int), .int .i64 v.n, sv v.s, .slice KA v.ks.length kc, .slice LA v.ls.length lc].toArray 25) = w0 := hw0
  rw [hw0'] at hat
  rw [hw0] at hb0 hblk
  obtain ⟨rfl, rfl⟩ : KA = KA' ∧ kc = kc' := by
    have h1 : w0.cell? ⟨w.heap.size, 3, none⟩ = some (.slice KA' v.ks.length kc') := by have := hat.c3; simpa using this
    have h2 := h1.symm.trans (hblk.cell 3)
    simp at h2
    exact ⟨h2.1.symm, h2.2.symm⟩
  obtain ⟨rfl, rfl⟩ : LA = LA' ∧ lc = lc' := by
    have h1 : w0.cell? ⟨w.heap.size, 4, none⟩ = some (.slice LA' v.ls.length lc') := by have := hat.c4; simpa using this
    have h2 := h1.symm.trans (hblk.cell 4)
    simp at h2
    exact ⟨h2.1.symm, h2.2.symm⟩
  have Hb0 := hide hb0
  have hkl := hat.kl
  have hll := hat.ll
  have hsl := hat.s
  have hk255 := hat.k
  have hnr := hat.n
  have c0 := hblk.cell 0
  have c1 := hblk.cell 1
  have c2 := hblk.cell 2
  have c3 := hblk.cell 3
  have c4 := hblk.cell 4
  have Hblk := hide hblk
  have Hv0 := hide (hv.later hb0)
  have y1 := hblk.frozen 1
  have y2 := hblk.frozen 2
  have y3 := hblk.frozen 3
  have y4 := hblk.frozen 4
  have hop : op < 24 := by omega
  have Ih := hide ih
  have Hwlt := hide (show w.heap.size < w0.heap.size from hblk.lt)
  clear hv ih hb0 hblk hpv hat hw0' hk255 hd
  obtain ⟨nk, hnk⟩ : ∃ nk, v.ks.length = nk := ⟨_, rfl⟩
  obtain ⟨nl, hnl⟩ : ∃ nl, v.ls.length = nl := ⟨_, rfl⟩
  obtain ⟨nn, hnn⟩ : ∃ nn, v.n = nn := ⟨_, rfl⟩
  obtain ⟨ss, hss⟩ : ∃ ss, v.s = ss := ⟨_, rfl⟩
  rw [hk, hnn, hss, hnk, hnl] at hw0 Hblk Hv0
  rw [hk] at c0
  rw [hnk] at c3 hkl
  rw [hnl] at c4 hll
  rw [hnn] at c1 hnr
  rw [hss] at c2 hsl
  rw [hk, hnk, hnl, hnn, hss]
  have hw0 : w.alloc (.cells #[.int .u8 5, .int .i64 nn, sv ss, .slice KA nk kc, .slice LA nl lc] 25) = w0 := hw0
  have c0 : w0.cell? ⟨w.heap.size, 0, none⟩ = some (.int .u8 5) := c0
  have c1 : w0.cell? ⟨w.heap.size, 1, none⟩ = some (.int .i64 nn) := c1
  have c2 : w0.cell? ⟨w.heap.size, 2, none⟩ = some (sv ss) := c2
  have c3 : w0.cell? ⟨w.heap.size, 3, none⟩ = some (.slice KA nk kc) := c3
  have c4 : w0.cell? ⟨w.heap.size, 4, none⟩ = some (.slice LA nl lc) := c4
  rw [show (((5 : Nat)) : Int) = 5 from rfl]
  have Hk := hide hk
  have Hnk := hide hnk
  have Hnl := hide hnl
  have Hnn := hide hnn
  have Hss := hide hss
  clear hnr
  clear hk hnk hnl hnn hss
  go_enter Try.func26, Try.ntmps26
  have hfd : Calls Try.prog 39 #[.agg [.int .u8 5, .int .i64 nn, sv ss, .slice KA nk kc, .slice LA nl lc].toArray, .int .i64 ((op + 1 : Nat) : Int)] w0 (FdPost d v w0) := formed_any d (op + 1) v _ w0 Hv0.out Ih.out
  rw [show (((op + 1 : Nat)) : Int) = (op : Int) + 1 by omega] at hfd
  have Hfd := hide hfd
  clear hfd Ih
  go_wp2_with fail
  refine Hfd.out.mono ?_
  rintro e w1 ⟨b1, rfl, h1, hb1⟩
  have Hb1 := hide hb1
  have H1 := hide h1
  have hbk := Hblk.out.below hb1 Hwlt.out
  clear hb1 h1 Hfd c0 c1 c2 c3 c4 y1 y2 y3 y4 hw0
  cases b1 with
  | false =>
    clear hbk
    go_wp2
    go_ret
    exact ⟨false, rfl, ⟨fun h => by simp at h, fun hf => H1.out.2 ⟨hf.1.l, by rw [Hk.out]; rw [if_neg (by decide)]; rcases hf.1.o2 with h | h; (rw [Hk.out] at h; omega); rw [h]; rfl, hf.1.x, hf.2⟩⟩, Hb0.out.trans (Hb1.out.mono (Nat.le_of_lt Hwlt.out))⟩
  | true =>
    have c1 := hbk.cell 1
    have c2 : w1.cell? ⟨w.heap.size, 2, none⟩ = some (sv ss) := hbk.cell 2
    have c3 := hbk.cell 3
    have c4 := hbk.cell 4
    have y3 := hbk.frozen 3
    have y4 := hbk.frozen 4
    clear hbk
    by_cases e3 : nn = 0
    case neg =>
      have e3' : (nn == 0) = false := by rw [beq_eq_false_iff_ne]; exact e3
      have E3 := hide e3
      clear e3
      go_wp2
      go_ret
      exact ⟨false, rfl, ⟨fun h => by simp at h, fun hf => by exfalso; have e3 := E3.out; have hl := loc_facts hf.1 Hnk.out Hnl.out Hnn.out Hss.out Hk.out; first | omega | (rcases hl.2.2.2.1 with h | h; omega; rw [h] at e4'; simp at e4')⟩, (((Hb0.out.trans (Hb1.out.mono (Nat.le_of_lt Hwlt.out))).setCell (p := ⟨w.heap.size, 3, none⟩) (Nat.le_refl _) _).setCell (p := ⟨w.heap.size, 4, none⟩) (Nat.le_refl _) _)⟩
    subst e3
    by_cases e4 : ss = []
    case neg =>
      have e4' : ss.isEmpty = false := by
        cases ss with
        | nil => exact absurd rfl e4
        | cons a r => rfl
      clear e4
      go_wp2
      go_ret
      exact ⟨false, rfl, ⟨fun h => by simp at h, fun hf => by exfalso; have hl := loc_facts hf.1 Hnk.out Hnl.out Hnn.out Hss.out Hk.out; first | omega | (rcases hl.2.2.2.1 with h | h; omega; rw [h] at e4'; simp at e4')⟩, (((Hb0.out.trans (Hb1.out.mono (Nat.le_of_lt Hwlt.out))).setCell (p := ⟨w.heap.size, 3, none⟩) (Nat.le_refl _) _).setCell (p := ⟨w.heap.size, 4, none⟩) (Nat.le_refl _) _)⟩
    subst e4
    go_wp2
    go_ret
    exact ⟨true, rfl, ⟨fun _ => ⟨⟨by rw [Hk.out]; omega, (H1.out.1 (by simp)).1, by rw [Hss.out]; simp, .inr (.inr Hnn.out), .inr Hss.out, .inl Hk.out, fun h => absurd (h.symm.trans Hk.out) (by decide), .inr (by have h := (H1.out.1 (by simp)).2.1; rw [Hk.out, if_neg (by decide)] at h; exact List.eq_nil_of_length_eq_zero h), (H1.out.1 (by simp)).2.2.1⟩, (H1.out.1 (by simp)).2.2.2⟩, fun _ => rfl⟩, (((Hb0.out.trans (Hb1.out.mono (Nat.le_of_lt Hwlt.out))).setCell (p := ⟨w.heap.size, 3, none⟩) (Nat.le_refl _) _).setCell (p := ⟨w.heap.size, 4, none⟩) (Nat.le_refl _) _)⟩
end Go.Proofs.Ytdkmccilnmdhmaa

/- Package wire: form, one kind of value. -/
namespace Go.Proofs.Ytdkmccilnmdhmaa
open Go.RowKit

set_option maxRecDepth 100000 in
set_option maxHeartbeats 4000000 in
theorem formw_k6 (d op : Nat) (v : V) (cs : List Value) (w : World) (hd : op + (d + 1) = 24) (hv : VC w (Old w) v cs) (hk : v.kind = 6)
    (ih : ∀ (x : V) (cs' : List Value) (w' : World), VC w' (Old w') x cs' → Calls Try.prog 26 #[.agg cs'.toArray, .int .i64 ((op + 1 : Nat) : Int)] w' (FPostI d x w')) :
    Calls Try.prog 26 #[.agg cs.toArray, .int .i64 (op : Int)] w (FPostI (d + 1) v w) := by
  have hpv := hv.boxed
  obtain ⟨KA, LA, kc, lc, rfl⟩ := hv.cells
  have hb0 := (Below.refl w.heap.size w).alloc (Nat.le_refl _) (.cells #[.int .u8 (v.kind : Int), .int .i64 v.n, sv v.s, .slice KA v.ks.length kc, .slice LA v.ls.length lc] 25)
  have hblk := Blk.new w 25 #[.int .u8 (v.kind : Int), .int .i64 v.n, sv v.s, .slice KA v.ks.length kc, .slice LA v.ls.length lc]
  obtain ⟨KA', LA', kc', lc', hat⟩ := hpv.at_
  obtain ⟨w0, hw0⟩ : ∃ w0, w.alloc (.cells #[.int .u8 (v.kind : Int), .int .i64 v.n, sv v.s, .slice KA v.ks.length kc, .slice LA v.ls.length lc] 25) = w0 := ⟨_, rfl⟩
  have hw0' : w.alloc (.cells [.int .u8 (v.kind : Int), .int .i64 v.n, sv v.s, .slice KA v.ks.length kc, .slice LA v.ls.length lc].toArray 25) = w0 := hw0
  rw [hw0'] at hat
  rw [hw0] at hb0 hblk
  obtain ⟨rfl, rfl⟩ : KA = KA' ∧ kc = kc' := by
    have h1 : w0.cell? ⟨w.heap.size, 3, none⟩ = some (.slice KA' v.ks.length kc') := by have := hat.c3; simpa using this
    have h2 := h1.symm.trans (hblk.cell 3)
    simp at h2
    exact ⟨h2.1.symm, h2.2.symm⟩
  obtain ⟨rfl, rfl⟩ : LA = LA' ∧ lc = lc' := by
    have h1 : w0.cell? ⟨w.heap.size, 4, none⟩ = some (.slice LA' v.ls.length lc') := by have := hat.c4; simpa using this
    have h2 := h1.symm.trans (hblk.cell 4)
    simp at h2
    exact ⟨h2.1.symm, h2.2.symm⟩
  have Hb0 := hide hb0
  have hkl := hat.kl
  have hll := hat.ll
  have hsl := hat.s
  have hk255 := hat.k
  have hnr := hat.n
  have c0 := hblk.cell 0
  have c1 := hblk.cell 1
  have c2 := hblk.cell 2
  have c3 := hblk.cell 3
  have c4 := hblk.cell 4
  have Hblk := hide hblk
  have Hv0 := hide (hv.later hb0)
  have y1 := hblk.frozen 1
  have y2 := hblk.frozen 2
  have y3 := hblk.frozen 3
  have y4 := hblk.frozen 4
  have hop : op < 24 := by omega
  have Ih := hide ih
  have Hwlt := hide (show w.heap.size < w0.heap.size from hblk.lt)
  clear hv ih hb0 hblk hpv hat hw0' hk255 hd
  obtain ⟨nk, hnk⟩ : ∃ nk, v.ks.length = nk := ⟨_, rfl⟩
  obtain ⟨nl, hnl⟩ : ∃ nl, v.ls.length = nl := ⟨_, rfl⟩
  obtain ⟨nn, hnn⟩ : ∃ nn, v.n = nn := ⟨_, rfl⟩
  obtain ⟨ss, hss⟩ : ∃ ss, v.s = ss := ⟨_, rfl⟩
  rw [hk, hnn, hss, hnk, hnl] at hw0 Hblk Hv0
  rw [hk] at c0
  rw [hnk] at c3 hkl
  rw [hnl] at c4 hll
  rw [hnn] at c1 hnr
  rw [hss] at c2 hsl
  rw [hk, hnk, hnl, hnn, hss]
  have hw0 : w.alloc (.cells #[.int .u8 6, .int .i64 nn, sv ss, .slice KA nk kc, .slice LA nl lc] 25) = w0 := hw0
  have c0 : w0.cell? ⟨w.heap.size, 0, none⟩ = some (.int .u8 6) := c0
  have c1 : w0.cell? ⟨w.heap.size, 1, none⟩ = some (.int .i64 nn) := c1
  have c2 : w0.cell? ⟨w.heap.size, 2, none⟩ = some (sv ss) := c2
  have c3 : w0.cell? ⟨w.heap.size, 3, none⟩ = some (.slice KA nk kc) := c3
  have c4 : w0.cell? ⟨w.heap.size, 4, none⟩ = some (.slice LA nl lc) := c4
  rw [show (((6 : Nat)) : Int) = 6 from rfl]
  have Hk := hide hk
  have Hnk := hide hnk
  have Hnl := hide hnl
  have Hnn := hide hnn
  have Hss := hide hss
  clear hnr
  clear hk hnk hnl hnn hss
  go_enter Try.func26, Try.ntmps26
  have hfd : Calls Try.prog 39 #[.agg [.int .u8 6, .int .i64 nn, sv ss, .slice KA nk kc, .slice LA nl lc].toArray, .int .i64 ((op + 1 : Nat) : Int)] w0 (FdPost d v w0) := formed_any d (op + 1) v _ w0 Hv0.out Ih.out
  rw [show (((op + 1 : Nat)) : Int) = (op : Int) + 1 by omega] at hfd
  have Hfd := hide hfd
  clear hfd Ih
  go_wp2_with fail
  refine Hfd.out.mono ?_
  rintro e w1 ⟨b1, rfl, h1, hb1⟩
  have Hb1 := hide hb1
  have H1 := hide h1
  have hbk := Hblk.out.below hb1 Hwlt.out
  clear hb1 h1 Hfd c0 c1 c2 c3 c4 y1 y2 y3 y4 hw0
  cases b1 with
  | false =>
    clear hbk
    go_wp2
    go_ret
    exact ⟨false, rfl, ⟨fun h => by simp at h, fun hf => H1.out.2 ⟨hf.1.l, by rw [Hk.out]; rw [if_pos rfl]; exact hf.1.o Hk.out, hf.1.x, hf.2⟩⟩, Hb0.out.trans (Hb1.out.mono (Nat.le_of_lt Hwlt.out))⟩
  | true =>
    have c1 := hbk.cell 1
    have c2 : w1.cell? ⟨w.heap.size, 2, none⟩ = some (sv ss) := hbk.cell 2
    have c3 := hbk.cell 3
    have c4 := hbk.cell 4
    have y3 := hbk.frozen 3
    have y4 := hbk.frozen 4
    clear hbk
    by_cases e3 : nn = 0
    case neg =>
      have e3' : (nn == 0) = false := by rw [beq_eq_false_iff_ne]; exact e3
      have E3 := hide e3
      clear e3
      go_wp2
      go_ret
      exact ⟨false, rfl, ⟨fun h => by simp at h, fun hf => by exfalso; have e3 := E3.out; have hl := loc_facts hf.1 Hnk.out Hnl.out Hnn.out Hss.out Hk.out; first | omega | (rcases hl.2.2.2.1 with h | h; omega; rw [h] at e4'; simp at e4')⟩, (((Hb0.out.trans (Hb1.out.mono (Nat.le_of_lt Hwlt.out))).setCell (p := ⟨w.heap.size, 3, none⟩) (Nat.le_refl _) _).setCell (p := ⟨w.heap.size, 4, none⟩) (Nat.le_refl _) _)⟩
    subst e3
    by_cases e4 : ss = []
    case neg =>
      have e4' : ss.isEmpty = false := by
        cases ss with
        | nil => exact absurd rfl e4
        | cons a r => rfl
      clear e4
      go_wp2
      go_ret
      exact ⟨false, rfl, ⟨fun h => by simp at h, fun hf => by exfalso; have hl := loc_facts hf.1 Hnk.out Hnl.out Hnn.out Hss.out Hk.out; first | omega | (rcases hl.2.2.2.1 with h | h; omega; rw [h] at e4'; simp at e4')⟩, (((Hb0.out.trans (Hb1.out.mono (Nat.le_of_lt Hwlt.out))).setCell (p := ⟨w.heap.size, 3, none⟩) (Nat.le_refl _) _).setCell (p := ⟨w.heap.size, 4, none⟩) (Nat.le_refl _) _)⟩
    subst e4
    go_wp2
    go_ret
    exact ⟨true, rfl, ⟨fun _ => ⟨⟨by rw [Hk.out]; omega, (H1.out.1 (by simp)).1, by rw [Hss.out]; simp, .inr (.inr Hnn.out), .inr Hss.out, .inr (.inl Hk.out), fun _ => by have h := (H1.out.1 (by simp)).2.1; rw [Hk.out, if_pos rfl] at h; exact h, .inl Hk.out, (H1.out.1 (by simp)).2.2.1⟩, (H1.out.1 (by simp)).2.2.2⟩, fun _ => rfl⟩, (((Hb0.out.trans (Hb1.out.mono (Nat.le_of_lt Hwlt.out))).setCell (p := ⟨w.heap.size, 3, none⟩) (Nat.le_refl _) _).setCell (p := ⟨w.heap.size, 4, none⟩) (Nat.le_refl _) _)⟩
end Go.Proofs.Ytdkmccilnmdhmaa

/- Package wire: form, one kind of value. -/
namespace Go.Proofs.Ytdkmccilnmdhmaa
open Go.RowKit

set_option maxRecDepth 100000 in
set_option maxHeartbeats 4000000 in
theorem formw_k7 (d op : Nat) (v : V) (cs : List Value) (w : World) (hd : op + (d + 1) = 24) (hv : VC w (Old w) v cs) (hk : v.kind = 7)
    (ih : ∀ (x : V) (cs' : List Value) (w' : World), VC w' (Old w') x cs' → Calls Try.prog 26 #[.agg cs'.toArray, .int .i64 ((op + 1 : Nat) : Int)] w' (FPostI d x w')) :
    Calls Try.prog 26 #[.agg cs.toArray, .int .i64 (op : Int)] w (FPostI (d + 1) v w) := by
  have hpv := hv.boxed
  obtain ⟨KA, LA, kc, lc, rfl⟩ := hv.cells
  have hb0 := (Below.refl w.heap.size w).alloc (Nat.le_refl _) (.cells #[.int .u8 (v.kind : Int), .int .i64 v.n, sv v.s, .slice KA v.ks.length kc, .slice LA v.ls.length lc] 25)
  have hblk := Blk.new w 25 #[.int .u8 (v.kind : Int), .int .i64 v.n, sv v.s, .slice KA v.ks.length kc, .slice LA v.ls.length lc]
  obtain ⟨KA', LA', kc', lc', hat⟩ := hpv.at_
  obtain ⟨w0, hw0⟩ : ∃ w0, w.alloc (.cells #[.int .u8 (v.kind : Int), .int .i64 v.n, sv v.s, .slice KA v.ks.length kc, .slice LA v.ls.length lc] 25) = w0 := ⟨_, rfl⟩
  have hw0' : w.alloc (.cells [.int .u8 (v.kind : Int), .int .i64 v.n, sv v.s, .slice KA v.ks.length kc, .slice LA v.ls.length lc].toArray 25) = w0 := hw0
  rw [hw0'] at hat
  rw [hw0] at hb0 hblk
  obtain ⟨rfl, rfl⟩ : KA = KA' ∧ kc = kc' := by
    have h1 : w0.cell? ⟨w.heap.size, 3, none⟩ = some (.slice KA' v.ks.length kc') := by have := hat.c3; simpa using this
    have h2 := h1.symm.trans (hblk.cell 3)
    simp at h2
    exact ⟨h2.1.symm, h2.2.symm⟩
  obtain ⟨rfl, rfl⟩ : LA = LA' ∧ lc = lc' := by
    have h1 : w0.cell? ⟨w.heap.size, 4, none⟩ = some (.slice LA' v.ls.length lc') := by have := hat.c4; simpa using this
    have h2 := h1.symm.trans (hblk.cell 4)
    simp at h2
    exact ⟨h2.1.symm, h2.2.symm⟩
  have Hb0 := hide hb0
  have hkl := hat.kl
  have hll := hat.ll
  have hsl := hat.s
  have hk255 := hat.k
  have hnr := hat.n
  have c0 := hblk.cell 0
  have c1 := hblk.cell 1
  have c2 := hblk.cell 2
  have c3 := hblk.cell 3
  have c4 := hblk.cell 4
  have Hblk := hide hblk
  have Hv0 := hide (hv.later hb0)
  have y1 := hblk.frozen 1
  have y2 := hblk.frozen 2
  have y3 := hblk.frozen 3
  have y4 := hblk.frozen 4
  have hop : op < 24 := by omega
  have Ih := hide ih
  have Hwlt := hide (show w.heap.size < w0.heap.size from hblk.lt)
  clear hv ih hb0 hblk hpv hat hw0' hk255 hd
  obtain ⟨nk, hnk⟩ : ∃ nk, v.ks.length = nk := ⟨_, rfl⟩
  obtain ⟨nl, hnl⟩ : ∃ nl, v.ls.length = nl := ⟨_, rfl⟩
  obtain ⟨nn, hnn⟩ : ∃ nn, v.n = nn := ⟨_, rfl⟩
  obtain ⟨ss, hss⟩ : ∃ ss, v.s = ss := ⟨_, rfl⟩
  rw [hk, hnn, hss, hnk, hnl] at hw0 Hblk Hv0
  rw [hk] at c0
  rw [hnk] at c3 hkl
  rw [hnl] at c4 hll
  rw [hnn] at c1 hnr
  rw [hss] at c2 hsl
  rw [hk, hnk, hnl, hnn, hss]
  have hw0 : w.alloc (.cells #[.int .u8 7, .int .i64 nn, sv ss, .slice KA nk kc, .slice LA nl lc] 25) = w0 := hw0
  have c0 : w0.cell? ⟨w.heap.size, 0, none⟩ = some (.int .u8 7) := c0
  have c1 : w0.cell? ⟨w.heap.size, 1, none⟩ = some (.int .i64 nn) := c1
  have c2 : w0.cell? ⟨w.heap.size, 2, none⟩ = some (sv ss) := c2
  have c3 : w0.cell? ⟨w.heap.size, 3, none⟩ = some (.slice KA nk kc) := c3
  have c4 : w0.cell? ⟨w.heap.size, 4, none⟩ = some (.slice LA nl lc) := c4
  rw [show (((7 : Nat)) : Int) = 7 from rfl]
  have Hk := hide hk
  have Hnk := hide hnk
  have Hnl := hide hnl
  have Hnn := hide hnn
  have Hss := hide hss
  clear hnr
  clear hk hnk hnl hnn hss
  go_enter Try.func26, Try.ntmps26
  by_cases e2 : 200 < ss.length
  case pos =>
    go_wp2
    go_ret
    exact ⟨false, rfl, ⟨fun h => by simp at h, fun hf => by exfalso; have hl := loc_facts hf.1 Hnk.out Hnl.out Hnn.out Hss.out Hk.out; first | omega | (rcases hl.2.2.2.1 with h | h; omega; rw [h] at e4'; simp at e4')⟩, Hb0.out⟩
  by_cases e3 : nn = 0
  case neg =>
    have e3' : (nn == 0) = false := by rw [beq_eq_false_iff_ne]; exact e3
    have E3 := hide e3
    clear e3
    go_wp2
    go_ret
    exact ⟨false, rfl, ⟨fun h => by simp at h, fun hf => by exfalso; have e3 := E3.out; have hl := loc_facts hf.1 Hnk.out Hnl.out Hnn.out Hss.out Hk.out; first | omega | (rcases hl.2.2.2.1 with h | h; omega; rw [h] at e4'; simp at e4')⟩, (Hb0.out.setCell (p := ⟨w.heap.size, 2, none⟩) (Nat.le_refl _) _)⟩
  subst e3
  by_cases e5 : nk = 0
  case neg =>
    have e5' : ((nk : Int) == 0) = false := by rw [beq_eq_false_iff_ne]; omega
    have E5 := hide e5
    clear e5
    go_wp2
    go_ret
    exact ⟨false, rfl, ⟨fun h => by simp at h, fun hf => by exfalso; have e5 := E5.out; have hl := loc_facts hf.1 Hnk.out Hnl.out Hnn.out Hss.out Hk.out; first | omega | (rcases hl.2.2.2.1 with h | h; omega; rw [h] at e4'; simp at e4')⟩, (Hb0.out.setCell (p := ⟨w.heap.size, 2, none⟩) (Nat.le_refl _) _)⟩
  subst e5
  by_cases e6 : nl = 0
  case neg =>
    have e6' : ((nl : Int) == 0) = false := by rw [beq_eq_false_iff_ne]; omega
    have E6 := hide e6
    clear e6
    go_wp2
    go_ret
    exact ⟨false, rfl, ⟨fun h => by simp at h, fun hf => by exfalso; have e6 := E6.out; have hl := loc_facts hf.1 Hnk.out Hnl.out Hnn.out Hss.out Hk.out; first | omega | (rcases hl.2.2.2.1 with h | h; omega; rw [h] at e4'; simp at e4')⟩, (Hb0.out.setCell (p := ⟨w.heap.size, 2, none⟩) (Nat.le_refl _) _)⟩
  subst e6
  go_wp2
  go_ret
  refine ⟨true, rfl, ⟨fun _ => ⟨⟨by rw [Hk.out]; omega, by rw [Hnl.out]; omega, by rw [Hss.out]; first | omega | simp, .inr (.inr Hnn.out), .inl (by rw [Hk.out]; omega), .inr (.inr (List.eq_nil_of_length_eq_zero Hnl.out)), fun h => absurd (h.symm.trans Hk.out) (by decide), .inr (List.eq_nil_of_length_eq_zero Hnk.out), by rw [List.eq_nil_of_length_eq_zero Hnk.out]; simp⟩, ?_⟩, fun _ => rfl⟩, (Hb0.out.setCell (p := ⟨w.heap.size, 2, none⟩) (Nat.le_refl _) _)⟩
  rw [List.eq_nil_of_length_eq_zero Hnl.out]
  simp
end Go.Proofs.Ytdkmccilnmdhmaa

/- Package wire: form, one kind of value. -/
namespace Go.Proofs.Ytdkmccilnmdhmaa
open Go.RowKit

set_option maxRecDepth 100000 in
set_option maxHeartbeats 4000000 in
theorem formw_k8 (d op : Nat) (v : V) (cs : List Value) (w : World) (hd : op + (d + 1) = 24) (hv : VC w (Old w) v cs) (hk : v.kind = 8)
    (ih : ∀ (x : V) (cs' : List Value) (w' : World), VC w' (Old w') x cs' → Calls Try.prog 26 #[.agg cs'.toArray, .int .i64 ((op + 1 : Nat) : Int)] w' (FPostI d x w')) :
    Calls Try.prog 26 #[.agg cs.toArray, .int .i64 (op : Int)] w (FPostI (d + 1) v w) := by
  have hpv := hv.boxed
  obtain ⟨KA, LA, kc, lc, rfl⟩ := hv.cells
  have hb0 := (Below.refl w.heap.size w).alloc (Nat.le_refl _) (.cells #[.int .u8 (v.kind : Int), .int .i64 v.n, sv v.s, .slice KA v.ks.length kc, .slice LA v.ls.length lc] 25)
  have hblk := Blk.new w 25 #[.int .u8 (v.kind : Int), .int .i64 v.n, sv v.s, .slice KA v.ks.length kc, .slice LA v.ls.length lc]
  obtain ⟨KA', LA', kc', lc', hat⟩ := hpv.at_
  obtain ⟨w0, hw0⟩ : ∃ w0, w.alloc (.cells #[.int .u8 (v.kind : Int), .int .i64 v.n, sv v.s, .slice KA v.ks.length kc, .slice LA v.ls.length lc] 25) = w0 := ⟨_, rfl⟩
  have hw0' : w.alloc (.cells [.int .u8 (v.kind : Int), .int .i64 v.n, sv v.s, .slice KA v.ks.length kc, .slice LA v.ls.length lc].toArray 25) = w0 := hw0
  rw [hw0'] at hat
  rw [hw0] at hb0 hblk
  obtain ⟨rfl, rfl⟩ : KA = KA' ∧ kc = kc' := by
    have h1 : w0.cell? ⟨w.heap.size, 3, none⟩ = some (.slice KA' v.ks.length kc') := by have := hat.c3; simpa using this
    have h2 := h1.symm.trans (hblk.cell 3)
    simp at h2
    exact ⟨h2.1.symm, h2.2.symm⟩
  obtain ⟨rfl, rfl⟩ : LA = LA' ∧ lc = lc' := by
    have h1 : w0.cell? ⟨w.heap.size, 4, none⟩ = some (.slice LA' v.ls.length lc') := by have := hat.c4; simpa using this
    have h2 := h1.symm.trans (hblk.cell 4)
    simp at h2
    exact ⟨h2.1.symm, h2.2.symm⟩
  have Hb0 := hide hb0
  have hkl := hat.kl
  have hll := hat.ll
  have hsl := hat.s
  have hk255 := hat.k
  have hnr := hat.n
  have c0 := hblk.cell 0
  have c1 := hblk.cell 1
  have c2 := hblk.cell 2
  have c3 := hblk.cell 3
  have c4 := hblk.cell 4
  have Hblk := hide hblk
  have Hv0 := hide (hv.later hb0)
  have y1 := hblk.frozen 1
  have y2 := hblk.frozen 2
  have y3 := hblk.frozen 3
  have y4 := hblk.frozen 4
  have hop : op < 24 := by omega
  have Ih := hide ih
  have Hwlt := hide (show w.heap.size < w0.heap.size from hblk.lt)
  clear hv ih hb0 hblk hpv hat hw0' hk255 hd
  obtain ⟨nk, hnk⟩ : ∃ nk, v.ks.length = nk := ⟨_, rfl⟩
  obtain ⟨nl, hnl⟩ : ∃ nl, v.ls.length = nl := ⟨_, rfl⟩
  obtain ⟨nn, hnn⟩ : ∃ nn, v.n = nn := ⟨_, rfl⟩
  obtain ⟨ss, hss⟩ : ∃ ss, v.s = ss := ⟨_, rfl⟩
  rw [hk, hnn, hss, hnk, hnl] at hw0 Hblk Hv0
  rw [hk] at c0
  rw [hnk] at c3 hkl
  rw [hnl] at c4 hll
  rw [hnn] at c1 hnr
  rw [hss] at c2 hsl
  rw [hk, hnk, hnl, hnn, hss]
  have hw0 : w.alloc (.cells #[.int .u8 8, .int .i64 nn, sv ss, .slice KA nk kc, .slice LA nl lc] 25) = w0 := hw0
  have c0 : w0.cell? ⟨w.heap.size, 0, none⟩ = some (.int .u8 8) := c0
  have c1 : w0.cell? ⟨w.heap.size, 1, none⟩ = some (.int .i64 nn) := c1
  have c2 : w0.cell? ⟨w.heap.size, 2, none⟩ = some (sv ss) := c2
  have c3 : w0.cell? ⟨w.heap.size, 3, none⟩ = some (.slice KA nk kc) := c3
  have c4 : w0.cell? ⟨w.heap.size, 4, none⟩ = some (.slice LA nl lc) := c4
  rw [show (((8 : Nat)) : Int) = 8 from rfl]
  have Hk := hide hk
  have Hnk := hide hnk
  have Hnl := hide hnl
  have Hnn := hide hnn
  have Hss := hide hss
  clear hnr
  clear hk hnk hnl hnn hss
  go_enter Try.func26, Try.ntmps26
  by_cases e2 : 200 < ss.length
  case pos =>
    go_wp2
    go_ret
    exact ⟨false, rfl, ⟨fun h => by simp at h, fun hf => by exfalso; have hl := loc_facts hf.1 Hnk.out Hnl.out Hnn.out Hss.out Hk.out; first | omega | (rcases hl.2.2.2.1 with h | h; omega; rw [h] at e4'; simp at e4')⟩, Hb0.out⟩
  by_cases e3 : nn = 0
  case neg =>
    have e3' : (nn == 0) = false := by rw [beq_eq_false_iff_ne]; exact e3
    have E3 := hide e3
    clear e3
    go_wp2
    go_ret
    exact ⟨false, rfl, ⟨fun h => by simp at h, fun hf => by exfalso; have e3 := E3.out; have hl := loc_facts hf.1 Hnk.out Hnl.out Hnn.out Hss.out Hk.out; first | omega | (rcases hl.2.2.2.1 with h | h; omega; rw [h] at e4'; simp at e4')⟩, (Hb0.out.setCell (p := ⟨w.heap.size, 2, none⟩) (Nat.le_refl _) _)⟩
  subst e3
  by_cases e5 : nk = 0
  case neg =>
    have e5' : ((nk : Int) == 0) = false := by rw [beq_eq_false_iff_ne]; omega
    have E5 := hide e5
    clear e5
    go_wp2
    go_ret
    exact ⟨false, rfl, ⟨fun h => by simp at h, fun hf => by exfalso; have e5 := E5.out; have hl := loc_facts hf.1 Hnk.out Hnl.out Hnn.out Hss.out Hk.out; first | omega | (rcases hl.2.2.2.1 with h | h; omega; rw [h] at e4'; simp at e4')⟩, (Hb0.out.setCell (p := ⟨w.heap.size, 2, none⟩) (Nat.le_refl _) _)⟩
  subst e5
  by_cases e6 : nl = 0
  case neg =>
    have e6' : ((nl : Int) == 0) = false := by rw [beq_eq_false_iff_ne]; omega
    have E6 := hide e6
    clear e6
    go_wp2
    go_ret
    exact ⟨false, rfl, ⟨fun h => by simp at h, fun hf => by exfalso; have e6 := E6.out; have hl := loc_facts hf.1 Hnk.out Hnl.out Hnn.out Hss.out Hk.out; first | omega | (rcases hl.2.2.2.1 with h | h; omega; rw [h] at e4'; simp at e4')⟩, (Hb0.out.setCell (p := ⟨w.heap.size, 2, none⟩) (Nat.le_refl _) _)⟩
  subst e6
  go_wp2
  go_ret
  refine ⟨true, rfl, ⟨fun _ => ⟨⟨by rw [Hk.out]; omega, by rw [Hnl.out]; omega, by rw [Hss.out]; first | omega | simp, .inr (.inr Hnn.out), .inl (by rw [Hk.out]; omega), .inr (.inr (List.eq_nil_of_length_eq_zero Hnl.out)), fun h => absurd (h.symm.trans Hk.out) (by decide), .inr (List.eq_nil_of_length_eq_zero Hnk.out), by rw [List.eq_nil_of_length_eq_zero Hnk.out]; simp⟩, ?_⟩, fun _ => rfl⟩, (Hb0.out.setCell (p := ⟨w.heap.size, 2, none⟩) (Nat.le_refl _) _)⟩
  rw [List.eq_nil_of_length_eq_zero Hnl.out]
  simp
end Go.Proofs.Ytdkmccilnmdhmaa
