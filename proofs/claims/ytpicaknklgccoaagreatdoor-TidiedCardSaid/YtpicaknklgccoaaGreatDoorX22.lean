import Derived.Test.YtpicaknklgccoaaGreatDoorX21
namespace Go.Proofs.YtpicaknklgccoaaGreatDoor
open Go.RowKit
theorem stop_ne (m : MM) : (m.stop 12).fault ≠ 0 := by unfold MM.stop; split <;> simp_all
set_option maxRecDepth 100000 in
set_option maxHeartbeats 4000000 in
theorem step_k (k : Nat) (fn : FuncId) (mb B : Nat) (tn to_ : Value) (fuel : Nat) (ns : List NR) (op : List Int) (n : NR) (hform : n.form = k) (hkf : (k = 3 ∧ fn = 159) ∨ (k = 4 ∧ fn = 160) ∨ (k = 5 ∧ fn = 161) ∨ (k = 6 ∧ fn = 161) ∨ (k = 7 ∧ fn = 162) ∨ (k = 8 ∧ fn = 163) ∨ (k = 9 ∧ fn = 163) ∨ (k = 10 ∧ fn = 163) ∨ (k = 11 ∧ fn = 164)) (c : Nat) (g : MM → MV × MM) (hg : ∀ (w : World) (nv cv rv : Value) (m : MM), MSt mb B w tn to_ fuel nv cv rv m ns op c → Calls Tryz.prog fn #[ptr mb, nrVal n] w (MOut mb w tn to_ fuel nv cv rv (g m)))
  (w : World) (nv cv rv : Value) (m : MM) (h : MSt mb B w tn to_ fuel nv cv rv m ns op (c)) :
  Calls Tryz.prog 130 #[ptr mb, nrVal n] w (MOut mb w tn to_ fuel nv cv rv (mBegun fuel m (g))) := by
 obtain ⟨N, hN⟩ : ∃ N : Obj, N = .cells #[.int .i64 n.form, .int .i64 n.at_, .int .i64 n.beh, .int .i64 n.num, .string (bs n.word), .int .i64 n.region, .int .i64 n.source, .int .i64 n.p0, .int .i64 n.p1, .int .i64 n.p2] 160 := ⟨_, rfl⟩
 obtain ⟨R, hR⟩ : ∃ R : Obj, R = .cells #[.bool false, .int .i64 0] 171 := ⟨_, rfl⟩
 obtain ⟨W1, hE⟩ : ∃ W1, W1 = (w.alloc N).alloc R := ⟨_, rfl⟩
 have hW1 : Below w.heap.size w W1 := by rw [hE]; exact below_al (below_al (Below.refl _ _) _) _
 have h1 := h.below hW1
 have hsN : Beside mb w.heap.size W1 nv cv rv (nrO n) := Beside.new h.i (by rw [hE, hN]; exact blk_alloc _ (blk_new w _)) (Nat.le_refl _)
 have hsR : Beside mb (w.heap.size + 1) W1 nv cv rv (.cells #[.bool false, .int .i64 0] 171) := Beside.new h.i (by rw [hE, hR]; have := blk_new (w.alloc N) (.cells #[.bool false, .int .i64 0] 171); simpa using this) (by omega)
 have HF1 : Hid (PFr mb mb w W1 nv cv rv nv cv rv) := PFr.below mb mb nv cv rv hW1
 have H1 : Hid _ := h1
 have HSN : Hid _ := hsN
 have HSR : Hid _ := hsR
 have hrw : w.heap.size ≤ w.heap.size + 1 := by omega
 obtain ⟨res, hres⟩ : ∃ res, res = mBegun fuel m (g) := ⟨_, rfl⟩
 rw [← hres]
 have HRES : Hid _ := hres
 obtain ⟨y2, y3, _⟩ := mm_cells h1.i.y
 have hmb := blk_lt h1.i.y
 have HFORM : Hid _ := hform
 clear hres hW1 h1 hsN hsR h hform
 unfold ptr nrVal
 go_enter Tryz.func130, Tryz.ntmps130
 subst hN
 subst hR
 go_upto_region 1 with fail
 rw [← hE]
 clear hE
 generalize w.heap.size + 1 = q at *
 go_quiet (fail)
 rename_i nq
 obtain ⟨W2, hE2⟩ : ∃ W2, W2 = W1.drewN nq := ⟨_, rfl⟩
 have hbl : Below W1.heap.size W1 W2 := by rw [hE2]; exact below_dn (Below.refl _ _)
 rw [← hE2]
 have hf2 : PFr mb mb W1 W2 nv cv rv nv cv rv := PFr.below mb mb nv cv rv hbl
 have h2 := H1.out.below hbl
 have hsN2 := HSN.out.keep hf2
 have hsR2 := HSR.out.keep hf2
 have HF2 : Hid _ := HF1.out.trans hf2
 clear hE2 hbl hf2 H1 HSN HSR HF1 y2 y3 hmb
 obtain ⟨y2, y3, y4, _⟩ := mm_cells h2.i.y
 have f3 : W2.frozen? ⟨mb, 3, none⟩ = false := blk_free h2.i.y 3
 have hmb := blk_lt h2.i.y
 have hstp := h2.bd.steps
 have hfu := h2.fu
 have H2 : Hid _ := h2
 have HSN2 : Hid _ := hsN2
 have HSR2 : Hid _ := hsR2
 obtain ⟨c0, c1, c2, c3, c4, c5, c6, c7, c8, c9⟩ := nr_cells10 hsN2.b
 have hln := blk_lt hsN2.b
 clear h2 hsN2 hsR2
 by_cases hq : fuel ≤ m.steps
 ·have hr : res = (v0, m.stop 12) := by
   rw [HRES.out]; unfold mBegun
   simp only [if_pos hq]
   rw [if_pos (stop_ne m)]
  clear HRES
  subst hr
  have hst := stop_any mb W2 tn to_ fuel nv cv rv m 12 H2.out.i
  have HST : Hid _ := hst
  clear hst
  unfold ptr at HST
  go_wp2_with fail
  refine Calls.mono HST.out ?_
  rintro _ w3 ⟨rfl, hf3, hi3⟩
  have HF5 : Hid _ := HF2.out.trans hf3
  have HI5 : Hid _ := hi3
  have hsR5 := HSR2.out.keep hf3
  have HSR5 : Hid _ := hsR5
  have x0 : w3.cell? ⟨q, 0, none⟩ = some (.bool false) := by rw [blk_cell hsR5.b]; rfl
  have x1 : w3.cell? ⟨q, 1, none⟩ = some (.int .i64 0) := by rw [blk_cell hsR5.b]; rfl
  have g0 : w3.frozen? ⟨q, 0, none⟩ = false := blk_free hsR5.b 0
  have g1 : w3.frozen? ⟨q, 1, none⟩ = false := blk_free hsR5.b 1
  have hq5 := blk_lt hsR5.b
  have z4 := (mm_cells hi3.y).2.2.1
  have hne : ((m.stop 12).fault : Int) != 0 := by have := stop_ne m; simpa using this
  have hmb3 := blk_lt hi3.y
  clear hf3 hi3 hsR5 HST HF2 HSR2 HSN2 H2 y2 y3 y4 f3 c0 c1 c2 c3 c4 c5 c6 c7 c8 c9
  unfold v0
  go_wp2
  have hs7 := HSR5.out
  have hi7 := (HI5.out.beside hs7.ne hs7.n hs7.c hs7.r 0 (.bool (⟨false, 0⟩ : MV).c)).beside hs7.ne hs7.n hs7.c hs7.r 1 (.int .i64 (⟨false, 0⟩ : MV).n)
  have hf7 := (HF5.out.upto (below_set' (below_set' (Below.refl _ _) ⟨q, 0, none⟩ hrw (.bool (⟨false, 0⟩ : MV).c)) ⟨q, 1, none⟩ hrw (.int .i64 (⟨false, 0⟩ : MV).n)))
  refine bodyPost_ret (v := .agg #[.bool (⟨false, 0⟩ : MV).c, .int .i64 (⟨false, 0⟩ : MV).n]) (by simp [results, Tryz.results130, go_sem, x0, x1]) rfl ⟨rfl, _, _, _, hf7, hi7⟩
 ·by_cases hz : m.fault = 0
  ·have hr : res = (g) { m with steps := m.steps + 1 } := by
    rw [HRES.out]; unfold mBegun
    simp only [if_neg hq]
    rw [if_neg (fun hn => hn hz)]
   clear HRES
   rw [hz] at y4
   have hs3 := H2.out.i.scal { m with steps := m.steps + 1 } 3 (.int .i64 ((m.steps : Int) + 1)) rfl rfl rfl rfl
   obtain ⟨W3, hE3⟩ : ∃ W3, W3 = W2.setCell ⟨mb, 3, none⟩ (.int .i64 ((m.steps : Int) + 1)) := ⟨_, rfl⟩
   rw [← hE3] at hs3
   have hb3 : MBd fuel { m with steps := m.steps + 1 } := ⟨by simp only; omega, Nat.le_succ_of_le H2.out.bd.cells, H2.out.bd.live, H2.out.bd.sum, H2.out.bd.most, H2.out.bd.named, H2.out.bd.cell, H2.out.bd.regs, H2.out.bd.ser⟩
   have h3 : MSt mb B W3 tn to_ fuel nv cv rv { m with steps := m.steps + 1 } ns op (c) := ⟨hs3.2, hb3, H2.out.env.on hs3.1, H2.out.r1, H2.out.rl, by have := H2.out.ob; simp only; omega, H2.out.nl, H2.out.fu⟩
   have HF3 : Hid _ := HF2.out.trans hs3.1
   have hsN3 := HSN2.out.keep hs3.1
   have HSR3 : Hid _ := HSR2.out.keep hs3.1
   have H3 : Hid _ := h3
   obtain ⟨d0, d1, d2, d3, d4, d5, d6, d7, d8, d9⟩ := nr_cells10 hsN3.b
   have hln3 := blk_lt hsN3.b
   clear hs3 hb3 hsN3 h3 HF2 HSR2 HSN2 H2
   go_upto_region 6 with fail
   rw [← hE3]
   clear y2 y3 y4 f3 c0 c1 c2 c3 c4 c5 c6 c7 c8 c9 hE3 hmb hln hstp hfu hq hz
   have hk := hg W3 nv cv rv _ H3.out
   rw [← hr] at hk
   have HK : Hid _ := hk
   clear hk hr H3
   unfold ptr nrVal at HK
   rw [HFORM.out] at d0
   rcases hkf with ⟨rfl, rfl⟩ | ⟨rfl, rfl⟩ | ⟨rfl, rfl⟩ | ⟨rfl, rfl⟩ | ⟨rfl, rfl⟩ | ⟨rfl, rfl⟩ | ⟨rfl, rfl⟩ | ⟨rfl, rfl⟩ | ⟨rfl, rfl⟩
   all_goals
    go_wp2_with fail
    refine Calls.mono (by have := HK.out; rw [HFORM.out] at this; exact this) ?_
    rintro _ w5 ⟨rfl, nv5, cv5, rv5, hf5, hi5⟩
    have HF5 : Hid _ := HF3.out.trans hf5
    have HI5 : Hid _ := hi5
    have hsR5 := HSR3.out.keep hf5
    have HSR5 : Hid _ := hsR5
    have x0 : w5.cell? ⟨q, 0, none⟩ = some (.bool false) := by rw [blk_cell hsR5.b]; rfl
    have x1 : w5.cell? ⟨q, 1, none⟩ = some (.int .i64 0) := by rw [blk_cell hsR5.b]; rfl
    have g0 : w5.frozen? ⟨q, 0, none⟩ = false := blk_free hsR5.b 0
    have g1 : w5.frozen? ⟨q, 1, none⟩ = false := blk_free hsR5.b 1
    have hq5 := blk_lt hsR5.b
    clear hf5 hi5 hsR5 HK HF3 HSR3 d0 d1 d2 d3 d4 d5 d6 d7 d8 d9 hln3
    unfold mvV
    go_wp2
    have hs7 := HSR5.out
    have hi7 := (HI5.out.beside hs7.ne hs7.n hs7.c hs7.r 0 (.bool res.1.c)).beside hs7.ne hs7.n hs7.c hs7.r 1 (.int .i64 res.1.n)
    have hf7 := (HF5.out.upto (below_set' (below_set' (Below.refl _ _) ⟨q, 0, none⟩ hrw (.bool res.1.c)) ⟨q, 1, none⟩ hrw (.int .i64 res.1.n)))
    refine bodyPost_ret (v := .agg #[.bool res.1.c, .int .i64 res.1.n]) (by simp [results, Tryz.results130, go_sem, x0, x1]) rfl ⟨rfl, _, _, _, hf7, hi7⟩
  ·have hr : res = (v0, m) := by
    rw [HRES.out]; unfold mBegun
    simp only [if_neg hq]
    rw [if_pos hz]
   clear HRES
   subst hr
   have hne : ((m.fault : Int) != 0) = true := by simpa using hz
   have HF5 : Hid _ := HF2.out
   have HI5 : Hid _ := H2.out.i
   have hsR5 := HSR2.out
   have HSR5 : Hid _ := hsR5
   have x0 : W2.cell? ⟨q, 0, none⟩ = some (.bool false) := by rw [blk_cell hsR5.b]; rfl
   have x1 : W2.cell? ⟨q, 1, none⟩ = some (.int .i64 0) := by rw [blk_cell hsR5.b]; rfl
   have g0 : W2.frozen? ⟨q, 0, none⟩ = false := blk_free hsR5.b 0
   have g1 : W2.frozen? ⟨q, 1, none⟩ = false := blk_free hsR5.b 1
   have hq5 := blk_lt hsR5.b
   clear hsR5 HF2 HSR2 HSN2 H2 c0 c1 c2 c3 c4 c5 c6 c7 c8 c9 hz
   unfold v0
   go_wp2
   have hs7 := HSR5.out
   have hi7 := (HI5.out.beside hs7.ne hs7.n hs7.c hs7.r 0 (.bool (⟨false, 0⟩ : MV).c)).beside hs7.ne hs7.n hs7.c hs7.r 1 (.int .i64 (⟨false, 0⟩ : MV).n)
   have hf7 := (HF5.out.upto (below_set' (below_set' (Below.refl _ _) ⟨q, 0, none⟩ hrw (.bool (⟨false, 0⟩ : MV).c)) ⟨q, 1, none⟩ hrw (.int .i64 (⟨false, 0⟩ : MV).n)))
   refine bodyPost_ret (v := .agg #[.bool (⟨false, 0⟩ : MV).c, .int .i64 (⟨false, 0⟩ : MV).n]) (by simp [results, Tryz.results130, go_sem, x0, x1]) rfl ⟨rfl, _, _, _, hf7, hi7⟩
theorem step_3 (mb B : Nat) (tn to_ : Value) (fuel : Nat) (ns : List NR) (op : List Int) (n : NR) (hform : n.form = 3) (c : Nat) (g : MM → MV × MM) (hg : ∀ (w : World) (nv cv rv : Value) (m : MM), MSt mb B w tn to_ fuel nv cv rv m ns op c → Calls Tryz.prog 159 #[ptr mb, nrVal n] w (MOut mb w tn to_ fuel nv cv rv (g m)))
  (w : World) (nv cv rv : Value) (m : MM) (h : MSt mb B w tn to_ fuel nv cv rv m ns op c) :
  Calls Tryz.prog 130 #[ptr mb, nrVal n] w (MOut mb w tn to_ fuel nv cv rv (mBegun fuel m g)) :=
 step_k 3 _ mb B tn to_ fuel ns op n hform (Or.inl ⟨rfl, rfl⟩) c g hg w nv cv rv m h
theorem step_4 (mb B : Nat) (tn to_ : Value) (fuel : Nat) (ns : List NR) (op : List Int) (n : NR) (hform : n.form = 4) (c : Nat) (g : MM → MV × MM) (hg : ∀ (w : World) (nv cv rv : Value) (m : MM), MSt mb B w tn to_ fuel nv cv rv m ns op c → Calls Tryz.prog 160 #[ptr mb, nrVal n] w (MOut mb w tn to_ fuel nv cv rv (g m)))
  (w : World) (nv cv rv : Value) (m : MM) (h : MSt mb B w tn to_ fuel nv cv rv m ns op c) :
  Calls Tryz.prog 130 #[ptr mb, nrVal n] w (MOut mb w tn to_ fuel nv cv rv (mBegun fuel m g)) :=
 step_k 4 _ mb B tn to_ fuel ns op n hform (Or.inr (Or.inl ⟨rfl, rfl⟩)) c g hg w nv cv rv m h
theorem step_5 (mb B : Nat) (tn to_ : Value) (fuel : Nat) (ns : List NR) (op : List Int) (n : NR) (hform : n.form = 5) (c : Nat) (g : MM → MV × MM) (hg : ∀ (w : World) (nv cv rv : Value) (m : MM), MSt mb B w tn to_ fuel nv cv rv m ns op c → Calls Tryz.prog 161 #[ptr mb, nrVal n] w (MOut mb w tn to_ fuel nv cv rv (g m)))
  (w : World) (nv cv rv : Value) (m : MM) (h : MSt mb B w tn to_ fuel nv cv rv m ns op c) :
  Calls Tryz.prog 130 #[ptr mb, nrVal n] w (MOut mb w tn to_ fuel nv cv rv (mBegun fuel m g)) :=
 step_k 5 _ mb B tn to_ fuel ns op n hform (Or.inr (Or.inr (Or.inl ⟨rfl, rfl⟩))) c g hg w nv cv rv m h
theorem step_6 (mb B : Nat) (tn to_ : Value) (fuel : Nat) (ns : List NR) (op : List Int) (n : NR) (hform : n.form = 6) (c : Nat) (g : MM → MV × MM) (hg : ∀ (w : World) (nv cv rv : Value) (m : MM), MSt mb B w tn to_ fuel nv cv rv m ns op c → Calls Tryz.prog 161 #[ptr mb, nrVal n] w (MOut mb w tn to_ fuel nv cv rv (g m)))
  (w : World) (nv cv rv : Value) (m : MM) (h : MSt mb B w tn to_ fuel nv cv rv m ns op c) :
  Calls Tryz.prog 130 #[ptr mb, nrVal n] w (MOut mb w tn to_ fuel nv cv rv (mBegun fuel m g)) :=
 step_k 6 _ mb B tn to_ fuel ns op n hform (Or.inr (Or.inr (Or.inr (Or.inl ⟨rfl, rfl⟩)))) c g hg w nv cv rv m h
theorem step_7 (mb B : Nat) (tn to_ : Value) (fuel : Nat) (ns : List NR) (op : List Int) (n : NR) (hform : n.form = 7) (c : Nat) (g : MM → MV × MM) (hg : ∀ (w : World) (nv cv rv : Value) (m : MM), MSt mb B w tn to_ fuel nv cv rv m ns op c → Calls Tryz.prog 162 #[ptr mb, nrVal n] w (MOut mb w tn to_ fuel nv cv rv (g m)))
  (w : World) (nv cv rv : Value) (m : MM) (h : MSt mb B w tn to_ fuel nv cv rv m ns op c) :
  Calls Tryz.prog 130 #[ptr mb, nrVal n] w (MOut mb w tn to_ fuel nv cv rv (mBegun fuel m g)) :=
 step_k 7 _ mb B tn to_ fuel ns op n hform (Or.inr (Or.inr (Or.inr (Or.inr (Or.inl ⟨rfl, rfl⟩))))) c g hg w nv cv rv m h
theorem step_8 (mb B : Nat) (tn to_ : Value) (fuel : Nat) (ns : List NR) (op : List Int) (n : NR) (hform : n.form = 8) (c : Nat) (g : MM → MV × MM) (hg : ∀ (w : World) (nv cv rv : Value) (m : MM), MSt mb B w tn to_ fuel nv cv rv m ns op c → Calls Tryz.prog 163 #[ptr mb, nrVal n] w (MOut mb w tn to_ fuel nv cv rv (g m)))
  (w : World) (nv cv rv : Value) (m : MM) (h : MSt mb B w tn to_ fuel nv cv rv m ns op c) :
  Calls Tryz.prog 130 #[ptr mb, nrVal n] w (MOut mb w tn to_ fuel nv cv rv (mBegun fuel m g)) :=
 step_k 8 _ mb B tn to_ fuel ns op n hform (Or.inr (Or.inr (Or.inr (Or.inr (Or.inr (Or.inl ⟨rfl, rfl⟩)))))) c g hg w nv cv rv m h
theorem step_9 (mb B : Nat) (tn to_ : Value) (fuel : Nat) (ns : List NR) (op : List Int) (n : NR) (hform : n.form = 9) (c : Nat) (g : MM → MV × MM) (hg : ∀ (w : World) (nv cv rv : Value) (m : MM), MSt mb B w tn to_ fuel nv cv rv m ns op c → Calls Tryz.prog 163 #[ptr mb, nrVal n] w (MOut mb w tn to_ fuel nv cv rv (g m)))
  (w : World) (nv cv rv : Value) (m : MM) (h : MSt mb B w tn to_ fuel nv cv rv m ns op c) :
  Calls Tryz.prog 130 #[ptr mb, nrVal n] w (MOut mb w tn to_ fuel nv cv rv (mBegun fuel m g)) :=
 step_k 9 _ mb B tn to_ fuel ns op n hform (Or.inr (Or.inr (Or.inr (Or.inr (Or.inr (Or.inr (Or.inl ⟨rfl, rfl⟩))))))) c g hg w nv cv rv m h
theorem step_10 (mb B : Nat) (tn to_ : Value) (fuel : Nat) (ns : List NR) (op : List Int) (n : NR) (hform : n.form = 10) (c : Nat) (g : MM → MV × MM) (hg : ∀ (w : World) (nv cv rv : Value) (m : MM), MSt mb B w tn to_ fuel nv cv rv m ns op c → Calls Tryz.prog 163 #[ptr mb, nrVal n] w (MOut mb w tn to_ fuel nv cv rv (g m)))
  (w : World) (nv cv rv : Value) (m : MM) (h : MSt mb B w tn to_ fuel nv cv rv m ns op c) :
  Calls Tryz.prog 130 #[ptr mb, nrVal n] w (MOut mb w tn to_ fuel nv cv rv (mBegun fuel m g)) :=
 step_k 10 _ mb B tn to_ fuel ns op n hform (Or.inr (Or.inr (Or.inr (Or.inr (Or.inr (Or.inr (Or.inr (Or.inl ⟨rfl, rfl⟩)))))))) c g hg w nv cv rv m h
theorem step_11 (mb B : Nat) (tn to_ : Value) (fuel : Nat) (ns : List NR) (op : List Int) (n : NR) (hform : n.form = 11) (c : Nat) (g : MM → MV × MM) (hg : ∀ (w : World) (nv cv rv : Value) (m : MM), MSt mb B w tn to_ fuel nv cv rv m ns op c → Calls Tryz.prog 164 #[ptr mb, nrVal n] w (MOut mb w tn to_ fuel nv cv rv (g m)))
  (w : World) (nv cv rv : Value) (m : MM) (h : MSt mb B w tn to_ fuel nv cv rv m ns op c) :
  Calls Tryz.prog 130 #[ptr mb, nrVal n] w (MOut mb w tn to_ fuel nv cv rv (mBegun fuel m g)) :=
 step_k 11 _ mb B tn to_ fuel ns op n hform (Or.inr (Or.inr (Or.inr (Or.inr (Or.inr (Or.inr (Or.inr (Or.inr (⟨rfl, rfl⟩))))))))) c g hg w nv cv rv m h
set_option maxRecDepth 100000 in
set_option maxHeartbeats 4000000 in
theorem step_1 (mb B : Nat) (tn to_ : Value) (fuel : Nat) (ns : List NR) (op : List Int) (n : NR) (hform : n.form = 1) (c : Nat)
  (w : World) (nv cv rv : Value) (m : MM) (h : MSt mb B w tn to_ fuel nv cv rv m ns op (c)) :
  Calls Tryz.prog 130 #[ptr mb, nrVal n] w (MOut mb w tn to_ fuel nv cv rv (mBegun fuel m (fun m => (⟨false, n.num⟩, m)))) := by
 obtain ⟨N, hN⟩ : ∃ N : Obj, N = .cells #[.int .i64 n.form, .int .i64 n.at_, .int .i64 n.beh, .int .i64 n.num, .string (bs n.word), .int .i64 n.region, .int .i64 n.source, .int .i64 n.p0, .int .i64 n.p1, .int .i64 n.p2] 160 := ⟨_, rfl⟩
 obtain ⟨R, hR⟩ : ∃ R : Obj, R = .cells #[.bool false, .int .i64 0] 171 := ⟨_, rfl⟩
 obtain ⟨W1, hE⟩ : ∃ W1, W1 = (w.alloc N).alloc R := ⟨_, rfl⟩
 have hW1 : Below w.heap.size w W1 := by rw [hE]; exact below_al (below_al (Below.refl _ _) _) _
 have h1 := h.below hW1
 have hsN : Beside mb w.heap.size W1 nv cv rv (nrO n) := Beside.new h.i (by rw [hE, hN]; exact blk_alloc _ (blk_new w _)) (Nat.le_refl _)
 have hsR : Beside mb (w.heap.size + 1) W1 nv cv rv (.cells #[.bool false, .int .i64 0] 171) := Beside.new h.i (by rw [hE, hR]; have := blk_new (w.alloc N) (.cells #[.bool false, .int .i64 0] 171); simpa using this) (by omega)
 have HF1 : Hid (PFr mb mb w W1 nv cv rv nv cv rv) := PFr.below mb mb nv cv rv hW1
 have H1 : Hid _ := h1
 have HSN : Hid _ := hsN
 have HSR : Hid _ := hsR
 have hrw : w.heap.size ≤ w.heap.size + 1 := by omega
 obtain ⟨res, hres⟩ : ∃ res, res = mBegun fuel m (fun m => (⟨false, n.num⟩, m)) := ⟨_, rfl⟩
 rw [← hres]
 have HRES : Hid _ := hres
 obtain ⟨y2, y3, _⟩ := mm_cells h1.i.y
 have hmb := blk_lt h1.i.y
 have HFORM : Hid _ := hform
 clear hres hW1 h1 hsN hsR h hform
 unfold ptr nrVal
 go_enter Tryz.func130, Tryz.ntmps130
 subst hN
 subst hR
 go_upto_region 1 with fail
 rw [← hE]
 clear hE
 generalize w.heap.size + 1 = q at *
 go_quiet (fail)
 rename_i nq
 obtain ⟨W2, hE2⟩ : ∃ W2, W2 = W1.drewN nq := ⟨_, rfl⟩
 have hbl : Below W1.heap.size W1 W2 := by rw [hE2]; exact below_dn (Below.refl _ _)
 rw [← hE2]
 have hf2 : PFr mb mb W1 W2 nv cv rv nv cv rv := PFr.below mb mb nv cv rv hbl
 have h2 := H1.out.below hbl
 have hsN2 := HSN.out.keep hf2
 have hsR2 := HSR.out.keep hf2
 have HF2 : Hid _ := HF1.out.trans hf2
 clear hE2 hbl hf2 H1 HSN HSR HF1 y2 y3 hmb
 obtain ⟨y2, y3, y4, _⟩ := mm_cells h2.i.y
 have f3 : W2.frozen? ⟨mb, 3, none⟩ = false := blk_free h2.i.y 3
 have hmb := blk_lt h2.i.y
 have hstp := h2.bd.steps
 have hfu := h2.fu
 have H2 : Hid _ := h2
 have HSN2 : Hid _ := hsN2
 have HSR2 : Hid _ := hsR2
 obtain ⟨c0, c1, c2, c3, c4, c5, c6, c7, c8, c9⟩ := nr_cells10 hsN2.b
 have hln := blk_lt hsN2.b
 clear h2 hsN2 hsR2
 by_cases hq : fuel ≤ m.steps
 ·have hr : res = (v0, m.stop 12) := by
   rw [HRES.out]; unfold mBegun
   simp only [if_pos hq]
   rw [if_pos (stop_ne m)]
  clear HRES
  subst hr
  have hst := stop_any mb W2 tn to_ fuel nv cv rv m 12 H2.out.i
  have HST : Hid _ := hst
  clear hst
  unfold ptr at HST
  go_wp2_with fail
  refine Calls.mono HST.out ?_
  rintro _ w3 ⟨rfl, hf3, hi3⟩
  have HF5 : Hid _ := HF2.out.trans hf3
  have HI5 : Hid _ := hi3
  have hsR5 := HSR2.out.keep hf3
  have HSR5 : Hid _ := hsR5
  have x0 : w3.cell? ⟨q, 0, none⟩ = some (.bool false) := by rw [blk_cell hsR5.b]; rfl
  have x1 : w3.cell? ⟨q, 1, none⟩ = some (.int .i64 0) := by rw [blk_cell hsR5.b]; rfl
  have g0 : w3.frozen? ⟨q, 0, none⟩ = false := blk_free hsR5.b 0
  have g1 : w3.frozen? ⟨q, 1, none⟩ = false := blk_free hsR5.b 1
  have hq5 := blk_lt hsR5.b
  have z4 := (mm_cells hi3.y).2.2.1
  have hne : ((m.stop 12).fault : Int) != 0 := by have := stop_ne m; simpa using this
  have hmb3 := blk_lt hi3.y
  clear hf3 hi3 hsR5 HST HF2 HSR2 HSN2 H2 y2 y3 y4 f3 c0 c1 c2 c3 c4 c5 c6 c7 c8 c9
  unfold v0
  go_wp2
  have hs7 := HSR5.out
  have hi7 := (HI5.out.beside hs7.ne hs7.n hs7.c hs7.r 0 (.bool (⟨false, 0⟩ : MV).c)).beside hs7.ne hs7.n hs7.c hs7.r 1 (.int .i64 (⟨false, 0⟩ : MV).n)
  have hf7 := (HF5.out.upto (below_set' (below_set' (Below.refl _ _) ⟨q, 0, none⟩ hrw (.bool (⟨false, 0⟩ : MV).c)) ⟨q, 1, none⟩ hrw (.int .i64 (⟨false, 0⟩ : MV).n)))
  refine bodyPost_ret (v := .agg #[.bool (⟨false, 0⟩ : MV).c, .int .i64 (⟨false, 0⟩ : MV).n]) (by simp [results, Tryz.results130, go_sem, x0, x1]) rfl ⟨rfl, _, _, _, hf7, hi7⟩
 ·by_cases hz : m.fault = 0
  ·have hr : res = (fun m => (⟨false, n.num⟩, m)) { m with steps := m.steps + 1 } := by
    rw [HRES.out]; unfold mBegun
    simp only [if_neg hq]
    rw [if_neg (fun hn => hn hz)]
   clear HRES
   rw [hz] at y4
   have hs3 := H2.out.i.scal { m with steps := m.steps + 1 } 3 (.int .i64 ((m.steps : Int) + 1)) rfl rfl rfl rfl
   obtain ⟨W3, hE3⟩ : ∃ W3, W3 = W2.setCell ⟨mb, 3, none⟩ (.int .i64 ((m.steps : Int) + 1)) := ⟨_, rfl⟩
   rw [← hE3] at hs3
   have hb3 : MBd fuel { m with steps := m.steps + 1 } := ⟨by simp only; omega, Nat.le_succ_of_le H2.out.bd.cells, H2.out.bd.live, H2.out.bd.sum, H2.out.bd.most, H2.out.bd.named, H2.out.bd.cell, H2.out.bd.regs, H2.out.bd.ser⟩
   have h3 : MSt mb B W3 tn to_ fuel nv cv rv { m with steps := m.steps + 1 } ns op (c) := ⟨hs3.2, hb3, H2.out.env.on hs3.1, H2.out.r1, H2.out.rl, by have := H2.out.ob; simp only; omega, H2.out.nl, H2.out.fu⟩
   have HF3 : Hid _ := HF2.out.trans hs3.1
   have hsN3 := HSN2.out.keep hs3.1
   have HSR3 : Hid _ := HSR2.out.keep hs3.1
   have H3 : Hid _ := h3
   obtain ⟨d0, d1, d2, d3, d4, d5, d6, d7, d8, d9⟩ := nr_cells10 hsN3.b
   have hln3 := blk_lt hsN3.b
   clear hs3 hb3 hsN3 h3 HF2 HSR2 HSN2 H2
   go_upto_region 6 with fail
   rw [← hE3]
   clear y2 y3 y4 f3 c0 c1 c2 c3 c4 c5 c6 c7 c8 c9 hE3 hmb hln hstp hfu hq hz
   rw [HFORM.out] at d0
   subst hr
   have HF5 : Hid _ := HF3.out
   have HI5 : Hid _ := H3.out.i
   have hsR5 := HSR3.out
   have HSR5 : Hid _ := hsR5
   have x0 : W3.cell? ⟨q, 0, none⟩ = some (.bool false) := by rw [blk_cell hsR5.b]; rfl
   have x1 : W3.cell? ⟨q, 1, none⟩ = some (.int .i64 0) := by rw [blk_cell hsR5.b]; rfl
   have g0 : W3.frozen? ⟨q, 0, none⟩ = false := blk_free hsR5.b 0
   have g1 : W3.frozen? ⟨q, 1, none⟩ = false := blk_free hsR5.b 1
   have hq5 := blk_lt hsR5.b
   clear hsR5 HF3 HSR3 H3
   go_wp2
   have hs7 := HSR5.out
   have hi7 := (HI5.out.beside hs7.ne hs7.n hs7.c hs7.r 0 (.bool (⟨false, n.num⟩ : MV).c)).beside hs7.ne hs7.n hs7.c hs7.r 1 (.int .i64 (⟨false, n.num⟩ : MV).n)
   have hf7 := (HF5.out.upto (below_set' (below_set' (Below.refl _ _) ⟨q, 0, none⟩ hrw (.bool (⟨false, n.num⟩ : MV).c)) ⟨q, 1, none⟩ hrw (.int .i64 (⟨false, n.num⟩ : MV).n)))
   refine bodyPost_ret (v := .agg #[.bool (⟨false, n.num⟩ : MV).c, .int .i64 (⟨false, n.num⟩ : MV).n]) (by simp [results, Tryz.results130, go_sem, x0, x1]) rfl ⟨rfl, _, _, _, hf7, hi7⟩
  ·have hr : res = (v0, m) := by
    rw [HRES.out]; unfold mBegun
    simp only [if_neg hq]
    rw [if_pos hz]
   clear HRES
   subst hr
   have hne : ((m.fault : Int) != 0) = true := by simpa using hz
   have HF5 : Hid _ := HF2.out
   have HI5 : Hid _ := H2.out.i
   have hsR5 := HSR2.out
   have HSR5 : Hid _ := hsR5
   have x0 : W2.cell? ⟨q, 0, none⟩ = some (.bool false) := by rw [blk_cell hsR5.b]; rfl
   have x1 : W2.cell? ⟨q, 1, none⟩ = some (.int .i64 0) := by rw [blk_cell hsR5.b]; rfl
   have g0 : W2.frozen? ⟨q, 0, none⟩ = false := blk_free hsR5.b 0
   have g1 : W2.frozen? ⟨q, 1, none⟩ = false := blk_free hsR5.b 1
   have hq5 := blk_lt hsR5.b
   clear hsR5 HF2 HSR2 HSN2 H2 c0 c1 c2 c3 c4 c5 c6 c7 c8 c9 hz
   unfold v0
   go_wp2
   have hs7 := HSR5.out
   have hi7 := (HI5.out.beside hs7.ne hs7.n hs7.c hs7.r 0 (.bool (⟨false, 0⟩ : MV).c)).beside hs7.ne hs7.n hs7.c hs7.r 1 (.int .i64 (⟨false, 0⟩ : MV).n)
   have hf7 := (HF5.out.upto (below_set' (below_set' (Below.refl _ _) ⟨q, 0, none⟩ hrw (.bool (⟨false, 0⟩ : MV).c)) ⟨q, 1, none⟩ hrw (.int .i64 (⟨false, 0⟩ : MV).n)))
   refine bodyPost_ret (v := .agg #[.bool (⟨false, 0⟩ : MV).c, .int .i64 (⟨false, 0⟩ : MV).n]) (by simp [results, Tryz.results130, go_sem, x0, x1]) rfl ⟨rfl, _, _, _, hf7, hi7⟩
set_option maxRecDepth 100000 in
set_option maxHeartbeats 4000000 in
theorem step_2 (mb B : Nat) (tn to_ : Value) (fuel : Nat) (ns : List NR) (op : List Int) (n : NR) (hform : n.form = 2) (c : Nat) (hsrc : -1 ≤ n.source ∧ n.source ≤ 9000)
  (w : World) (nv cv rv : Value) (m : MM) (h : MSt mb B w tn to_ fuel nv cv rv m ns op (c)) :
  Calls Tryz.prog 130 #[ptr mb, nrVal n] w (MOut mb w tn to_ fuel nv cv rv (mBegun fuel m (fun m => (m.look n.source, m)))) := by
 obtain ⟨N, hN⟩ : ∃ N : Obj, N = .cells #[.int .i64 n.form, .int .i64 n.at_, .int .i64 n.beh, .int .i64 n.num, .string (bs n.word), .int .i64 n.region, .int .i64 n.source, .int .i64 n.p0, .int .i64 n.p1, .int .i64 n.p2] 160 := ⟨_, rfl⟩
 obtain ⟨R, hR⟩ : ∃ R : Obj, R = .cells #[.bool false, .int .i64 0] 171 := ⟨_, rfl⟩
 obtain ⟨W1, hE⟩ : ∃ W1, W1 = (w.alloc N).alloc R := ⟨_, rfl⟩
 have hW1 : Below w.heap.size w W1 := by rw [hE]; exact below_al (below_al (Below.refl _ _) _) _
 have h1 := h.below hW1
 have hsN : Beside mb w.heap.size W1 nv cv rv (nrO n) := Beside.new h.i (by rw [hE, hN]; exact blk_alloc _ (blk_new w _)) (Nat.le_refl _)
 have hsR : Beside mb (w.heap.size + 1) W1 nv cv rv (.cells #[.bool false, .int .i64 0] 171) := Beside.new h.i (by rw [hE, hR]; have := blk_new (w.alloc N) (.cells #[.bool false, .int .i64 0] 171); simpa using this) (by omega)
 have HF1 : Hid (PFr mb mb w W1 nv cv rv nv cv rv) := PFr.below mb mb nv cv rv hW1
 have H1 : Hid _ := h1
 have HSN : Hid _ := hsN
 have HSR : Hid _ := hsR
 have hrw : w.heap.size ≤ w.heap.size + 1 := by omega
 obtain ⟨res, hres⟩ : ∃ res, res = mBegun fuel m (fun m => (m.look n.source, m)) := ⟨_, rfl⟩
 rw [← hres]
 have HRES : Hid _ := hres
 obtain ⟨y2, y3, _⟩ := mm_cells h1.i.y
 have hmb := blk_lt h1.i.y
 have HFORM : Hid _ := hform
 clear hres hW1 h1 hsN hsR h hform
 unfold ptr nrVal
 go_enter Tryz.func130, Tryz.ntmps130
 subst hN
 subst hR
 go_upto_region 1 with fail
 rw [← hE]
 clear hE
 generalize w.heap.size + 1 = q at *
 go_quiet (fail)
 rename_i nq
 obtain ⟨W2, hE2⟩ : ∃ W2, W2 = W1.drewN nq := ⟨_, rfl⟩
 have hbl : Below W1.heap.size W1 W2 := by rw [hE2]; exact below_dn (Below.refl _ _)
 rw [← hE2]
 have hf2 : PFr mb mb W1 W2 nv cv rv nv cv rv := PFr.below mb mb nv cv rv hbl
 have h2 := H1.out.below hbl
 have hsN2 := HSN.out.keep hf2
 have hsR2 := HSR.out.keep hf2
 have HF2 : Hid _ := HF1.out.trans hf2
 clear hE2 hbl hf2 H1 HSN HSR HF1 y2 y3 hmb
 obtain ⟨y2, y3, y4, _⟩ := mm_cells h2.i.y
 have f3 : W2.frozen? ⟨mb, 3, none⟩ = false := blk_free h2.i.y 3
 have hmb := blk_lt h2.i.y
 have hstp := h2.bd.steps
 have hfu := h2.fu
 have H2 : Hid _ := h2
 have HSN2 : Hid _ := hsN2
 have HSR2 : Hid _ := hsR2
 obtain ⟨c0, c1, c2, c3, c4, c5, c6, c7, c8, c9⟩ := nr_cells10 hsN2.b
 have hln := blk_lt hsN2.b
 clear h2 hsN2 hsR2
 by_cases hq : fuel ≤ m.steps
 ·have hr : res = (v0, m.stop 12) := by
   rw [HRES.out]; unfold mBegun
   simp only [if_pos hq]
   rw [if_pos (stop_ne m)]
  clear HRES
  subst hr
  have hst := stop_any mb W2 tn to_ fuel nv cv rv m 12 H2.out.i
  have HST : Hid _ := hst
  clear hst
  unfold ptr at HST
  go_wp2_with fail
  refine Calls.mono HST.out ?_
  rintro _ w3 ⟨rfl, hf3, hi3⟩
  have HF5 : Hid _ := HF2.out.trans hf3
  have HI5 : Hid _ := hi3
  have hsR5 := HSR2.out.keep hf3
  have HSR5 : Hid _ := hsR5
  have x0 : w3.cell? ⟨q, 0, none⟩ = some (.bool false) := by rw [blk_cell hsR5.b]; rfl
  have x1 : w3.cell? ⟨q, 1, none⟩ = some (.int .i64 0) := by rw [blk_cell hsR5.b]; rfl
  have g0 : w3.frozen? ⟨q, 0, none⟩ = false := blk_free hsR5.b 0
  have g1 : w3.frozen? ⟨q, 1, none⟩ = false := blk_free hsR5.b 1
  have hq5 := blk_lt hsR5.b
  have z4 := (mm_cells hi3.y).2.2.1
  have hne : ((m.stop 12).fault : Int) != 0 := by have := stop_ne m; simpa using this
  have hmb3 := blk_lt hi3.y
  clear hf3 hi3 hsR5 HST HF2 HSR2 HSN2 H2 y2 y3 y4 f3 c0 c1 c2 c3 c4 c5 c6 c7 c8 c9
  unfold v0
  go_wp2
  have hs7 := HSR5.out
  have hi7 := (HI5.out.beside hs7.ne hs7.n hs7.c hs7.r 0 (.bool (⟨false, 0⟩ : MV).c)).beside hs7.ne hs7.n hs7.c hs7.r 1 (.int .i64 (⟨false, 0⟩ : MV).n)
  have hf7 := (HF5.out.upto (below_set' (below_set' (Below.refl _ _) ⟨q, 0, none⟩ hrw (.bool (⟨false, 0⟩ : MV).c)) ⟨q, 1, none⟩ hrw (.int .i64 (⟨false, 0⟩ : MV).n)))
  refine bodyPost_ret (v := .agg #[.bool (⟨false, 0⟩ : MV).c, .int .i64 (⟨false, 0⟩ : MV).n]) (by simp [results, Tryz.results130, go_sem, x0, x1]) rfl ⟨rfl, _, _, _, hf7, hi7⟩
 ·by_cases hz : m.fault = 0
  ·have hr : res = (fun m => (m.look n.source, m)) { m with steps := m.steps + 1 } := by
    rw [HRES.out]; unfold mBegun
    simp only [if_neg hq]
    rw [if_neg (fun hn => hn hz)]
   clear HRES
   rw [hz] at y4
   have hs3 := H2.out.i.scal { m with steps := m.steps + 1 } 3 (.int .i64 ((m.steps : Int) + 1)) rfl rfl rfl rfl
   obtain ⟨W3, hE3⟩ : ∃ W3, W3 = W2.setCell ⟨mb, 3, none⟩ (.int .i64 ((m.steps : Int) + 1)) := ⟨_, rfl⟩
   rw [← hE3] at hs3
   have hb3 : MBd fuel { m with steps := m.steps + 1 } := ⟨by simp only; omega, Nat.le_succ_of_le H2.out.bd.cells, H2.out.bd.live, H2.out.bd.sum, H2.out.bd.most, H2.out.bd.named, H2.out.bd.cell, H2.out.bd.regs, H2.out.bd.ser⟩
   have h3 : MSt mb B W3 tn to_ fuel nv cv rv { m with steps := m.steps + 1 } ns op (c) := ⟨hs3.2, hb3, H2.out.env.on hs3.1, H2.out.r1, H2.out.rl, by have := H2.out.ob; simp only; omega, H2.out.nl, H2.out.fu⟩
   have HF3 : Hid _ := HF2.out.trans hs3.1
   have hsN3 := HSN2.out.keep hs3.1
   have HSR3 : Hid _ := HSR2.out.keep hs3.1
   have H3 : Hid _ := h3
   obtain ⟨d0, d1, d2, d3, d4, d5, d6, d7, d8, d9⟩ := nr_cells10 hsN3.b
   have hln3 := blk_lt hsN3.b
   clear hs3 hb3 hsN3 h3 HF2 HSR2 HSN2 H2
   go_upto_region 6 with fail
   rw [← hE3]
   clear y2 y3 y4 f3 c0 c1 c2 c3 c4 c5 c6 c7 c8 c9 hE3 hmb hln hstp hfu hq hz
   have hlo := look_any mb W3 tn to_ fuel nv cv rv { m with steps := m.steps + 1 } n.source (by omega) (by rw [H3.out.nl]; exact H3.out.env.len) H3.out.i
   have HLO : Hid _ := hlo
   clear hlo
   unfold ptr mvV at HLO
   rw [HFORM.out] at d0
   go_wp2_with fail
   refine Calls.mono HLO.out ?_
   rintro _ w5 ⟨rfl, hb5⟩
   subst hr
   have hf5 : PFr mb mb W3 w5 nv cv rv nv cv rv := PFr.below mb mb nv cv rv hb5
   have HF5 : Hid _ := HF3.out.trans hf5
   have HI5 : Hid _ := H3.out.i.below hb5
   have hsR5 := HSR3.out.keep hf5
   have HSR5 : Hid _ := hsR5
   have x0 : w5.cell? ⟨q, 0, none⟩ = some (.bool false) := by rw [blk_cell hsR5.b]; rfl
   have x1 : w5.cell? ⟨q, 1, none⟩ = some (.int .i64 0) := by rw [blk_cell hsR5.b]; rfl
   have g0 : w5.frozen? ⟨q, 0, none⟩ = false := blk_free hsR5.b 0
   have g1 : w5.frozen? ⟨q, 1, none⟩ = false := blk_free hsR5.b 1
   have hq5 := blk_lt hsR5.b
   clear hb5 hf5 hsR5 HLO HF3 HSR3 H3 d0 d1 d2 d3 d4 d5 d6 d7 d8 d9 hln3
   go_wp2
   have hs7 := HSR5.out
   have hi7 := (HI5.out.beside hs7.ne hs7.n hs7.c hs7.r 0 (.bool (MM.look { m with steps := m.steps + 1 } n.source).c)).beside hs7.ne hs7.n hs7.c hs7.r 1 (.int .i64 (MM.look { m with steps := m.steps + 1 } n.source).n)
   have hf7 := (HF5.out.upto (below_set' (below_set' (Below.refl _ _) ⟨q, 0, none⟩ hrw (.bool (MM.look { m with steps := m.steps + 1 } n.source).c)) ⟨q, 1, none⟩ hrw (.int .i64 (MM.look { m with steps := m.steps + 1 } n.source).n)))
   refine bodyPost_ret (v := .agg #[.bool (MM.look { m with steps := m.steps + 1 } n.source).c, .int .i64 (MM.look { m with steps := m.steps + 1 } n.source).n]) (by simp [results, Tryz.results130, go_sem, x0, x1]) rfl ⟨rfl, _, _, _, hf7, hi7⟩
  ·have hr : res = (v0, m) := by
    rw [HRES.out]; unfold mBegun
    simp only [if_neg hq]
    rw [if_pos hz]
   clear HRES
   subst hr
   have hne : ((m.fault : Int) != 0) = true := by simpa using hz
   have HF5 : Hid _ := HF2.out
   have HI5 : Hid _ := H2.out.i
   have hsR5 := HSR2.out
   have HSR5 : Hid _ := hsR5
   have x0 : W2.cell? ⟨q, 0, none⟩ = some (.bool false) := by rw [blk_cell hsR5.b]; rfl
   have x1 : W2.cell? ⟨q, 1, none⟩ = some (.int .i64 0) := by rw [blk_cell hsR5.b]; rfl
   have g0 : W2.frozen? ⟨q, 0, none⟩ = false := blk_free hsR5.b 0
   have g1 : W2.frozen? ⟨q, 1, none⟩ = false := blk_free hsR5.b 1
   have hq5 := blk_lt hsR5.b
   clear hsR5 HF2 HSR2 HSN2 H2 c0 c1 c2 c3 c4 c5 c6 c7 c8 c9 hz
   unfold v0
   go_wp2
   have hs7 := HSR5.out
   have hi7 := (HI5.out.beside hs7.ne hs7.n hs7.c hs7.r 0 (.bool (⟨false, 0⟩ : MV).c)).beside hs7.ne hs7.n hs7.c hs7.r 1 (.int .i64 (⟨false, 0⟩ : MV).n)
   have hf7 := (HF5.out.upto (below_set' (below_set' (Below.refl _ _) ⟨q, 0, none⟩ hrw (.bool (⟨false, 0⟩ : MV).c)) ⟨q, 1, none⟩ hrw (.int .i64 (⟨false, 0⟩ : MV).n)))
   refine bodyPost_ret (v := .agg #[.bool (⟨false, 0⟩ : MV).c, .int .i64 (⟨false, 0⟩ : MV).n]) (by simp [results, Tryz.results130, go_sem, x0, x1]) rfl ⟨rfl, _, _, _, hf7, hi7⟩
end Go.Proofs.YtpicaknklgccoaaGreatDoor
