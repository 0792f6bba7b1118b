import Derived.Test.YtpicaknklgccoaaGreatDoorS22
set_option maxHeartbeats 4000000
set_option maxRecDepth 100000
namespace Go.Proofs.YtpicaknklgccoaaGreatDoor
open Go.RowKit
theorem oN (m : MM) : (m.stop 12).fault ≠ 0 := by unfold MM.stop; split <;> simp_all
theorem mE (k : Nat) (fn : FuncId) (mb B : Nat) (tn aM : Value) (fuel : Nat) (ns : List NR) (op : List Int) (n : NR) (hform : n.form = k) (DZ : (k = 3 /\ fn = 159) \/ (k = 4 /\ fn = 160) \/ (k = 5 /\ fn = 161) \/ (k = 6 /\ fn = 161) \/ (k = 7 /\ fn = 162) \/ (k = 8 /\ fn = 163) \/ (k = 9 /\ fn = 163) \/ (k = 10 /\ fn = 163) \/ (k = 11 /\ fn = 164)) (c : Nat) (g : MM -> MV × MM) (hg : ∀ (w : World) (nv cv rv : Value) (m : MM), iL mb B w tn aM fuel nv cv rv m ns op c -> Calls Tryz.prog fn #[ptr mb, aI n] w (fO mb w tn aM fuel nv cv rv (g m)))
  (w : World) (nv cv rv : Value) (m : MM) (h : iL mb B w tn aM fuel nv cv rv m ns op (c)) :
  Calls Tryz.prog 130 #[ptr mb, aI n] w (fO mb w tn aM fuel nv cv rv (bn fuel m (g))) := by
 obtain ⟨N, hN⟩ : ∃ N : Obj, N = .cells #[.int .i64 n.form, .int .i64 n.at_, .int .i64 n.aO, .int .i64 n.num, .string (bs n.word), .int .i64 n.region, .int .i64 n.source, .int .i64 n.p0, .int .i64 n.p1, .int .i64 n.p2] 160 := ⟨_, rfl⟩
 obtain ⟨R, hR⟩ : ∃ R : Obj, R = .cells #[.bool false, .int .i64 0] 171 := ⟨_, rfl⟩
 obtain ⟨W1, hE⟩ : ∃ W1, W1 = (w.alloc N).alloc R := ⟨_, rfl⟩
 have hW1 : Below w.heap.size w W1 := by rw [hE]; exact aE (aE (Below.refl _ _) _) _
 have h1 := h.below hW1
 have oL : Beside mb w.heap.size W1 nv cv rv (bR n) := Beside.new h.i (by rw [hE, hN]; exact aL _ (aj w _)) (Nat.le_refl _)
 have kM : Beside mb (w.heap.size + 1) W1 nv cv rv (.cells #[.bool false, .int .i64 0] 171) := Beside.new h.i (by rw [hE, hR]; have := aj (w.alloc N) (.cells #[.bool false, .int .i64 0] 171); simpa using this) (by omega)
 have dO : Hid (bu mb mb w W1 nv cv rv nv cv rv) := bu.below mb mb nv cv rv hW1
 have H1 : Hid _ := h1
 have ld : Hid _ := oL
 have jD : Hid _ := kM
 have fL : w.heap.size <= w.heap.size + 1 := by omega
 obtain ⟨res, hres⟩ : ∃ res, res = bn fuel m (g) := ⟨_, rfl⟩
 rw [<- hres]
 have iN : Hid _ := hres
 obtain ⟨y2, y3, _⟩ := bt h1.i.y
 have nu := af h1.i.y
 have tV : Hid _ := hform
 clear hres hW1 h1 oL kM h hform
 unfold ptr aI
 go_enter Tryz.func130, Tryz.ntmps130
 subst hN
 subst hR
 go_upto_region 1 with fail
 rw [<- hE]
 clear hE
 generalize w.heap.size + 1 = q at *
 go_quiet (fail)
 rename_i nq
 obtain ⟨W2, tT⟩ : ∃ W2, W2 = W1.drewN nq := ⟨_, rfl⟩
 have hbl : Below W1.heap.size W1 W2 := by rw [tT]; exact il (Below.refl _ _)
 rw [<- tT]
 have hf2 : bu mb mb W1 W2 nv cv rv nv cv rv := bu.below mb mb nv cv rv hbl
 have h2 := H1.out.below hbl
 have dq := ld.out.keep hf2
 have fN := jD.out.keep hf2
 have cj : Hid _ := dO.out.trans hf2
 clear tT hbl hf2 H1 ld jD dO y2 y3 nu
 obtain ⟨y2, y3, y4, _⟩ := bt h2.i.y
 have f3 : W2.frozen? ⟨mb, 3, none⟩ = false := ag h2.i.y 3
 have nu := af h2.i.y
 have Im := h2.bd.steps
 have lO := h2.fu
 have H2 : Hid _ := h2
 have kI : Hid _ := dq
 have kN : Hid _ := fN
 obtain ⟨c0, c1, c2, c3, c4, c5, c6, c7, c8, c9⟩ := aC dq.b
 have gQ := af dq.b
 clear h2 dq fN
 by_cases hq : fuel <= m.steps
 ·have hr : res = (v0, m.stop 12) := by
   rw [iN.out]; unfold bn
   simp only [if_pos hq]
   rw [if_pos (oN m)]
  clear iN
  subst hr
  have hst := rH mb W2 tn aM fuel nv cv rv m 12 H2.out.i
  have iQ : Hid _ := hst
  clear hst
  unfold ptr at iQ
  go_wp2_with fail
  refine Calls.mono iQ.out ?_
  rintro _ w3 ⟨rfl, hf3, qU⟩
  have fJ : Hid _ := cj.out.trans hf3
  have iJ : Hid _ := qU
  have aG := kN.out.keep hf3
  have cZ : Hid _ := aG
  have x0 : w3.cell? ⟨q, 0, none⟩ = some (.bool false) := by rw [aa aG.b]; rfl
  have x1 : w3.cell? ⟨q, 1, none⟩ = some (.int .i64 0) := by rw [aa aG.b]; rfl
  have g0 : w3.frozen? ⟨q, 0, none⟩ = false := ag aG.b 0
  have g1 : w3.frozen? ⟨q, 1, none⟩ = false := ag aG.b 1
  have wh := af aG.b
  have z4 := (bt qU.y).2.2.1
  have hne : ((m.stop 12).fault : Int) != 0 := by have := oN m; simpa using this
  have Ow := af qU.y
  clear hf3 qU aG iQ cj kN kI H2 y2 y3 y4 f3 c0 c1 c2 c3 c4 c5 c6 c7 c8 c9
  unfold v0
  go_wp2
  have aS := cZ.out
  have jn := (iJ.out.beside aS.ne aS.n aS.c aS.r 0 (.bool (⟨false, 0⟩ : MV).c)).beside aS.ne aS.n aS.c aS.r 1 (.int .i64 (⟨false, 0⟩ : MV).n)
  have iq := (fJ.out.upto (aw (aw (Below.refl _ _) ⟨q, 0, none⟩ fL (.bool (⟨false, 0⟩ : MV).c)) ⟨q, 1, none⟩ fL (.int .i64 (⟨false, 0⟩ : MV).n)))
  refine bodyPost_ret (v := .agg #[.bool (⟨false, 0⟩ : MV).c, .int .i64 (⟨false, 0⟩ : MV).n]) (by simp [results, Tryz.results130, go_sem, x0, x1]) rfl ⟨rfl, _, _, _, iq, jn⟩
 ·by_cases hz : m.fault = 0
  ·have hr : res = (g) { m with steps := m.steps + 1 } := by
    rw [iN.out]; unfold bn
    simp only [if_neg hq]
    rw [if_neg (fun hn => hn hz)]
   clear iN
   rw [hz] at y4
   have hs3 := H2.out.i.Cc { m with steps := m.steps + 1 } 3 (.int .i64 ((m.steps : Int) + 1)) rfl rfl rfl rfl
   obtain ⟨W3, gS⟩ : ∃ W3, W3 = W2.setCell ⟨mb, 3, none⟩ (.int .i64 ((m.steps : Int) + 1)) := ⟨_, rfl⟩
   rw [<- gS] at hs3
   have hb3 : mR fuel { m with steps := m.steps + 1 } := ⟨by simp only; omega, Nat.le_succ_of_le H2.out.bd.cells, H2.out.bd.live, H2.out.bd.sum, H2.out.bd.most, H2.out.bd.named, H2.out.bd.cell, H2.out.bd.regs, H2.out.bd.gb⟩
   have h3 : iL mb B W3 tn aM fuel nv cv rv { m with steps := m.steps + 1 } ns op (c) := ⟨hs3.2, hb3, H2.out.env.on hs3.1, H2.out.r1, H2.out.rl, by have := H2.out.ob; simp only; omega, H2.out.nl, H2.out.fu⟩
   have dC : Hid _ := cj.out.trans hs3.1
   have rL := kI.out.keep hs3.1
   have eA : Hid _ := kN.out.keep hs3.1
   have H3 : Hid _ := h3
   obtain ⟨d0, d1, d2, d3, d4, d5, d6, d7, d8, d9⟩ := aC rL.b
   have Oz := af rL.b
   clear hs3 hb3 rL h3 cj kN kI H2
   go_upto_region 6 with fail
   rw [<- gS]
   clear y2 y3 y4 f3 c0 c1 c2 c3 c4 c5 c6 c7 c8 c9 gS nu gQ Im lO hq hz
   have hk := hg W3 nv cv rv _ H3.out
   rw [<- hr] at hk
   have HK : Hid _ := hk
   clear hk hr H3
   unfold ptr aI at HK
   rw [tV.out] at d0
   rcases DZ with ⟨rfl, rfl⟩ | ⟨rfl, rfl⟩ | ⟨rfl, rfl⟩ | ⟨rfl, rfl⟩ | ⟨rfl, rfl⟩ | ⟨rfl, rfl⟩ | ⟨rfl, rfl⟩ | ⟨rfl, rfl⟩ | ⟨rfl, rfl⟩
   all_goals
    go_wp2_with fail
    refine Calls.mono (by have := HK.out; rw [tV.out] at this; exact this) ?_
    rintro _ w5 ⟨rfl, Er, Zj, Zk, ew, nA⟩
    have fJ : Hid _ := dC.out.trans ew
    have iJ : Hid _ := nA
    have aG := eA.out.keep ew
    have cZ : Hid _ := aG
    have x0 : w5.cell? ⟨q, 0, none⟩ = some (.bool false) := by rw [aa aG.b]; rfl
    have x1 : w5.cell? ⟨q, 1, none⟩ = some (.int .i64 0) := by rw [aa aG.b]; rfl
    have g0 : w5.frozen? ⟨q, 0, none⟩ = false := ag aG.b 0
    have g1 : w5.frozen? ⟨q, 1, none⟩ = false := ag aG.b 1
    have wh := af aG.b
    clear ew nA aG HK dC eA d0 d1 d2 d3 d4 d5 d6 d7 d8 d9 Oz
    unfold lf
    go_wp2
    have aS := cZ.out
    have jn := (iJ.out.beside aS.ne aS.n aS.c aS.r 0 (.bool res.1.c)).beside aS.ne aS.n aS.c aS.r 1 (.int .i64 res.1.n)
    have iq := (fJ.out.upto (aw (aw (Below.refl _ _) ⟨q, 0, none⟩ fL (.bool res.1.c)) ⟨q, 1, none⟩ fL (.int .i64 res.1.n)))
    refine bodyPost_ret (v := .agg #[.bool res.1.c, .int .i64 res.1.n]) (by simp [results, Tryz.results130, go_sem, x0, x1]) rfl ⟨rfl, _, _, _, iq, jn⟩
  ·have hr : res = (v0, m) := by
    rw [iN.out]; unfold bn
    simp only [if_neg hq]
    rw [if_pos hz]
   clear iN
   subst hr
   have hne : ((m.fault : Int) != 0) = true := by simpa using hz
   have fJ : Hid _ := cj.out
   have iJ : Hid _ := H2.out.i
   have aG := kN.out
   have cZ : Hid _ := aG
   have x0 : W2.cell? ⟨q, 0, none⟩ = some (.bool false) := by rw [aa aG.b]; rfl
   have x1 : W2.cell? ⟨q, 1, none⟩ = some (.int .i64 0) := by rw [aa aG.b]; rfl
   have g0 : W2.frozen? ⟨q, 0, none⟩ = false := ag aG.b 0
   have g1 : W2.frozen? ⟨q, 1, none⟩ = false := ag aG.b 1
   have wh := af aG.b
   clear aG cj kN kI H2 c0 c1 c2 c3 c4 c5 c6 c7 c8 c9 hz
   unfold v0
   go_wp2
   have aS := cZ.out
   have jn := (iJ.out.beside aS.ne aS.n aS.c aS.r 0 (.bool (⟨false, 0⟩ : MV).c)).beside aS.ne aS.n aS.c aS.r 1 (.int .i64 (⟨false, 0⟩ : MV).n)
   have iq := (fJ.out.upto (aw (aw (Below.refl _ _) ⟨q, 0, none⟩ fL (.bool (⟨false, 0⟩ : MV).c)) ⟨q, 1, none⟩ fL (.int .i64 (⟨false, 0⟩ : MV).n)))
   refine bodyPost_ret (v := .agg #[.bool (⟨false, 0⟩ : MV).c, .int .i64 (⟨false, 0⟩ : MV).n]) (by simp [results, Tryz.results130, go_sem, x0, x1]) rfl ⟨rfl, _, _, _, iq, jn⟩
theorem Sa (mb B : Nat) (tn aM : Value) (fuel : Nat) (ns : List NR) (op : List Int) (n : NR) (hform : n.form = 3) (c : Nat) (g : MM -> MV × MM) (hg : ∀ (w : World) (nv cv rv : Value) (m : MM), iL mb B w tn aM fuel nv cv rv m ns op c -> Calls Tryz.prog 159 #[ptr mb, aI n] w (fO mb w tn aM fuel nv cv rv (g m)))
  (w : World) (nv cv rv : Value) (m : MM) (h : iL mb B w tn aM fuel nv cv rv m ns op c) :
  Calls Tryz.prog 130 #[ptr mb, aI n] w (fO mb w tn aM fuel nv cv rv (bn fuel m g)) :=
 mE 3 _ mb B tn aM fuel ns op n hform (Or.inl ⟨rfl, rfl⟩) c g hg w nv cv rv m h
theorem Sb (mb B : Nat) (tn aM : Value) (fuel : Nat) (ns : List NR) (op : List Int) (n : NR) (hform : n.form = 4) (c : Nat) (g : MM -> MV × MM) (hg : ∀ (w : World) (nv cv rv : Value) (m : MM), iL mb B w tn aM fuel nv cv rv m ns op c -> Calls Tryz.prog 160 #[ptr mb, aI n] w (fO mb w tn aM fuel nv cv rv (g m)))
  (w : World) (nv cv rv : Value) (m : MM) (h : iL mb B w tn aM fuel nv cv rv m ns op c) :
  Calls Tryz.prog 130 #[ptr mb, aI n] w (fO mb w tn aM fuel nv cv rv (bn fuel m g)) :=
 mE 4 _ mb B tn aM fuel ns op n hform (Or.inr (Or.inl ⟨rfl, rfl⟩)) c g hg w nv cv rv m h
theorem Sd (mb B : Nat) (tn aM : Value) (fuel : Nat) (ns : List NR) (op : List Int) (n : NR) (hform : n.form = 5) (c : Nat) (g : MM -> MV × MM) (hg : ∀ (w : World) (nv cv rv : Value) (m : MM), iL mb B w tn aM fuel nv cv rv m ns op c -> Calls Tryz.prog 161 #[ptr mb, aI n] w (fO mb w tn aM fuel nv cv rv (g m)))
  (w : World) (nv cv rv : Value) (m : MM) (h : iL mb B w tn aM fuel nv cv rv m ns op c) :
  Calls Tryz.prog 130 #[ptr mb, aI n] w (fO mb w tn aM fuel nv cv rv (bn fuel m g)) :=
 mE 5 _ mb B tn aM fuel ns op n hform (Or.inr (Or.inr (Or.inl ⟨rfl, rfl⟩))) c g hg w nv cv rv m h
theorem Sg (mb B : Nat) (tn aM : Value) (fuel : Nat) (ns : List NR) (op : List Int) (n : NR) (hform : n.form = 6) (c : Nat) (g : MM -> MV × MM) (hg : ∀ (w : World) (nv cv rv : Value) (m : MM), iL mb B w tn aM fuel nv cv rv m ns op c -> Calls Tryz.prog 161 #[ptr mb, aI n] w (fO mb w tn aM fuel nv cv rv (g m)))
  (w : World) (nv cv rv : Value) (m : MM) (h : iL mb B w tn aM fuel nv cv rv m ns op c) :
  Calls Tryz.prog 130 #[ptr mb, aI n] w (fO mb w tn aM fuel nv cv rv (bn fuel m g)) :=
 mE 6 _ mb B tn aM fuel ns op n hform (Or.inr (Or.inr (Or.inr (Or.inl ⟨rfl, rfl⟩)))) c g hg w nv cv rv m h
theorem Sh (mb B : Nat) (tn aM : Value) (fuel : Nat) (ns : List NR) (op : List Int) (n : NR) (hform : n.form = 7) (c : Nat) (g : MM -> MV × MM) (hg : ∀ (w : World) (nv cv rv : Value) (m : MM), iL mb B w tn aM fuel nv cv rv m ns op c -> Calls Tryz.prog 162 #[ptr mb, aI n] w (fO mb w tn aM fuel nv cv rv (g m)))
  (w : World) (nv cv rv : Value) (m : MM) (h : iL mb B w tn aM fuel nv cv rv m ns op c) :
  Calls Tryz.prog 130 #[ptr mb, aI n] w (fO mb w tn aM fuel nv cv rv (bn fuel m g)) :=
 mE 7 _ mb B tn aM fuel ns op n hform (Or.inr (Or.inr (Or.inr (Or.inr (Or.inl ⟨rfl, rfl⟩))))) c g hg w nv cv rv m h
theorem Si (mb B : Nat) (tn aM : Value) (fuel : Nat) (ns : List NR) (op : List Int) (n : NR) (hform : n.form = 8) (c : Nat) (g : MM -> MV × MM) (hg : ∀ (w : World) (nv cv rv : Value) (m : MM), iL mb B w tn aM fuel nv cv rv m ns op c -> Calls Tryz.prog 163 #[ptr mb, aI n] w (fO mb w tn aM fuel nv cv rv (g m)))
  (w : World) (nv cv rv : Value) (m : MM) (h : iL mb B w tn aM fuel nv cv rv m ns op c) :
  Calls Tryz.prog 130 #[ptr mb, aI n] w (fO mb w tn aM fuel nv cv rv (bn fuel m g)) :=
 mE 8 _ mb B tn aM fuel ns op n hform (Or.inr (Or.inr (Or.inr (Or.inr (Or.inr (Or.inl ⟨rfl, rfl⟩)))))) c g hg w nv cv rv m h
theorem Sj (mb B : Nat) (tn aM : Value) (fuel : Nat) (ns : List NR) (op : List Int) (n : NR) (hform : n.form = 9) (c : Nat) (g : MM -> MV × MM) (hg : ∀ (w : World) (nv cv rv : Value) (m : MM), iL mb B w tn aM fuel nv cv rv m ns op c -> Calls Tryz.prog 163 #[ptr mb, aI n] w (fO mb w tn aM fuel nv cv rv (g m)))
  (w : World) (nv cv rv : Value) (m : MM) (h : iL mb B w tn aM fuel nv cv rv m ns op c) :
  Calls Tryz.prog 130 #[ptr mb, aI n] w (fO mb w tn aM fuel nv cv rv (bn fuel m g)) :=
 mE 9 _ mb B tn aM fuel ns op n hform (Or.inr (Or.inr (Or.inr (Or.inr (Or.inr (Or.inr (Or.inl ⟨rfl, rfl⟩))))))) c g hg w nv cv rv m h
theorem OA (mb B : Nat) (tn aM : Value) (fuel : Nat) (ns : List NR) (op : List Int) (n : NR) (hform : n.form = 10) (c : Nat) (g : MM -> MV × MM) (hg : ∀ (w : World) (nv cv rv : Value) (m : MM), iL mb B w tn aM fuel nv cv rv m ns op c -> Calls Tryz.prog 163 #[ptr mb, aI n] w (fO mb w tn aM fuel nv cv rv (g m)))
  (w : World) (nv cv rv : Value) (m : MM) (h : iL mb B w tn aM fuel nv cv rv m ns op c) :
  Calls Tryz.prog 130 #[ptr mb, aI n] w (fO mb w tn aM fuel nv cv rv (bn fuel m g)) :=
 mE 10 _ mb B tn aM fuel ns op n hform (Or.inr (Or.inr (Or.inr (Or.inr (Or.inr (Or.inr (Or.inr (Or.inl ⟨rfl, rfl⟩)))))))) c g hg w nv cv rv m h
theorem OB (mb B : Nat) (tn aM : Value) (fuel : Nat) (ns : List NR) (op : List Int) (n : NR) (hform : n.form = 11) (c : Nat) (g : MM -> MV × MM) (hg : ∀ (w : World) (nv cv rv : Value) (m : MM), iL mb B w tn aM fuel nv cv rv m ns op c -> Calls Tryz.prog 164 #[ptr mb, aI n] w (fO mb w tn aM fuel nv cv rv (g m)))
  (w : World) (nv cv rv : Value) (m : MM) (h : iL mb B w tn aM fuel nv cv rv m ns op c) :
  Calls Tryz.prog 130 #[ptr mb, aI n] w (fO mb w tn aM fuel nv cv rv (bn fuel m g)) :=
 mE 11 _ mb B tn aM fuel ns op n hform (Or.inr (Or.inr (Or.inr (Or.inr (Or.inr (Or.inr (Or.inr (Or.inr (⟨rfl, rfl⟩))))))))) c g hg w nv cv rv m h
theorem Sk (mb B : Nat) (tn aM : Value) (fuel : Nat) (ns : List NR) (op : List Int) (n : NR) (hform : n.form = 1) (c : Nat)
  (w : World) (nv cv rv : Value) (m : MM) (h : iL mb B w tn aM fuel nv cv rv m ns op (c)) :
  Calls Tryz.prog 130 #[ptr mb, aI n] w (fO mb w tn aM fuel nv cv rv (bn fuel m (fun m => (⟨false, n.num⟩, m)))) := by
 obtain ⟨N, hN⟩ : ∃ N : Obj, N = .cells #[.int .i64 n.form, .int .i64 n.at_, .int .i64 n.aO, .int .i64 n.num, .string (bs n.word), .int .i64 n.region, .int .i64 n.source, .int .i64 n.p0, .int .i64 n.p1, .int .i64 n.p2] 160 := ⟨_, rfl⟩
 obtain ⟨R, hR⟩ : ∃ R : Obj, R = .cells #[.bool false, .int .i64 0] 171 := ⟨_, rfl⟩
 obtain ⟨W1, hE⟩ : ∃ W1, W1 = (w.alloc N).alloc R := ⟨_, rfl⟩
 have hW1 : Below w.heap.size w W1 := by rw [hE]; exact aE (aE (Below.refl _ _) _) _
 have h1 := h.below hW1
 have oL : Beside mb w.heap.size W1 nv cv rv (bR n) := Beside.new h.i (by rw [hE, hN]; exact aL _ (aj w _)) (Nat.le_refl _)
 have kM : Beside mb (w.heap.size + 1) W1 nv cv rv (.cells #[.bool false, .int .i64 0] 171) := Beside.new h.i (by rw [hE, hR]; have := aj (w.alloc N) (.cells #[.bool false, .int .i64 0] 171); simpa using this) (by omega)
 have dO : Hid (bu mb mb w W1 nv cv rv nv cv rv) := bu.below mb mb nv cv rv hW1
 have H1 : Hid _ := h1
 have ld : Hid _ := oL
 have jD : Hid _ := kM
 have fL : w.heap.size <= w.heap.size + 1 := by omega
 obtain ⟨res, hres⟩ : ∃ res, res = bn fuel m (fun m => (⟨false, n.num⟩, m)) := ⟨_, rfl⟩
 rw [<- hres]
 have iN : Hid _ := hres
 obtain ⟨y2, y3, _⟩ := bt h1.i.y
 have nu := af h1.i.y
 have tV : Hid _ := hform
 clear hres hW1 h1 oL kM h hform
 unfold ptr aI
 go_enter Tryz.func130, Tryz.ntmps130
 subst hN
 subst hR
 go_upto_region 1 with fail
 rw [<- hE]
 clear hE
 generalize w.heap.size + 1 = q at *
 go_quiet (fail)
 rename_i nq
 obtain ⟨W2, tT⟩ : ∃ W2, W2 = W1.drewN nq := ⟨_, rfl⟩
 have hbl : Below W1.heap.size W1 W2 := by rw [tT]; exact il (Below.refl _ _)
 rw [<- tT]
 have hf2 : bu mb mb W1 W2 nv cv rv nv cv rv := bu.below mb mb nv cv rv hbl
 have h2 := H1.out.below hbl
 have dq := ld.out.keep hf2
 have fN := jD.out.keep hf2
 have cj : Hid _ := dO.out.trans hf2
 clear tT hbl hf2 H1 ld jD dO y2 y3 nu
 obtain ⟨y2, y3, y4, _⟩ := bt h2.i.y
 have f3 : W2.frozen? ⟨mb, 3, none⟩ = false := ag h2.i.y 3
 have nu := af h2.i.y
 have Im := h2.bd.steps
 have lO := h2.fu
 have H2 : Hid _ := h2
 have kI : Hid _ := dq
 have kN : Hid _ := fN
 obtain ⟨c0, c1, c2, c3, c4, c5, c6, c7, c8, c9⟩ := aC dq.b
 have gQ := af dq.b
 clear h2 dq fN
 by_cases hq : fuel <= m.steps
 ·have hr : res = (v0, m.stop 12) := by
   rw [iN.out]; unfold bn
   simp only [if_pos hq]
   rw [if_pos (oN m)]
  clear iN
  subst hr
  have hst := rH mb W2 tn aM fuel nv cv rv m 12 H2.out.i
  have iQ : Hid _ := hst
  clear hst
  unfold ptr at iQ
  go_wp2_with fail
  refine Calls.mono iQ.out ?_
  rintro _ w3 ⟨rfl, hf3, qU⟩
  have fJ : Hid _ := cj.out.trans hf3
  have iJ : Hid _ := qU
  have aG := kN.out.keep hf3
  have cZ : Hid _ := aG
  have x0 : w3.cell? ⟨q, 0, none⟩ = some (.bool false) := by rw [aa aG.b]; rfl
  have x1 : w3.cell? ⟨q, 1, none⟩ = some (.int .i64 0) := by rw [aa aG.b]; rfl
  have g0 : w3.frozen? ⟨q, 0, none⟩ = false := ag aG.b 0
  have g1 : w3.frozen? ⟨q, 1, none⟩ = false := ag aG.b 1
  have wh := af aG.b
  have z4 := (bt qU.y).2.2.1
  have hne : ((m.stop 12).fault : Int) != 0 := by have := oN m; simpa using this
  have Ow := af qU.y
  clear hf3 qU aG iQ cj kN kI H2 y2 y3 y4 f3 c0 c1 c2 c3 c4 c5 c6 c7 c8 c9
  unfold v0
  go_wp2
  have aS := cZ.out
  have jn := (iJ.out.beside aS.ne aS.n aS.c aS.r 0 (.bool (⟨false, 0⟩ : MV).c)).beside aS.ne aS.n aS.c aS.r 1 (.int .i64 (⟨false, 0⟩ : MV).n)
  have iq := (fJ.out.upto (aw (aw (Below.refl _ _) ⟨q, 0, none⟩ fL (.bool (⟨false, 0⟩ : MV).c)) ⟨q, 1, none⟩ fL (.int .i64 (⟨false, 0⟩ : MV).n)))
  refine bodyPost_ret (v := .agg #[.bool (⟨false, 0⟩ : MV).c, .int .i64 (⟨false, 0⟩ : MV).n]) (by simp [results, Tryz.results130, go_sem, x0, x1]) rfl ⟨rfl, _, _, _, iq, jn⟩
 ·by_cases hz : m.fault = 0
  ·have hr : res = (fun m => (⟨false, n.num⟩, m)) { m with steps := m.steps + 1 } := by
    rw [iN.out]; unfold bn
    simp only [if_neg hq]
    rw [if_neg (fun hn => hn hz)]
   clear iN
   rw [hz] at y4
   have hs3 := H2.out.i.Cc { m with steps := m.steps + 1 } 3 (.int .i64 ((m.steps : Int) + 1)) rfl rfl rfl rfl
   obtain ⟨W3, gS⟩ : ∃ W3, W3 = W2.setCell ⟨mb, 3, none⟩ (.int .i64 ((m.steps : Int) + 1)) := ⟨_, rfl⟩
   rw [<- gS] at hs3
   have hb3 : mR fuel { m with steps := m.steps + 1 } := ⟨by simp only; omega, Nat.le_succ_of_le H2.out.bd.cells, H2.out.bd.live, H2.out.bd.sum, H2.out.bd.most, H2.out.bd.named, H2.out.bd.cell, H2.out.bd.regs, H2.out.bd.gb⟩
   have h3 : iL mb B W3 tn aM fuel nv cv rv { m with steps := m.steps + 1 } ns op (c) := ⟨hs3.2, hb3, H2.out.env.on hs3.1, H2.out.r1, H2.out.rl, by have := H2.out.ob; simp only; omega, H2.out.nl, H2.out.fu⟩
   have dC : Hid _ := cj.out.trans hs3.1
   have rL := kI.out.keep hs3.1
   have eA : Hid _ := kN.out.keep hs3.1
   have H3 : Hid _ := h3
   obtain ⟨d0, d1, d2, d3, d4, d5, d6, d7, d8, d9⟩ := aC rL.b
   have Oz := af rL.b
   clear hs3 hb3 rL h3 cj kN kI H2
   go_upto_region 6 with fail
   rw [<- gS]
   clear y2 y3 y4 f3 c0 c1 c2 c3 c4 c5 c6 c7 c8 c9 gS nu gQ Im lO hq hz
   rw [tV.out] at d0
   subst hr
   have fJ : Hid _ := dC.out
   have iJ : Hid _ := H3.out.i
   have aG := eA.out
   have cZ : Hid _ := aG
   have x0 : W3.cell? ⟨q, 0, none⟩ = some (.bool false) := by rw [aa aG.b]; rfl
   have x1 : W3.cell? ⟨q, 1, none⟩ = some (.int .i64 0) := by rw [aa aG.b]; rfl
   have g0 : W3.frozen? ⟨q, 0, none⟩ = false := ag aG.b 0
   have g1 : W3.frozen? ⟨q, 1, none⟩ = false := ag aG.b 1
   have wh := af aG.b
   clear aG dC eA H3
   go_wp2
   have aS := cZ.out
   have jn := (iJ.out.beside aS.ne aS.n aS.c aS.r 0 (.bool (⟨false, n.num⟩ : MV).c)).beside aS.ne aS.n aS.c aS.r 1 (.int .i64 (⟨false, n.num⟩ : MV).n)
   have iq := (fJ.out.upto (aw (aw (Below.refl _ _) ⟨q, 0, none⟩ fL (.bool (⟨false, n.num⟩ : MV).c)) ⟨q, 1, none⟩ fL (.int .i64 (⟨false, n.num⟩ : MV).n)))
   refine bodyPost_ret (v := .agg #[.bool (⟨false, n.num⟩ : MV).c, .int .i64 (⟨false, n.num⟩ : MV).n]) (by simp [results, Tryz.results130, go_sem, x0, x1]) rfl ⟨rfl, _, _, _, iq, jn⟩
  ·have hr : res = (v0, m) := by
    rw [iN.out]; unfold bn
    simp only [if_neg hq]
    rw [if_pos hz]
   clear iN
   subst hr
   have hne : ((m.fault : Int) != 0) = true := by simpa using hz
   have fJ : Hid _ := cj.out
   have iJ : Hid _ := H2.out.i
   have aG := kN.out
   have cZ : Hid _ := aG
   have x0 : W2.cell? ⟨q, 0, none⟩ = some (.bool false) := by rw [aa aG.b]; rfl
   have x1 : W2.cell? ⟨q, 1, none⟩ = some (.int .i64 0) := by rw [aa aG.b]; rfl
   have g0 : W2.frozen? ⟨q, 0, none⟩ = false := ag aG.b 0
   have g1 : W2.frozen? ⟨q, 1, none⟩ = false := ag aG.b 1
   have wh := af aG.b
   clear aG cj kN kI H2 c0 c1 c2 c3 c4 c5 c6 c7 c8 c9 hz
   unfold v0
   go_wp2
   have aS := cZ.out
   have jn := (iJ.out.beside aS.ne aS.n aS.c aS.r 0 (.bool (⟨false, 0⟩ : MV).c)).beside aS.ne aS.n aS.c aS.r 1 (.int .i64 (⟨false, 0⟩ : MV).n)
   have iq := (fJ.out.upto (aw (aw (Below.refl _ _) ⟨q, 0, none⟩ fL (.bool (⟨false, 0⟩ : MV).c)) ⟨q, 1, none⟩ fL (.int .i64 (⟨false, 0⟩ : MV).n)))
   refine bodyPost_ret (v := .agg #[.bool (⟨false, 0⟩ : MV).c, .int .i64 (⟨false, 0⟩ : MV).n]) (by simp [results, Tryz.results130, go_sem, x0, x1]) rfl ⟨rfl, _, _, _, iq, jn⟩
theorem Sl (mb B : Nat) (tn aM : Value) (fuel : Nat) (ns : List NR) (op : List Int) (n : NR) (hform : n.form = 2) (c : Nat) (hsrc : -1 <= n.source /\ n.source <= 9000)
  (w : World) (nv cv rv : Value) (m : MM) (h : iL mb B w tn aM fuel nv cv rv m ns op (c)) :
  Calls Tryz.prog 130 #[ptr mb, aI n] w (fO mb w tn aM fuel nv cv rv (bn fuel m (fun m => (m.look n.source, m)))) := by
 obtain ⟨N, hN⟩ : ∃ N : Obj, N = .cells #[.int .i64 n.form, .int .i64 n.at_, .int .i64 n.aO, .int .i64 n.num, .string (bs n.word), .int .i64 n.region, .int .i64 n.source, .int .i64 n.p0, .int .i64 n.p1, .int .i64 n.p2] 160 := ⟨_, rfl⟩
 obtain ⟨R, hR⟩ : ∃ R : Obj, R = .cells #[.bool false, .int .i64 0] 171 := ⟨_, rfl⟩
 obtain ⟨W1, hE⟩ : ∃ W1, W1 = (w.alloc N).alloc R := ⟨_, rfl⟩
 have hW1 : Below w.heap.size w W1 := by rw [hE]; exact aE (aE (Below.refl _ _) _) _
 have h1 := h.below hW1
 have oL : Beside mb w.heap.size W1 nv cv rv (bR n) := Beside.new h.i (by rw [hE, hN]; exact aL _ (aj w _)) (Nat.le_refl _)
 have kM : Beside mb (w.heap.size + 1) W1 nv cv rv (.cells #[.bool false, .int .i64 0] 171) := Beside.new h.i (by rw [hE, hR]; have := aj (w.alloc N) (.cells #[.bool false, .int .i64 0] 171); simpa using this) (by omega)
 have dO : Hid (bu mb mb w W1 nv cv rv nv cv rv) := bu.below mb mb nv cv rv hW1
 have H1 : Hid _ := h1
 have ld : Hid _ := oL
 have jD : Hid _ := kM
 have fL : w.heap.size <= w.heap.size + 1 := by omega
 obtain ⟨res, hres⟩ : ∃ res, res = bn fuel m (fun m => (m.look n.source, m)) := ⟨_, rfl⟩
 rw [<- hres]
 have iN : Hid _ := hres
 obtain ⟨y2, y3, _⟩ := bt h1.i.y
 have nu := af h1.i.y
 have tV : Hid _ := hform
 clear hres hW1 h1 oL kM h hform
 unfold ptr aI
 go_enter Tryz.func130, Tryz.ntmps130
 subst hN
 subst hR
 go_upto_region 1 with fail
 rw [<- hE]
 clear hE
 generalize w.heap.size + 1 = q at *
 go_quiet (fail)
 rename_i nq
 obtain ⟨W2, tT⟩ : ∃ W2, W2 = W1.drewN nq := ⟨_, rfl⟩
 have hbl : Below W1.heap.size W1 W2 := by rw [tT]; exact il (Below.refl _ _)
 rw [<- tT]
 have hf2 : bu mb mb W1 W2 nv cv rv nv cv rv := bu.below mb mb nv cv rv hbl
 have h2 := H1.out.below hbl
 have dq := ld.out.keep hf2
 have fN := jD.out.keep hf2
 have cj : Hid _ := dO.out.trans hf2
 clear tT hbl hf2 H1 ld jD dO y2 y3 nu
 obtain ⟨y2, y3, y4, _⟩ := bt h2.i.y
 have f3 : W2.frozen? ⟨mb, 3, none⟩ = false := ag h2.i.y 3
 have nu := af h2.i.y
 have Im := h2.bd.steps
 have lO := h2.fu
 have H2 : Hid _ := h2
 have kI : Hid _ := dq
 have kN : Hid _ := fN
 obtain ⟨c0, c1, c2, c3, c4, c5, c6, c7, c8, c9⟩ := aC dq.b
 have gQ := af dq.b
 clear h2 dq fN
 by_cases hq : fuel <= m.steps
 ·have hr : res = (v0, m.stop 12) := by
   rw [iN.out]; unfold bn
   simp only [if_pos hq]
   rw [if_pos (oN m)]
  clear iN
  subst hr
  have hst := rH mb W2 tn aM fuel nv cv rv m 12 H2.out.i
  have iQ : Hid _ := hst
  clear hst
  unfold ptr at iQ
  go_wp2_with fail
  refine Calls.mono iQ.out ?_
  rintro _ w3 ⟨rfl, hf3, qU⟩
  have fJ : Hid _ := cj.out.trans hf3
  have iJ : Hid _ := qU
  have aG := kN.out.keep hf3
  have cZ : Hid _ := aG
  have x0 : w3.cell? ⟨q, 0, none⟩ = some (.bool false) := by rw [aa aG.b]; rfl
  have x1 : w3.cell? ⟨q, 1, none⟩ = some (.int .i64 0) := by rw [aa aG.b]; rfl
  have g0 : w3.frozen? ⟨q, 0, none⟩ = false := ag aG.b 0
  have g1 : w3.frozen? ⟨q, 1, none⟩ = false := ag aG.b 1
  have wh := af aG.b
  have z4 := (bt qU.y).2.2.1
  have hne : ((m.stop 12).fault : Int) != 0 := by have := oN m; simpa using this
  have Ow := af qU.y
  clear hf3 qU aG iQ cj kN kI H2 y2 y3 y4 f3 c0 c1 c2 c3 c4 c5 c6 c7 c8 c9
  unfold v0
  go_wp2
  have aS := cZ.out
  have jn := (iJ.out.beside aS.ne aS.n aS.c aS.r 0 (.bool (⟨false, 0⟩ : MV).c)).beside aS.ne aS.n aS.c aS.r 1 (.int .i64 (⟨false, 0⟩ : MV).n)
  have iq := (fJ.out.upto (aw (aw (Below.refl _ _) ⟨q, 0, none⟩ fL (.bool (⟨false, 0⟩ : MV).c)) ⟨q, 1, none⟩ fL (.int .i64 (⟨false, 0⟩ : MV).n)))
  refine bodyPost_ret (v := .agg #[.bool (⟨false, 0⟩ : MV).c, .int .i64 (⟨false, 0⟩ : MV).n]) (by simp [results, Tryz.results130, go_sem, x0, x1]) rfl ⟨rfl, _, _, _, iq, jn⟩
 ·by_cases hz : m.fault = 0
  ·have hr : res = (fun m => (m.look n.source, m)) { m with steps := m.steps + 1 } := by
    rw [iN.out]; unfold bn
    simp only [if_neg hq]
    rw [if_neg (fun hn => hn hz)]
   clear iN
   rw [hz] at y4
   have hs3 := H2.out.i.Cc { m with steps := m.steps + 1 } 3 (.int .i64 ((m.steps : Int) + 1)) rfl rfl rfl rfl
   obtain ⟨W3, gS⟩ : ∃ W3, W3 = W2.setCell ⟨mb, 3, none⟩ (.int .i64 ((m.steps : Int) + 1)) := ⟨_, rfl⟩
   rw [<- gS] at hs3
   have hb3 : mR fuel { m with steps := m.steps + 1 } := ⟨by simp only; omega, Nat.le_succ_of_le H2.out.bd.cells, H2.out.bd.live, H2.out.bd.sum, H2.out.bd.most, H2.out.bd.named, H2.out.bd.cell, H2.out.bd.regs, H2.out.bd.gb⟩
   have h3 : iL mb B W3 tn aM fuel nv cv rv { m with steps := m.steps + 1 } ns op (c) := ⟨hs3.2, hb3, H2.out.env.on hs3.1, H2.out.r1, H2.out.rl, by have := H2.out.ob; simp only; omega, H2.out.nl, H2.out.fu⟩
   have dC : Hid _ := cj.out.trans hs3.1
   have rL := kI.out.keep hs3.1
   have eA : Hid _ := kN.out.keep hs3.1
   have H3 : Hid _ := h3
   obtain ⟨d0, d1, d2, d3, d4, d5, d6, d7, d8, d9⟩ := aC rL.b
   have Oz := af rL.b
   clear hs3 hb3 rL h3 cj kN kI H2
   go_upto_region 6 with fail
   rw [<- gS]
   clear y2 y3 y4 f3 c0 c1 c2 c3 c4 c5 c6 c7 c8 c9 gS nu gQ Im lO hq hz
   have hlo := KI mb W3 tn aM fuel nv cv rv { m with steps := m.steps + 1 } n.source (by omega) (by rw [H3.out.nl]; exact H3.out.env.len) H3.out.i
   have Zw : Hid _ := hlo
   clear hlo
   unfold ptr lf at Zw
   rw [tV.out] at d0
   go_wp2_with fail
   refine Calls.mono Zw.out ?_
   rintro _ w5 ⟨rfl, lY⟩
   subst hr
   have ew : bu mb mb W3 w5 nv cv rv nv cv rv := bu.below mb mb nv cv rv lY
   have fJ : Hid _ := dC.out.trans ew
   have iJ : Hid _ := H3.out.i.below lY
   have aG := eA.out.keep ew
   have cZ : Hid _ := aG
   have x0 : w5.cell? ⟨q, 0, none⟩ = some (.bool false) := by rw [aa aG.b]; rfl
   have x1 : w5.cell? ⟨q, 1, none⟩ = some (.int .i64 0) := by rw [aa aG.b]; rfl
   have g0 : w5.frozen? ⟨q, 0, none⟩ = false := ag aG.b 0
   have g1 : w5.frozen? ⟨q, 1, none⟩ = false := ag aG.b 1
   have wh := af aG.b
   clear lY ew aG Zw dC eA H3 d0 d1 d2 d3 d4 d5 d6 d7 d8 d9 Oz
   go_wp2
   have aS := cZ.out
   have jn := (iJ.out.beside aS.ne aS.n aS.c aS.r 0 (.bool (MM.look { m with steps := m.steps + 1 } n.source).c)).beside aS.ne aS.n aS.c aS.r 1 (.int .i64 (MM.look { m with steps := m.steps + 1 } n.source).n)
   have iq := (fJ.out.upto (aw (aw (Below.refl _ _) ⟨q, 0, none⟩ fL (.bool (MM.look { m with steps := m.steps + 1 } n.source).c)) ⟨q, 1, none⟩ fL (.int .i64 (MM.look { m with steps := m.steps + 1 } n.source).n)))
   refine bodyPost_ret (v := .agg #[.bool (MM.look { m with steps := m.steps + 1 } n.source).c, .int .i64 (MM.look { m with steps := m.steps + 1 } n.source).n]) (by simp [results, Tryz.results130, go_sem, x0, x1]) rfl ⟨rfl, _, _, _, iq, jn⟩
  ·have hr : res = (v0, m) := by
    rw [iN.out]; unfold bn
    simp only [if_neg hq]
    rw [if_pos hz]
   clear iN
   subst hr
   have hne : ((m.fault : Int) != 0) = true := by simpa using hz
   have fJ : Hid _ := cj.out
   have iJ : Hid _ := H2.out.i
   have aG := kN.out
   have cZ : Hid _ := aG
   have x0 : W2.cell? ⟨q, 0, none⟩ = some (.bool false) := by rw [aa aG.b]; rfl
   have x1 : W2.cell? ⟨q, 1, none⟩ = some (.int .i64 0) := by rw [aa aG.b]; rfl
   have g0 : W2.frozen? ⟨q, 0, none⟩ = false := ag aG.b 0
   have g1 : W2.frozen? ⟨q, 1, none⟩ = false := ag aG.b 1
   have wh := af aG.b
   clear aG cj kN kI H2 c0 c1 c2 c3 c4 c5 c6 c7 c8 c9 hz
   unfold v0
   go_wp2
   have aS := cZ.out
   have jn := (iJ.out.beside aS.ne aS.n aS.c aS.r 0 (.bool (⟨false, 0⟩ : MV).c)).beside aS.ne aS.n aS.c aS.r 1 (.int .i64 (⟨false, 0⟩ : MV).n)
   have iq := (fJ.out.upto (aw (aw (Below.refl _ _) ⟨q, 0, none⟩ fL (.bool (⟨false, 0⟩ : MV).c)) ⟨q, 1, none⟩ fL (.int .i64 (⟨false, 0⟩ : MV).n)))
   refine bodyPost_ret (v := .agg #[.bool (⟨false, 0⟩ : MV).c, .int .i64 (⟨false, 0⟩ : MV).n]) (by simp [results, Tryz.results130, go_sem, x0, x1]) rfl ⟨rfl, _, _, _, iq, jn⟩
end Go.Proofs.YtpicaknklgccoaaGreatDoor
