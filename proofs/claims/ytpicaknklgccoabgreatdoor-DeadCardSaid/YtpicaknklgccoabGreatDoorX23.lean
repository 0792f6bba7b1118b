import Derived.Test.YtpicaknklgccoabGreatDoorX22
import Derived.Test.YtpicaknklgccoabGreatDoorX8
namespace Go.Proofs.YtpicaknklgccoabGreatDoor
open Go.RowKit
theorem blk2 {w : World} {b : Nat} {v : MV} (h : w.heap[b]? = some (.cells #[.bool v.c, .int .i64 v.n] 122)) : w.cell? ⟨b, 0, none⟩ = some (.bool v.c) ∧ w.cell? ⟨b, 1, none⟩ = some (.int .i64 v.n) := ⟨by rw [blk_cell h]; rfl, by rw [blk_cell h]; rfl⟩
structure Beside (mb q : Nat) (w : World) (nv cv rv : Value) (o : Obj) : Prop where
 b : w.heap[q]? = some o
 ne : q ≠ mb
 n : nv.ownBlock ≠ some q
 c : cv.ownBlock ≠ some q
 r : rv.ownBlock ≠ some q
theorem Beside.keep {mb b : Nat} {w w' : World} {nv cv rv nv' cv' rv' : Value} {o : Obj} (h : Beside mb b w nv cv rv o) (hf : PFr mb mb w w' nv cv rv nv' cv' rv') : Beside mb b w' nv' cv' rv' o :=
 have hk := blk_lt h.b
 ⟨by rw [hf.blk b hk h.ne h.ne h.n h.c h.r]; exact h.b, h.ne, fun e => by
  rcases hf.s b e with e | e
  ·exact h.n e
  ·omega, fun e => by
  rcases hf.n b e with e | e
  ·exact h.c e
  ·omega, fun e => by
  rcases hf.o b e with e | e
  ·exact h.r e
  ·omega⟩
theorem Beside.new {mb : Nat} {w W : World} {tn to_ : Value} {fuel : Nat} {nv cv rv : Value} {m : MM} (h : MIn mb w tn to_ fuel nv cv rv m) {b : Nat} {o : Obj} (hb : W.heap[b]? = some o) (hw : w.heap.size ≤ b) : Beside mb b W nv cv rv o := by
 obtain ⟨l1, l2, l3, l4⟩ := h.slt
 exact ⟨hb, by omega, fun e => by have := l1 _ e; omega, fun e => by have := l2 _ e; omega, fun e => by have := l3 _ e; omega⟩
theorem MIn.beside {mb q : Nat} {w : World} {tn to_ : Value} {fuel : Nat} {nv cv rv : Value} {m : MM} (h : MIn mb w tn to_ fuel nv cv rv m) (h1 : q ≠ mb) (h2 : nv.ownBlock ≠ some q) (h3 : cv.ownBlock ≠ some q) (h4 : rv.ownBlock ≠ some q) (i : Nat) (u : Value) : MIn mb (w.setCell ⟨q, i, none⟩ u) tn to_ fuel nv cv rv m := by
 have kp : ∀ k, k ≠ q → (w.setCell ⟨q, i, none⟩ u).heap[k]? = w.heap[k]? := fun k hk => blk_other _ _ (by simpa using hk)
 exact ⟨by rw [kp mb (fun e => h1 e.symm)]; exact h.y, owns_blk h.nm (fun k hk => kp k (fun e => h2 (by rw [hk, e]))), owns_blk h.cl (fun k hk => kp k (fun e => h3 (by rw [hk, e]))), owns_blk h.rg (fun k hk => kp k (fun e => h4 (by rw [hk, e]))), h.ny, h.cy, h.ry, h.nc, h.nr, h.cr⟩
set_option maxRecDepth 100000 in
set_option maxHeartbeats 8000000 in
theorem newCell_any (mb : Nat) (w : World) (tn to_ : Value) (fuel : Nat) (nv cv rv : Value) (m : MM) (k : Int) (a b : MV) (h1 : 1 ≤ m.regs.length) (hf : fuel ≤ 20000) (hb : MBd fuel m) (h : MIn mb w tn to_ fuel nv cv rv m) :
  Calls Tryz.prog 126 #[ptr mb, .int .i64 k, mvV a, mvV b] w fun e w' => e = .returned (mvV (m.newCell k a b).1) ∧ ∃ cv', PFr mb mb w w' nv cv rv nv cv' rv ∧ MIn mb w' tn to_ fuel nv cv' rv (m.newCell k a b).2 := by
 obtain ⟨i0, hi, hz0, hz1, hz2⟩ := info_parts Tryz.infoCellA
 have HI : Hid _ := hi
 have HZ0 : Hid _ := hz0
 have HZ1 : Hid _ := hz1
 have HZ2 : Hid _ := hz2
 clear hi hz0 hz1 hz2
 have hhl : m.home k < m.regs.length := by have := homeF_le m.regs k (m.regs.length - 1); unfold MM.home; omega
 obtain ⟨r, hr⟩ : ∃ r, m.regs[m.home k]? = some r := ⟨_, List.getElem?_eq_getElem hhl⟩
 have ef : m.newCell k a b = (⟨true, m.cells.length⟩, { m with regs := m.regs.set (m.home k) { r with cells := r.cells + 1 }, cells := m.cells ++ [⟨a, b, m.home k, r.ser⟩], live := m.live + 1, most := if m.most < m.live + 1 then m.live + 1 else m.most }) := by unfold MM.newCell; rw [hr]
 rw [ef]
 obtain ⟨mo, hmo'⟩ : ∃ mo, mo = if m.most < m.live + 1 then m.live + 1 else m.most := ⟨_, rfl⟩
 rw [← hmo']
 have HMO : Hid _ := hmo'
 clear hmo'
 dsimp only
 have q1 := hb.live; have q2 := hb.sum; have q3 := hb.cells; have q4 := hb.steps; have q5 := hb.most; have hrl := hb.regs
 have q6 : r.cells ≤ sumC m.regs := by
  have := sumC_set m.regs _ r ⟨0, 0, 0⟩ hr
  simp only at this; omega
 have hlv : 0 ≤ m.live ∧ m.live ≤ 20000 := by omega
 have hmo : 0 ≤ m.most ∧ m.most ≤ 20000 := by omega
 have hrc : r.cells ≤ 20000 := by omega
 have hcl : m.cells.length ≤ 20000 := by omega
 have hho := fun W (hW : Below w.heap.size w W) => homeOf_any mb W _ _ _ _ _ _ m k h1 hrl (h.below hW)
 obtain ⟨H, hH⟩ : ∃ H, m.home k = H := ⟨_, rfl⟩
 rw [hH] at hho hhl hr ⊢
 obtain ⟨g, cap, rfl⟩ := slice_of' h.rg (by omega)
 obtain ⟨A, hA⟩ : ∃ A : Obj, A = .cells #[.bool a.c, .int .i64 a.n] 122 := ⟨_, rfl⟩
 obtain ⟨B, hB⟩ : ∃ B : Obj, B = .cells #[.bool b.c, .int .i64 b.n] 122 := ⟨_, rfl⟩
 obtain ⟨R, hR⟩ : ∃ R : Obj, R = .cells #[.bool false, .int .i64 0] 122 := ⟨_, rfl⟩
 obtain ⟨W1, hE⟩ : ∃ W1, W1 = ((w.alloc A).alloc B).alloc R := ⟨_, rfl⟩
 have hW1 : Below w.heap.size w W1 := by rw [hE]; exact below_al (below_al (below_al (Below.refl _ _) _) _) _
 have hbA : W1.heap[w.heap.size]? = some A := by rw [hE]; exact blk_alloc _ (blk_alloc _ (blk_new w A))
 have hbB : W1.heap[w.heap.size + 1]? = some B := by rw [hE]; exact blk_alloc _ (by have := blk_new (w.alloc A) B; simpa using this)
 have hbR : W1.heap[w.heap.size + 1 + 1]? = some R := by rw [hE]; have := blk_new ((w.alloc A).alloc B) R; simpa using this
 have hsA := Beside.new h hbA (Nat.le_refl _)
 have hsB := Beside.new h hbB (by omega)
 have hsR := Beside.new h hbR (by omega)
 have hin1 := h.below hW1
 have hfr1 : PFr mb mb w W1 nv cv (.slice (some ⟨g, 0, none⟩) m.regs.length cap) nv cv (.slice (some ⟨g, 0, none⟩) m.regs.length cap) := PFr.below mb mb _ _ _ hW1
 have hset := hin1.setC H r hr
 have hsA2 := hsA.keep hset.1
 have hsB2 := hsB.keep hset.1
 have hsR2 := hsR.keep hset.1
 have hfr2 := hfr1.trans hset.1
 have HHO : Hid _ := hho
 have HFR2 : Hid _ := hfr2
 have HIN2 : Hid _ := hset.2
 have HSA : Hid _ := hsA2
 have HSB : Hid _ := hsB2
 have HSR : Hid _ := hsR2
 have HW1 : Hid _ := hW1
 obtain ⟨_, _, _, _, _, y7, _⟩ := mm_cells hin1.y
 have hmb := blk_lt hin1.y
 have hg : g < W1.heap.size := (hin1.rg.lt g rfl).2
 have hgp : g ≠ mb := fun e => hin1.ry (by rw [e]; rfl)
 have fz := hin1.rg.frozenAt (H * 3 + 2)
 obtain ⟨r0, r1, r2⟩ := regs_cells hin1.rg H r hr
 clear h hset hsA hsB hsR hsA2 hsB2 hsR2 hfr1 hfr2 hin1 hbA hbB hbR hW1 hho ef hr hb q1 q2 q3 q4 q5 q6 hH
 unfold ptr at HHO
 unfold ptr mvV
 generalize hn : m.regs.length = n at *
 go_enter Tryz.func126, Tryz.ntmps126
 subst hA
 subst hB
 subst hR
 go_wp2_with fail
 rw [← hE]
 refine Calls.mono (HHO.out _ HW1.out) ?_
 rintro _ w'' ⟨rfl, hw⟩
 have hw' := hw.symm
 subst hw'
 clear hE hw
 go_upto_region 6 with fail
 obtain ⟨W2, hE2⟩ : ∃ W2, W2 = W1.setCell ⟨g, H * 3 + 2, none⟩ (.int .i64 ((r.cells : Int) + 1)) := ⟨_, rfl⟩
 rw [← hE2]
 have hin2 : MIn mb W2 tn to_ fuel nv cv (.slice (some ⟨g, 0, none⟩) n cap) { m with regs := m.regs.set H { r with cells := r.cells + 1 } } := by rw [hE2]; exact HIN2.out
 have hfr2 : PFr mb mb w W2 nv cv (.slice (some ⟨g, 0, none⟩) n cap) nv cv (.slice (some ⟨g, 0, none⟩) n cap) := by rw [hE2]; exact HFR2.out
 have hsA : Beside mb w.heap.size W2 nv cv (.slice (some ⟨g, 0, none⟩) n cap) (.cells #[.bool a.c, .int .i64 a.n] 122) := by rw [hE2]; exact HSA.out
 have hsB : Beside mb (w.heap.size + 1) W2 nv cv (.slice (some ⟨g, 0, none⟩) n cap) (.cells #[.bool b.c, .int .i64 b.n] 122) := by rw [hE2]; exact HSB.out
 have hsR : Beside mb (w.heap.size + 1 + 1) W2 nv cv (.slice (some ⟨g, 0, none⟩) n cap) (.cells #[.bool false, .int .i64 0] 122) := by rw [hE2]; exact HSR.out
 clear hE2 HIN2 HFR2 HSA HSB HSR HW1 HHO y7 r0 r1 r2 fz hmb hg
 have hqw : w.heap.size ≤ w.heap.size + 1 + 1 := by omega
 generalize w.heap.size + 1 + 1 = q at *
 obtain ⟨a0, a1⟩ := blk2 hsA.b
 obtain ⟨b0, b1⟩ := blk2 hsB.b
 have hla := blk_lt hsA.b
 have hlb := blk_lt hsB.b
 obtain ⟨_, _, _, _, y6, _, _, _, _⟩ := mm_cells hin2.y
 have hmb := blk_lt hin2.y
 obtain ⟨C, hC⟩ : ∃ C : Obj, C = .cells #[.bool a.c, .int .i64 a.n, .bool b.c, .int .i64 b.n, .int .i64 H, .int .i64 r.ser] 154 := ⟨_, rfl⟩
 have hW : Below W2.heap.size W2 (W2.alloc C).drew := below_ad W2 C
 have HW : Hid _ := hW
 have HOWN : Hid ((W2.alloc C).drew.ownsRow 0 154 6 cv m.cells.length (m.cells.flatMap mcL)) := owns_below hin2.cl hW
 have HC1 : Hid (∀ (j : Nat) (u : Value), (mcL ⟨a, b, H, r.ser⟩)[j]? = some u → (W2.alloc C).drew.cell? ((⟨W2.heap.size, 0, none⟩ : Addr).add j) = some u) := by
  intro j u hj
  have hq := alloc_cell_at W2 (mcL ⟨a, b, H, r.ser⟩) 154 j
  rw [← hj, ← hq, hC]; rfl
 have HYW : Hid ((W2.alloc C).drew.heap[mb]? = some (.cells (mmCells tn to_ fuel nv cv (.slice (some ⟨g, 0, none⟩) n cap) { m with regs := m.regs.set H { r with cells := r.cells + 1 } }) 120 (0, 0))) := by
  show (W2.alloc C).drew.heap[mb]? = _
  rw [hW.block mb hmb]; exact hin2.y
 have HCY : Hid _ := hin2.cy
 have HIN2 : Hid _ := hin2
 have HFR2 : Hid _ := hfr2
 have HSR : Hid _ := hsR
 clear hin2 hfr2 hsA hsB hsR hW
 subst hC
 go_region_law (refine step_own rfl (.tmp 45) (.tmp 51) 117 rfl 154 i0 _ 6 48 Tryz.undCells HI.out HZ0.out HZ1.out HZ2.out rfl (by decide) cv m.cells.length (m.cells.flatMap mcL) (by simp [Act.eval]) HOWN.out ⟨W2.heap.size, 0, none⟩ 1 1 (mcL ⟨a, b, H, r.ser⟩) (by simp [Act.eval]) rfl HC1.out (mc_one _) (by decide) (by unfold maxLen; omega) (by omega) ?_; intro g' cap' w' hown hgrow hor; have hpb' := grown_blk hgrow HYW.out HCY.out; have c6 : w'.cell? ⟨mb, 6, none⟩ = some cv := (by rw [blk_cell hpb']; rfl); have f6 := blk_free hpb' 6)
 all_goals
  have hadd := MIn.addC HIN2.out ⟨a, b, H, r.ser⟩ HW.out hgrow hown hor
  have hfr3 := HFR2.out.trans hadd.1
  have hsR3 := HSR.out.keep hadd.1
  have hin3 := hadd.2
  clear hadd hown hgrow hor hpb' c6 f6 HIN2 HFR2 HSR HW HOWN HC1 HYW HCY HI HZ0 HZ1 HZ2 a0 a1 b0 b1 y6
  generalize w'.setCell ⟨mb, 6, none⟩ (.slice (some ⟨g', 0, none⟩) (m.cells.length + 1) cap') = W3 at hfr3 hsR3 hin3 ⊢
  have y9 : W3.cell? ⟨mb, 9, none⟩ = some (.int .i64 m.live) := (mm_cells hin3.y).2.2.2.2.2.2.2.1
  have f9 : W3.frozen? ⟨mb, 9, none⟩ = false := blk_free hin3.y 9
  have hmb3 := blk_lt hin3.y
  have hin4 := hin3.scal { m with regs := m.regs.set H { r with cells := r.cells + 1 }, cells := m.cells ++ [⟨a, b, H, r.ser⟩], live := m.live + 1 } 9 (.int .i64 (m.live + 1)) rfl rfl rfl rfl
  have HFR4 : Hid _ := hfr3.trans hin4.1
  have HSR4 : Hid _ := hsR3.keep hin4.1
  have HIN4 : Hid _ := hin4.2
  have hy10 : (W3.setCell ⟨mb, 9, none⟩ (.int .i64 (m.live + 1))).cell? ⟨mb, 10, none⟩ = some (.int .i64 m.most) := (mm_cells hin4.2.y).2.2.2.2.2.2.2.2
  have hy9 : (W3.setCell ⟨mb, 9, none⟩ (.int .i64 (m.live + 1))).cell? ⟨mb, 9, none⟩ = some (.int .i64 (m.live + 1)) := (mm_cells hin4.2.y).2.2.2.2.2.2.2.1
  clear hfr3 hsR3 hin3 hin4
  go_upto_region 8 with fail
  obtain ⟨W4, hE4⟩ : ∃ W4, W4 = W3.setCell ⟨mb, 9, none⟩ (.int .i64 (m.live + 1)) := ⟨_, rfl⟩
  rw [← hE4] at HFR4 HSR4 HIN4 hy10 hy9 ⊢
  clear hE4 y9 f9 hmb3
  have hmb4 := blk_lt HIN4.out.y
  go_quiet (fail)
  rename_i nq
  obtain ⟨W5, hE5⟩ : ∃ W5, W5 = W4.drewN nq := ⟨_, rfl⟩
  have hbl5 : Below W4.heap.size W4 W5 := by rw [hE5]; exact below_dn (Below.refl _ _)
  rw [← hE5]
  have hin5 := HIN4.out.below hbl5
  have hfr5 := HFR4.out.trans (PFr.below mb mb _ _ _ hbl5)
  have hsR5 := HSR4.out.keep (PFr.below mb mb _ _ _ hbl5)
  clear hE5 hbl5 HIN4 HFR4 HSR4 hy9 hy10 hmb4
  have z9 : W5.cell? ⟨mb, 9, none⟩ = some (.int .i64 (m.live + 1)) := (mm_cells hin5.y).2.2.2.2.2.2.2.1
  have z10 : W5.cell? ⟨mb, 10, none⟩ = some (.int .i64 m.most) := (mm_cells hin5.y).2.2.2.2.2.2.2.2
  have z6 : W5.cell? ⟨mb, 6, none⟩ = some (.slice (some ⟨g', 0, none⟩) (m.cells.length + 1) cap') := (mm_cells hin5.y).2.2.2.2.1
  have g10 : W5.frozen? ⟨mb, 10, none⟩ = false := blk_free hin5.y 10
  have hmb5 := blk_lt hin5.y
  have x0 : W5.cell? ⟨q, 0, none⟩ = some (.bool false) := by rw [blk_cell hsR5.b]; rfl
  have x1 : W5.cell? ⟨q, 1, none⟩ = some (.int .i64 0) := by rw [blk_cell hsR5.b]; rfl
  have g0 : W5.frozen? ⟨q, 0, none⟩ = false := blk_free hsR5.b 0
  have g1 : W5.frozen? ⟨q, 1, none⟩ = false := blk_free hsR5.b 1
  have hq5 := blk_lt hsR5.b
  have hqm : q ≠ mb := hsR5.ne
  have hmq : mb ≠ q := fun e => hqm e.symm
  have HIN5 : Hid _ := hin5
  have HFR5 : Hid _ := hfr5
  have HSR5 : Hid _ := hsR5
  clear hin5 hfr5 hsR5
  by_cases hq : m.most < m.live + 1
  ·have HMO2 : Hid (mo = m.live + 1) := by have := HMO.out; rw [if_pos hq] at this; exact this
   clear HMO
   go_wp2
   have hs6 := HIN5.out.scal { m with regs := m.regs.set H { r with cells := r.cells + 1 }, cells := m.cells ++ [⟨a, b, H, r.ser⟩], live := m.live + 1, most := m.live + 1 } 10 (.int .i64 (m.live + 1)) rfl rfl rfl rfl
   have hs7 := HSR5.out.keep hs6.1
   have hi7 := (hs6.2.beside hs7.ne hs7.n hs7.c hs7.r 0 (.bool true)).beside hs7.ne hs7.n hs7.c hs7.r 1 (.int .i64 m.cells.length)
   have hf7 := ((HFR5.out.trans hs6.1).upto (below_set' (below_set' (Below.refl _ _) ⟨q, 0, none⟩ hqw (.bool true)) ⟨q, 1, none⟩ hqw (.int .i64 m.cells.length)))
   refine bodyPost_ret (v := .agg #[.bool true, .int .i64 m.cells.length]) (by simp [results, Tryz.results126, go_sem, x0, x1]) rfl ⟨rfl, _, hf7, ?_⟩
   rw [HMO2.out]; exact hi7
  ·have HMO2 : Hid (mo = m.most) := by have := HMO.out; rw [if_neg hq] at this; exact this
   clear HMO
   go_wp2
   have hs7 := HSR5.out
   have hi7 := (HIN5.out.beside hs7.ne hs7.n hs7.c hs7.r 0 (.bool true)).beside hs7.ne hs7.n hs7.c hs7.r 1 (.int .i64 m.cells.length)
   have hf7 := (HFR5.out.upto (below_set' (below_set' (Below.refl _ _) ⟨q, 0, none⟩ hqw (.bool true)) ⟨q, 1, none⟩ hqw (.int .i64 m.cells.length)))
   refine bodyPost_ret (v := .agg #[.bool true, .int .i64 m.cells.length]) (by simp [results, Tryz.results126, go_sem, x0, x1]) rfl ⟨rfl, _, hf7, ?_⟩
   rw [HMO2.out]; exact hi7
structure MEnv (mb B : Nat) (w : World) (nv cv rv tn to_ : Value) (ns : List NR) (op : List Int) : Prop where
 b : B ≤ mb
 s : B ≤ w.heap.size
 n : ∀ g, nv.ownBlock = some g → B ≤ g
 c : ∀ g, cv.ownBlock = some g → B ≤ g
 r : ∀ g, rv.ownBlock = some g → B ≤ g
 tree : ∀ w', Below B w w' → TreeIn w' tn to_ ns op
 len : ns.length ≤ 9000
theorem MEnv.bel {mb B : Nat} {w w' : World} {nv cv rv nv' cv' rv' tn to_ : Value} {ns : List NR} {op : List Int} (h : MEnv mb B w nv cv rv tn to_ ns op) (hf : PFr mb mb w w' nv cv rv nv' cv' rv') : Below B w w' :=
 have hb := h.b
 have hs := h.s
 ⟨hf.os, hf.tape, hf.output, hf.size, fun k hk => hf.blk k (by omega) (by omega) (by omega) (fun e => by have := h.n k e; omega) (fun e => by have := h.c k e; omega) (fun e => by have := h.r k e; omega)⟩
theorem MEnv.on {mb B : Nat} {w w' : World} {nv cv rv nv' cv' rv' tn to_ : Value} {ns : List NR} {op : List Int} (h : MEnv mb B w nv cv rv tn to_ ns op) (hf : PFr mb mb w w' nv cv rv nv' cv' rv') : MEnv mb B w' nv' cv' rv' tn to_ ns op := by
 have hs := h.s
 refine ⟨h.b, Nat.le_trans h.s hf.size, fun g hg => ?_, fun g hg => ?_, fun g hg => ?_, fun w2 h2 => h.tree w2 ((h.bel hf).trans h2), h.len⟩
 ·rcases hf.s g hg with e | e
  ·exact h.n g e
  ·omega
 ·rcases hf.n g hg with e | e
  ·exact h.c g e
  ·omega
 ·rcases hf.o g hg with e | e
  ·exact h.r g e
  ·omega
structure MSt (mb B : Nat) (w : World) (tn to_ : Value) (fuel : Nat) (nv cv rv : Value) (m : MM) (ns : List NR) (op : List Int) (c : Nat) : Prop where
 i : MIn mb w tn to_ fuel nv cv rv m
 bd : MBd fuel m
 env : MEnv mb B w nv cv rv tn to_ ns op
 r1 : 1 ≤ m.regs.length
 rl : m.regs.length + c ≤ 20000
 ob : m.opened + 20000 * (fuel - m.steps) + c ≤ 3000000000
 nl : m.named.length = ns.length
 fu : fuel ≤ 20000
theorem MSt.on {mb B : Nat} {w w' : World} {tn to_ : Value} {fuel : Nat} {nv cv rv nv' cv' rv' : Value} {m m' : MM} {ns : List NR} {op : List Int} {c c' a s : Nat} (h : MSt mb B w tn to_ fuel nv cv rv m ns op c) (hf : PFr mb mb w w' nv cv rv nv' cv' rv')
  (hi : MIn mb w' tn to_ fuel nv' cv' rv' m') (hb : MBd fuel m') (hg : Inner a s m m') (hc : a + c' ≤ c) : MSt mb B w' tn to_ fuel nv' cv' rv' m' ns op c' := by
 have h1 := h.ob; have h2 := hg.op; have h3 := hg.st; have h4 := hb.steps; have h5 := h.rl; have h6 := h.r1
 exact ⟨hi, hb, h.env.on hf, by rw [hg.rg]; exact h6, by rw [hg.rg]; omega, by omega, by rw [hg.nm]; exact h.nl, h.fu⟩
theorem MSt.below {mb B : Nat} {w w' : World} {tn to_ : Value} {fuel : Nat} {nv cv rv : Value} {m : MM} {ns : List NR} {op : List Int} {c : Nat} (h : MSt mb B w tn to_ fuel nv cv rv m ns op c) (hb : Below w.heap.size w w') : MSt mb B w' tn to_ fuel nv cv rv m ns op c :=
 ⟨h.i.below hb, h.bd, h.env.on (PFr.below mb mb nv cv rv hb), h.r1, h.rl, h.ob, h.nl, h.fu⟩
theorem MSt.less {mb B : Nat} {w : World} {tn to_ : Value} {fuel : Nat} {nv cv rv : Value} {m : MM} {ns : List NR} {op : List Int} {c c' : Nat} (h : MSt mb B w tn to_ fuel nv cv rv m ns op c) (hc : c' ≤ c) : MSt mb B w tn to_ fuel nv cv rv m ns op c' :=
 ⟨h.i, h.bd, h.env, h.r1, by have := h.rl; omega, by have := h.ob; omega, h.nl, h.fu⟩
def MOut (mb : Nat) (w : World) (tn to_ : Value) (fuel : Nat) (nv cv rv : Value) (x : MV × MM) (e : Ending) (w' : World) : Prop :=
 e = .returned (mvV x.1) ∧ ∃ nv' cv' rv', PFr mb mb w w' nv cv rv nv' cv' rv' ∧ MIn mb w' tn to_ fuel nv' cv' rv' x.2
def WorkOk (mb B : Nat) (tn to_ : Value) (fuel : Nat) (ns : List NR) (op : List Int) (i : Int) (c : Nat) (f : MM → MV × MM) : Prop :=
 ∀ (w : World) (nv cv rv : Value) (m : MM), MSt mb B w tn to_ fuel nv cv rv m ns op c → MKeeps fuel c m (f m) ∧ Calls Tryz.prog 68 #[ptr mb, .int .i64 i] w (MOut mb w tn to_ fuel nv cv rv (f m))
set_option maxRecDepth 100000 in
set_option maxHeartbeats 4000000 in
theorem workLet_any (mb B : Nat) (tn to_ : Value) (fuel : Nat) (ns : List NR) (op : List Int) (n : NR) (ca cb : Nat) (fa fb : MM → MV × MM) (hp0 : -1 ≤ n.p0 ∧ n.p0 ≤ 9000)
  (ha : WorkOk mb B tn to_ fuel ns op n.p0 ca fa) (hb : WorkOk mb B tn to_ fuel ns op n.p1 cb fb)
  (w : World) (nv cv rv : Value) (m : MM) (h : MSt mb B w tn to_ fuel nv cv rv m ns op (ca + cb)) :
  Calls Tryz.prog 110 #[ptr mb, nrVal n] w (MOut mb w tn to_ fuel nv cv rv (fb ((fa m).2.name n.p0 (fa m).1))) := by
 obtain ⟨N, hN⟩ : ∃ N : Obj, N = .cells #[.int .i64 n.form, .int .i64 n.at_, .int .i64 n.beh, .int .i64 n.num, .string (bs n.word), .int .i64 n.region, .int .i64 n.source, .int .i64 n.p0, .int .i64 n.p1, .int .i64 n.p2] 108 := ⟨_, rfl⟩
 obtain ⟨R, hR⟩ : ∃ R : Obj, R = .cells #[.bool false, .int .i64 0] 122 := ⟨_, rfl⟩
 obtain ⟨W1, hE⟩ : ∃ W1, W1 = (w.alloc N).alloc R := ⟨_, rfl⟩
 have hW1 : Below w.heap.size w W1 := by rw [hE]; exact below_al (below_al (Below.refl _ _) _) _
 have h1 := h.below hW1
 have hsN : Beside mb w.heap.size W1 nv cv rv (nrO n) := Beside.new h.i (by rw [hE, hN]; exact blk_alloc _ (blk_new w _)) (Nat.le_refl _)
 have hsR : Beside mb (w.heap.size + 1) W1 nv cv rv (.cells #[.bool false, .int .i64 0] 122) := Beside.new h.i (by rw [hE, hR]; have := blk_new (w.alloc N) (.cells #[.bool false, .int .i64 0] 122); simpa using this) (by omega)
 have hka := ha W1 nv cv rv m (h1.less (by omega))
 have HF1 : Hid (PFr mb mb w W1 nv cv rv nv cv rv) := PFr.below mb mb nv cv rv hW1
 have HA : Hid _ := hka.2
 have HK : Hid _ := hka.1
 have HB : Hid _ := hb
 have H1 : Hid _ := h1
 have HSN : Hid _ := hsN
 have HSR : Hid _ := hsR
 have HP : Hid _ := hp0
 have hrw : w.heap.size ≤ w.heap.size + 1 := by omega
 clear hka ha hb hW1 h1 hsN hsR h hp0
 unfold ptr at HA
 unfold ptr nrVal
 go_enter Tryz.func110, Tryz.ntmps110
 subst hN
 subst hR
 go_wp2_with fail
 rw [← hE]
 refine Calls.mono HA.out ?_
 rintro _ w2 ⟨rfl, nv2, cv2, rv2, hf2, hi2⟩
 have hsN2 := HSN.out.keep hf2
 have hsR2 := HSR.out.keep hf2
 have h2 := H1.out.on (c' := cb) hf2 hi2 HK.out.1 HK.out.2.2.inner (by omega)
 have hbd2 := HK.out.2.1
 have HF2 : Hid _ := HF1.out.trans hf2
 clear hE hf2 hi2 HSN HSR H1 HF1 HA HK
 generalize fa m = x at *
 generalize w.heap.size + 1 = q at *
 obtain ⟨W3, hE3⟩ : ∃ W3, W3 = w2.alloc (.cells #[.bool x.1.c, .int .i64 x.1.n] 122) := ⟨_, rfl⟩
 have hW3 : Below w2.heap.size w2 W3 := by rw [hE3]; exact below_al (Below.refl _ _) _
 have h3 := h2.below hW3
 have hf3 : PFr mb mb w2 W3 nv2 cv2 rv2 nv2 cv2 rv2 := PFr.below mb mb nv2 cv2 rv2 hW3
 have hsN3 := hsN2.keep hf3
 have hsR3 := hsR2.keep hf3
 have hna := name_any mb W3 tn to_ fuel nv2 cv2 rv2 x.2 n.p0 x.1 (by have := HP.out; omega) (by rw [h3.nl]; exact h3.env.len) h3.i
 have HNA : Hid _ := hna
 have H3 : Hid _ := h3
 have HF3 : Hid _ := HF2.out.trans hf3
 have HSN3 : Hid _ := hsN3
 have HSR3 : Hid _ := hsR3
 have HBD2 : Hid _ := hbd2
 obtain ⟨_, _, _, _, _, _, _, c7, c8, _⟩ := nr_cells10 hsN2.b
 have hlp := blk_lt hsN2.b
 clear h3 hf3 hsN3 hsR3 hna HF2 hW3 h2 hsN2 hsR2 hbd2
 unfold ptr mvV at HNA
 unfold mvV
 go_wp2_with fail
 rw [← hE3]
 refine Calls.mono HNA.out ?_
 rintro _ w4 ⟨rfl, hf4, hi4⟩
 have hsN4 := HSN3.out.keep hf4
 have hsR4 := HSR3.out.keep hf4
 have h4 := H3.out.on (c' := cb) hf4 hi4 (MM.name_bd H3.out.bd n.p0 x.1 HBD2.out) (name_inner x.2 n.p0 x.1) (by omega)
 have hkb := HB.out w4 nv2 cv2 rv2 _ h4
 have HKB : Hid _ := hkb.2
 have HF4 : Hid _ := HF3.out.trans hf4
 have HSR4 : Hid _ := hsR4
 obtain ⟨_, _, _, _, _, _, _, d7, d8, _⟩ := nr_cells10 hsN4.b
 have hlp4 := blk_lt hsN4.b
 clear hE3 hf4 hi4 h4 hkb hsN4 hsR4 HSN3 HSR3 H3 HF3 HNA HBD2 c7 c8 hlp HB HP
 unfold ptr at HKB
 go_wp2_with fail
 refine Calls.mono HKB.out ?_
 rintro _ w5 ⟨rfl, nv5, cv5, rv5, hf5, hi5⟩
 have hsR5 := HSR4.out.keep hf5
 have HF5 : Hid _ := HF4.out.trans hf5
 have HI5 : Hid _ := hi5
 have HSR5 : Hid _ := hsR5
 have x0 : w5.cell? ⟨q, 0, none⟩ = some (.bool false) := by rw [blk_cell hsR5.b]; rfl
 have x1 : w5.cell? ⟨q, 1, none⟩ = some (.int .i64 0) := by rw [blk_cell hsR5.b]; rfl
 have g0 : w5.frozen? ⟨q, 0, none⟩ = false := blk_free hsR5.b 0
 have g1 : w5.frozen? ⟨q, 1, none⟩ = false := blk_free hsR5.b 1
 have hq5 := blk_lt hsR5.b
 clear hf5 hi5 hsR5 HSR4 HF4 HKB d7 d8 hlp4
 generalize fb (x.2.name n.p0 x.1) = y at *
 unfold mvV
 go_wp2
 have hs7 := HSR5.out
 have hi7 := (HI5.out.beside hs7.ne hs7.n hs7.c hs7.r 0 (.bool y.1.c)).beside hs7.ne hs7.n hs7.c hs7.r 1 (.int .i64 y.1.n)
 have hf7 := (HF5.out.upto (below_set' (below_set' (Below.refl _ _) ⟨q, 0, none⟩ hrw (.bool y.1.c)) ⟨q, 1, none⟩ hrw (.int .i64 y.1.n)))
 refine bodyPost_ret (v := .agg #[.bool y.1.c, .int .i64 y.1.n]) (by simp [results, Tryz.results110, go_sem, x0, x1]) rfl ⟨rfl, _, _, _, hf7, hi7⟩
set_option maxRecDepth 100000 in
set_option maxHeartbeats 4000000 in
theorem workPair_any (mb B : Nat) (tn to_ : Value) (fuel : Nat) (ns : List NR) (op : List Int) (n : NR) (ca cb : Nat) (fa fb : MM → MV × MM) (ha : WorkOk mb B tn to_ fuel ns op n.p0 ca fa) (hb : WorkOk mb B tn to_ fuel ns op n.p1 cb fb)
  (w : World) (nv cv rv : Value) (m : MM) (h : MSt mb B w tn to_ fuel nv cv rv m ns op (ca + cb)) :
  Calls Tryz.prog 111 #[ptr mb, nrVal n] w (MOut mb w tn to_ fuel nv cv rv ((fb (fa m).2).2.newCell n.region (fa m).1 (fb (fa m).2).1)) := by
 obtain ⟨N, hN⟩ : ∃ N : Obj, N = .cells #[.int .i64 n.form, .int .i64 n.at_, .int .i64 n.beh, .int .i64 n.num, .string (bs n.word), .int .i64 n.region, .int .i64 n.source, .int .i64 n.p0, .int .i64 n.p1, .int .i64 n.p2] 108 := ⟨_, rfl⟩
 obtain ⟨R, hR⟩ : ∃ R : Obj, R = .cells #[.bool false, .int .i64 0] 122 := ⟨_, rfl⟩
 obtain ⟨W1, hE⟩ : ∃ W1, W1 = (w.alloc N).alloc R := ⟨_, rfl⟩
 have hW1 : Below w.heap.size w W1 := by rw [hE]; exact below_al (below_al (Below.refl _ _) _) _
 have h1 := h.below hW1
 have hsN : Beside mb w.heap.size W1 nv cv rv (nrO n) := Beside.new h.i (by rw [hE, hN]; exact blk_alloc _ (blk_new w _)) (Nat.le_refl _)
 have hsR : Beside mb (w.heap.size + 1) W1 nv cv rv (.cells #[.bool false, .int .i64 0] 122) := Beside.new h.i (by rw [hE, hR]; have := blk_new (w.alloc N) (.cells #[.bool false, .int .i64 0] 122); simpa using this) (by omega)
 have HF1 : Hid (PFr mb mb w W1 nv cv rv nv cv rv) := PFr.below mb mb nv cv rv hW1
 have H1 : Hid _ := h1
 have HSN : Hid _ := hsN
 have HSR : Hid _ := hsR
 have hrw : w.heap.size ≤ w.heap.size + 1 := by omega
 have hka := ha W1 nv cv rv m (h1.less (by omega))
 have HA : Hid _ := hka.2
 have HK : Hid _ := hka.1
 skip
 clear hka ha hW1 h1 hsN hsR h
 unfold ptr at HA
 unfold ptr nrVal
 go_enter Tryz.func111, Tryz.ntmps111
 subst hN
 subst hR
 go_wp2_with fail
 rw [← hE]
 refine Calls.mono HA.out ?_
 rintro _ w2 ⟨rfl, nv2, cv2, rv2, hf2, hi2⟩
 have hsN2 := HSN.out.keep hf2
 have hsR2 := HSR.out.keep hf2
 have h2 := H1.out.on (c' := cb) hf2 hi2 HK.out.1 HK.out.2.2.inner (by omega)
 have hbd2 := HK.out.2.1
 have HF2 : Hid _ := HF1.out.trans hf2
 clear hE hf2 hi2 HSN HSR H1 HF1 HA HK
 generalize fa m = x at *
 generalize w.heap.size + 1 = q at *
 obtain ⟨W3, hE3⟩ : ∃ W3, W3 = w2.alloc (.cells #[.bool x.1.c, .int .i64 x.1.n] 122) := ⟨_, rfl⟩
 have hW3 : Below w2.heap.size w2 W3 := by rw [hE3]; exact below_al (Below.refl _ _) _
 have h3 := h2.below hW3
 have hf3 : PFr mb mb w2 W3 nv2 cv2 rv2 nv2 cv2 rv2 := PFr.below mb mb nv2 cv2 rv2 hW3
 have hsX3 : Beside mb w2.heap.size W3 nv2 cv2 rv2 (.cells #[.bool x.1.c, .int .i64 x.1.n] 122) := Beside.new h2.i (by rw [hE3]; exact blk_new w2 _) (Nat.le_refl _)
 have HF3 : Hid _ := HF2.out.trans hf3
 have HSN3 : Hid _ := hsN2.keep hf3
 have HSR3 : Hid _ := hsR2.keep hf3
 have HSX3 : Hid _ := hsX3
 have HBD2 : Hid _ := hbd2
 have H3 : Hid _ := h3
 obtain ⟨c0, _, _, _, _, c5, _, c7, c8, c9⟩ := nr_cells10 hsN2.b
 have hlp := blk_lt hsN2.b
 have hkb := hb W3 nv2 cv2 rv2 x.2 (h3.less (by omega))
 have HKB : Hid _ := hkb.2
 have HK2 : Hid _ := hkb.1
 clear h3 hf3 HF2 hW3 h2 hsN2 hsR2 hbd2 hkb hb hsX3
 unfold ptr at HKB
 unfold mvV
 go_wp2_with fail
 rw [← hE3]
 refine Calls.mono HKB.out ?_
 rintro _ w4 ⟨rfl, nv4, cv4, rv4, hf4, hi4⟩
 have hsN4 := HSN3.out.keep hf4
 have hsR4 := HSR3.out.keep hf4
 have hsX4 := HSX3.out.keep hf4
 have h4 := H3.out.on (c' := 0) hf4 hi4 HK2.out.1 HK2.out.2.2.inner (by omega)
 have hbd4 := HK2.out.2.1
 have HF4 : Hid _ := HF3.out.trans hf4
 clear hE3 hf4 hi4 HSN3 HSR3 HSX3 H3 HF3 HKB HK2 c0 c5 c7 c8 c9 hlp
 generalize fb x.2 = y at *
 generalize w2.heap.size = p at *
 obtain ⟨W5, hE5⟩ : ∃ W5, W5 = w4.alloc (.cells #[.bool y.1.c, .int .i64 y.1.n] 122) := ⟨_, rfl⟩
 have hW5 : Below w4.heap.size w4 W5 := by rw [hE5]; exact below_al (Below.refl _ _) _
 have h5 := h4.below hW5
 have hf5 : PFr mb mb w4 W5 nv4 cv4 rv4 nv4 cv4 rv4 := PFr.below mb mb nv4 cv4 rv4 hW5
 have hsR5' := hsR4.keep hf5
 obtain ⟨xc0, xc1⟩ := blk2 hsX4.b
 obtain ⟨d0, _, _, _, _, d5, _, d7, d8, d9⟩ := nr_cells10 hsN4.b
 have hlp4 := blk_lt hsN4.b
 have hlx4 := blk_lt hsX4.b
 have hnc := newCell_any mb W5 tn to_ fuel nv4 cv4 rv4 y.2 n.region x.1 y.1 h5.r1 h5.fu h5.bd h5.i
 have HNC : Hid _ := hnc
 have HF5' : Hid _ := HF4.out.trans hf5
 have HSR5' : Hid _ := hsR5'
 clear hnc h5 hf5 hsR5' hW5 h4 hsN4 hsR4 hsX4 hbd4 HF4 HBD2
 unfold ptr mvV at HNC
 unfold mvV
 go_wp2_with fail
 rw [← hE5]
 refine Calls.mono HNC.out ?_
 rintro _ w6 ⟨rfl, cv6, hf6, hi6⟩
 have HF5 : Hid _ := HF5'.out.trans hf6
 have HI5 : Hid _ := hi6
 have hsR5 := HSR5'.out.keep hf6
 have HSR5 : Hid _ := hsR5
 have x0 : w6.cell? ⟨q, 0, none⟩ = some (.bool false) := by rw [blk_cell hsR5.b]; rfl
 have x1 : w6.cell? ⟨q, 1, none⟩ = some (.int .i64 0) := by rw [blk_cell hsR5.b]; rfl
 have g0 : w6.frozen? ⟨q, 0, none⟩ = false := blk_free hsR5.b 0
 have g1 : w6.frozen? ⟨q, 1, none⟩ = false := blk_free hsR5.b 1
 have hq5 := blk_lt hsR5.b
 clear hsR5 hf6 hi6 HNC HF5' HSR5' hE5
 generalize y.2.newCell n.region x.1 y.1 = z at *
 go_wp2
 have hs7 := HSR5.out
 have hi7 := (HI5.out.beside hs7.ne hs7.n hs7.c hs7.r 0 (.bool z.1.c)).beside hs7.ne hs7.n hs7.c hs7.r 1 (.int .i64 z.1.n)
 have hf7 := (HF5.out.upto (below_set' (below_set' (Below.refl _ _) ⟨q, 0, none⟩ hrw (.bool z.1.c)) ⟨q, 1, none⟩ hrw (.int .i64 z.1.n)))
 refine bodyPost_ret (v := .agg #[.bool z.1.c, .int .i64 z.1.n]) (by simp [results, Tryz.results111, go_sem, x0, x1]) rfl ⟨rfl, _, _, _, hf7, hi7⟩
set_option maxRecDepth 100000 in
set_option maxHeartbeats 4000000 in
theorem workIf_any (mb B : Nat) (tn to_ : Value) (fuel : Nat) (ns : List NR) (op : List Int) (n : NR) (ca cb : Nat) (fa fb fc : MM → MV × MM) (ha : WorkOk mb B tn to_ fuel ns op n.p0 ca fa) (hb : WorkOk mb B tn to_ fuel ns op n.p1 cb fb) (cc : Nat) (hc : WorkOk mb B tn to_ fuel ns op n.p2 cc fc)
  (w : World) (nv cv rv : Value) (m : MM) (h : MSt mb B w tn to_ fuel nv cv rv m ns op (ca + (cb + cc))) :
  Calls Tryz.prog 113 #[ptr mb, nrVal n] w (MOut mb w tn to_ fuel nv cv rv (if (fa m).1.n ≠ 0 then fb (fa m).2 else fc (fa m).2)) := by
 obtain ⟨N, hN⟩ : ∃ N : Obj, N = .cells #[.int .i64 n.form, .int .i64 n.at_, .int .i64 n.beh, .int .i64 n.num, .string (bs n.word), .int .i64 n.region, .int .i64 n.source, .int .i64 n.p0, .int .i64 n.p1, .int .i64 n.p2] 108 := ⟨_, rfl⟩
 obtain ⟨R, hR⟩ : ∃ R : Obj, R = .cells #[.bool false, .int .i64 0] 122 := ⟨_, rfl⟩
 obtain ⟨W1, hE⟩ : ∃ W1, W1 = (w.alloc N).alloc R := ⟨_, rfl⟩
 have hW1 : Below w.heap.size w W1 := by rw [hE]; exact below_al (below_al (Below.refl _ _) _) _
 have h1 := h.below hW1
 have hsN : Beside mb w.heap.size W1 nv cv rv (nrO n) := Beside.new h.i (by rw [hE, hN]; exact blk_alloc _ (blk_new w _)) (Nat.le_refl _)
 have hsR : Beside mb (w.heap.size + 1) W1 nv cv rv (.cells #[.bool false, .int .i64 0] 122) := Beside.new h.i (by rw [hE, hR]; have := blk_new (w.alloc N) (.cells #[.bool false, .int .i64 0] 122); simpa using this) (by omega)
 have HF1 : Hid (PFr mb mb w W1 nv cv rv nv cv rv) := PFr.below mb mb nv cv rv hW1
 have H1 : Hid _ := h1
 have HSN : Hid _ := hsN
 have HSR : Hid _ := hsR
 have hrw : w.heap.size ≤ w.heap.size + 1 := by omega
 have hka := ha W1 nv cv rv m (h1.less (by omega))
 have HA : Hid _ := hka.2
 have HK : Hid _ := hka.1
 obtain ⟨y, hy⟩ : ∃ y, y = if (fa m).1.n ≠ 0 then fb (fa m).2 else fc (fa m).2 := ⟨_, rfl⟩
 rw [← hy]
 have HY : Hid _ := hy
 clear hy
 clear hka ha hW1 h1 hsN hsR h
 unfold ptr at HA
 unfold ptr nrVal
 go_enter Tryz.func113, Tryz.ntmps113
 subst hN
 subst hR
 go_wp2_with fail
 rw [← hE]
 refine Calls.mono HA.out ?_
 rintro _ w2 ⟨rfl, nv2, cv2, rv2, hf2, hi2⟩
 have hsN2 := HSN.out.keep hf2
 have hsR2 := HSR.out.keep hf2
 have h2 := H1.out.on (c' := (cb + cc)) hf2 hi2 HK.out.1 HK.out.2.2.inner (by omega)
 have hbd2 := HK.out.2.1
 have HF2 : Hid _ := HF1.out.trans hf2
 clear hE hf2 hi2 HSN HSR H1 HF1 HA HK
 generalize fa m = x at *
 generalize w.heap.size + 1 = q at *
 obtain ⟨W3, hE3⟩ : ∃ W3, W3 = w2.alloc (.cells #[.bool x.1.c, .int .i64 x.1.n] 122) := ⟨_, rfl⟩
 have hW3 : Below w2.heap.size w2 W3 := by rw [hE3]; exact below_al (Below.refl _ _) _
 have h3 := h2.below hW3
 have hf3 : PFr mb mb w2 W3 nv2 cv2 rv2 nv2 cv2 rv2 := PFr.below mb mb nv2 cv2 rv2 hW3
 have hsX3 : Beside mb w2.heap.size W3 nv2 cv2 rv2 (.cells #[.bool x.1.c, .int .i64 x.1.n] 122) := Beside.new h2.i (by rw [hE3]; exact blk_new w2 _) (Nat.le_refl _)
 have HF3 : Hid _ := HF2.out.trans hf3
 have HSN3 : Hid _ := hsN2.keep hf3
 have HSR3 : Hid _ := hsR2.keep hf3
 have HSX3 : Hid _ := hsX3
 have HBD2 : Hid _ := hbd2
 have H3 : Hid _ := h3
 obtain ⟨c0, _, _, _, _, c5, _, c7, c8, c9⟩ := nr_cells10 hsN2.b
 have hlp := blk_lt hsN2.b
 by_cases hq : x.1.n ≠ 0
 ·have hyy : y = fb x.2 := by have := HY.out; rw [if_pos hq] at this; exact this
  have hkb := hb W3 nv2 cv2 rv2 x.2 (h3.less (by omega))
  have HKB : Hid _ := hkb.2
  rw [← hyy] at HKB
  have hqb : (x.1.n != 0) = true := by simpa using hq
  clear h3 hf3 HF2 hW3 h2 hsN2 hsR2 hbd2 hkb hb hc hsX3 hyy HY hq
  unfold ptr at HKB
  unfold mvV
  go_wp2_with fail
  rw [← hE3]
  refine Calls.mono HKB.out ?_
  rintro _ w4 ⟨rfl, nv4, cv4, rv4, hf4, hi4⟩
  have HF5 : Hid _ := HF3.out.trans hf4
  have HI5 : Hid _ := hi4
  have hsR5 := HSR3.out.keep hf4
  have HSR5 : Hid _ := hsR5
  have x0 : w4.cell? ⟨q, 0, none⟩ = some (.bool false) := by rw [blk_cell hsR5.b]; rfl
  have x1 : w4.cell? ⟨q, 1, none⟩ = some (.int .i64 0) := by rw [blk_cell hsR5.b]; rfl
  have g0 : w4.frozen? ⟨q, 0, none⟩ = false := blk_free hsR5.b 0
  have g1 : w4.frozen? ⟨q, 1, none⟩ = false := blk_free hsR5.b 1
  have hq5 := blk_lt hsR5.b
  clear hsR5 hf4 hi4 HKB HF3 HSR3 HSN3 HSX3 H3 hE3 c0 c5 c7 c8 c9 hlp HBD2
  unfold mvV
  go_wp2
  have hs7 := HSR5.out
  have hi7 := (HI5.out.beside hs7.ne hs7.n hs7.c hs7.r 0 (.bool y.1.c)).beside hs7.ne hs7.n hs7.c hs7.r 1 (.int .i64 y.1.n)
  have hf7 := (HF5.out.upto (below_set' (below_set' (Below.refl _ _) ⟨q, 0, none⟩ hrw (.bool y.1.c)) ⟨q, 1, none⟩ hrw (.int .i64 y.1.n)))
  refine bodyPost_ret (v := .agg #[.bool y.1.c, .int .i64 y.1.n]) (by simp [results, Tryz.results113, go_sem, x0, x1]) rfl ⟨rfl, _, _, _, hf7, hi7⟩
 ·have hyy : y = fc x.2 := by have := HY.out; rw [if_neg hq] at this; exact this
  have hkb := hc W3 nv2 cv2 rv2 x.2 (h3.less (by omega))
  have HKB : Hid _ := hkb.2
  rw [← hyy] at HKB
  have hqb : (x.1.n != 0) = false := by simpa using hq
  clear h3 hf3 HF2 hW3 h2 hsN2 hsR2 hbd2 hkb hb hc hsX3 hyy HY hq
  unfold ptr at HKB
  unfold mvV
  go_wp2_with fail
  rw [← hE3]
  refine Calls.mono HKB.out ?_
  rintro _ w4 ⟨rfl, nv4, cv4, rv4, hf4, hi4⟩
  have HF5 : Hid _ := HF3.out.trans hf4
  have HI5 : Hid _ := hi4
  have hsR5 := HSR3.out.keep hf4
  have HSR5 : Hid _ := hsR5
  have x0 : w4.cell? ⟨q, 0, none⟩ = some (.bool false) := by rw [blk_cell hsR5.b]; rfl
  have x1 : w4.cell? ⟨q, 1, none⟩ = some (.int .i64 0) := by rw [blk_cell hsR5.b]; rfl
  have g0 : w4.frozen? ⟨q, 0, none⟩ = false := blk_free hsR5.b 0
  have g1 : w4.frozen? ⟨q, 1, none⟩ = false := blk_free hsR5.b 1
  have hq5 := blk_lt hsR5.b
  clear hsR5 hf4 hi4 HKB HF3 HSR3 HSN3 HSX3 H3 hE3 c0 c5 c7 c8 c9 hlp HBD2
  unfold mvV
  go_wp2
  have hs7 := HSR5.out
  have hi7 := (HI5.out.beside hs7.ne hs7.n hs7.c hs7.r 0 (.bool y.1.c)).beside hs7.ne hs7.n hs7.c hs7.r 1 (.int .i64 y.1.n)
  have hf7 := (HF5.out.upto (below_set' (below_set' (Below.refl _ _) ⟨q, 0, none⟩ hrw (.bool y.1.c)) ⟨q, 1, none⟩ hrw (.int .i64 y.1.n)))
  refine bodyPost_ret (v := .agg #[.bool y.1.c, .int .i64 y.1.n]) (by simp [results, Tryz.results113, go_sem, x0, x1]) rfl ⟨rfl, _, _, _, hf7, hi7⟩
set_option maxRecDepth 100000 in
set_option maxHeartbeats 4000000 in
theorem workNew_any (mb B : Nat) (tn to_ : Value) (fuel : Nat) (ns : List NR) (op : List Int) (n : NR) (hrg : -1 ≤ n.region ∧ n.region ≤ 9999) (ca : Nat) (fa : MM → MV × MM) (ha : WorkOk mb B tn to_ fuel ns op n.p0 ca fa)
  (w : World) (nv cv rv : Value) (m : MM) (h : MSt mb B w tn to_ fuel nv cv rv m ns op (1 + ca)) :
  Calls Tryz.prog 88 #[ptr mb, nrVal n] w (MOut mb w tn to_ fuel nv cv rv ((fa (m.opn n.region)).1, (fa (m.opn n.region)).2.fin)) := by
 obtain ⟨N, hN⟩ : ∃ N : Obj, N = .cells #[.int .i64 n.form, .int .i64 n.at_, .int .i64 n.beh, .int .i64 n.num, .string (bs n.word), .int .i64 n.region, .int .i64 n.source, .int .i64 n.p0, .int .i64 n.p1, .int .i64 n.p2] 108 := ⟨_, rfl⟩
 obtain ⟨R, hR⟩ : ∃ R : Obj, R = .cells #[.bool false, .int .i64 0] 122 := ⟨_, rfl⟩
 obtain ⟨W1, hE⟩ : ∃ W1, W1 = (w.alloc N).alloc R := ⟨_, rfl⟩
 have hW1 : Below w.heap.size w W1 := by rw [hE]; exact below_al (below_al (Below.refl _ _) _) _
 have h1 := h.below hW1
 have hsN : Beside mb w.heap.size W1 nv cv rv (nrO n) := Beside.new h.i (by rw [hE, hN]; exact blk_alloc _ (blk_new w _)) (Nat.le_refl _)
 have hsR : Beside mb (w.heap.size + 1) W1 nv cv rv (.cells #[.bool false, .int .i64 0] 122) := Beside.new h.i (by rw [hE, hR]; have := blk_new (w.alloc N) (.cells #[.bool false, .int .i64 0] 122); simpa using this) (by omega)
 have HF1 : Hid (PFr mb mb w W1 nv cv rv nv cv rv) := PFr.below mb mb nv cv rv hW1
 have H1 : Hid _ := h1
 have HSN : Hid _ := hsN
 have HSR : Hid _ := hsR
 have hrw : w.heap.size ≤ w.heap.size + 1 := by omega
 have hob := h1.ob
 have hrl := h1.rl
 have hop := open_any mb W1 tn to_ fuel nv cv rv m n.region (by omega) (by omega) h1.i
 have HOP : Hid _ := hop
 have HRG : Hid _ := hrg
 have HHA : Hid _ := ha
 clear hop h1 hsN hsR h hob hrl hrg ha hW1
 unfold ptr at HOP
 unfold ptr nrVal
 go_enter Tryz.func88, Tryz.ntmps88
 subst hN
 subst hR
 go_wp2_with fail
 rw [← hE]
 refine Calls.mono HOP.out ?_
 rintro _ w1 ⟨rfl, rv1, hf1, hi1⟩
 have hs1 := HSN.out.keep hf1
 have hsR1 := HSR.out.keep hf1
 have h1' := H1.out
 have hbd1 := MM.opn_bd h1'.bd n.region HRG.out (by have := h1'.rl; omega)
 have hm1 : MSt mb B w1 tn to_ fuel nv cv rv1 (m.opn n.region) ns op ca := ⟨hi1, hbd1, h1'.env.on hf1, by simp [MM.opn], by have := h1'.rl; simp [MM.opn]; omega, by have := h1'.ob; simp only [MM.opn]; omega, h1'.nl, h1'.fu⟩
 have hka := HHA.out w1 nv cv rv1 _ hm1
 have HA : Hid _ := hka.2
 have HK : Hid _ := hka.1
 have HM1 : Hid _ := hm1
 have HF2 : Hid _ := HF1.out.trans hf1
 have HSR1 : Hid _ := hsR1
 obtain ⟨_, _, _, _, _, c5, _, c7, _, _⟩ := nr_cells10 hs1.b
 have hlp := blk_lt hs1.b
 clear hE hf1 hi1 hs1 hsR1 h1' hbd1 hm1 hka HOP HRG HHA H1 HF1 HSN HSR
 unfold ptr at HA
 go_wp2_with fail
 refine Calls.mono HA.out ?_
 rintro _ w2 ⟨rfl, nv2, cv2, rv2, hf2, hi2⟩
 have hsR2 := HSR1.out.keep hf2
 have h2 := HM1.out.on (c' := 0) hf2 hi2 HK.out.1 HK.out.2.2.inner (by omega)
 have HF3 : Hid _ := HF2.out.trans hf2
 clear hf2 hi2 HA HK HM1 HF2 HSR1 c5 c7 hlp
 generalize fa (m.opn n.region) = x at *
 generalize w.heap.size + 1 = q at *
 obtain ⟨W3, hE3⟩ : ∃ W3, W3 = w2.alloc (.cells #[.bool x.1.c, .int .i64 x.1.n] 122) := ⟨_, rfl⟩
 have hW3 : Below w2.heap.size w2 W3 := by rw [hE3]; exact below_al (Below.refl _ _) _
 have h3 := h2.below hW3
 have hf3 : PFr mb mb w2 W3 nv2 cv2 rv2 nv2 cv2 rv2 := PFr.below mb mb nv2 cv2 rv2 hW3
 have hsX3 : Beside mb w2.heap.size W3 nv2 cv2 rv2 (.cells #[.bool x.1.c, .int .i64 x.1.n] 122) := Beside.new h2.i (by rw [hE3]; exact blk_new w2 _) (Nat.le_refl _)
 have hen := mend_any mb W3 tn to_ fuel nv2 cv2 rv2 x.2 h3.r1 h3.fu h3.bd h3.i
 have HEN : Hid _ := hen
 have HF4 : Hid _ := HF3.out.trans hf3
 have HSR3 : Hid _ := hsR2.keep hf3
 have HSX3 : Hid _ := hsX3
 clear hen hf3 hsX3 hsR2 h3 hW3 h2 HF3
 unfold ptr at HEN
 unfold mvV
 go_wp2_with fail
 rw [← hE3]
 refine Calls.mono HEN.out ?_
 rintro _ w4 ⟨rfl, rv4, hf4, hi4⟩
 obtain ⟨xc0, xc1⟩ := blk2 (HSX3.out.keep hf4).b
 have hlx4 := blk_lt (HSX3.out.keep hf4).b
 have HF5 : Hid _ := HF4.out.trans hf4
 have HI5 : Hid _ := hi4
 have hsR5 := HSR3.out.keep hf4
 have HSR5 : Hid _ := hsR5
 have x0 : w4.cell? ⟨q, 0, none⟩ = some (.bool false) := by rw [blk_cell hsR5.b]; rfl
 have x1 : w4.cell? ⟨q, 1, none⟩ = some (.int .i64 0) := by rw [blk_cell hsR5.b]; rfl
 have g0 : w4.frozen? ⟨q, 0, none⟩ = false := blk_free hsR5.b 0
 have g1 : w4.frozen? ⟨q, 1, none⟩ = false := blk_free hsR5.b 1
 have hq5 := blk_lt hsR5.b
 clear hsR5 hf4 hi4 HEN HF4 HSR3 HSX3 hE3
 generalize w2.heap.size = p at *
 go_wp2
 have hs7 := HSR5.out
 have hi7 := (HI5.out.beside hs7.ne hs7.n hs7.c hs7.r 0 (.bool x.1.c)).beside hs7.ne hs7.n hs7.c hs7.r 1 (.int .i64 x.1.n)
 have hf7 := (HF5.out.upto (below_set' (below_set' (Below.refl _ _) ⟨q, 0, none⟩ hrw (.bool x.1.c)) ⟨q, 1, none⟩ hrw (.int .i64 x.1.n)))
 refine bodyPost_ret (v := .agg #[.bool x.1.c, .int .i64 x.1.n]) (by simp [results, Tryz.results88, go_sem, x0, x1]) rfl ⟨rfl, _, _, _, hf7, hi7⟩
theorem ibeq_true' {a b : Nat} (h : a = b) : ((a : Int) == (b : Int)) = true := by subst h; simp
theorem ibeq_false'' {a b : Nat} (h : a ≠ b) : ((a : Int) == (b : Int)) = false := by rw [beq_eq_false_iff_ne]; omega
def mArithN (f : Nat) (a b : Int) : Int := if f = 8 then Int.tmod (a + b) 10000 else if f = 9 then Int.tmod (a + 10000 - b) 10000 else if a < b then 1 else 0
set_option maxRecDepth 100000 in
set_option maxHeartbeats 4000000 in
theorem workPart_any (mb B : Nat) (tn to_ : Value) (fuel : Nat) (ns : List NR) (op : List Int) (n : NR) (ca : Nat) (fa : MM → MV × MM) (ha : WorkOk mb B tn to_ fuel ns op n.p0 ca fa)
  (w : World) (nv cv rv : Value) (m : MM) (h : MSt mb B w tn to_ fuel nv cv rv m ns op (ca)) :
  Calls Tryz.prog 112 #[ptr mb, nrVal n] w (MOut mb w tn to_ fuel nv cv rv (if n.form = 5 then ((fa m).2.use (fa m).1).1.a else ((fa m).2.use (fa m).1).1.b, ((fa m).2.use (fa m).1).2)) := by
 obtain ⟨N, hN⟩ : ∃ N : Obj, N = .cells #[.int .i64 n.form, .int .i64 n.at_, .int .i64 n.beh, .int .i64 n.num, .string (bs n.word), .int .i64 n.region, .int .i64 n.source, .int .i64 n.p0, .int .i64 n.p1, .int .i64 n.p2] 108 := ⟨_, rfl⟩
 obtain ⟨R, hR⟩ : ∃ R : Obj, R = .cells #[.bool false, .int .i64 0] 122 := ⟨_, rfl⟩
 obtain ⟨W1, hE⟩ : ∃ W1, W1 = (w.alloc N).alloc R := ⟨_, rfl⟩
 have hW1 : Below w.heap.size w W1 := by rw [hE]; exact below_al (below_al (Below.refl _ _) _) _
 have h1 := h.below hW1
 have hsN : Beside mb w.heap.size W1 nv cv rv (nrO n) := Beside.new h.i (by rw [hE, hN]; exact blk_alloc _ (blk_new w _)) (Nat.le_refl _)
 have hsR : Beside mb (w.heap.size + 1) W1 nv cv rv (.cells #[.bool false, .int .i64 0] 122) := Beside.new h.i (by rw [hE, hR]; have := blk_new (w.alloc N) (.cells #[.bool false, .int .i64 0] 122); simpa using this) (by omega)
 have HF1 : Hid (PFr mb mb w W1 nv cv rv nv cv rv) := PFr.below mb mb nv cv rv hW1
 have H1 : Hid _ := h1
 have HSN : Hid _ := hsN
 have HSR : Hid _ := hsR
 have hrw : w.heap.size ≤ w.heap.size + 1 := by omega
 have hka := ha W1 nv cv rv m (h1.less (by omega))
 have HA : Hid _ := hka.2
 have HK : Hid _ := hka.1
 obtain ⟨pv, hpv⟩ : ∃ pv, pv = if n.form = 5 then ((fa m).2.use (fa m).1).1.a else ((fa m).2.use (fa m).1).1.b := ⟨_, rfl⟩
 rw [← hpv]
 have HPV : Hid _ := hpv
 clear hpv
 clear hka ha hW1 h1 hsN hsR h
 unfold ptr at HA
 unfold ptr nrVal
 go_enter Tryz.func112, Tryz.ntmps112
 subst hN
 subst hR
 go_wp2_with fail
 rw [← hE]
 refine Calls.mono HA.out ?_
 rintro _ w2 ⟨rfl, nv2, cv2, rv2, hf2, hi2⟩
 have hsN2 := HSN.out.keep hf2
 have hsR2 := HSR.out.keep hf2
 have h2 := H1.out.on (c' := 0) hf2 hi2 HK.out.1 HK.out.2.2.inner (by omega)
 have hbd2 := HK.out.2.1
 have HF2 : Hid _ := HF1.out.trans hf2
 clear hE hf2 hi2 HSN HSR H1 HF1 HA HK
 generalize fa m = x at *
 generalize w.heap.size + 1 = q at *
 obtain ⟨W3, hE3⟩ : ∃ W3, W3 = w2.alloc (.cells #[.bool x.1.c, .int .i64 x.1.n] 122) := ⟨_, rfl⟩
 have hW3 : Below w2.heap.size w2 W3 := by rw [hE3]; exact below_al (Below.refl _ _) _
 have h3 := h2.below hW3
 have hf3 : PFr mb mb w2 W3 nv2 cv2 rv2 nv2 cv2 rv2 := PFr.below mb mb nv2 cv2 rv2 hW3
 have hsX3 : Beside mb w2.heap.size W3 nv2 cv2 rv2 (.cells #[.bool x.1.c, .int .i64 x.1.n] 122) := Beside.new h2.i (by rw [hE3]; exact blk_new w2 _) (Nat.le_refl _)
 have HF3 : Hid _ := HF2.out.trans hf3
 have HSN3 : Hid _ := hsN2.keep hf3
 have HSR3 : Hid _ := hsR2.keep hf3
 have HSX3 : Hid _ := hsX3
 have HBD2 : Hid _ := hbd2
 have H3 : Hid _ := h3
 obtain ⟨c0, _, _, _, _, c5, _, c7, c8, c9⟩ := nr_cells10 hsN2.b
 have hlp := blk_lt hsN2.b
 have hus := use_any mb W3 tn to_ fuel nv2 cv2 rv2 x.2 x.1 h3.bd h3.fu hbd2 h3.i
 have HUS : Hid _ := hus
 clear h3 hf3 HF2 hW3 h2 hsN2 hsR2 hbd2 hus hsX3 HSX3 HBD2 H3
 unfold ptr mvV at HUS
 unfold mvV
 go_wp2_with fail
 rw [← hE3]
 refine Calls.mono HUS.out ?_
 rintro _ w4 ⟨rfl, hf4, hi4⟩
 have hsN4 := HSN3.out.keep hf4
 have hsR4 := HSR3.out.keep hf4
 have HF4 : Hid _ := HF3.out.trans hf4
 clear hE3 hf4 HSN3 HSR3 HF3 HUS c0 c5 c7 c8 c9 hlp
 generalize x.2.use x.1 = z at *
 obtain ⟨W5, hE5⟩ : ∃ W5, W5 = w4.alloc (.cells #[.bool z.1.a.c, .int .i64 z.1.a.n, .bool z.1.b.c, .int .i64 z.1.b.n, .int .i64 z.1.home, .int .i64 z.1.ser] 154) := ⟨_, rfl⟩
 have hW5 : Below w4.heap.size w4 W5 := by rw [hE5]; exact below_al (Below.refl _ _) _
 have hi5 := hi4.below hW5
 have hf5 : PFr mb mb w4 W5 nv2 cv2 rv2 nv2 cv2 rv2 := PFr.below mb mb nv2 cv2 rv2 hW5
 have hsR5' := hsR4.keep hf5
 have hsN5 := hsN4.keep hf5
 have hcb : W5.heap[w4.heap.size]? = some (.cells #[.bool z.1.a.c, .int .i64 z.1.a.n, .bool z.1.b.c, .int .i64 z.1.b.n, .int .i64 z.1.home, .int .i64 z.1.ser] 154) := by rw [hE5]; exact blk_new w4 _
 obtain ⟨e0, e1, e2, e3, e4, e5⟩ := mc_cells hcb
 obtain ⟨d0, _, _, _, _, _, _, _, _, _⟩ := nr_cells10 hsN5.b
 have hlp5 := blk_lt hsN5.b
 have hlc5 := blk_lt hcb
 unfold mcV
 go_upto_region 3 with fail
 rw [← hE5]
 have HF5 : Hid _ := HF4.out.trans hf5
 have HI5 : Hid _ := hi5
 have hsR5 := hsR5'
 have HSR5 : Hid _ := hsR5
 have x0 : W5.cell? ⟨q, 0, none⟩ = some (.bool false) := by rw [blk_cell hsR5.b]; rfl
 have x1 : W5.cell? ⟨q, 1, none⟩ = some (.int .i64 0) := by rw [blk_cell hsR5.b]; rfl
 have g0 : W5.frozen? ⟨q, 0, none⟩ = false := blk_free hsR5.b 0
 have g1 : W5.frozen? ⟨q, 1, none⟩ = false := blk_free hsR5.b 1
 have hq5 := blk_lt hsR5.b
 clear hsR5 hsR5' hi5 hf5 HF4 hsN5 hsN4 hsR4 hi4 hW5 hE5 hcb
 generalize w4.heap.size = r at *
 by_cases hq : n.form = 5
 ·have hqb : ((n.form : Int) == 5) = true := ibeq_true' hq
  have hv : pv = z.1.a := by have := HPV.out; rw [if_pos hq] at this; exact this
  clear HPV hq
  subst hv
  go_wp2
  have hs7 := HSR5.out
  have hi7 := (HI5.out.beside hs7.ne hs7.n hs7.c hs7.r 0 (.bool z.1.a.c)).beside hs7.ne hs7.n hs7.c hs7.r 1 (.int .i64 z.1.a.n)
  have hf7 := (HF5.out.upto (below_set' (below_set' (Below.refl _ _) ⟨q, 0, none⟩ hrw (.bool z.1.a.c)) ⟨q, 1, none⟩ hrw (.int .i64 z.1.a.n)))
  refine bodyPost_ret (v := .agg #[.bool z.1.a.c, .int .i64 z.1.a.n]) (by simp [results, Tryz.results112, go_sem, x0, x1]) rfl ⟨rfl, _, _, _, hf7, hi7⟩
 ·have hqb : ((n.form : Int) == 5) = false := ibeq_false'' hq
  have hv : pv = z.1.b := by have := HPV.out; rw [if_neg hq] at this; exact this
  clear HPV hq
  subst hv
  go_wp2
  have hs7 := HSR5.out
  have hi7 := (HI5.out.beside hs7.ne hs7.n hs7.c hs7.r 0 (.bool z.1.b.c)).beside hs7.ne hs7.n hs7.c hs7.r 1 (.int .i64 z.1.b.n)
  have hf7 := (HF5.out.upto (below_set' (below_set' (Below.refl _ _) ⟨q, 0, none⟩ hrw (.bool z.1.b.c)) ⟨q, 1, none⟩ hrw (.int .i64 z.1.b.n)))
  refine bodyPost_ret (v := .agg #[.bool z.1.b.c, .int .i64 z.1.b.n]) (by simp [results, Tryz.results112, go_sem, x0, x1]) rfl ⟨rfl, _, _, _, hf7, hi7⟩
set_option maxRecDepth 100000 in
set_option maxHeartbeats 4000000 in
theorem workNumbers_any (mb B : Nat) (tn to_ : Value) (fuel : Nat) (ns : List NR) (op : List Int) (n : NR) (ca cb : Nat) (fa fb : MM → MV × MM) (ha : WorkOk mb B tn to_ fuel ns op n.p0 ca fa) (hb : WorkOk mb B tn to_ fuel ns op n.p1 cb fb)
  (w : World) (nv cv rv : Value) (m : MM) (h : MSt mb B w tn to_ fuel nv cv rv m ns op (ca + cb)) :
  Calls Tryz.prog 114 #[ptr mb, nrVal n] w (MOut mb w tn to_ fuel nv cv rv (⟨false, mArithN n.form (fa m).1.n (fb (fa m).2).1.n⟩, (fb (fa m).2).2)) := by
 obtain ⟨N, hN⟩ : ∃ N : Obj, N = .cells #[.int .i64 n.form, .int .i64 n.at_, .int .i64 n.beh, .int .i64 n.num, .string (bs n.word), .int .i64 n.region, .int .i64 n.source, .int .i64 n.p0, .int .i64 n.p1, .int .i64 n.p2] 108 := ⟨_, rfl⟩
 obtain ⟨R, hR⟩ : ∃ R : Obj, R = .cells #[.bool false, .int .i64 0] 122 := ⟨_, rfl⟩
 obtain ⟨W1, hE⟩ : ∃ W1, W1 = (w.alloc N).alloc R := ⟨_, rfl⟩
 have hW1 : Below w.heap.size w W1 := by rw [hE]; exact below_al (below_al (Below.refl _ _) _) _
 have h1 := h.below hW1
 have hsN : Beside mb w.heap.size W1 nv cv rv (nrO n) := Beside.new h.i (by rw [hE, hN]; exact blk_alloc _ (blk_new w _)) (Nat.le_refl _)
 have hsR : Beside mb (w.heap.size + 1) W1 nv cv rv (.cells #[.bool false, .int .i64 0] 122) := Beside.new h.i (by rw [hE, hR]; have := blk_new (w.alloc N) (.cells #[.bool false, .int .i64 0] 122); simpa using this) (by omega)
 have HF1 : Hid (PFr mb mb w W1 nv cv rv nv cv rv) := PFr.below mb mb nv cv rv hW1
 have H1 : Hid _ := h1
 have HSN : Hid _ := hsN
 have HSR : Hid _ := hsR
 have hrw : w.heap.size ≤ w.heap.size + 1 := by omega
 have hka := ha W1 nv cv rv m (h1.less (by omega))
 have HA : Hid _ := hka.2
 have HK : Hid _ := hka.1
 obtain ⟨av, hav⟩ : ∃ av, av = mArithN n.form (fa m).1.n (fb (fa m).2).1.n := ⟨_, rfl⟩
 rw [← hav]
 have HAV : Hid _ := hav
 clear hav
 clear hka ha hW1 h1 hsN hsR h
 unfold ptr at HA
 unfold ptr nrVal
 go_enter Tryz.func114, Tryz.ntmps114
 subst hN
 subst hR
 go_wp2_with fail
 rw [← hE]
 refine Calls.mono HA.out ?_
 rintro _ w2 ⟨rfl, nv2, cv2, rv2, hf2, hi2⟩
 have hsN2 := HSN.out.keep hf2
 have hsR2 := HSR.out.keep hf2
 have h2 := H1.out.on (c' := cb) hf2 hi2 HK.out.1 HK.out.2.2.inner (by omega)
 have hbd2 := HK.out.2.1
 have HF2 : Hid _ := HF1.out.trans hf2
 clear hE hf2 hi2 HSN HSR H1 HF1 HA HK
 generalize fa m = x at *
 generalize w.heap.size + 1 = q at *
 obtain ⟨W3, hE3⟩ : ∃ W3, W3 = w2.alloc (.cells #[.bool x.1.c, .int .i64 x.1.n] 122) := ⟨_, rfl⟩
 have hW3 : Below w2.heap.size w2 W3 := by rw [hE3]; exact below_al (Below.refl _ _) _
 have h3 := h2.below hW3
 have hf3 : PFr mb mb w2 W3 nv2 cv2 rv2 nv2 cv2 rv2 := PFr.below mb mb nv2 cv2 rv2 hW3
 have hsX3 : Beside mb w2.heap.size W3 nv2 cv2 rv2 (.cells #[.bool x.1.c, .int .i64 x.1.n] 122) := Beside.new h2.i (by rw [hE3]; exact blk_new w2 _) (Nat.le_refl _)
 have HF3 : Hid _ := HF2.out.trans hf3
 have HSN3 : Hid _ := hsN2.keep hf3
 have HSR3 : Hid _ := hsR2.keep hf3
 have HSX3 : Hid _ := hsX3
 have HBD2 : Hid _ := hbd2
 have H3 : Hid _ := h3
 obtain ⟨c0, _, _, _, _, c5, _, c7, c8, c9⟩ := nr_cells10 hsN2.b
 have hlp := blk_lt hsN2.b
 have hkb := hb W3 nv2 cv2 rv2 x.2 (h3.less (by omega))
 have HKB : Hid _ := hkb.2
 have HK2 : Hid _ := hkb.1
 clear h3 hf3 HF2 hW3 h2 hsN2 hsR2 hbd2 hkb hb hsX3
 unfold ptr at HKB
 unfold mvV
 go_wp2_with fail
 rw [← hE3]
 refine Calls.mono HKB.out ?_
 rintro _ w4 ⟨rfl, nv4, cv4, rv4, hf4, hi4⟩
 have hsN4 := HSN3.out.keep hf4
 have hsR4 := HSR3.out.keep hf4
 have hsX4 := HSX3.out.keep hf4
 have h4 := H3.out.on (c' := 0) hf4 hi4 HK2.out.1 HK2.out.2.2.inner (by omega)
 have hbd4 := HK2.out.2.1
 have HF4 : Hid _ := HF3.out.trans hf4
 clear hE3 hf4 hi4 HSN3 HSR3 HSX3 H3 HF3 HKB HK2 c0 c5 c7 c8 c9 hlp
 generalize fb x.2 = y at *
 generalize w2.heap.size = p at *
 obtain ⟨W5, hE5⟩ : ∃ W5, W5 = w4.alloc (.cells #[.bool y.1.c, .int .i64 y.1.n] 122) := ⟨_, rfl⟩
 have hW5 : Below w4.heap.size w4 W5 := by rw [hE5]; exact below_al (Below.refl _ _) _
 have h5 := h4.below hW5
 have hf5 : PFr mb mb w4 W5 nv4 cv4 rv4 nv4 cv4 rv4 := PFr.below mb mb nv4 cv4 rv4 hW5
 have hsR5' := hsR4.keep hf5
 obtain ⟨xc0, xc1⟩ := blk2 hsX4.b
 obtain ⟨d0, _, _, _, _, d5, _, d7, d8, d9⟩ := nr_cells10 hsN4.b
 have hlp4 := blk_lt hsN4.b
 have hlx4 := blk_lt hsX4.b
 have hsN5 := hsN4.keep hf5
 have hsX5 := hsX4.keep hf5
 have hyb : W5.heap[w4.heap.size]? = some (.cells #[.bool y.1.c, .int .i64 y.1.n] 122) := by rw [hE5]; exact blk_new w4 _
 obtain ⟨e0, e1⟩ := blk2 hyb
 obtain ⟨k0, k1⟩ := blk2 hsX5.b
 obtain ⟨m0, _, _, _, _, _, _, _, _, _⟩ := nr_cells10 hsN5.b
 have hl1 := blk_lt hsN5.b
 have hl2 := blk_lt hsX5.b
 have hl3 := blk_lt hyb
 have hxb := HBD2.out
 unfold MV.bd at hxb hbd4
 unfold mvV
 go_upto_region 3 with fail
 rw [← hE5]
 have HF5 : Hid _ := HF4.out.trans hf5
 have HI5 : Hid _ := h5.i
 have hsR5 := hsR5'
 have HSR5 : Hid _ := hsR5
 have x0 : W5.cell? ⟨q, 0, none⟩ = some (.bool false) := by rw [blk_cell hsR5.b]; rfl
 have x1 : W5.cell? ⟨q, 1, none⟩ = some (.int .i64 0) := by rw [blk_cell hsR5.b]; rfl
 have g0 : W5.frozen? ⟨q, 0, none⟩ = false := blk_free hsR5.b 0
 have g1 : W5.frozen? ⟨q, 1, none⟩ = false := blk_free hsR5.b 1
 have hq5 := blk_lt hsR5.b
 clear hsR5 hsR5' h5 hf5 HF4 hsN5 hsX5 hsN4 hsX4 hsR4 h4 hW5 hE5 hyb HBD2 d0 d5 d7 d8 d9 xc0 xc1 hlp4 hlx4
 generalize w4.heap.size = r at *
 by_cases hq8 : n.form = 8
 ·have hqb : ((n.form : Int) == 8) = true := ibeq_true' hq8
  have hv : av = Int.tmod (x.1.n + y.1.n) 10000 := by rw [HAV.out]; unfold mArithN; rw [if_pos hq8]
  clear hq8 HAV
  subst hv
  go_wp2
  have hs7 := HSR5.out
  have hi7 := (HI5.out.beside hs7.ne hs7.n hs7.c hs7.r 0 (.bool (⟨false, Int.tmod (x.1.n + y.1.n) 10000⟩ : MV).c)).beside hs7.ne hs7.n hs7.c hs7.r 1 (.int .i64 (⟨false, Int.tmod (x.1.n + y.1.n) 10000⟩ : MV).n)
  have hf7 := (HF5.out.upto (below_set' (below_set' (Below.refl _ _) ⟨q, 0, none⟩ hrw (.bool (⟨false, Int.tmod (x.1.n + y.1.n) 10000⟩ : MV).c)) ⟨q, 1, none⟩ hrw (.int .i64 (⟨false, Int.tmod (x.1.n + y.1.n) 10000⟩ : MV).n)))
  refine bodyPost_ret (v := .agg #[.bool (⟨false, Int.tmod (x.1.n + y.1.n) 10000⟩ : MV).c, .int .i64 (⟨false, Int.tmod (x.1.n + y.1.n) 10000⟩ : MV).n]) (by simp [results, Tryz.results114, go_sem, x0, x1]) rfl ⟨rfl, _, _, _, hf7, hi7⟩
 ·have hqb : ((n.form : Int) == 8) = false := ibeq_false'' hq8
  by_cases hq9 : n.form = 9
  ·have hqb9 : ((n.form : Int) == 9) = true := ibeq_true' hq9
   have hv : av = Int.tmod (x.1.n + 10000 - y.1.n) 10000 := by rw [HAV.out]; unfold mArithN; rw [if_neg hq8, if_pos hq9]
   clear hq8 hq9 HAV
   subst hv
   go_wp2
   have hs7 := HSR5.out
   have hi7 := (HI5.out.beside hs7.ne hs7.n hs7.c hs7.r 0 (.bool (⟨false, Int.tmod (x.1.n + 10000 - y.1.n) 10000⟩ : MV).c)).beside hs7.ne hs7.n hs7.c hs7.r 1 (.int .i64 (⟨false, Int.tmod (x.1.n + 10000 - y.1.n) 10000⟩ : MV).n)
   have hf7 := (HF5.out.upto (below_set' (below_set' (Below.refl _ _) ⟨q, 0, none⟩ hrw (.bool (⟨false, Int.tmod (x.1.n + 10000 - y.1.n) 10000⟩ : MV).c)) ⟨q, 1, none⟩ hrw (.int .i64 (⟨false, Int.tmod (x.1.n + 10000 - y.1.n) 10000⟩ : MV).n)))
   refine bodyPost_ret (v := .agg #[.bool (⟨false, Int.tmod (x.1.n + 10000 - y.1.n) 10000⟩ : MV).c, .int .i64 (⟨false, Int.tmod (x.1.n + 10000 - y.1.n) 10000⟩ : MV).n]) (by simp [results, Tryz.results114, go_sem, x0, x1]) rfl ⟨rfl, _, _, _, hf7, hi7⟩
  ·have hqb9 : ((n.form : Int) == 9) = false := ibeq_false'' hq9
   by_cases hlt : x.1.n < y.1.n
   ·have hv : av = 1 := by rw [HAV.out]; unfold mArithN; rw [if_neg hq8, if_neg hq9, if_pos hlt]
    clear hq8 hq9 HAV
    subst hv
    go_wp2
    have hs7 := HSR5.out
    have hi7 := (HI5.out.beside hs7.ne hs7.n hs7.c hs7.r 0 (.bool (⟨false, 1⟩ : MV).c)).beside hs7.ne hs7.n hs7.c hs7.r 1 (.int .i64 (⟨false, 1⟩ : MV).n)
    have hf7 := (HF5.out.upto (below_set' (below_set' (Below.refl _ _) ⟨q, 0, none⟩ hrw (.bool (⟨false, 1⟩ : MV).c)) ⟨q, 1, none⟩ hrw (.int .i64 (⟨false, 1⟩ : MV).n)))
    refine bodyPost_ret (v := .agg #[.bool (⟨false, 1⟩ : MV).c, .int .i64 (⟨false, 1⟩ : MV).n]) (by simp [results, Tryz.results114, go_sem, x0, x1]) rfl ⟨rfl, _, _, _, hf7, hi7⟩
   ·have hv : av = 0 := by rw [HAV.out]; unfold mArithN; rw [if_neg hq8, if_neg hq9, if_neg hlt]
    clear hq8 hq9 HAV
    subst hv
    go_wp2
    have hs7 := HSR5.out
    have hi7 := (HI5.out.beside hs7.ne hs7.n hs7.c hs7.r 0 (.bool (⟨false, 0⟩ : MV).c)).beside hs7.ne hs7.n hs7.c hs7.r 1 (.int .i64 (⟨false, 0⟩ : MV).n)
    have hf7 := (HF5.out.upto (below_set' (below_set' (Below.refl _ _) ⟨q, 0, none⟩ hrw (.bool (⟨false, 0⟩ : MV).c)) ⟨q, 1, none⟩ hrw (.int .i64 (⟨false, 0⟩ : MV).n)))
    refine bodyPost_ret (v := .agg #[.bool (⟨false, 0⟩ : MV).c, .int .i64 (⟨false, 0⟩ : MV).n]) (by simp [results, Tryz.results114, go_sem, x0, x1]) rfl ⟨rfl, _, _, _, hf7, hi7⟩
end Go.Proofs.YtpicaknklgccoabGreatDoor
