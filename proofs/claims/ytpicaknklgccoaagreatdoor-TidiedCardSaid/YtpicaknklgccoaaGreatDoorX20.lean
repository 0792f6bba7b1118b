import Derived.Test.YtpicaknklgccoaaGreatDoorX19
import Derived.Laws.CopyOwn
namespace Go.Proofs.YtpicaknklgccoaaGreatDoor
open Go.RowKit
theorem regs_cells {w : World} {l : List MR} {g cap : Nat} (h : w.ownsRow 0 216 3 (.slice (some ⟨g, 0, none⟩) l.length cap) l.length (l.flatMap mrL)) (k : Nat) (r : MR) (hr : l[k]? = some r) :
  w.cell? ⟨g, k * 3, none⟩ = some (.int .i64 r.num) ∧ w.cell? ⟨g, k * 3 + 1, none⟩ = some (.int .i64 r.ser) ∧ w.cell? ⟨g, k * 3 + 2, none⟩ = some (.int .i64 r.cells) := by
 have hk := (List.getElem?_eq_some_iff.1 hr).1
 have key : ∀ j, j < 3 → w.cell? ⟨g, k * 3 + j, none⟩ = (mrL r)[j]? := by
  intro j hj
  rw [h.cellAt (k * 3 + j) (by omega), flat_at mrL 3 (fun _ => rfl) l k j hj, hr]; rfl
 exact ⟨key 0 (by omega), key 1 (by omega), key 2 (by omega)⟩
theorem cells_cells {w : World} {l : List MC} {g cap : Nat} (h : w.ownsRow 0 219 6 (.slice (some ⟨g, 0, none⟩) l.length cap) l.length (l.flatMap mcL)) (k : Nat) (c : MC) (hr : l[k]? = some c) :
  w.cell? ⟨g, k * 6, none⟩ = some (.bool c.a.c) ∧ w.cell? ⟨g, k * 6 + 1, none⟩ = some (.int .i64 c.a.n) ∧ w.cell? ⟨g, k * 6 + 2, none⟩ = some (.bool c.b.c) ∧ w.cell? ⟨g, k * 6 + 3, none⟩ = some (.int .i64 c.b.n) ∧ w.cell? ⟨g, k * 6 + 4, none⟩ = some (.int .i64 c.home) ∧ w.cell? ⟨g, k * 6 + 5, none⟩ = some (.int .i64 c.ser) := by
 have hk := (List.getElem?_eq_some_iff.1 hr).1
 have key : ∀ j, j < 6 → w.cell? ⟨g, k * 6 + j, none⟩ = (mcL c)[j]? := by
  intro j hj
  rw [h.cellAt (k * 6 + j) (by omega), flat_at mcL 6 (fun _ => rfl) l k j hj, hr]; rfl
 exact ⟨key 0 (by omega), key 1 (by omega), key 2 (by omega), key 3 (by omega), key 4 (by omega), key 5 (by omega)⟩
theorem below_dn {W w : World} {n : Nat} {b : Nat} (h : Below b W w) : Below b W (w.drewN n) := h.trans ⟨rfl, rfl, rfl, Nat.le_refl _, fun _ _ => rfl⟩
set_option maxRecDepth 100000 in
set_option maxHeartbeats 4000000 in
theorem isLive_any (mb : Nat) (w : World) (tn to_ : Value) (fuel : Nat) (nv cv rv : Value) (m : MM) (c : MC) (hl : m.regs.length ≤ 20000) (hh : c.home ≤ 20000) (h : MIn mb w tn to_ fuel nv cv rv m) :
  Calls Tryz.prog 165 #[ptr mb, mcV c] w fun e w' => e = .returned (.bool (m.isLive c)) ∧ Below w.heap.size w w' := by
 obtain ⟨_, _, _, _, _, y7, _⟩ := mm_cells h.y
 have hmb := blk_lt h.y
 have hd0 : (0 : Int) ≤ (c.home : Int) := by omega
 unfold ptr mcV
 cases hr : m.regs[c.home]? with
 | none =>
  have hs : m.isLive c = false := by unfold MM.isLive; rw [hr]
  rw [hs]
  have hn : m.regs.length ≤ c.home := by simpa using hr
  obtain ⟨ao, cap, rfl⟩ := slice_any' h.rg
  have hd : decide ((c.home : Int) < (m.regs.length : Int)) = false := decide_eq_false (by omega)
  have hd2 : decide (c.home < m.regs.length) = false := decide_eq_false (by omega)
  clear h hs hr
  generalize m.regs.length = n at *
  go_enter Tryz.func165, Tryz.ntmps165
  go_wp2
  go_quiet (fail)
  go_wp2
  go_ret
  exact ⟨rfl, below_dn ((Below.refl _ _).alloc (Nat.le_refl _) _)⟩
 | some r =>
  have hk := (List.getElem?_eq_some_iff.1 hr).1
  obtain ⟨g, cap, rfl⟩ := slice_of' h.rg (by omega)
  obtain ⟨_, r1, _⟩ := regs_cells h.rg c.home r hr
  have hg : g < w.heap.size := (h.rg.lt g rfl).2
  have hd : (c.home : Int) < (m.regs.length : Int) := by omega
  obtain ⟨b, hb⟩ : ∃ b, ((r.ser : Int) == (c.ser : Int)) = b := ⟨_, rfl⟩
  have hs : m.isLive c = b := by
   unfold MM.isLive; rw [hr]
   simp only
   rw [← hb, Bool.eq_iff_iff, beq_iff_eq, beq_iff_eq]
   omega
  rw [hs]
  clear h hs hr
  generalize m.regs.length = n at *
  go_enter Tryz.func165, Tryz.ntmps165
  go_wp2
  go_quiet (fail)
  go_wp2
  go_ret
  exact ⟨rfl, below_dn ((Below.refl _ _).alloc (Nat.le_refl _) _)⟩
theorem below_al {w W : World} (h : Below w.heap.size w W) (o : Obj) : Below w.heap.size w (W.alloc o) := h.alloc h.size o
theorem below_d {W w : World} {b : Nat} (h : Below b W w) : Below b W w.drew := h.trans ⟨rfl, rfl, rfl, Nat.le_refl _, fun _ _ => rfl⟩
theorem blk_new2 (w : World) (A O : Obj) (n : Nat) : (((w.alloc A).alloc O).drewN n).heap[w.heap.size + 1]? = some O := by
 have := blk_new (w.alloc A) O
 simpa using this
theorem below_set {w W : World} (h : Below w.heap.size w W) (a : Addr) (ha : w.heap.size ≤ a.block) (u : Value) : Below w.heap.size w (W.setCell a u) := h.setCell (p := a) ha u
theorem below_set' {b : Nat} {w W : World} (h : Below b w W) (a : Addr) (ha : b ≤ a.block) (u : Value) : Below b w (W.setCell a u) := h.setCell (p := a) ha u
theorem MIn.upto {mb b : Nat} {w w' : World} {tn to_ : Value} {fuel : Nat} {nv cv rv : Value} {m : MM} (h : MIn mb w tn to_ fuel nv cv rv m) (h1 : mb < b) (h2 : ∀ k, nv.ownBlock = some k → k < b) (h3 : ∀ k, cv.ownBlock = some k → k < b) (h4 : ∀ k, rv.ownBlock = some k → k < b) (hb : Below b w w') : MIn mb w' tn to_ fuel nv cv rv m :=
 ⟨by rw [hb.block mb h1]; exact h.y, owns_blk h.nm (fun k hk => hb.block k (h2 k hk)), owns_blk h.cl (fun k hk => hb.block k (h3 k hk)), owns_blk h.rg (fun k hk => hb.block k (h4 k hk)), h.ny, h.cy, h.ry, h.nc, h.nr, h.cr⟩
theorem PFr.upto {mb : Nat} {w w1 w2 : World} {nv cv rv nv' cv' rv' : Value} (h : PFr mb mb w w1 nv cv rv nv' cv' rv') (hb : Below w.heap.size w1 w2) : PFr mb mb w w2 nv cv rv nv' cv' rv' :=
 ⟨hb.os.trans h.os, hb.tape.trans h.tape, hb.output.trans h.output, Nat.le_trans h.size hb.size, fun k hk a b c d e => (hb.block k hk).trans (h.blk k hk a b c d e), h.s, h.n, h.o⟩
theorem mc_cells {w : World} {b : Nat} {c : MC} (h : w.heap[b]? = some (.cells #[.bool c.a.c, .int .i64 c.a.n, .bool c.b.c, .int .i64 c.b.n, .int .i64 c.home, .int .i64 c.ser] 219)) :
  w.cell? ⟨b, 0, none⟩ = some (.bool c.a.c) ∧ w.cell? ⟨b, 1, none⟩ = some (.int .i64 c.a.n) ∧ w.cell? ⟨b, 2, none⟩ = some (.bool c.b.c) ∧ w.cell? ⟨b, 3, none⟩ = some (.int .i64 c.b.n) ∧ w.cell? ⟨b, 4, none⟩ = some (.int .i64 c.home) ∧ w.cell? ⟨b, 5, none⟩ = some (.int .i64 c.ser) := by
 refine ⟨?_, ?_, ?_, ?_, ?_, ?_⟩ <;> (rw [blk_cell h]; rfl)
theorem Tryz.infoCell : (Tryz.prog.info? 219).map (·.size) = some 6 := by kernel_rfl
theorem store_cell {ops : Array Oper} {rest : List Oper} {o : Oper} {a : Act} {w : World} {Q : Exit → Act → World → Prop} (hgd : o.guard = none) (x y : Operand) (ho : o.op = .store 219 x y) (hd : o.dst = none)
  (g : Nat) (c d : MC) (hx : a.eval x = .pointer (some ⟨g, 0, none⟩)) (hy : a.eval y = mcV c)
  (hg : w.heap[g]? = some (.cells #[.bool d.a.c, .int .i64 d.a.n, .bool d.b.c, .int .i64 d.b.n, .int .i64 d.home, .int .i64 d.ser] 219 (0, 0)))
  (h : wpList Tryz.prog ops Q rest a (w.setRow g #[.bool c.a.c, .int .i64 c.a.n, .bool c.b.c, .int .i64 c.b.n, .int .i64 c.home, .int .i64 c.ser])) : wpList Tryz.prog ops Q (o :: rest) a w :=
 wpList_store_row hgd 219 x y ho g _ hx hy 219 _ hg Tryz.infoCell rfl (by simp [Value.oneCell']) (by rw [hd]; exact h)
set_option maxRecDepth 100000 in
set_option maxHeartbeats 400000 in
theorem use_yes (mb : Nat) (w : World) (tn to_ : Value) (fuel : Nat) (nv cv rv : Value) (m : MM) (k : Nat) (c : MC) (hl : m.cells.length ≤ 20000) (hrl : m.regs.length ≤ 20000) (hh : c.home ≤ 20000) (hk : m.cells[k]? = some c) (h : MIn mb w tn to_ fuel nv cv rv m) :
  Calls Tryz.prog 131 #[ptr mb, mvV ⟨true, k⟩] w fun e w' => e = .returned (mcV c) ∧ PFr mb mb w w' nv cv rv nv cv rv ∧ MIn mb w' tn to_ fuel nv cv rv (if m.isLive c = true then m else m.stop 13) := by
 obtain ⟨_, _, _, _, y6, _⟩ := mm_cells h.y
 obtain ⟨m', hm'⟩ : ∃ m', m' = if m.isLive c = true then m else m.stop 13 := ⟨_, rfl⟩
 rw [← hm']
 have HM : Hid _ := hm'
 clear hm'
 have hmb := blk_lt h.y
 have hkl := (List.getElem?_eq_some_iff.1 hk).1
 obtain ⟨g, cap, rfl⟩ := slice_of' h.cl (by omega)
 obtain ⟨c0', c1, c2, c3, c4, c5⟩ := cells_cells h.cl k c hk
 have hg : g < w.heap.size := (h.cl.lt g rfl).2
 have hd : decide ((m.cells.length : Int) ≤ (k : Int)) = false := decide_eq_false (by omega)
 have hd2 : decide (m.cells.length ≤ k) = false := decide_eq_false (by omega)
 have hd3 : (k : Int) < (m.cells.length : Int) := by omega
 have hil := fun W (hW : Below w.heap.size w W) => isLive_any mb W _ _ _ _ _ _ m c hrl hh (h.below hW)
 have hst := fun W (hW : Below w.heap.size w W) => stop_any mb W _ _ _ _ _ _ m 13 (h.below hW)
 unfold ptr mcV at hil
 unfold ptr at hst
 have HIL : Hid _ := hil
 have HST : Hid _ := hst
 have HH : Hid _ := h
 clear h hil hst hk
 unfold ptr mvV mcV
 generalize hlen : m.cells.length = n at *
 go_enter Tryz.func131, Tryz.ntmps131
 go_wp2
 go_quiet (fail)
 rename_i nq
 obtain ⟨W1, hW1⟩ : ∃ W, W = ((w.alloc (.cells #[.bool true, .int .i64 k] 171)).alloc (.cells #[.bool false, .int .i64 0, .bool false, .int .i64 0, .int .i64 0, .int .i64 0] 219)).drewN nq := ⟨_, rfl⟩
 rw [← hW1]
 have hb1 : Below w.heap.size w W1 := by
  rw [hW1]
  exact below_dn (below_al (below_al (Below.refl _ _) _) _)
 have hbk : W1.heap[w.heap.size]? = some (.cells #[.bool true, .int .i64 k] 171) := by
  rw [hW1]
  exact blk_alloc _ (blk_new w _)
 have x1 : W1.cell? ⟨w.heap.size, 1, none⟩ = some (.int .i64 k) := by rw [blk_cell hbk]; rfl
 have x0 : W1.cell? ⟨w.heap.size, 0, none⟩ = some (.bool true) := by rw [blk_cell hbk]; rfl
 have z6 := (hb1.cell (p := ⟨mb, 6, none⟩) hmb).trans y6
 have e0 := (hb1.cell (p := ⟨g, k * 6, none⟩) hg).trans c0'
 have e1 := (hb1.cell (p := ⟨g, k * 6 + 1, none⟩) hg).trans c1
 have e2 := (hb1.cell (p := ⟨g, k * 6 + 2, none⟩) hg).trans c2
 have e3 := (hb1.cell (p := ⟨g, k * 6 + 3, none⟩) hg).trans c3
 have e4 := (hb1.cell (p := ⟨g, k * 6 + 4, none⟩) hg).trans c4
 have e5 := (hb1.cell (p := ⟨g, k * 6 + 5, none⟩) hg).trans c5
 have hw1 : w.heap.size + 2 = W1.heap.size := by rw [hW1]; simp
 have hlt1 : mb < W1.heap.size := by omega
 have hlt2 : g < W1.heap.size := by omega
 have hlt3 : w.heap.size < W1.heap.size := by omega
 have hrb : W1.heap[w.heap.size + 1]? = some (.cells #[.bool false, .int .i64 0, .bool false, .int .i64 0, .int .i64 0, .int .i64 0] 219) := by
  rw [hW1]
  have := blk_new (w.alloc (.cells #[.bool true, .int .i64 k] 171)) (.cells #[.bool false, .int .i64 0, .bool false, .int .i64 0, .int .i64 0, .int .i64 0] 219)
  simpa using this
 have HRB : Hid _ := hrb
 have HB1 : Hid _ := hb1
 clear hbk hW1 y6 c0' c1 c2 c3 c4 c5 hb1 hrb
 go_wp2
 go_region
 all_goals
  go_wp2_with fail
  have hC : Below w.heap.size w (W1.alloc (.cells #[.bool c.a.c, .int .i64 c.a.n, .bool c.b.c, .int .i64 c.b.n, .int .i64 c.home, .int .i64 c.ser] 219)).drew := below_d (below_al HB1.out _)
  refine Calls.mono (HIL.out _ hC) ?_
  rintro _ w2 ⟨rfl, hb2⟩
  have hB2 : Below w.heap.size w w2 := hC.trans (hb2.mono hC.size)
  have hq : w2.heap[W1.heap.size]? = some (.cells #[.bool c.a.c, .int .i64 c.a.n, .bool c.b.c, .int .i64 c.b.n, .int .i64 c.home, .int .i64 c.ser] 219) := by
   rw [hb2.block _ (by simp)]; exact blk_new W1 _
  have hr : w2.heap[w.heap.size + 1]? = some (.cells #[.bool c0.a.c, .int .i64 c0.a.n, .bool c0.b.c, .int .i64 c0.b.n, .int .i64 c0.home, .int .i64 c0.ser] 219) := by
   rw [hb2.block _ (by simp; omega)]
   exact blk_alloc _ HRB.out
  have HQ : Hid _ := hq
  have HR : Hid _ := hr
  have HB2 : Hid _ := hB2
  clear hq hr hB2 hb2 hC
  have hne : W1.heap.size ≠ w.heap.size + 1 := by omega
  have hrw : w.heap.size ≤ w.heap.size + 1 := by omega
  have hqw : w.heap.size ≤ W1.heap.size := by omega
  clear x0 x1 z6 e0 e1 e2 e3 e4 e5 hlt1 hlt2 hlt3 hw1 hd hd2 hd3 HRB HB1 HIL
  generalize w.heap.size + 1 = r at *
  generalize W1.heap.size = q at *
  obtain ⟨bl, hbl⟩ : ∃ bl, m.isLive c = bl := ⟨_, rfl⟩
  rw [hbl]
  cases bl with
  | true =>
   have HM2 : Hid (m' = m) := by have := HM.out; rw [hbl] at this; exact this
   obtain ⟨a0, a1, a2, a3, a4, a5⟩ := mc_cells HQ.out
   have hlq := blk_lt HQ.out
   have hlr := blk_lt HR.out
   go_upto_region 6 with fail
   go_step
   go_step
   go_step
   go_step
   refine store_cell rfl (.tmp 4) (.tmp 39) rfl rfl r c c0 rfl rfl HR.out ?_
   have hN := setRow_heap w2 r _ #[.bool c.a.c, .int .i64 c.a.n, .bool c.b.c, .int .i64 c.b.n, .int .i64 c.home, .int .i64 c.ser] 219 (0, 0) HR.out
   have hBN := below_setRow HB2.out hrw #[.bool c.a.c, .int .i64 c.a.n, .bool c.b.c, .int .i64 c.b.n, .int .i64 c.home, .int .i64 c.ser]
   generalize w2.setRow r #[.bool c.a.c, .int .i64 c.a.n, .bool c.b.c, .int .i64 c.b.n, .int .i64 c.home, .int .i64 c.ser] = w5 at hN hBN ⊢
   obtain ⟨s0, s1, s2, s3, s4, s5⟩ := mc_cells hN
   have HBN : Hid _ := hBN
   clear hN hBN HR HQ HB2 a0 a1 a2 a3 a4 a5
   go_wp2
   refine bodyPost_ret (v := .agg #[.bool c.a.c, .int .i64 c.a.n, .bool c.b.c, .int .i64 c.b.n, .int .i64 c.home, .int .i64 c.ser]) (by simp [results, Tryz.results131, go_sem, s0, s1, s2, s3, s4, s5]) rfl ⟨rfl, ?_, ?_⟩
   ·exact PFr.below mb mb _ _ _ HBN.out
   ·rw [HM2.out]; exact HH.out.below HBN.out
  | false =>
   have HM2 : Hid (m' = m.stop 13) := by have := HM.out; rw [hbl] at this; exact this
   go_wp2_with fail
   refine Calls.mono (HST.out _ HB2.out) ?_
   rintro _ w3 ⟨rfl, hfr3, hin3⟩
   obtain ⟨l1, l2, l3, l4⟩ := HH.out.slt
   have hq3 := (hfr3.blk q (blk_lt HQ.out) (by omega) (by omega) (fun e => by have := l1 _ e; omega) (fun e => by have := l2 _ e; omega) (fun e => by have := l3 _ e; omega)).trans HQ.out
   have hr3 := (hfr3.blk r (blk_lt HR.out) (by omega) (by omega) (fun e => by have := l1 _ e; omega) (fun e => by have := l2 _ e; omega) (fun e => by have := l3 _ e; omega)).trans HR.out
   have HFR : Hid _ := (PFr.below mb mb nv (.slice (some ⟨g, 0, none⟩) n cap) rv HB2.out).trans hfr3
   have HIN : Hid _ := hin3
   have HR3 : Hid _ := hr3
   obtain ⟨a0, a1, a2, a3, a4, a5⟩ := mc_cells hq3
   have hlq := blk_lt hq3
   have hlr := blk_lt hr3
   have HL : Hid (mb < w.heap.size ∧ (∀ k, nv.ownBlock = some k → k < w.heap.size) ∧ (∀ k, (Value.slice (some ⟨g, 0, none⟩) n cap).ownBlock = some k → k < w.heap.size) ∧ (∀ k, rv.ownBlock = some k → k < w.heap.size)) := ⟨l4, l1, l2, l3⟩
   clear hq3 hr3 hfr3 hin3 HQ HR HB2 HST HH l1 l2 l3 l4
   go_upto_region 6 with fail
   go_step
   go_step
   go_step
   go_step
   refine store_cell rfl (.tmp 4) (.tmp 39) rfl rfl r c c0 rfl rfl HR3.out ?_
   have hN := setRow_heap w3 r _ #[.bool c.a.c, .int .i64 c.a.n, .bool c.b.c, .int .i64 c.b.n, .int .i64 c.home, .int .i64 c.ser] 219 (0, 0) HR3.out
   have hBN := below_setRow (Below.refl w.heap.size w3) hrw #[.bool c.a.c, .int .i64 c.a.n, .bool c.b.c, .int .i64 c.b.n, .int .i64 c.home, .int .i64 c.ser]
   generalize w3.setRow r #[.bool c.a.c, .int .i64 c.a.n, .bool c.b.c, .int .i64 c.b.n, .int .i64 c.home, .int .i64 c.ser] = w5 at hN hBN ⊢
   obtain ⟨s0, s1, s2, s3, s4, s5⟩ := mc_cells hN
   have HBN : Hid _ := hBN
   clear hN hBN HR3 a0 a1 a2 a3 a4 a5
   go_wp2
   refine bodyPost_ret (v := .agg #[.bool c.a.c, .int .i64 c.a.n, .bool c.b.c, .int .i64 c.b.n, .int .i64 c.home, .int .i64 c.ser]) (by simp [results, Tryz.results131, go_sem, s0, s1, s2, s3, s4, s5]) rfl ⟨rfl, ?_, ?_⟩
   ·exact HFR.out.upto HBN.out
   ·rw [HM2.out]; exact HIN.out.upto HL.out.1 HL.out.2.1 HL.out.2.2.1 HL.out.2.2.2 HBN.out
set_option maxRecDepth 100000 in
set_option maxHeartbeats 1000000 in
theorem use_no (mb : Nat) (w : World) (tn to_ : Value) (fuel : Nat) (nv cv rv : Value) (m : MM) (v : MV) (hl : m.cells.length ≤ 20000) (hv : v.bd) (hc : v.c = false ∨ v.n < 0 ∨ (m.cells.length : Int) ≤ v.n) (h : MIn mb w tn to_ fuel nv cv rv m) :
  Calls Tryz.prog 131 #[ptr mb, mvV v] w fun e w' => e = .returned (mcV c0) ∧ Below w.heap.size w w' := by
 obtain ⟨_, _, _, _, y6, _⟩ := mm_cells h.y
 have hmb := blk_lt h.y
 obtain ⟨ao, cap, rfl⟩ := slice_any' h.cl
 clear h
 unfold MV.bd at hv
 unfold ptr mvV mcV
 obtain ⟨vc, vn⟩ := v
 simp only at hc hv
 generalize m.cells.length = n at *
 have hcc : vc = false ∨ (vc = true ∧ vn < 0) ∨ (vc = true ∧ decide (vn < 0) = false ∧ (n : Int) ≤ vn) := by
  cases vc
  ·exact Or.inl rfl
  ·rcases hc with hc | hc | hc
   ·cases hc
   ·exact Or.inr (Or.inl ⟨rfl, hc⟩)
   ·exact Or.inr (Or.inr ⟨rfl, decide_eq_false (by omega), hc⟩)
 rcases hcc with rfl | ⟨rfl, h1⟩ | ⟨rfl, h1, h2⟩
 all_goals
  go_enter Tryz.func131, Tryz.ntmps131
  go_wp2
  go_quiet (fail)
  rename_i nq
  first
  | (obtain ⟨W1, hW1⟩ : ∃ W, W = ((w.alloc (.cells #[.bool false, .int .i64 vn] 171)).alloc (.cells #[.bool false, .int .i64 0, .bool false, .int .i64 0, .int .i64 0, .int .i64 0] 219)).drewN nq := ⟨_, rfl⟩; rw [← hW1])
  | (obtain ⟨W1, hW1⟩ : ∃ W, W = ((w.alloc (.cells #[.bool true, .int .i64 vn] 171)).alloc (.cells #[.bool false, .int .i64 0, .bool false, .int .i64 0, .int .i64 0, .int .i64 0] 219)).drewN nq := ⟨_, rfl⟩; rw [← hW1])
  have hb1 : Below w.heap.size w W1 := by
   rw [hW1]
   exact below_dn (below_al (below_al (Below.refl _ _) _) _)
  have hrb : W1.heap[w.heap.size + 1]? = some (.cells #[.bool c0.a.c, .int .i64 c0.a.n, .bool c0.b.c, .int .i64 c0.b.n, .int .i64 c0.home, .int .i64 c0.ser] 219) := by
   rw [hW1]
   exact blk_new2 w _ _ nq
  have HRB : Hid _ := hrb
  have HB1 : Hid _ := hb1
  have hrw : w.heap.size ≤ w.heap.size + 1 := by omega
  clear hW1 hb1 hrb y6
  generalize w.heap.size + 1 = r at *
  go_upto_region 2 with fail
  go_step
  go_step
  go_step
  go_step
  refine store_cell rfl (.tmp 4) (.tmp 24) rfl rfl r c0 c0 rfl rfl HRB.out ?_
  have hN := setRow_heap W1 r _ #[.bool c0.a.c, .int .i64 c0.a.n, .bool c0.b.c, .int .i64 c0.b.n, .int .i64 c0.home, .int .i64 c0.ser] 219 (0, 0) HRB.out
  have hBN := below_setRow HB1.out hrw #[.bool c0.a.c, .int .i64 c0.a.n, .bool c0.b.c, .int .i64 c0.b.n, .int .i64 c0.home, .int .i64 c0.ser]
  generalize W1.setRow r #[.bool c0.a.c, .int .i64 c0.a.n, .bool c0.b.c, .int .i64 c0.b.n, .int .i64 c0.home, .int .i64 c0.ser] = w5 at hN hBN ⊢
  obtain ⟨s0, s1, s2, s3, s4, s5⟩ := mc_cells hN
  have HBN : Hid _ := hBN
  clear hN hBN HRB HB1
  go_wp2
  refine bodyPost_ret (v := .agg #[.bool c0.a.c, .int .i64 c0.a.n, .bool c0.b.c, .int .i64 c0.b.n, .int .i64 c0.home, .int .i64 c0.ser]) (by simp [results, Tryz.results131, go_sem, s0, s1, s2, s3, s4, s5]) rfl ⟨rfl, HBN.out⟩
theorem use_any (mb : Nat) (w : World) (tn to_ : Value) (fuel : Nat) (nv cv rv : Value) (m : MM) (v : MV) (hb : MBd fuel m) (hf : fuel ≤ 20000) (hv : v.bd) (h : MIn mb w tn to_ fuel nv cv rv m) :
  Calls Tryz.prog 131 #[ptr mb, mvV v] w fun e w' => e = .returned (mcV (m.use v).1) ∧ PFr mb mb w w' nv cv rv nv cv rv ∧ MIn mb w' tn to_ fuel nv cv rv (m.use v).2 := by
 have h1 := hb.steps
 have h2 := hb.cells
 unfold MM.use
 by_cases hc : v.c = false ∨ v.n < 0 ∨ (m.cells.length : Int) ≤ v.n
 ·rw [if_pos hc]
  exact (use_no mb w tn to_ fuel nv cv rv m v (by omega) hv hc h).mono (fun _ _ hx => ⟨hx.1, PFr.below mb mb _ _ _ hx.2, h.below hx.2⟩)
 ·rw [if_neg hc]
  have hvc : v.c = true := by cases hq : v.c with
   | true => rfl
   | false => exact absurd (Or.inl hq) hc
  obtain ⟨k, hk⟩ : ∃ k : Nat, v.n = k := ⟨v.n.toNat, by omega⟩
  have hkl : k < m.cells.length := by omega
  obtain ⟨c, hcc⟩ : ∃ c, m.cells[k]? = some c := ⟨_, List.getElem?_eq_getElem hkl⟩
  have e : v = ⟨true, k⟩ := by rw [← hvc, ← hk]
  have e2 : m.cells.getD v.n.toNat c0 = c := by rw [hk, Int.toNat_natCast, List.getD_eq_getElem?_getD, hcc]; rfl
  rw [e2, e]
  exact use_yes mb w tn to_ fuel nv cv rv m k c (by omega) hb.regs (hb.cell c (List.mem_of_getElem? hcc)).2.2.1 hcc h
set_option maxRecDepth 100000 in
set_option maxHeartbeats 2000000 in
theorem homeOf_any (mb : Nat) (w : World) (tn to_ : Value) (fuel : Nat) (nv cv rv : Value) (m : MM) (k : Int) (h1 : 1 ≤ m.regs.length) (hl : m.regs.length ≤ 20000) (h : MIn mb w tn to_ fuel nv cv rv m) :
  Calls Tryz.prog 197 #[ptr mb, .int .i64 k] w fun e w' => e = .returned (.int .i64 (m.home k)) ∧ w' = w := by
 obtain ⟨_, _, _, _, _, y7, _⟩ := mm_cells h.y
 have hmb := blk_lt h.y
 obtain ⟨g, cap, rfl⟩ := slice_of' h.rg (by omega)
 have hcell := fun j r hj => (regs_cells h.rg j r hj).1
 have HC : Hid _ := hcell
 obtain ⟨H, hH⟩ : ∃ H, H = m.home k := ⟨_, rfl⟩
 have HH : Hid _ := hH
 rw [← hH]
 obtain ⟨n, hn⟩ : ∃ n, n = m.regs.length := ⟨_, rfl⟩
 have HN : Hid _ := hn
 rw [← hn] at y7 h1 hl
 have hg : g < w.heap.size := (h.rg.lt g rfl).2
 clear h hcell hH hn
 unfold ptr
 go_enter Tryz.func197, Tryz.ntmps197
 go_wp2
 go_loop [5] (fun i => ∃ j : Nat, j < n ∧ i = .int .i64 j ∧ H = homeF m.regs k j) (fun i => (intOf i).toNat)
 case atStart => exact ⟨n - 1, by omega, by rw [show ((n : Int) - 1) = ((n - 1 : Nat) : Int) from by omega], by rw [HH.out, HN.out]; rfl⟩
 case round =>
  obtain ⟨j, hj, rfl, hr⟩ := hrel
  have HR : Hid _ := hr
  clear hr
  cases j with
  | zero =>
   go_wp2
   go_ret
   exact ⟨by rw [HR.out]; rfl, rfl⟩
  | succ j =>
   obtain ⟨r, hr⟩ : ∃ r, m.regs[j + 1]? = some r := ⟨_, List.getElem?_eq_getElem (by have := HN.out; omega)⟩
   have hc := HC.out (j + 1) r hr
   by_cases hq : r.num = k
   ·have hs : homeF m.regs k (j + 1) = j + 1 := by simp only [homeF]; rw [hr, if_pos (by simp [hq])]
    have HS : Hid _ := hs
    rw [hq] at hc
    clear hr hs hq
    go_wp2
    go_ret
    exact ⟨ret_int (by rw [HR.out, HS.out]; omega), rfl⟩
   ·have hs : homeF m.regs k (j + 1) = homeF m.regs k j := by simp only [homeF]; rw [hr, if_neg (by simp [hq])]
    have HS : Hid _ := hs
    have hqb : (r.num == k) = false := by rw [beq_eq_false_iff_ne]; exact hq
    clear hr hs hq
    go_wp2
    go_round
    case rel => exact ⟨j, by omega, rfl, by rw [HR.out, HS.out]⟩
    case measure => simp [intOf]
theorem Tryz.infoReg : (Tryz.prog.info? 216).map (fun i => (i.zero, i.size, i.bytes)) = some (some (.agg #[.int .i64 0, .int .i64 0, .int .i64 0]), 3, 24) := by kernel_rfl
theorem Tryz.undRegs : Tryz.prog.underlying 167 = some (.slice 216) := by kernel_rfl
theorem mr_one (r : MR) : ∀ u ∈ mrL r, u.oneCell' = true := by intro u hu; simp only [mrL, List.mem_cons, List.not_mem_nil, or_false] at hu; rcases hu with rfl | rfl | rfl <;> rfl
theorem MIn.addR {mb : Nat} {w W0 w' : World} {tn to_ : Value} {fuel : Nat} {nv cv rv : Value} {m : MM} (h : MIn mb w tn to_ fuel nv cv rv m) (r : MR) {g cap : Nat} (hW : Below w.heap.size w W0) (hg : W0.grownBy w' rv.ownBlock)
  (hown : w'.ownsRow 0 216 3 (.slice (some ⟨g, 0, none⟩) (m.regs.length + 1) cap) (m.regs.length + 1) (m.regs.flatMap mrL ++ mrL r)) (hor : rv.ownBlock = some g ∨ W0.heap.size ≤ g) :
  PFr mb mb w (w'.setCell ⟨mb, 7, none⟩ (.slice (some ⟨g, 0, none⟩) (m.regs.length + 1) cap)) nv cv rv nv cv (.slice (some ⟨g, 0, none⟩) (m.regs.length + 1) cap) ∧
  MIn mb (w'.setCell ⟨mb, 7, none⟩ (.slice (some ⟨g, 0, none⟩) (m.regs.length + 1) cap)) tn to_ fuel nv cv (.slice (some ⟨g, 0, none⟩) (m.regs.length + 1) cap) { m with regs := m.regs ++ [r] } := by
 obtain ⟨l1, l2, l3, l4⟩ := h.slt
 have hWs := hW.size
 have hgs := hg.size
 have yW : W0.heap[mb]? = some (.cells (mmCells tn to_ fuel nv cv rv m) 169 (0, 0)) := by rw [hW.block mb l4]; exact h.y
 have yw := grown_blk hg yW h.ry
 have hgp : g ≠ mb := by
  rcases hor with e | e
  ·intro e'; rw [e'] at e; exact h.ry e
  ·omega
 have kp : ∀ k, k < w.heap.size → k ≠ mb → rv.ownBlock ≠ some k → (w'.setCell ⟨mb, 7, none⟩ (.slice (some ⟨g, 0, none⟩) (m.regs.length + 1) cap)).heap[k]? = w.heap[k]? := by
  intro k hk hkp hne
  rw [blk_other _ _ (by simpa using hkp), hg.block k (by omega) (fun e => hne e.symm), hW.block k hk]
 refine ⟨⟨hg.os.trans hW.os, hg.tape.trans hW.tape, hg.output.trans hW.output, by simp only [World.setCell, Array.size_modify]; omega, fun k hk hp _ hs hn ho => kp k hk hp ho, fun _ h => Or.inl h, fun _ h => Or.inl h, fun g' hg' => by simp only [Value.ownBlock, Option.some.injEq] at hg'; subst hg'; rcases hor with e | e; exact Or.inl e; exact Or.inr (by omega)⟩, ?_⟩
 refine ⟨blk_set yw 7 _, owns_blk h.nm (fun k hk => kp k (l1 k hk) (fun e => h.ny (by rw [hk, e])) (fun e => h.nr k hk e)), owns_blk h.cl (fun k hk => kp k (l2 k hk) (fun e => h.cy (by rw [hk, e])) (fun e => h.cr k hk e)),
  by have := owns_blk (w' := w'.setCell ⟨mb, 7, none⟩ (.slice (some ⟨g, 0, none⟩) (m.regs.length + 1) cap)) hown (fun k hk => by simp only [Value.ownBlock, Option.some.injEq] at hk; subst hk; exact blk_other _ _ (by simpa using hgp)); simpa using this, h.ny, h.cy, by simp only [Value.ownBlock, ne_eq, Option.some.injEq]; exact hgp, h.nc, (fun k hk hk' => by
   simp only [Value.ownBlock, Option.some.injEq] at hk'
   rcases hor with e | e
   ·rw [hk'] at e; exact h.nr k hk e
   ·have := l1 k hk; omega), (fun k hk hk' => by
   simp only [Value.ownBlock, Option.some.injEq] at hk'
   rcases hor with e | e
   ·rw [hk'] at e; exact h.cr k hk e
   ·have := l2 k hk; omega)⟩
set_option maxRecDepth 100000 in
set_option maxHeartbeats 4000000 in
theorem open_any (mb : Nat) (w : World) (tn to_ : Value) (fuel : Nat) (nv cv rv : Value) (m : MM) (k : Int) (hl : m.regs.length ≤ 20000) (ho : m.opened ≤ 4000000000) (h : MIn mb w tn to_ fuel nv cv rv m) :
  Calls Tryz.prog 97 #[ptr mb, .int .i64 k] w fun e w' => e = .returned (.tuple #[]) ∧ ∃ rv', PFr mb mb w w' nv cv rv nv cv rv' ∧ MIn mb w' tn to_ fuel nv cv rv' (m.opn k) := by
 obtain ⟨i0, hi, hz0, hz1, hz2⟩ := info_parts Tryz.infoReg
 have HI : Hid _ := hi
 have HZ0 : Hid _ := hz0
 have HZ1 : Hid _ := hz1
 have HZ2 : Hid _ := hz2
 clear hi hz0 hz1 hz2
 obtain ⟨_, _, _, _, _, y7, y8, _⟩ := mm_cells h.y
 have hmb := blk_lt h.y
 obtain ⟨B, hB⟩ : ∃ B : Obj, B = .cells #[.int .i64 k, .int .i64 m.opened, .int .i64 0] 216 := ⟨_, rfl⟩
 have hW : Below w.heap.size w (w.alloc B).drew := below_ad w B
 have HW : Hid _ := hW
 have HOWN : Hid ((w.alloc B).drew.ownsRow 0 216 3 rv m.regs.length (m.regs.flatMap mrL)) := owns_below h.rg hW
 have HC1 : Hid (∀ (j : Nat) (u : Value), (mrL ⟨k, m.opened, 0⟩)[j]? = some u → (w.alloc B).drew.cell? ((⟨w.heap.size, 0, none⟩ : Addr).add j) = some u) := by
  intro j u hj
  have hq := alloc_cell_at w (mrL ⟨k, m.opened, 0⟩) 216 j
  rw [← hj, ← hq, hB]; rfl
 have HYW : Hid ((w.alloc B).drew.heap[mb]? = some (.cells (mmCells tn to_ fuel nv cv rv m) 169 (0, 0))) := by
  show (w.alloc B).drew.heap[mb]? = _
  rw [hW.block mb hmb]; exact h.y
 have HH : Hid _ := h
 have HRY : Hid _ := h.ry
 clear h hW
 unfold ptr
 go_enter Tryz.func97, Tryz.ntmps97
 subst hB
 go_wp2
 go_region_law (refine step_own rfl (.tmp 8) (.tmp 15) 167 rfl 216 i0 _ 3 24 Tryz.undRegs HI.out HZ0.out HZ1.out HZ2.out rfl (by decide) rv m.regs.length (m.regs.flatMap mrL) (by simp [Act.eval]) HOWN.out ⟨w.heap.size, 0, none⟩ 1 1 (mrL ⟨k, m.opened, 0⟩) (by simp [Act.eval]) rfl HC1.out (mr_one _) (by decide) (by unfold maxLen; omega) (by omega) ?_; intro g cap w' hown hgrow hor; have hpb' := grown_blk hgrow HYW.out HRY.out; have c7 : w'.cell? ⟨mb, 7, none⟩ = some rv := (by rw [blk_cell hpb']; rfl); have f7 := blk_free hpb' 7)
 all_goals
  have hadd := MIn.addR HH.out ⟨k, m.opened, 0⟩ HW.out hgrow hown hor
  have hfin := hadd.2.scal (m.opn k) 8 (.int .i64 ((m.opened : Int) + 1)) rfl rfl rfl rfl
  have HFR : Hid _ := hadd.1.trans hfin.1
  have HFI : Hid _ := hfin.2
  have c8 : (w'.setCell ⟨mb, 7, none⟩ (.slice (some ⟨g, 0, none⟩) (m.regs.length + 1) cap)).cell? ⟨mb, 8, none⟩ = some (.int .i64 m.opened) := by rw [blk_cell hadd.2.y]; rfl
  have f8 := blk_free hadd.2.y 8
  clear hadd hown hgrow hor hfin
  go_wp2
  refine bodyPost_end (v := .tuple #[]) (by simp [results, Tryz.results97, go_sem]) rfl ⟨rfl, _, HFR.out, HFI.out⟩
theorem flat_dropR (l : List MR) : (l.flatMap mrL).take ((l.length - 1) * 3) = l.dropLast.flatMap mrL := by
 rcases List.eq_nil_or_concat l with rfl | ⟨r, x, rfl⟩
 ·rfl
 ·rw [List.concat_eq_append, List.dropLast_concat, List.flatMap_append, List.length_append, List.length_singleton, Nat.add_sub_cancel]
  have hlen : (r.flatMap mrL).length = r.length * 3 := by
   induction r with
   | nil => rfl
   | cons a r ih => simp [mrL, ih]; omega
  rw [← hlen, List.take_left]
theorem MIn.dropR {mb : Nat} {w : World} {tn to_ : Value} {fuel : Nat} {nv cv : Value} {m : MM} {g n cap : Nat} (h : MIn mb w tn to_ fuel nv cv (.slice (some ⟨g, 0, none⟩) n cap) m) (hn : n = m.regs.length) (h1 : 1 ≤ n) :
  PFr mb mb w (w.setCell ⟨mb, 7, none⟩ (.slice (some ⟨g, 0, none⟩) (n - 1) cap)) nv cv (.slice (some ⟨g, 0, none⟩) n cap) nv cv (.slice (some ⟨g, 0, none⟩) (n - 1) cap) ∧
  MIn mb (w.setCell ⟨mb, 7, none⟩ (.slice (some ⟨g, 0, none⟩) (n - 1) cap)) tn to_ fuel nv cv (.slice (some ⟨g, 0, none⟩) (n - 1) cap) { m with regs := m.regs.dropLast } := by
 have hgp : g ≠ mb := fun e => h.ry (by rw [e]; rfl)
 have ho : w.ownsRow 0 216 3 (.slice (some ⟨g, 0, none⟩) (n - 1) cap) (n - 1) (m.regs.dropLast.flatMap mrL) := by
  have hrg := h.rg
  rw [← hn] at hrg
  have := owns_less hrg (n - 1) (by omega)
  rw [hn, flat_dropR] at this
  rw [hn]; exact this
 have kp : ∀ k, k ≠ mb → (w.setCell ⟨mb, 7, none⟩ (.slice (some ⟨g, 0, none⟩) (n - 1) cap)).heap[k]? = w.heap[k]? := fun k hk => blk_other _ _ (by simpa using hk)
 refine ⟨⟨rfl, rfl, rfl, by simp only [World.setCell, Array.size_modify]; omega, fun k _ hp _ _ _ _ => kp k hp, fun _ h => Or.inl h, fun _ h => Or.inl h, fun _ h => Or.inl h⟩, ?_⟩
 refine ⟨blk_set h.y 7 _, owns_blk h.nm (fun k hk => kp k (fun e => h.ny (by rw [hk, e]))), owns_blk h.cl (fun k hk => kp k (fun e => h.cy (by rw [hk, e]))), ?_, h.ny, h.cy, by simp only [Value.ownBlock, ne_eq, Option.some.injEq]; exact hgp, h.nc, fun k hk => h.nr k hk, fun k hk => h.cr k hk⟩
 have := owns_blk (w' := w.setCell ⟨mb, 7, none⟩ (.slice (some ⟨g, 0, none⟩) (n - 1) cap)) ho (fun k hk => kp k (by simp only [Value.ownBlock, Option.some.injEq] at hk; omega))
 simp only [List.length_dropLast, ← hn]
 exact this
theorem MIn.drew {mb : Nat} {w : World} {tn to_ : Value} {fuel : Nat} {nv cv rv : Value} {m : MM} (h : MIn mb w tn to_ fuel nv cv rv m) : MIn mb w.drew tn to_ fuel nv cv rv m := h.below (below_d (Below.refl _ _))
theorem PFr.drew {mb : Nat} {w w' : World} {nv cv rv nv' cv' rv' : Value} (h : PFr mb mb w w' nv cv rv nv' cv' rv') : PFr mb mb w w'.drew nv cv rv nv' cv' rv' := h.upto (below_d (Below.refl _ _))
set_option maxRecDepth 100000 in
set_option maxHeartbeats 4000000 in
theorem mend_any (mb : Nat) (w : World) (tn to_ : Value) (fuel : Nat) (nv cv rv : Value) (m : MM) (h1 : 1 ≤ m.regs.length) (hf : fuel ≤ 20000) (hb : MBd fuel m) (h : MIn mb w tn to_ fuel nv cv rv m) :
  Calls Tryz.prog 156 #[ptr mb] w fun e w' => e = .returned (.tuple #[]) ∧ ∃ rv', PFr mb mb w w' nv cv rv nv cv rv' ∧ MIn mb w' tn to_ fuel nv cv rv' m.fin := by
 obtain ⟨r, hr⟩ : ∃ r, m.regs[m.regs.length - 1]? = some r := ⟨_, List.getElem?_eq_getElem (by omega)⟩
 have hlast : m.regs.getLast? = some r := by rw [List.getLast?_eq_getElem?]; exact hr
 have hfin : m.fin = { m with live := m.live - r.cells, regs := m.regs.dropLast } := by unfold MM.fin; rw [hlast]
 rw [hfin]
 have hl := hb.regs
 have q1 := hb.live; have q2 := hb.sum; have q3 := hb.cells; have q4 := hb.steps
 have q5 : r.cells ≤ sumC m.regs := by
  have := sumC_set m.regs _ r ⟨0, 0, 0⟩ hr
  simp only at this; omega
 have hlv : -100000 ≤ m.live - r.cells ∧ m.live - r.cells ≤ 100000 := by omega
 obtain ⟨_, _, _, _, _, y7, _, y9, _⟩ := mm_cells h.y
 have f9 : w.frozen? ⟨mb, 9, none⟩ = false := blk_free h.y 9
 have f7 : w.frozen? ⟨mb, 7, none⟩ = false := blk_free h.y 7
 have hmb := blk_lt h.y
 obtain ⟨g, cap, rfl⟩ := slice_of' h.rg (by omega)
 obtain ⟨_, _, c2⟩ := regs_cells h.rg (m.regs.length - 1) r hr
 have hg : g < w.heap.size := (h.rg.lt g rfl).2
 have hgp : g ≠ mb := fun e => h.ry (by rw [e]; rfl)
 have hcap : m.regs.length ≤ cap := by
  rcases h.rg.2 with ⟨h1, h2⟩ | ⟨g', cap', cur, h1, _, _, h3, _⟩
  ·omega
  ·simp only [Value.slice.injEq] at h1; omega
 have hcapm : cap ≤ maxLen := by
  rcases h.rg.2 with ⟨h1, h2⟩ | ⟨g', cap', cur, h1, _, _, _, h3, _⟩
  ·omega
  ·simp only [Value.slice.injEq] at h1; omega
 unfold maxLen at hcapm
 have hs1 := h.scal { m with live := m.live - r.cells } 9 (.int .i64 (m.live - r.cells)) rfl rfl rfl rfl
 have hs2 := hs1.2.dropR rfl h1
 have HFR : Hid _ := (hs1.1.trans hs2.1).drew
 have HIN : Hid _ := hs2.2.drew
 clear h hs1 hs2 hr hlast hfin hb q1 q2 q3 q4 q5
 simp only at HFR HIN
 obtain ⟨n, hn⟩ : ∃ n, n = m.regs.length - 1 := ⟨_, rfl⟩
 have hn1 : m.regs.length = n + 1 := by omega
 rw [← hn] at c2
 rw [hn1] at HFR HIN y7 hl hcap h1
 simp only [Nat.add_sub_cancel] at HFR HIN
 rw [hn1]
 clear hn hn1
 generalize m.live = lv at *
 generalize r.cells = rc at *
 unfold ptr
 go_enter Tryz.func156, Tryz.ntmps156
 go_wp2
 go_region
 all_goals
  go_wp2
  refine bodyPost_end (v := .tuple #[]) (by simp [results, Tryz.results156, go_sem]) rfl ⟨rfl, _, HFR.out, HIN.out⟩
theorem flat_len {α : Type} (f : α → List Value) (s : Nat) (hs : ∀ x, (f x).length = s) (l : List α) : (l.flatMap f).length = l.length * s := by
 induction l with
 | nil => simp
 | cons x l ih => rw [List.flatMap_cons, List.length_append, hs, ih, List.length_cons, Nat.succ_mul]; omega
theorem set_flat {α : Type} (f : α → List Value) (s : Nat) (hs : ∀ x, (f x).length = s) (l : List α) (k j : Nat) (x y : α) (v : Value) (hx : l[k]? = some x) (hj : j < s) (hf : f y = (f x).set j v) : (l.flatMap f).set (k * s + j) v = (l.set k y).flatMap f := by
 have hk := (List.getElem?_eq_some_iff.1 hx).1
 apply List.ext_getElem?
 intro i
 have hdm := Nat.div_add_mod' i s
 have hml := Nat.mod_lt i (show 0 < s by omega)
 have key := flat_at f s hs (l.set k y) (i / s) (i % s) hml
 have key0 := flat_at f s hs l (i / s) (i % s) hml
 rw [hdm] at key key0
 rw [key]
 by_cases hik : i / s = k
 ·rw [hik] at hdm key0 ⊢
  rw [List.getElem?_set_self hk, Option.bind_some, hf]
  by_cases hij : i % s = j
  ·rw [hij, List.getElem?_set_self (by rw [hs]; exact hj)]
   rw [← hdm, hij, List.getElem?_set_self]
   rw [flat_len f s hs]
   calc k * s + j < k * s + s := by omega
    _ = (k + 1) * s := by rw [Nat.succ_mul]
    _ ≤ l.length * s := Nat.mul_le_mul_right s hk
  ·rw [List.getElem?_set_ne (by omega), List.getElem?_set_ne (by omega), key0, hx]; rfl
 ·have hne : k * s + j ≠ i := by
   intro e
   apply hik
   rw [← e, Nat.mul_comm, Nat.mul_add_div (by omega), Nat.div_eq_of_lt hj, Nat.add_zero]
  rw [List.getElem?_set_ne hne, key0, List.getElem?_set_ne (fun e => hik e.symm)]
theorem MIn.setC {mb : Nat} {w : World} {tn to_ : Value} {fuel : Nat} {nv cv : Value} {m : MM} {g cap : Nat} (h : MIn mb w tn to_ fuel nv cv (.slice (some ⟨g, 0, none⟩) m.regs.length cap) m) (k : Nat) (r : MR) (hk : m.regs[k]? = some r) :
  PFr mb mb w (w.setCell ⟨g, k * 3 + 2, none⟩ (.int .i64 ((r.cells + 1 : Nat) : Int))) nv cv (.slice (some ⟨g, 0, none⟩) m.regs.length cap) nv cv (.slice (some ⟨g, 0, none⟩) m.regs.length cap) ∧
  MIn mb (w.setCell ⟨g, k * 3 + 2, none⟩ (.int .i64 ((r.cells + 1 : Nat) : Int))) tn to_ fuel nv cv (.slice (some ⟨g, 0, none⟩) m.regs.length cap) { m with regs := m.regs.set k { r with cells := r.cells + 1 } } := by
 have hgp : g ≠ mb := fun e => h.ry (by rw [e]; rfl)
 have kp : ∀ k', k' ≠ g → (w.setCell ⟨g, k * 3 + 2, none⟩ (.int .i64 ((r.cells + 1 : Nat) : Int))).heap[k']? = w.heap[k']? := fun k' hk => blk_other _ _ (by simpa using hk)
 have h2 := (h.rg.stored (k * 3 + 2) (.int .i64 ((r.cells + 1 : Nat) : Int))).1
 rw [set_flat mrL 3 (fun _ => rfl) m.regs k 2 r { r with cells := r.cells + 1 } _ hk (by omega) rfl] at h2
 refine ⟨⟨rfl, rfl, rfl, by simp only [World.setCell, Array.size_modify]; omega, fun k' _ _ _ _ _ hs => kp k' (fun e => hs (by rw [e]; rfl)), fun _ h => Or.inl h, fun _ h => Or.inl h, fun _ h => Or.inl h⟩, ?_⟩
 exact ⟨by rw [kp mb (fun e => hgp e.symm)]; exact h.y, owns_blk h.nm (fun k' hk => kp k' (fun e => h.nr k' hk (by rw [e]; rfl))), owns_blk h.cl (fun k' hk => kp k' (fun e => h.cr k' hk (by rw [e]; rfl))), by simp only [List.length_set]; exact h2, h.ny, h.cy, h.ry, h.nc, h.nr, h.cr⟩
theorem Tryz.infoCellA : (Tryz.prog.info? 219).map (fun i => (i.zero, i.size, i.bytes)) = some (some (.agg #[.bool false, .int .i64 0, .bool false, .int .i64 0, .int .i64 0, .int .i64 0]), 6, 48) := by kernel_rfl
theorem Tryz.undCells : Tryz.prog.underlying 166 = some (.slice 219) := by kernel_rfl
theorem mc_one (c : MC) : ∀ u ∈ mcL c, u.oneCell' = true := by intro u hu; simp only [mcL, List.mem_cons, List.not_mem_nil, or_false] at hu; rcases hu with rfl | rfl | rfl | rfl | rfl | rfl <;> rfl
theorem MIn.addC {mb : Nat} {w W0 w' : World} {tn to_ : Value} {fuel : Nat} {nv cv rv : Value} {m : MM} (h : MIn mb w tn to_ fuel nv cv rv m) (r : MC) {g cap : Nat} (hW : Below w.heap.size w W0) (hg : W0.grownBy w' cv.ownBlock)
  (hown : w'.ownsRow 0 219 6 (.slice (some ⟨g, 0, none⟩) (m.cells.length + 1) cap) (m.cells.length + 1) (m.cells.flatMap mcL ++ mcL r)) (hor : cv.ownBlock = some g ∨ W0.heap.size ≤ g) :
  PFr mb mb w (w'.setCell ⟨mb, 6, none⟩ (.slice (some ⟨g, 0, none⟩) (m.cells.length + 1) cap)) nv cv rv nv (.slice (some ⟨g, 0, none⟩) (m.cells.length + 1) cap) rv ∧
  MIn mb (w'.setCell ⟨mb, 6, none⟩ (.slice (some ⟨g, 0, none⟩) (m.cells.length + 1) cap)) tn to_ fuel nv (.slice (some ⟨g, 0, none⟩) (m.cells.length + 1) cap) rv { m with cells := m.cells ++ [r] } := by
 obtain ⟨l1, l2, l3, l4⟩ := h.slt
 have hWs := hW.size
 have hgs := hg.size
 have yW : W0.heap[mb]? = some (.cells (mmCells tn to_ fuel nv cv rv m) 169 (0, 0)) := by rw [hW.block mb l4]; exact h.y
 have yw := grown_blk hg yW h.cy
 have hgp : g ≠ mb := by
  rcases hor with e | e
  ·intro e'; rw [e'] at e; exact h.cy e
  ·omega
 have kp : ∀ k, k < w.heap.size → k ≠ mb → cv.ownBlock ≠ some k → (w'.setCell ⟨mb, 6, none⟩ (.slice (some ⟨g, 0, none⟩) (m.cells.length + 1) cap)).heap[k]? = w.heap[k]? := by
  intro k hk hkp hne
  rw [blk_other _ _ (by simpa using hkp), hg.block k (by omega) (fun e => hne e.symm), hW.block k hk]
 refine ⟨⟨hg.os.trans hW.os, hg.tape.trans hW.tape, hg.output.trans hW.output, by simp only [World.setCell, Array.size_modify]; omega, fun k hk hp _ hs hn ho => kp k hk hp hn, fun _ h => Or.inl h, fun g' hg' => by simp only [Value.ownBlock, Option.some.injEq] at hg'; subst hg'; rcases hor with e | e; exact Or.inl e; exact Or.inr (by omega), fun _ h => Or.inl h⟩, ?_⟩
 refine ⟨blk_set yw 6 _, owns_blk h.nm (fun k hk => kp k (l1 k hk) (fun e => h.ny (by rw [hk, e])) (fun e => h.nc k hk e)),
  by have := owns_blk (w' := w'.setCell ⟨mb, 6, none⟩ (.slice (some ⟨g, 0, none⟩) (m.cells.length + 1) cap)) hown (fun k hk => by simp only [Value.ownBlock, Option.some.injEq] at hk; subst hk; exact blk_other _ _ (by simpa using hgp)); simpa using this,
  owns_blk h.rg (fun k hk => kp k (l3 k hk) (fun e => h.ry (by rw [hk, e])) (fun e => h.cr.symm k hk e)), h.ny, by simp only [Value.ownBlock, ne_eq, Option.some.injEq]; exact hgp, h.ry, (fun k hk hk' => by
   simp only [Value.ownBlock, Option.some.injEq] at hk'
   rcases hor with e | e
   ·rw [hk'] at e; exact h.nc k hk e
   ·have := l1 k hk; omega), h.nr, (fun k hk hk' => by
   simp only [Value.ownBlock, Option.some.injEq] at hk
   rcases hor with e | e
   ·rw [hk] at e; exact h.cr.symm k hk' e
   ·have := l3 k hk'; omega)⟩
theorem homeF_le (l : List MR) (k : Int) : ∀ i, homeF l k i ≤ i
 | 0 => Nat.le_refl _
 | i + 1 => by
  simp only [homeF]
  split
  ·exact Nat.le_refl _
  ·exact Nat.le_succ_of_le (homeF_le l k i)
theorem blk2 {w : World} {b : Nat} {v : MV} (h : w.heap[b]? = some (.cells #[.bool v.c, .int .i64 v.n] 171)) : w.cell? ⟨b, 0, none⟩ = some (.bool v.c) ∧ w.cell? ⟨b, 1, none⟩ = some (.int .i64 v.n) := ⟨by rw [blk_cell h]; rfl, by rw [blk_cell h]; rfl⟩
structure Beside (mb q : Nat) (w : World) (nv cv rv : Value) (o : Obj) : Prop where
 b : w.heap[q]? = some o
 ne : q ≠ mb
 n : nv.ownBlock ≠ some q
 c : cv.ownBlock ≠ some q
 r : rv.ownBlock ≠ some q
theorem Beside.keep {mb b : Nat} {w w' : World} {nv cv rv nv' cv' rv' : Value} {o : Obj} (h : Beside mb b w nv cv rv o) (hf : PFr mb mb w w' nv cv rv nv' cv' rv') : Beside mb b w' nv' cv' rv' o :=
 have hk := blk_lt h.b
 ⟨by rw [hf.blk b hk h.ne h.ne h.n h.c h.r]; exact h.b, h.ne, fun e => by
  rcases hf.s b e with e | e
  ·exact h.n e
  ·omega, fun e => by
  rcases hf.n b e with e | e
  ·exact h.c e
  ·omega, fun e => by
  rcases hf.o b e with e | e
  ·exact h.r e
  ·omega⟩
theorem Beside.new {mb : Nat} {w W : World} {tn to_ : Value} {fuel : Nat} {nv cv rv : Value} {m : MM} (h : MIn mb w tn to_ fuel nv cv rv m) {b : Nat} {o : Obj} (hb : W.heap[b]? = some o) (hw : w.heap.size ≤ b) : Beside mb b W nv cv rv o := by
 obtain ⟨l1, l2, l3, l4⟩ := h.slt
 exact ⟨hb, by omega, fun e => by have := l1 _ e; omega, fun e => by have := l2 _ e; omega, fun e => by have := l3 _ e; omega⟩
theorem MIn.beside {mb q : Nat} {w : World} {tn to_ : Value} {fuel : Nat} {nv cv rv : Value} {m : MM} (h : MIn mb w tn to_ fuel nv cv rv m) (h1 : q ≠ mb) (h2 : nv.ownBlock ≠ some q) (h3 : cv.ownBlock ≠ some q) (h4 : rv.ownBlock ≠ some q) (i : Nat) (u : Value) : MIn mb (w.setCell ⟨q, i, none⟩ u) tn to_ fuel nv cv rv m := by
 have kp : ∀ k, k ≠ q → (w.setCell ⟨q, i, none⟩ u).heap[k]? = w.heap[k]? := fun k hk => blk_other _ _ (by simpa using hk)
 exact ⟨by rw [kp mb (fun e => h1 e.symm)]; exact h.y, owns_blk h.nm (fun k hk => kp k (fun e => h2 (by rw [hk, e]))), owns_blk h.cl (fun k hk => kp k (fun e => h3 (by rw [hk, e]))), owns_blk h.rg (fun k hk => kp k (fun e => h4 (by rw [hk, e]))), h.ny, h.cy, h.ry, h.nc, h.nr, h.cr⟩
set_option maxRecDepth 100000 in
set_option maxHeartbeats 8000000 in
theorem newCell_any (mb : Nat) (w : World) (tn to_ : Value) (fuel : Nat) (nv cv rv : Value) (m : MM) (k : Int) (a b : MV) (h1 : 1 ≤ m.regs.length) (hf : fuel ≤ 20000) (hb : MBd fuel m) (h : MIn mb w tn to_ fuel nv cv rv m) :
  Calls Tryz.prog 184 #[ptr mb, .int .i64 k, mvV a, mvV b] w fun e w' => e = .returned (mvV (m.newCell k a b).1) ∧ ∃ cv', PFr mb mb w w' nv cv rv nv cv' rv ∧ MIn mb w' tn to_ fuel nv cv' rv (m.newCell k a b).2 := by
 obtain ⟨i0, hi, hz0, hz1, hz2⟩ := info_parts Tryz.infoCellA
 have HI : Hid _ := hi
 have HZ0 : Hid _ := hz0
 have HZ1 : Hid _ := hz1
 have HZ2 : Hid _ := hz2
 clear hi hz0 hz1 hz2
 have hhl : m.home k < m.regs.length := by have := homeF_le m.regs k (m.regs.length - 1); unfold MM.home; omega
 obtain ⟨r, hr⟩ : ∃ r, m.regs[m.home k]? = some r := ⟨_, List.getElem?_eq_getElem hhl⟩
 have ef : m.newCell k a b = (⟨true, m.cells.length⟩, { m with regs := m.regs.set (m.home k) { r with cells := r.cells + 1 }, cells := m.cells ++ [⟨a, b, m.home k, r.ser⟩], live := m.live + 1, most := if m.most < m.live + 1 then m.live + 1 else m.most }) := by unfold MM.newCell; rw [hr]
 rw [ef]
 obtain ⟨mo, hmo'⟩ : ∃ mo, mo = if m.most < m.live + 1 then m.live + 1 else m.most := ⟨_, rfl⟩
 rw [← hmo']
 have HMO : Hid _ := hmo'
 clear hmo'
 dsimp only
 have q1 := hb.live; have q2 := hb.sum; have q3 := hb.cells; have q4 := hb.steps; have q5 := hb.most; have hrl := hb.regs
 have q6 : r.cells ≤ sumC m.regs := by
  have := sumC_set m.regs _ r ⟨0, 0, 0⟩ hr
  simp only at this; omega
 have hlv : 0 ≤ m.live ∧ m.live ≤ 20000 := by omega
 have hmo : 0 ≤ m.most ∧ m.most ≤ 20000 := by omega
 have hrc : r.cells ≤ 20000 := by omega
 have hcl : m.cells.length ≤ 20000 := by omega
 have hho := fun W (hW : Below w.heap.size w W) => homeOf_any mb W _ _ _ _ _ _ m k h1 hrl (h.below hW)
 obtain ⟨H, hH⟩ : ∃ H, m.home k = H := ⟨_, rfl⟩
 rw [hH] at hho hhl hr ⊢
 obtain ⟨g, cap, rfl⟩ := slice_of' h.rg (by omega)
 obtain ⟨A, hA⟩ : ∃ A : Obj, A = .cells #[.bool a.c, .int .i64 a.n] 171 := ⟨_, rfl⟩
 obtain ⟨B, hB⟩ : ∃ B : Obj, B = .cells #[.bool b.c, .int .i64 b.n] 171 := ⟨_, rfl⟩
 obtain ⟨R, hR⟩ : ∃ R : Obj, R = .cells #[.bool false, .int .i64 0] 171 := ⟨_, rfl⟩
 obtain ⟨W1, hE⟩ : ∃ W1, W1 = ((w.alloc A).alloc B).alloc R := ⟨_, rfl⟩
 have hW1 : Below w.heap.size w W1 := by rw [hE]; exact below_al (below_al (below_al (Below.refl _ _) _) _) _
 have hbA : W1.heap[w.heap.size]? = some A := by rw [hE]; exact blk_alloc _ (blk_alloc _ (blk_new w A))
 have hbB : W1.heap[w.heap.size + 1]? = some B := by rw [hE]; exact blk_alloc _ (by have := blk_new (w.alloc A) B; simpa using this)
 have hbR : W1.heap[w.heap.size + 1 + 1]? = some R := by rw [hE]; have := blk_new ((w.alloc A).alloc B) R; simpa using this
 have hsA := Beside.new h hbA (Nat.le_refl _)
 have hsB := Beside.new h hbB (by omega)
 have hsR := Beside.new h hbR (by omega)
 have hin1 := h.below hW1
 have hfr1 : PFr mb mb w W1 nv cv (.slice (some ⟨g, 0, none⟩) m.regs.length cap) nv cv (.slice (some ⟨g, 0, none⟩) m.regs.length cap) := PFr.below mb mb _ _ _ hW1
 have hset := hin1.setC H r hr
 have hsA2 := hsA.keep hset.1
 have hsB2 := hsB.keep hset.1
 have hsR2 := hsR.keep hset.1
 have hfr2 := hfr1.trans hset.1
 have HHO : Hid _ := hho
 have HFR2 : Hid _ := hfr2
 have HIN2 : Hid _ := hset.2
 have HSA : Hid _ := hsA2
 have HSB : Hid _ := hsB2
 have HSR : Hid _ := hsR2
 have HW1 : Hid _ := hW1
 obtain ⟨_, _, _, _, _, y7, _⟩ := mm_cells hin1.y
 have hmb := blk_lt hin1.y
 have hg : g < W1.heap.size := (hin1.rg.lt g rfl).2
 have hgp : g ≠ mb := fun e => hin1.ry (by rw [e]; rfl)
 have fz := hin1.rg.frozenAt (H * 3 + 2)
 obtain ⟨r0, r1, r2⟩ := regs_cells hin1.rg H r hr
 clear h hset hsA hsB hsR hsA2 hsB2 hsR2 hfr1 hfr2 hin1 hbA hbB hbR hW1 hho ef hr hb q1 q2 q3 q4 q5 q6 hH
 unfold ptr at HHO
 unfold ptr mvV
 generalize hn : m.regs.length = n at *
 go_enter Tryz.func184, Tryz.ntmps184
 subst hA
 subst hB
 subst hR
 go_wp2_with fail
 rw [← hE]
 refine Calls.mono (HHO.out _ HW1.out) ?_
 rintro _ w'' ⟨rfl, hw⟩
 have hw' := hw.symm
 subst hw'
 clear hE hw
 go_upto_region 6 with fail
 obtain ⟨W2, hE2⟩ : ∃ W2, W2 = W1.setCell ⟨g, H * 3 + 2, none⟩ (.int .i64 ((r.cells : Int) + 1)) := ⟨_, rfl⟩
 rw [← hE2]
 have hin2 : MIn mb W2 tn to_ fuel nv cv (.slice (some ⟨g, 0, none⟩) n cap) { m with regs := m.regs.set H { r with cells := r.cells + 1 } } := by rw [hE2]; exact HIN2.out
 have hfr2 : PFr mb mb w W2 nv cv (.slice (some ⟨g, 0, none⟩) n cap) nv cv (.slice (some ⟨g, 0, none⟩) n cap) := by rw [hE2]; exact HFR2.out
 have hsA : Beside mb w.heap.size W2 nv cv (.slice (some ⟨g, 0, none⟩) n cap) (.cells #[.bool a.c, .int .i64 a.n] 171) := by rw [hE2]; exact HSA.out
 have hsB : Beside mb (w.heap.size + 1) W2 nv cv (.slice (some ⟨g, 0, none⟩) n cap) (.cells #[.bool b.c, .int .i64 b.n] 171) := by rw [hE2]; exact HSB.out
 have hsR : Beside mb (w.heap.size + 1 + 1) W2 nv cv (.slice (some ⟨g, 0, none⟩) n cap) (.cells #[.bool false, .int .i64 0] 171) := by rw [hE2]; exact HSR.out
 clear hE2 HIN2 HFR2 HSA HSB HSR HW1 HHO y7 r0 r1 r2 fz hmb hg
 have hqw : w.heap.size ≤ w.heap.size + 1 + 1 := by omega
 generalize w.heap.size + 1 + 1 = q at *
 obtain ⟨a0, a1⟩ := blk2 hsA.b
 obtain ⟨b0, b1⟩ := blk2 hsB.b
 have hla := blk_lt hsA.b
 have hlb := blk_lt hsB.b
 obtain ⟨_, _, _, _, y6, _, _, _, _⟩ := mm_cells hin2.y
 have hmb := blk_lt hin2.y
 obtain ⟨C, hC⟩ : ∃ C : Obj, C = .cells #[.bool a.c, .int .i64 a.n, .bool b.c, .int .i64 b.n, .int .i64 H, .int .i64 r.ser] 219 := ⟨_, rfl⟩
 have hW : Below W2.heap.size W2 (W2.alloc C).drew := below_ad W2 C
 have HW : Hid _ := hW
 have HOWN : Hid ((W2.alloc C).drew.ownsRow 0 219 6 cv m.cells.length (m.cells.flatMap mcL)) := owns_below hin2.cl hW
 have HC1 : Hid (∀ (j : Nat) (u : Value), (mcL ⟨a, b, H, r.ser⟩)[j]? = some u → (W2.alloc C).drew.cell? ((⟨W2.heap.size, 0, none⟩ : Addr).add j) = some u) := by
  intro j u hj
  have hq := alloc_cell_at W2 (mcL ⟨a, b, H, r.ser⟩) 219 j
  rw [← hj, ← hq, hC]; rfl
 have HYW : Hid ((W2.alloc C).drew.heap[mb]? = some (.cells (mmCells tn to_ fuel nv cv (.slice (some ⟨g, 0, none⟩) n cap) { m with regs := m.regs.set H { r with cells := r.cells + 1 } }) 169 (0, 0))) := by
  show (W2.alloc C).drew.heap[mb]? = _
  rw [hW.block mb hmb]; exact hin2.y
 have HCY : Hid _ := hin2.cy
 have HIN2 : Hid _ := hin2
 have HFR2 : Hid _ := hfr2
 have HSR : Hid _ := hsR
 clear hin2 hfr2 hsA hsB hsR hW
 subst hC
 go_region_law (refine step_own rfl (.tmp 45) (.tmp 51) 166 rfl 219 i0 _ 6 48 Tryz.undCells HI.out HZ0.out HZ1.out HZ2.out rfl (by decide) cv m.cells.length (m.cells.flatMap mcL) (by simp [Act.eval]) HOWN.out ⟨W2.heap.size, 0, none⟩ 1 1 (mcL ⟨a, b, H, r.ser⟩) (by simp [Act.eval]) rfl HC1.out (mc_one _) (by decide) (by unfold maxLen; omega) (by omega) ?_; intro g' cap' w' hown hgrow hor; have hpb' := grown_blk hgrow HYW.out HCY.out; have c6 : w'.cell? ⟨mb, 6, none⟩ = some cv := (by rw [blk_cell hpb']; rfl); have f6 := blk_free hpb' 6)
 all_goals
  have hadd := MIn.addC HIN2.out ⟨a, b, H, r.ser⟩ HW.out hgrow hown hor
  have hfr3 := HFR2.out.trans hadd.1
  have hsR3 := HSR.out.keep hadd.1
  have hin3 := hadd.2
  clear hadd hown hgrow hor hpb' c6 f6 HIN2 HFR2 HSR HW HOWN HC1 HYW HCY HI HZ0 HZ1 HZ2 a0 a1 b0 b1 y6
  generalize w'.setCell ⟨mb, 6, none⟩ (.slice (some ⟨g', 0, none⟩) (m.cells.length + 1) cap') = W3 at hfr3 hsR3 hin3 ⊢
  have y9 : W3.cell? ⟨mb, 9, none⟩ = some (.int .i64 m.live) := (mm_cells hin3.y).2.2.2.2.2.2.2.1
  have f9 : W3.frozen? ⟨mb, 9, none⟩ = false := blk_free hin3.y 9
  have hmb3 := blk_lt hin3.y
  have hin4 := hin3.scal { m with regs := m.regs.set H { r with cells := r.cells + 1 }, cells := m.cells ++ [⟨a, b, H, r.ser⟩], live := m.live + 1 } 9 (.int .i64 (m.live + 1)) rfl rfl rfl rfl
  have HFR4 : Hid _ := hfr3.trans hin4.1
  have HSR4 : Hid _ := hsR3.keep hin4.1
  have HIN4 : Hid _ := hin4.2
  have hy10 : (W3.setCell ⟨mb, 9, none⟩ (.int .i64 (m.live + 1))).cell? ⟨mb, 10, none⟩ = some (.int .i64 m.most) := (mm_cells hin4.2.y).2.2.2.2.2.2.2.2
  have hy9 : (W3.setCell ⟨mb, 9, none⟩ (.int .i64 (m.live + 1))).cell? ⟨mb, 9, none⟩ = some (.int .i64 (m.live + 1)) := (mm_cells hin4.2.y).2.2.2.2.2.2.2.1
  clear hfr3 hsR3 hin3 hin4
  go_upto_region 8 with fail
  obtain ⟨W4, hE4⟩ : ∃ W4, W4 = W3.setCell ⟨mb, 9, none⟩ (.int .i64 (m.live + 1)) := ⟨_, rfl⟩
  rw [← hE4] at HFR4 HSR4 HIN4 hy10 hy9 ⊢
  clear hE4 y9 f9 hmb3
  have hmb4 := blk_lt HIN4.out.y
  go_quiet (fail)
  rename_i nq
  obtain ⟨W5, hE5⟩ : ∃ W5, W5 = W4.drewN nq := ⟨_, rfl⟩
  have hbl5 : Below W4.heap.size W4 W5 := by rw [hE5]; exact below_dn (Below.refl _ _)
  rw [← hE5]
  have hin5 := HIN4.out.below hbl5
  have hfr5 := HFR4.out.trans (PFr.below mb mb _ _ _ hbl5)
  have hsR5 := HSR4.out.keep (PFr.below mb mb _ _ _ hbl5)
  clear hE5 hbl5 HIN4 HFR4 HSR4 hy9 hy10 hmb4
  have z9 : W5.cell? ⟨mb, 9, none⟩ = some (.int .i64 (m.live + 1)) := (mm_cells hin5.y).2.2.2.2.2.2.2.1
  have z10 : W5.cell? ⟨mb, 10, none⟩ = some (.int .i64 m.most) := (mm_cells hin5.y).2.2.2.2.2.2.2.2
  have z6 : W5.cell? ⟨mb, 6, none⟩ = some (.slice (some ⟨g', 0, none⟩) (m.cells.length + 1) cap') := (mm_cells hin5.y).2.2.2.2.1
  have g10 : W5.frozen? ⟨mb, 10, none⟩ = false := blk_free hin5.y 10
  have hmb5 := blk_lt hin5.y
  have x0 : W5.cell? ⟨q, 0, none⟩ = some (.bool false) := by rw [blk_cell hsR5.b]; rfl
  have x1 : W5.cell? ⟨q, 1, none⟩ = some (.int .i64 0) := by rw [blk_cell hsR5.b]; rfl
  have g0 : W5.frozen? ⟨q, 0, none⟩ = false := blk_free hsR5.b 0
  have g1 : W5.frozen? ⟨q, 1, none⟩ = false := blk_free hsR5.b 1
  have hq5 := blk_lt hsR5.b
  have hqm : q ≠ mb := hsR5.ne
  have hmq : mb ≠ q := fun e => hqm e.symm
  have HIN5 : Hid _ := hin5
  have HFR5 : Hid _ := hfr5
  have HSR5 : Hid _ := hsR5
  clear hin5 hfr5 hsR5
  by_cases hq : m.most < m.live + 1
  ·have HMO2 : Hid (mo = m.live + 1) := by have := HMO.out; rw [if_pos hq] at this; exact this
   clear HMO
   go_wp2
   have hs6 := HIN5.out.scal { m with regs := m.regs.set H { r with cells := r.cells + 1 }, cells := m.cells ++ [⟨a, b, H, r.ser⟩], live := m.live + 1, most := m.live + 1 } 10 (.int .i64 (m.live + 1)) rfl rfl rfl rfl
   have hs7 := HSR5.out.keep hs6.1
   have hi7 := (hs6.2.beside hs7.ne hs7.n hs7.c hs7.r 0 (.bool true)).beside hs7.ne hs7.n hs7.c hs7.r 1 (.int .i64 m.cells.length)
   have hf7 := ((HFR5.out.trans hs6.1).upto (below_set' (below_set' (Below.refl _ _) ⟨q, 0, none⟩ hqw (.bool true)) ⟨q, 1, none⟩ hqw (.int .i64 m.cells.length)))
   refine bodyPost_ret (v := .agg #[.bool true, .int .i64 m.cells.length]) (by simp [results, Tryz.results184, go_sem, x0, x1]) rfl ⟨rfl, _, hf7, ?_⟩
   rw [HMO2.out]; exact hi7
  ·have HMO2 : Hid (mo = m.most) := by have := HMO.out; rw [if_neg hq] at this; exact this
   clear HMO
   go_wp2
   have hs7 := HSR5.out
   have hi7 := (HIN5.out.beside hs7.ne hs7.n hs7.c hs7.r 0 (.bool true)).beside hs7.ne hs7.n hs7.c hs7.r 1 (.int .i64 m.cells.length)
   have hf7 := (HFR5.out.upto (below_set' (below_set' (Below.refl _ _) ⟨q, 0, none⟩ hqw (.bool true)) ⟨q, 1, none⟩ hqw (.int .i64 m.cells.length)))
   refine bodyPost_ret (v := .agg #[.bool true, .int .i64 m.cells.length]) (by simp [results, Tryz.results184, go_sem, x0, x1]) rfl ⟨rfl, _, hf7, ?_⟩
   rw [HMO2.out]; exact hi7
end Go.Proofs.YtpicaknklgccoaaGreatDoor
