import Derived.Test.YtpicaknklgccoaaGreatDoorS20
import Derived.Laws.CopyOwn
set_option maxHeartbeats 8000000
set_option maxRecDepth 100000
namespace Go.Proofs.YtpicaknklgccoaaGreatDoor
open Go.RowKit
theorem aE {w W : World} (h : Below w.heap.size w W) (o : Obj) : Below w.heap.size w (W.alloc o) := h.alloc h.size o
theorem rJ {W w : World} {b : Nat} (h : Below b W w) : Below b W w.drew := h.trans ⟨rfl, rfl, rfl, Nat.le_refl _, fun _ _ => rfl⟩
theorem KJ (w : World) (A O : Obj) (n : Nat) : (((w.alloc A).alloc O).drewN n).heap[w.heap.size + 1]? = some O := by
 have := aj (w.alloc A) O
 simpa using this
theorem ko {w W : World} (h : Below w.heap.size w W) (a : Addr) (ha : w.heap.size <= a.block) (u : Value) : Below w.heap.size w (W.setCell a u) := h.setCell (p := a) ha u
theorem aw {b : Nat} {w W : World} (h : Below b w W) (a : Addr) (ha : b <= a.block) (u : Value) : Below b w (W.setCell a u) := h.setCell (p := a) ha u
theorem gR.upto {mb b : Nat} {w w' : World} {tn aM : Value} {fuel : Nat} {nv cv rv : Value} {m : MM} (h : gR mb w tn aM fuel nv cv rv m) (h1 : mb < b) (h2 : ∀ k, nv.ownBlock = some k -> k < b) (h3 : ∀ k, cv.ownBlock = some k -> k < b) (h4 : ∀ k, rv.ownBlock = some k -> k < b) (hb : Below b w w') : gR mb w' tn aM fuel nv cv rv m :=
 ⟨by rw [hb.block mb h1]; exact h.y, ax h.nm (fun k hk => hb.block k (h2 k hk)), ax h.cl (fun k hk => hb.block k (h3 k hk)), ax h.rg (fun k hk => hb.block k (h4 k hk)), h.ny, h.cy, h.ry, h.nc, h.nr, h.cr⟩
theorem bu.upto {mb : Nat} {w w1 w2 : World} {nv cv rv bw we tS : Value} (h : bu mb mb w w1 nv cv rv bw we tS) (hb : Below w.heap.size w1 w2) : bu mb mb w w2 nv cv rv bw we tS :=
 ⟨hb.os.trans h.os, hb.tape.trans h.tape, hb.output.trans h.output, Nat.le_trans h.size hb.size, fun k hk a b c d e => (hb.block k hk).trans (h.blk k hk a b c d e), h.s, h.n, h.o⟩
theorem kL {w : World} {b : Nat} {c : MC} (h : w.heap[b]? = some (.cells #[.bool c.a.c, .int .i64 c.a.n, .bool c.b.c, .int .i64 c.b.n, .int .i64 c.home, .int .i64 c.gb] 219)) :
  w.cell? ⟨b, 0, none⟩ = some (.bool c.a.c) /\ w.cell? ⟨b, 1, none⟩ = some (.int .i64 c.a.n) /\ w.cell? ⟨b, 2, none⟩ = some (.bool c.b.c) /\ w.cell? ⟨b, 3, none⟩ = some (.int .i64 c.b.n) /\ w.cell? ⟨b, 4, none⟩ = some (.int .i64 c.home) /\ w.cell? ⟨b, 5, none⟩ = some (.int .i64 c.gb) := by
 refine ⟨?_, ?_, ?_, ?_, ?_, ?_⟩ <;> (rw [aa h]; rfl)
theorem Tryz.KK : (Tryz.prog.info? 219).map (·.size) = some 6 := by kernel_rfl
theorem qp {ops : Array Oper} {rest : List Oper} {o : Oper} {a : Act} {w : World} {Q : Exit -> Act -> World -> Prop} (hgd : o.guard = none) (x y : Operand) (ho : o.op = .store 219 x y) (hd : o.dst = none)
  (g : Nat) (c d : MC) (hx : a.eval x = .pointer (some ⟨g, 0, none⟩)) (hy : a.eval y = KH c)
  (hg : w.heap[g]? = some (.cells #[.bool d.a.c, .int .i64 d.a.n, .bool d.b.c, .int .i64 d.b.n, .int .i64 d.home, .int .i64 d.gb] 219 (0, 0)))
  (h : wpList Tryz.prog ops Q rest a (w.setRow g #[.bool c.a.c, .int .i64 c.a.n, .bool c.b.c, .int .i64 c.b.n, .int .i64 c.home, .int .i64 c.gb])) : wpList Tryz.prog ops Q (o :: rest) a w :=
 wpList_store_row hgd 219 x y ho g _ hx hy 219 _ hg Tryz.KK rfl (by simp [Value.oneCell']) (by rw [hd]; exact h)
theorem Oq (mb : Nat) (w : World) (tn aM : Value) (fuel : Nat) (nv cv rv : Value) (m : MM) (k : Nat) (c : MC) (hl : m.cells.length <= 20000) (hrl : m.regs.length <= 20000) (hh : c.home <= 20000) (hk : m.cells[k]? = some c) (h : gR mb w tn aM fuel nv cv rv m) :
  Calls Tryz.prog 131 #[ptr mb, lf ⟨true, k⟩] w fun e w' => e = .returned (KH c) /\ bu mb mb w w' nv cv rv nv cv rv /\ gR mb w' tn aM fuel nv cv rv (if m.isLive c = true then m else m.stop 13) := by
 obtain ⟨_, _, _, _, y6, _⟩ := bt h.y
 obtain ⟨m', hm'⟩ : ∃ m', m' = if m.isLive c = true then m else m.stop 13 := ⟨_, rfl⟩
 rw [<- hm']
 have HM : Hid _ := hm'
 clear hm'
 have nu := af h.y
 have hkl := (List.getElem?_eq_some_iff.1 hk).1
 obtain ⟨g, cap, rfl⟩ := jd h.cl (by omega)
 obtain ⟨c0', c1, c2, c3, c4, c5⟩ := Ce h.cl k c hk
 have hg : g < w.heap.size := (h.cl.lt g rfl).2
 have hd : decide ((m.cells.length : Int) <= (k : Int)) = false := decide_eq_false (by omega)
 have hd2 : decide (m.cells.length <= k) = false := decide_eq_false (by omega)
 have hd3 : (k : Int) < (m.cells.length : Int) := by omega
 have lP := fun W (hW : Below w.heap.size w W) => Em mb W _ _ _ _ _ _ m c hrl hh (h.below hW)
 have hst := fun W (hW : Below w.heap.size w W) => rH mb W _ _ _ _ _ _ m 13 (h.below hW)
 unfold ptr KH at lP
 unfold ptr at hst
 have HIL : Hid _ := lP
 have iQ : Hid _ := hst
 have HH : Hid _ := h
 clear h lP hst hk
 unfold ptr lf KH
 generalize hlen : m.cells.length = n at *
 go_enter Tryz.func131, Tryz.ntmps131
 go_wp2
 go_quiet (fail)
 rename_i nq
 obtain ⟨W1, hW1⟩ : ∃ W, W = ((w.alloc (.cells #[.bool true, .int .i64 k] 171)).alloc (.cells #[.bool false, .int .i64 0, .bool false, .int .i64 0, .int .i64 0, .int .i64 0] 219)).drewN nq := ⟨_, rfl⟩
 rw [<- hW1]
 have hb1 : Below w.heap.size w W1 := by
  rw [hW1]
  exact il (aE (aE (Below.refl _ _) _) _)
 have hbk : W1.heap[w.heap.size]? = some (.cells #[.bool true, .int .i64 k] 171) := by
  rw [hW1]
  exact aL _ (aj w _)
 have x1 : W1.cell? ⟨w.heap.size, 1, none⟩ = some (.int .i64 k) := by rw [aa hbk]; rfl
 have x0 : W1.cell? ⟨w.heap.size, 0, none⟩ = some (.bool true) := by rw [aa hbk]; rfl
 have z6 := (hb1.cell (p := ⟨mb, 6, none⟩) nu).trans y6
 have e0 := (hb1.cell (p := ⟨g, k * 6, none⟩) hg).trans c0'
 have e1 := (hb1.cell (p := ⟨g, k * 6 + 1, none⟩) hg).trans c1
 have e2 := (hb1.cell (p := ⟨g, k * 6 + 2, none⟩) hg).trans c2
 have e3 := (hb1.cell (p := ⟨g, k * 6 + 3, none⟩) hg).trans c3
 have e4 := (hb1.cell (p := ⟨g, k * 6 + 4, none⟩) hg).trans c4
 have e5 := (hb1.cell (p := ⟨g, k * 6 + 5, none⟩) hg).trans c5
 have hw1 : w.heap.size + 2 = W1.heap.size := by rw [hW1]; simp
 have Hp : mb < W1.heap.size := by omega
 have N8 : g < W1.heap.size := by omega
 have Y9 : w.heap.size < W1.heap.size := by omega
 have FD : W1.heap[w.heap.size + 1]? = some (.cells #[.bool false, .int .i64 0, .bool false, .int .i64 0, .int .i64 0, .int .i64 0] 219) := by
  rw [hW1]
  have := aj (w.alloc (.cells #[.bool true, .int .i64 k] 171)) (.cells #[.bool false, .int .i64 0, .bool false, .int .i64 0, .int .i64 0, .int .i64 0] 219)
  simpa using this
 have NI : Hid _ := FD
 have dF : Hid _ := hb1
 clear hbk hW1 y6 c0' c1 c2 c3 c4 c5 hb1 FD
 go_wp2
 go_region
 all_goals
  go_wp2_with fail
  have hC : Below w.heap.size w (W1.alloc (.cells #[.bool c.a.c, .int .i64 c.a.n, .bool c.b.c, .int .i64 c.b.n, .int .i64 c.home, .int .i64 c.gb] 219)).drew := rJ (aE dF.out _)
  refine Calls.mono (HIL.out _ hC) ?_
  rintro _ w2 ⟨rfl, hb2⟩
  have kZ : Below w.heap.size w w2 := hC.trans (hb2.mono hC.size)
  have hq : w2.heap[W1.heap.size]? = some (.cells #[.bool c.a.c, .int .i64 c.a.n, .bool c.b.c, .int .i64 c.b.n, .int .i64 c.home, .int .i64 c.gb] 219) := by
   rw [hb2.block _ (by simp)]; exact aj W1 _
  have hr : w2.heap[w.heap.size + 1]? = some (.cells #[.bool c0.a.c, .int .i64 c0.a.n, .bool c0.b.c, .int .i64 c0.b.n, .int .i64 c0.home, .int .i64 c0.gb] 219) := by
   rw [hb2.block _ (by simp; omega)]
   exact aL _ NI.out
  have HQ : Hid _ := hq
  have HR : Hid _ := hr
  have dN : Hid _ := kZ
  clear hq hr kZ hb2 hC
  have hne : W1.heap.size ≠ w.heap.size + 1 := by omega
  have fL : w.heap.size <= w.heap.size + 1 := by omega
  have VM : w.heap.size <= W1.heap.size := by omega
  clear x0 x1 z6 e0 e1 e2 e3 e4 e5 Hp N8 Y9 hw1 hd hd2 hd3 NI dF HIL
  generalize w.heap.size + 1 = r at *
  generalize W1.heap.size = q at *
  obtain ⟨bl, hbl⟩ : ∃ bl, m.isLive c = bl := ⟨_, rfl⟩
  rw [hbl]
  cases bl with
  | true =>
   have qV : Hid (m' = m) := by have := HM.out; rw [hbl] at this; exact this
   obtain ⟨a0, a1, a2, a3, a4, a5⟩ := kL HQ.out
   have hlq := af HQ.out
   have hlr := af HR.out
   go_upto_region 6 with fail
   go_step
   go_step
   go_step
   go_step
   refine qp rfl (.tmp 4) (.tmp 39) rfl rfl r c c0 rfl rfl HR.out ?_
   have hN := setRow_heap w2 r _ #[.bool c.a.c, .int .i64 c.a.n, .bool c.b.c, .int .i64 c.b.n, .int .i64 c.home, .int .i64 c.gb] 219 (0, 0) HR.out
   have hBN := below_setRow dN.out fL #[.bool c.a.c, .int .i64 c.a.n, .bool c.b.c, .int .i64 c.b.n, .int .i64 c.home, .int .i64 c.gb]
   generalize w2.setRow r #[.bool c.a.c, .int .i64 c.a.n, .bool c.b.c, .int .i64 c.b.n, .int .i64 c.home, .int .i64 c.gb] = w5 at hN hBN ⊢
   obtain ⟨s0, s1, s2, s3, s4, s5⟩ := kL hN
   have A9 : Hid _ := hBN
   clear hN hBN HR HQ dN a0 a1 a2 a3 a4 a5
   go_wp2
   refine bodyPost_ret (v := .agg #[.bool c.a.c, .int .i64 c.a.n, .bool c.b.c, .int .i64 c.b.n, .int .i64 c.home, .int .i64 c.gb]) (by simp [results, Tryz.results131, go_sem, s0, s1, s2, s3, s4, s5]) rfl ⟨rfl, ?_, ?_⟩
   ·exact bu.below mb mb _ _ _ A9.out
   ·rw [qV.out]; exact HH.out.below A9.out
  | false =>
   have qV : Hid (m' = m.stop 13) := by have := HM.out; rw [hbl] at this; exact this
   go_wp2_with fail
   refine Calls.mono (iQ.out _ dN.out) ?_
   rintro _ w3 ⟨rfl, bM, dV⟩
   obtain ⟨l1, l2, l3, l4⟩ := HH.out.slt
   have Jx := (bM.blk q (af HQ.out) (by omega) (by omega) (fun e => by have := l1 _ e; omega) (fun e => by have := l2 _ e; omega) (fun e => by have := l3 _ e; omega)).trans HQ.out
   have rm := (bM.blk r (af HR.out) (by omega) (by omega) (fun e => by have := l1 _ e; omega) (fun e => by have := l2 _ e; omega) (fun e => by have := l3 _ e; omega)).trans HR.out
   have pV : Hid _ := (bu.below mb mb nv (.slice (some ⟨g, 0, none⟩) n cap) rv dN.out).trans bM
   have lR : Hid _ := dV
   have Dy : Hid _ := rm
   obtain ⟨a0, a1, a2, a3, a4, a5⟩ := kL Jx
   have hlq := af Jx
   have hlr := af rm
   have HL : Hid (mb < w.heap.size /\ (∀ k, nv.ownBlock = some k -> k < w.heap.size) /\ (∀ k, (Value.slice (some ⟨g, 0, none⟩) n cap).ownBlock = some k -> k < w.heap.size) /\ (∀ k, rv.ownBlock = some k -> k < w.heap.size)) := ⟨l4, l1, l2, l3⟩
   clear Jx rm bM dV HQ HR dN iQ HH l1 l2 l3 l4
   go_upto_region 6 with fail
   go_step
   go_step
   go_step
   go_step
   refine qp rfl (.tmp 4) (.tmp 39) rfl rfl r c c0 rfl rfl Dy.out ?_
   have hN := setRow_heap w3 r _ #[.bool c.a.c, .int .i64 c.a.n, .bool c.b.c, .int .i64 c.b.n, .int .i64 c.home, .int .i64 c.gb] 219 (0, 0) Dy.out
   have hBN := below_setRow (Below.refl w.heap.size w3) fL #[.bool c.a.c, .int .i64 c.a.n, .bool c.b.c, .int .i64 c.b.n, .int .i64 c.home, .int .i64 c.gb]
   generalize w3.setRow r #[.bool c.a.c, .int .i64 c.a.n, .bool c.b.c, .int .i64 c.b.n, .int .i64 c.home, .int .i64 c.gb] = w5 at hN hBN ⊢
   obtain ⟨s0, s1, s2, s3, s4, s5⟩ := kL hN
   have A9 : Hid _ := hBN
   clear hN hBN Dy a0 a1 a2 a3 a4 a5
   go_wp2
   refine bodyPost_ret (v := .agg #[.bool c.a.c, .int .i64 c.a.n, .bool c.b.c, .int .i64 c.b.n, .int .i64 c.home, .int .i64 c.gb]) (by simp [results, Tryz.results131, go_sem, s0, s1, s2, s3, s4, s5]) rfl ⟨rfl, ?_, ?_⟩
   ·exact pV.out.upto A9.out
   ·rw [qV.out]; exact lR.out.upto HL.out.1 HL.out.2.1 HL.out.2.2.1 HL.out.2.2.2 A9.out
theorem RZ (mb : Nat) (w : World) (tn aM : Value) (fuel : Nat) (nv cv rv : Value) (m : MM) (v : MV) (hl : m.cells.length <= 20000) (hv : v.bd) (hc : v.c = false \/ v.n < 0 \/ (m.cells.length : Int) <= v.n) (h : gR mb w tn aM fuel nv cv rv m) :
  Calls Tryz.prog 131 #[ptr mb, lf v] w fun e w' => e = .returned (KH c0) /\ Below w.heap.size w w' := by
 obtain ⟨_, _, _, _, y6, _⟩ := bt h.y
 have nu := af h.y
 obtain ⟨ao, cap, rfl⟩ := kK h.cl
 clear h
 unfold MV.bd at hv
 unfold ptr lf KH
 obtain ⟨vc, vn⟩ := v
 simp only at hc hv
 generalize m.cells.length = n at *
 have hcc : vc = false \/ (vc = true /\ vn < 0) \/ (vc = true /\ decide (vn < 0) = false /\ (n : Int) <= vn) := by
  cases vc
  ·exact Or.inl rfl
  ·rcases hc with hc | hc | hc
   ·cases hc
   ·exact Or.inr (Or.inl ⟨rfl, hc⟩)
   ·exact Or.inr (Or.inr ⟨rfl, decide_eq_false (by omega), hc⟩)
 rcases hcc with rfl | ⟨rfl, h1⟩ | ⟨rfl, h1, h2⟩
 all_goals
  go_enter Tryz.func131, Tryz.ntmps131
  go_wp2
  go_quiet (fail)
  rename_i nq
  first
  | (obtain ⟨W1, hW1⟩ : ∃ W, W = ((w.alloc (.cells #[.bool false, .int .i64 vn] 171)).alloc (.cells #[.bool false, .int .i64 0, .bool false, .int .i64 0, .int .i64 0, .int .i64 0] 219)).drewN nq := ⟨_, rfl⟩; rw [<- hW1])
  | (obtain ⟨W1, hW1⟩ : ∃ W, W = ((w.alloc (.cells #[.bool true, .int .i64 vn] 171)).alloc (.cells #[.bool false, .int .i64 0, .bool false, .int .i64 0, .int .i64 0, .int .i64 0] 219)).drewN nq := ⟨_, rfl⟩; rw [<- hW1])
  have hb1 : Below w.heap.size w W1 := by
   rw [hW1]
   exact il (aE (aE (Below.refl _ _) _) _)
  have FD : W1.heap[w.heap.size + 1]? = some (.cells #[.bool c0.a.c, .int .i64 c0.a.n, .bool c0.b.c, .int .i64 c0.b.n, .int .i64 c0.home, .int .i64 c0.gb] 219) := by
   rw [hW1]
   exact KJ w _ _ nq
  have NI : Hid _ := FD
  have dF : Hid _ := hb1
  have fL : w.heap.size <= w.heap.size + 1 := by omega
  clear hW1 hb1 FD y6
  generalize w.heap.size + 1 = r at *
  go_upto_region 2 with fail
  go_step
  go_step
  go_step
  go_step
  refine qp rfl (.tmp 4) (.tmp 24) rfl rfl r c0 c0 rfl rfl NI.out ?_
  have hN := setRow_heap W1 r _ #[.bool c0.a.c, .int .i64 c0.a.n, .bool c0.b.c, .int .i64 c0.b.n, .int .i64 c0.home, .int .i64 c0.gb] 219 (0, 0) NI.out
  have hBN := below_setRow dF.out fL #[.bool c0.a.c, .int .i64 c0.a.n, .bool c0.b.c, .int .i64 c0.b.n, .int .i64 c0.home, .int .i64 c0.gb]
  generalize W1.setRow r #[.bool c0.a.c, .int .i64 c0.a.n, .bool c0.b.c, .int .i64 c0.b.n, .int .i64 c0.home, .int .i64 c0.gb] = w5 at hN hBN ⊢
  obtain ⟨s0, s1, s2, s3, s4, s5⟩ := kL hN
  have A9 : Hid _ := hBN
  clear hN hBN NI dF
  go_wp2
  refine bodyPost_ret (v := .agg #[.bool c0.a.c, .int .i64 c0.a.n, .bool c0.b.c, .int .i64 c0.b.n, .int .i64 c0.home, .int .i64 c0.gb]) (by simp [results, Tryz.results131, go_sem, s0, s1, s2, s3, s4, s5]) rfl ⟨rfl, A9.out⟩
theorem FY (mb : Nat) (w : World) (tn aM : Value) (fuel : Nat) (nv cv rv : Value) (m : MM) (v : MV) (hb : mR fuel m) (hf : fuel <= 20000) (hv : v.bd) (h : gR mb w tn aM fuel nv cv rv m) :
  Calls Tryz.prog 131 #[ptr mb, lf v] w fun e w' => e = .returned (KH (m.use v).1) /\ bu mb mb w w' nv cv rv nv cv rv /\ gR mb w' tn aM fuel nv cv rv (m.use v).2 := by
 have h1 := hb.steps
 have h2 := hb.cells
 unfold MM.use
 by_cases hc : v.c = false \/ v.n < 0 \/ (m.cells.length : Int) <= v.n
 ·rw [if_pos hc]
  exact (RZ mb w tn aM fuel nv cv rv m v (by omega) hv hc h).mono (fun _ _ hx => ⟨hx.1, bu.below mb mb _ _ _ hx.2, h.below hx.2⟩)
 ·rw [if_neg hc]
  have hvc : v.c = true := by cases hq : v.c with
   | true => rfl
   | false => exact absurd (Or.inl hq) hc
  obtain ⟨k, hk⟩ : ∃ k : Nat, v.n = k := ⟨v.n.toNat, by omega⟩
  have hkl : k < m.cells.length := by omega
  obtain ⟨c, hcc⟩ : ∃ c, m.cells[k]? = some c := ⟨_, List.getElem?_eq_getElem hkl⟩
  have e : v = ⟨true, k⟩ := by rw [<- hvc, <- hk]
  have e2 : m.cells.getD v.n.toNat c0 = c := by rw [hk, Int.toNat_natCast, List.getD_eq_getElem?_getD, hcc]; rfl
  rw [e2, e]
  exact Oq mb w tn aM fuel nv cv rv m k c (by omega) hb.regs (hb.cell c (List.mem_of_getElem? hcc)).2.2.1 hcc h
theorem En (mb : Nat) (w : World) (tn aM : Value) (fuel : Nat) (nv cv rv : Value) (m : MM) (k : Int) (h1 : 1 <= m.regs.length) (hl : m.regs.length <= 20000) (h : gR mb w tn aM fuel nv cv rv m) :
  Calls Tryz.prog 197 #[ptr mb, .int .i64 k] w fun e w' => e = .returned (.int .i64 (m.home k)) /\ w' = w := by
 obtain ⟨_, _, _, _, _, y7, _⟩ := bt h.y
 have nu := af h.y
 obtain ⟨g, cap, rfl⟩ := jd h.rg (by omega)
 have hcell := fun j r hj => (mC h.rg j r hj).1
 have HC : Hid _ := hcell
 obtain ⟨H, hH⟩ : ∃ H, H = m.home k := ⟨_, rfl⟩
 have HH : Hid _ := hH
 rw [<- hH]
 obtain ⟨n, hn⟩ : ∃ n, n = m.regs.length := ⟨_, rfl⟩
 have HN : Hid _ := hn
 rw [<- hn] at y7 h1 hl
 have hg : g < w.heap.size := (h.rg.lt g rfl).2
 clear h hcell hH hn
 unfold ptr
 go_enter Tryz.func197, Tryz.ntmps197
 go_wp2
 go_loop [5] (fun i => ∃ j : Nat, j < n /\ i = .int .i64 j /\ H = jw m.regs k j) (fun i => (intOf i).toNat)
 case atStart => exact ⟨n - 1, by omega, by rw [show ((n : Int) - 1) = ((n - 1 : Nat) : Int) from by omega], by rw [HH.out, HN.out]; rfl⟩
 case round =>
  obtain ⟨j, hj, rfl, hr⟩ := hrel
  have HR : Hid _ := hr
  clear hr
  cases j with
  | zero =>
   go_wp2
   go_ret
   exact ⟨by rw [HR.out]; rfl, rfl⟩
  | succ j =>
   obtain ⟨r, hr⟩ : ∃ r, m.regs[j + 1]? = some r := ⟨_, List.getElem?_eq_getElem (by have := HN.out; omega)⟩
   have hc := HC.out (j + 1) r hr
   by_cases hq : r.num = k
   ·have hs : jw m.regs k (j + 1) = j + 1 := by simp only [jw]; rw [hr, if_pos (by simp [hq])]
    have HS : Hid _ := hs
    rw [hq] at hc
    clear hr hs hq
    go_wp2
    go_ret
    exact ⟨jO (by rw [HR.out, HS.out]; omega), rfl⟩
   ·have hs : jw m.regs k (j + 1) = jw m.regs k j := by simp only [jw]; rw [hr, if_neg (by simp [hq])]
    have HS : Hid _ := hs
    have KL : (r.num == k) = false := by rw [beq_eq_false_iff_ne]; exact hq
    clear hr hs hq
    go_wp2
    go_round
    case rel => exact ⟨j, by omega, rfl, by rw [HR.out, HS.out]⟩
    case measure => simp [intOf]
theorem Tryz.Ot : (Tryz.prog.info? 216).map (fun i => (i.zero, i.size, i.bytes)) = some (some (.agg #[.int .i64 0, .int .i64 0, .int .i64 0]), 3, 24) := by kernel_rfl
theorem Tryz.Ou : Tryz.prog.underlying 167 = some (.slice 216) := by kernel_rfl
theorem R1 (r : MR) : ∀ u ∈ Aj r, u.oneCell' = true := by intro u hu; simp only [Aj, List.mem_cons, List.not_mem_nil, or_false] at hu; rcases hu with rfl | rfl | rfl <;> rfl
theorem gR.Za {mb : Nat} {w W0 w' : World} {tn aM : Value} {fuel : Nat} {nv cv rv : Value} {m : MM} (h : gR mb w tn aM fuel nv cv rv m) (r : MR) {g cap : Nat} (hW : Below w.heap.size w W0) (hg : W0.grownBy w' rv.ownBlock)
  (hown : w'.ownsRow 0 216 3 (.slice (some ⟨g, 0, none⟩) (m.regs.length + 1) cap) (m.regs.length + 1) (m.regs.flatMap Aj ++ Aj r)) (gP : rv.ownBlock = some g \/ W0.heap.size <= g) :
  bu mb mb w (w'.setCell ⟨mb, 7, none⟩ (.slice (some ⟨g, 0, none⟩) (m.regs.length + 1) cap)) nv cv rv nv cv (.slice (some ⟨g, 0, none⟩) (m.regs.length + 1) cap) /\
  gR mb (w'.setCell ⟨mb, 7, none⟩ (.slice (some ⟨g, 0, none⟩) (m.regs.length + 1) cap)) tn aM fuel nv cv (.slice (some ⟨g, 0, none⟩) (m.regs.length + 1) cap) { m with regs := m.regs ++ [r] } := by
 obtain ⟨l1, l2, l3, l4⟩ := h.slt
 have lh := hW.size
 have hgs := hg.size
 have yW : W0.heap[mb]? = some (.cells (lz tn aM fuel nv cv rv m) 169 (0, 0)) := by rw [hW.block mb l4]; exact h.y
 have yw := cu hg yW h.ry
 have nI : g ≠ mb := by
  rcases gP with e | e
  ·intro e'; rw [e'] at e; exact h.ry e
  ·omega
 have kp : ∀ k, k < w.heap.size -> k ≠ mb -> rv.ownBlock ≠ some k -> (w'.setCell ⟨mb, 7, none⟩ (.slice (some ⟨g, 0, none⟩) (m.regs.length + 1) cap)).heap[k]? = w.heap[k]? := by
  intro k hk hkp hne
  rw [ak _ _ (by simpa using hkp), hg.block k (by omega) (fun e => hne e.symm), hW.block k hk]
 refine ⟨⟨hg.os.trans hW.os, hg.tape.trans hW.tape, hg.output.trans hW.output, by simp only [World.setCell, Array.size_modify]; omega, fun k hk hp _ hs hn ho => kp k hk hp ho, fun _ h => Or.inl h, fun _ h => Or.inl h, fun g' hg' => by simp only [Value.ownBlock, Option.some.injEq] at hg'; subst hg'; rcases gP with e | e; exact Or.inl e; exact Or.inr (by omega)⟩, ?_⟩
 refine ⟨az yw 7 _, ax h.nm (fun k hk => kp k (l1 k hk) (fun e => h.ny (by rw [hk, e])) (fun e => h.nr k hk e)), ax h.cl (fun k hk => kp k (l2 k hk) (fun e => h.cy (by rw [hk, e])) (fun e => h.cr k hk e)),
  by have := ax (w' := w'.setCell ⟨mb, 7, none⟩ (.slice (some ⟨g, 0, none⟩) (m.regs.length + 1) cap)) hown (fun k hk => by simp only [Value.ownBlock, Option.some.injEq] at hk; subst hk; exact ak _ _ (by simpa using nI)); simpa using this, h.ny, h.cy, by simp only [Value.ownBlock, ne_eq, Option.some.injEq]; exact nI, h.nc, (fun k hk hk' => by
   simp only [Value.ownBlock, Option.some.injEq] at hk'
   rcases gP with e | e
   ·rw [hk'] at e; exact h.nr k hk e
   ·have := l1 k hk; omega), (fun k hk hk' => by
   simp only [Value.ownBlock, Option.some.injEq] at hk'
   rcases gP with e | e
   ·rw [hk'] at e; exact h.cr k hk e
   ·have := l2 k hk; omega)⟩
theorem Cf (mb : Nat) (w : World) (tn aM : Value) (fuel : Nat) (nv cv rv : Value) (m : MM) (k : Int) (hl : m.regs.length <= 20000) (ho : m.opened <= 4000000000) (h : gR mb w tn aM fuel nv cv rv m) :
  Calls Tryz.prog 97 #[ptr mb, .int .i64 k] w fun e w' => e = .returned (.tuple #[]) /\ ∃ tS, bu mb mb w w' nv cv rv nv cv tS /\ gR mb w' tn aM fuel nv cv tS (m.opn k) := by
 obtain ⟨i0, hi, hz0, hz1, hz2⟩ := info_parts Tryz.Ot
 have HI : Hid _ := hi
 have pq : Hid _ := hz0
 have pz : Hid _ := hz1
 have pF : Hid _ := hz2
 clear hi hz0 hz1 hz2
 obtain ⟨_, _, _, _, _, y7, y8, _⟩ := bt h.y
 have nu := af h.y
 obtain ⟨B, hB⟩ : ∃ B : Obj, B = .cells #[.int .i64 k, .int .i64 m.opened, .int .i64 0] 216 := ⟨_, rfl⟩
 have hW : Below w.heap.size w (w.alloc B).drew := rI w B
 have HW : Hid _ := hW
 have dS : Hid ((w.alloc B).drew.ownsRow 0 216 3 rv m.regs.length (m.regs.flatMap Aj)) := aA h.rg hW
 have xX : Hid (∀ (j : Nat) (u : Value), (Aj ⟨k, m.opened, 0⟩)[j]? = some u -> (w.alloc B).drew.cell? ((⟨w.heap.size, 0, none⟩ : Addr).add j) = some u) := by
  intro j u hj
  have hq := bH w (Aj ⟨k, m.opened, 0⟩) 216 j
  rw [<- hj, <- hq, hB]; rfl
 have Dw : Hid ((w.alloc B).drew.heap[mb]? = some (.cells (lz tn aM fuel nv cv rv m) 169 (0, 0))) := by
  show (w.alloc B).drew.heap[mb]? = _
  rw [hW.block mb nu]; exact h.y
 have HH : Hid _ := h
 have HRY : Hid _ := h.ry
 clear h hW
 unfold ptr
 go_enter Tryz.func97, Tryz.ntmps97
 subst hB
 go_wp2
 go_region_law (refine rK rfl (.tmp 8) (.tmp 15) 167 rfl 216 i0 _ 3 24 Tryz.Ou HI.out pq.out pz.out pF.out rfl (by decide) rv m.regs.length (m.regs.flatMap Aj) (by simp [Act.eval]) dS.out ⟨w.heap.size, 0, none⟩ 1 1 (Aj ⟨k, m.opened, 0⟩) (by simp [Act.eval]) rfl xX.out (R1 _) (by decide) (by unfold maxLen; omega) (by omega) ?_; intro g cap w' hown hgrow gP; have nU := cu hgrow Dw.out HRY.out; have c7 : w'.cell? ⟨mb, 7, none⟩ = some rv := (by rw [aa nU]; rfl); have f7 := ag nU 7)
 all_goals
  have hadd := gR.Za HH.out ⟨k, m.opened, 0⟩ HW.out hgrow hown gP
  have hfin := hadd.2.Cc (m.opn k) 8 (.int .i64 ((m.opened : Int) + 1)) rfl rfl rfl rfl
  have pV : Hid _ := hadd.1.trans hfin.1
  have Hu : Hid _ := hfin.2
  have c8 : (w'.setCell ⟨mb, 7, none⟩ (.slice (some ⟨g, 0, none⟩) (m.regs.length + 1) cap)).cell? ⟨mb, 8, none⟩ = some (.int .i64 m.opened) := by rw [aa hadd.2.y]; rfl
  have f8 := ag hadd.2.y 8
  clear hadd hown hgrow gP hfin
  go_wp2
  refine bodyPost_end (v := .tuple #[]) (by simp [results, Tryz.results97, go_sem]) rfl ⟨rfl, _, pV.out, Hu.out⟩
theorem Eo (l : List MR) : (l.flatMap Aj).take ((l.length - 1) * 3) = l.dropLast.flatMap Aj := by
 rcases List.eq_nil_or_concat l with rfl | ⟨r, x, rfl⟩
 ·rfl
 ·rw [List.concat_eq_append, List.dropLast_concat, List.flatMap_append, List.length_append, List.length_singleton, Nat.add_sub_cancel]
  have hlen : (r.flatMap Aj).length = r.length * 3 := by
   induction r with
   | nil => rfl
   | cons a r ih => simp [Aj, ih]; omega
  rw [<- hlen, List.take_left]
theorem gR.VN {mb : Nat} {w : World} {tn aM : Value} {fuel : Nat} {nv cv : Value} {m : MM} {g n cap : Nat} (h : gR mb w tn aM fuel nv cv (.slice (some ⟨g, 0, none⟩) n cap) m) (hn : n = m.regs.length) (h1 : 1 <= n) :
  bu mb mb w (w.setCell ⟨mb, 7, none⟩ (.slice (some ⟨g, 0, none⟩) (n - 1) cap)) nv cv (.slice (some ⟨g, 0, none⟩) n cap) nv cv (.slice (some ⟨g, 0, none⟩) (n - 1) cap) /\
  gR mb (w.setCell ⟨mb, 7, none⟩ (.slice (some ⟨g, 0, none⟩) (n - 1) cap)) tn aM fuel nv cv (.slice (some ⟨g, 0, none⟩) (n - 1) cap) { m with regs := m.regs.dropLast } := by
 have nI : g ≠ mb := fun e => h.ry (by rw [e]; rfl)
 have ho : w.ownsRow 0 216 3 (.slice (some ⟨g, 0, none⟩) (n - 1) cap) (n - 1) (m.regs.dropLast.flatMap Aj) := by
  have hrg := h.rg
  rw [<- hn] at hrg
  have := yN hrg (n - 1) (by omega)
  rw [hn, Eo] at this
  rw [hn]; exact this
 have kp : ∀ k, k ≠ mb -> (w.setCell ⟨mb, 7, none⟩ (.slice (some ⟨g, 0, none⟩) (n - 1) cap)).heap[k]? = w.heap[k]? := fun k hk => ak _ _ (by simpa using hk)
 refine ⟨⟨rfl, rfl, rfl, by simp only [World.setCell, Array.size_modify]; omega, fun k _ hp _ _ _ _ => kp k hp, fun _ h => Or.inl h, fun _ h => Or.inl h, fun _ h => Or.inl h⟩, ?_⟩
 refine ⟨az h.y 7 _, ax h.nm (fun k hk => kp k (fun e => h.ny (by rw [hk, e]))), ax h.cl (fun k hk => kp k (fun e => h.cy (by rw [hk, e]))), ?_, h.ny, h.cy, by simp only [Value.ownBlock, ne_eq, Option.some.injEq]; exact nI, h.nc, fun k hk => h.nr k hk, fun k hk => h.cr k hk⟩
 have := ax (w' := w.setCell ⟨mb, 7, none⟩ (.slice (some ⟨g, 0, none⟩) (n - 1) cap)) ho (fun k hk => kp k (by simp only [Value.ownBlock, Option.some.injEq] at hk; omega))
 simp only [List.length_dropLast, <- hn]
 exact this
theorem gR.drew {mb : Nat} {w : World} {tn aM : Value} {fuel : Nat} {nv cv rv : Value} {m : MM} (h : gR mb w tn aM fuel nv cv rv m) : gR mb w.drew tn aM fuel nv cv rv m := h.below (rJ (Below.refl _ _))
theorem bu.drew {mb : Nat} {w w' : World} {nv cv rv bw we tS : Value} (h : bu mb mb w w' nv cv rv bw we tS) : bu mb mb w w'.drew nv cv rv bw we tS := h.upto (rJ (Below.refl _ _))
theorem KM (mb : Nat) (w : World) (tn aM : Value) (fuel : Nat) (nv cv rv : Value) (m : MM) (h1 : 1 <= m.regs.length) (hf : fuel <= 20000) (hb : mR fuel m) (h : gR mb w tn aM fuel nv cv rv m) :
  Calls Tryz.prog 156 #[ptr mb] w fun e w' => e = .returned (.tuple #[]) /\ ∃ tS, bu mb mb w w' nv cv rv nv cv tS /\ gR mb w' tn aM fuel nv cv tS m.fin := by
 obtain ⟨r, hr⟩ : ∃ r, m.regs[m.regs.length - 1]? = some r := ⟨_, List.getElem?_eq_getElem (by omega)⟩
 have hlast : m.regs.getLast? = some r := by rw [List.getLast?_eq_getElem?]; exact hr
 have hfin : m.fin = { m with live := m.live - r.cells, regs := m.regs.dropLast } := by unfold MM.fin; rw [hlast]
 rw [hfin]
 have hl := hb.regs
 have q1 := hb.live; have q2 := hb.sum; have q3 := hb.cells; have q4 := hb.steps
 have q5 : r.cells <= ik m.regs := by
  have := nS m.regs _ r ⟨0, 0, 0⟩ hr
  simp only at this; omega
 have hlv : -100000 <= m.live - r.cells /\ m.live - r.cells <= 100000 := by omega
 obtain ⟨_, _, _, _, _, y7, _, y9, _⟩ := bt h.y
 have f9 : w.frozen? ⟨mb, 9, none⟩ = false := ag h.y 9
 have f7 : w.frozen? ⟨mb, 7, none⟩ = false := ag h.y 7
 have nu := af h.y
 obtain ⟨g, cap, rfl⟩ := jd h.rg (by omega)
 obtain ⟨_, _, c2⟩ := mC h.rg (m.regs.length - 1) r hr
 have hg : g < w.heap.size := (h.rg.lt g rfl).2
 have nI : g ≠ mb := fun e => h.ry (by rw [e]; rfl)
 have hcap : m.regs.length <= cap := by
  rcases h.rg.2 with ⟨h1, h2⟩ | ⟨g', cap', cur, h1, _, _, h3, _⟩
  ·omega
  ·simp only [Value.slice.injEq] at h1; omega
 have KN : cap <= maxLen := by
  rcases h.rg.2 with ⟨h1, h2⟩ | ⟨g', cap', cur, h1, _, _, _, h3, _⟩
  ·omega
  ·simp only [Value.slice.injEq] at h1; omega
 unfold maxLen at KN
 have hs1 := h.Cc { m with live := m.live - r.cells } 9 (.int .i64 (m.live - r.cells)) rfl rfl rfl rfl
 have hs2 := hs1.2.VN rfl h1
 have pV : Hid _ := (hs1.1.trans hs2.1).drew
 have lR : Hid _ := hs2.2.drew
 clear h hs1 hs2 hr hlast hfin hb q1 q2 q3 q4 q5
 simp only at pV lR
 obtain ⟨n, hn⟩ : ∃ n, n = m.regs.length - 1 := ⟨_, rfl⟩
 have eC : m.regs.length = n + 1 := by omega
 rw [<- hn] at c2
 rw [eC] at pV lR y7 hl hcap h1
 simp only [Nat.add_sub_cancel] at pV lR
 rw [eC]
 clear hn eC
 generalize m.live = lv at *
 generalize r.cells = rc at *
 unfold ptr
 go_enter Tryz.func156, Tryz.ntmps156
 go_wp2
 go_region
 all_goals
  go_wp2
  refine bodyPost_end (v := .tuple #[]) (by simp [results, Tryz.results156, go_sem]) rfl ⟨rfl, _, pV.out, lR.out⟩
theorem Cg {α : Type} (f : α -> List Value) (s : Nat) (hs : ∀ x, (f x).length = s) (l : List α) : (l.flatMap f).length = l.length * s := by
 induction l with
 | nil => simp
 | cons x l ih => rw [List.flatMap_cons, List.length_append, hs, ih, List.length_cons, Nat.succ_mul]; omega
theorem KO {α : Type} (f : α -> List Value) (s : Nat) (hs : ∀ x, (f x).length = s) (l : List α) (k j : Nat) (x y : α) (v : Value) (hx : l[k]? = some x) (hj : j < s) (hf : f y = (f x).set j v) : (l.flatMap f).set (k * s + j) v = (l.set k y).flatMap f := by
 have hk := (List.getElem?_eq_some_iff.1 hx).1
 apply List.ext_getElem?
 intro i
 have Zb := Nat.div_add_mod' i s
 have UM := Nat.mod_lt i (show 0 < s by omega)
 have key := jW f s hs (l.set k y) (i / s) (i % s) UM
 have El := jW f s hs l (i / s) (i % s) UM
 rw [Zb] at key El
 rw [key]
 by_cases hik : i / s = k
 ·rw [hik] at Zb El ⊢
  rw [List.getElem?_set_self hk, Option.bind_some, hf]
  by_cases hij : i % s = j
  ·rw [hij, List.getElem?_set_self (by rw [hs]; exact hj)]
   rw [<- Zb, hij, List.getElem?_set_self]
   rw [Cg f s hs]
   calc k * s + j < k * s + s := by omega
    _ = (k + 1) * s := by rw [Nat.succ_mul]
    _ <= l.length * s := Nat.mul_le_mul_right s hk
  ·rw [List.getElem?_set_ne (by omega), List.getElem?_set_ne (by omega), El, hx]; rfl
 ·have hne : k * s + j ≠ i := by
   intro e
   apply hik
   rw [<- e, Nat.mul_comm, Nat.mul_add_div (by omega), Nat.div_eq_of_lt hj, Nat.add_zero]
  rw [List.getElem?_set_ne hne, El, List.getElem?_set_ne (fun e => hik e.symm)]
theorem gR.Zc {mb : Nat} {w : World} {tn aM : Value} {fuel : Nat} {nv cv : Value} {m : MM} {g cap : Nat} (h : gR mb w tn aM fuel nv cv (.slice (some ⟨g, 0, none⟩) m.regs.length cap) m) (k : Nat) (r : MR) (hk : m.regs[k]? = some r) :
  bu mb mb w (w.setCell ⟨g, k * 3 + 2, none⟩ (.int .i64 ((r.cells + 1 : Nat) : Int))) nv cv (.slice (some ⟨g, 0, none⟩) m.regs.length cap) nv cv (.slice (some ⟨g, 0, none⟩) m.regs.length cap) /\
  gR mb (w.setCell ⟨g, k * 3 + 2, none⟩ (.int .i64 ((r.cells + 1 : Nat) : Int))) tn aM fuel nv cv (.slice (some ⟨g, 0, none⟩) m.regs.length cap) { m with regs := m.regs.set k { r with cells := r.cells + 1 } } := by
 have nI : g ≠ mb := fun e => h.ry (by rw [e]; rfl)
 have kp : ∀ k', k' ≠ g -> (w.setCell ⟨g, k * 3 + 2, none⟩ (.int .i64 ((r.cells + 1 : Nat) : Int))).heap[k']? = w.heap[k']? := fun k' hk => ak _ _ (by simpa using hk)
 have h2 := (h.rg.stored (k * 3 + 2) (.int .i64 ((r.cells + 1 : Nat) : Int))).1
 rw [KO Aj 3 (fun _ => rfl) m.regs k 2 r { r with cells := r.cells + 1 } _ hk (by omega) rfl] at h2
 refine ⟨⟨rfl, rfl, rfl, by simp only [World.setCell, Array.size_modify]; omega, fun k' _ _ _ _ _ hs => kp k' (fun e => hs (by rw [e]; rfl)), fun _ h => Or.inl h, fun _ h => Or.inl h, fun _ h => Or.inl h⟩, ?_⟩
 exact ⟨by rw [kp mb (fun e => nI e.symm)]; exact h.y, ax h.nm (fun k' hk => kp k' (fun e => h.nr k' hk (by rw [e]; rfl))), ax h.cl (fun k' hk => kp k' (fun e => h.cr k' hk (by rw [e]; rfl))), by simp only [List.length_set]; exact h2, h.ny, h.cy, h.ry, h.nc, h.nr, h.cr⟩
theorem Tryz.Ie : (Tryz.prog.info? 219).map (fun i => (i.zero, i.size, i.bytes)) = some (some (.agg #[.bool false, .int .i64 0, .bool false, .int .i64 0, .int .i64 0, .int .i64 0]), 6, 48) := by kernel_rfl
theorem Tryz.KP : Tryz.prog.underlying 166 = some (.slice 219) := by kernel_rfl
theorem R2 (c : MC) : ∀ u ∈ Ic c, u.oneCell' = true := by intro u hu; simp only [Ic, List.mem_cons, List.not_mem_nil, or_false] at hu; rcases hu with rfl | rfl | rfl | rfl | rfl | rfl <;> rfl
theorem gR.Zd {mb : Nat} {w W0 w' : World} {tn aM : Value} {fuel : Nat} {nv cv rv : Value} {m : MM} (h : gR mb w tn aM fuel nv cv rv m) (r : MC) {g cap : Nat} (hW : Below w.heap.size w W0) (hg : W0.grownBy w' cv.ownBlock)
  (hown : w'.ownsRow 0 219 6 (.slice (some ⟨g, 0, none⟩) (m.cells.length + 1) cap) (m.cells.length + 1) (m.cells.flatMap Ic ++ Ic r)) (gP : cv.ownBlock = some g \/ W0.heap.size <= g) :
  bu mb mb w (w'.setCell ⟨mb, 6, none⟩ (.slice (some ⟨g, 0, none⟩) (m.cells.length + 1) cap)) nv cv rv nv (.slice (some ⟨g, 0, none⟩) (m.cells.length + 1) cap) rv /\
  gR mb (w'.setCell ⟨mb, 6, none⟩ (.slice (some ⟨g, 0, none⟩) (m.cells.length + 1) cap)) tn aM fuel nv (.slice (some ⟨g, 0, none⟩) (m.cells.length + 1) cap) rv { m with cells := m.cells ++ [r] } := by
 obtain ⟨l1, l2, l3, l4⟩ := h.slt
 have lh := hW.size
 have hgs := hg.size
 have yW : W0.heap[mb]? = some (.cells (lz tn aM fuel nv cv rv m) 169 (0, 0)) := by rw [hW.block mb l4]; exact h.y
 have yw := cu hg yW h.cy
 have nI : g ≠ mb := by
  rcases gP with e | e
  ·intro e'; rw [e'] at e; exact h.cy e
  ·omega
 have kp : ∀ k, k < w.heap.size -> k ≠ mb -> cv.ownBlock ≠ some k -> (w'.setCell ⟨mb, 6, none⟩ (.slice (some ⟨g, 0, none⟩) (m.cells.length + 1) cap)).heap[k]? = w.heap[k]? := by
  intro k hk hkp hne
  rw [ak _ _ (by simpa using hkp), hg.block k (by omega) (fun e => hne e.symm), hW.block k hk]
 refine ⟨⟨hg.os.trans hW.os, hg.tape.trans hW.tape, hg.output.trans hW.output, by simp only [World.setCell, Array.size_modify]; omega, fun k hk hp _ hs hn ho => kp k hk hp hn, fun _ h => Or.inl h, fun g' hg' => by simp only [Value.ownBlock, Option.some.injEq] at hg'; subst hg'; rcases gP with e | e; exact Or.inl e; exact Or.inr (by omega), fun _ h => Or.inl h⟩, ?_⟩
 refine ⟨az yw 6 _, ax h.nm (fun k hk => kp k (l1 k hk) (fun e => h.ny (by rw [hk, e])) (fun e => h.nc k hk e)),
  by have := ax (w' := w'.setCell ⟨mb, 6, none⟩ (.slice (some ⟨g, 0, none⟩) (m.cells.length + 1) cap)) hown (fun k hk => by simp only [Value.ownBlock, Option.some.injEq] at hk; subst hk; exact ak _ _ (by simpa using nI)); simpa using this,
  ax h.rg (fun k hk => kp k (l3 k hk) (fun e => h.ry (by rw [hk, e])) (fun e => h.cr.symm k hk e)), h.ny, by simp only [Value.ownBlock, ne_eq, Option.some.injEq]; exact nI, h.ry, (fun k hk hk' => by
   simp only [Value.ownBlock, Option.some.injEq] at hk'
   rcases gP with e | e
   ·rw [hk'] at e; exact h.nc k hk e
   ·have := l1 k hk; omega), h.nr, (fun k hk hk' => by
   simp only [Value.ownBlock, Option.some.injEq] at hk
   rcases gP with e | e
   ·rw [hk] at e; exact h.cr.symm k hk' e
   ·have := l3 k hk'; omega)⟩
theorem Ch (l : List MR) (k : Int) : ∀ i, jw l k i <= i
 | 0 => Nat.le_refl _
 | i + 1 => by
  simp only [jw]
  split
  ·exact Nat.le_refl _
  ·exact Nat.le_succ_of_le (Ch l k i)
theorem wg {w : World} {b : Nat} {v : MV} (h : w.heap[b]? = some (.cells #[.bool v.c, .int .i64 v.n] 171)) : w.cell? ⟨b, 0, none⟩ = some (.bool v.c) /\ w.cell? ⟨b, 1, none⟩ = some (.int .i64 v.n) := ⟨by rw [aa h]; rfl, by rw [aa h]; rfl⟩
structure Beside (mb q : Nat) (w : World) (nv cv rv : Value) (o : Obj) : Prop where
 b : w.heap[q]? = some o
 ne : q ≠ mb
 n : nv.ownBlock ≠ some q
 c : cv.ownBlock ≠ some q
 r : rv.ownBlock ≠ some q
theorem Beside.keep {mb b : Nat} {w w' : World} {nv cv rv bw we tS : Value} {o : Obj} (h : Beside mb b w nv cv rv o) (hf : bu mb mb w w' nv cv rv bw we tS) : Beside mb b w' bw we tS o :=
 have hk := af h.b
 ⟨by rw [hf.blk b hk h.ne h.ne h.n h.c h.r]; exact h.b, h.ne, fun e => by
  rcases hf.s b e with e | e
  ·exact h.n e
  ·omega, fun e => by
  rcases hf.n b e with e | e
  ·exact h.c e
  ·omega, fun e => by
  rcases hf.o b e with e | e
  ·exact h.r e
  ·omega⟩
theorem Beside.new {mb : Nat} {w W : World} {tn aM : Value} {fuel : Nat} {nv cv rv : Value} {m : MM} (h : gR mb w tn aM fuel nv cv rv m) {b : Nat} {o : Obj} (hb : W.heap[b]? = some o) (hw : w.heap.size <= b) : Beside mb b W nv cv rv o := by
 obtain ⟨l1, l2, l3, l4⟩ := h.slt
 exact ⟨hb, by omega, fun e => by have := l1 _ e; omega, fun e => by have := l2 _ e; omega, fun e => by have := l3 _ e; omega⟩
theorem gR.beside {mb q : Nat} {w : World} {tn aM : Value} {fuel : Nat} {nv cv rv : Value} {m : MM} (h : gR mb w tn aM fuel nv cv rv m) (h1 : q ≠ mb) (h2 : nv.ownBlock ≠ some q) (h3 : cv.ownBlock ≠ some q) (h4 : rv.ownBlock ≠ some q) (i : Nat) (u : Value) : gR mb (w.setCell ⟨q, i, none⟩ u) tn aM fuel nv cv rv m := by
 have kp : ∀ k, k ≠ q -> (w.setCell ⟨q, i, none⟩ u).heap[k]? = w.heap[k]? := fun k hk => ak _ _ (by simpa using hk)
 exact ⟨by rw [kp mb (fun e => h1 e.symm)]; exact h.y, ax h.nm (fun k hk => kp k (fun e => h2 (by rw [hk, e]))), ax h.cl (fun k hk => kp k (fun e => h3 (by rw [hk, e]))), ax h.rg (fun k hk => kp k (fun e => h4 (by rw [hk, e]))), h.ny, h.cy, h.ry, h.nc, h.nr, h.cr⟩
theorem Ci (mb : Nat) (w : World) (tn aM : Value) (fuel : Nat) (nv cv rv : Value) (m : MM) (k : Int) (a b : MV) (h1 : 1 <= m.regs.length) (hf : fuel <= 20000) (hb : mR fuel m) (h : gR mb w tn aM fuel nv cv rv m) :
  Calls Tryz.prog 184 #[ptr mb, .int .i64 k, lf a, lf b] w fun e w' => e = .returned (lf (m.aZ k a b).1) /\ ∃ we, bu mb mb w w' nv cv rv nv we rv /\ gR mb w' tn aM fuel nv we rv (m.aZ k a b).2 := by
 obtain ⟨i0, hi, hz0, hz1, hz2⟩ := info_parts Tryz.Ie
 have HI : Hid _ := hi
 have pq : Hid _ := hz0
 have pz : Hid _ := hz1
 have pF : Hid _ := hz2
 clear hi hz0 hz1 hz2
 have Qq : m.home k < m.regs.length := by have := Ch m.regs k (m.regs.length - 1); unfold MM.home; omega
 obtain ⟨r, hr⟩ : ∃ r, m.regs[m.home k]? = some r := ⟨_, List.getElem?_eq_getElem Qq⟩
 have ef : m.aZ k a b = (⟨true, m.cells.length⟩, { m with regs := m.regs.set (m.home k) { r with cells := r.cells + 1 }, cells := m.cells ++ [⟨a, b, m.home k, r.gb⟩], live := m.live + 1, most := if m.most < m.live + 1 then m.live + 1 else m.most }) := by unfold MM.aZ; rw [hr]
 rw [ef]
 obtain ⟨mo, R3⟩ : ∃ mo, mo = if m.most < m.live + 1 then m.live + 1 else m.most := ⟨_, rfl⟩
 rw [<- R3]
 have XV : Hid _ := R3
 clear R3
 dsimp only
 have q1 := hb.live; have q2 := hb.sum; have q3 := hb.cells; have q4 := hb.steps; have q5 := hb.most; have hrl := hb.regs
 have q6 : r.cells <= ik m.regs := by
  have := nS m.regs _ r ⟨0, 0, 0⟩ hr
  simp only at this; omega
 have hlv : 0 <= m.live /\ m.live <= 20000 := by omega
 have hmo : 0 <= m.most /\ m.most <= 20000 := by omega
 have hrc : r.cells <= 20000 := by omega
 have ui : m.cells.length <= 20000 := by omega
 have Ze := fun W (hW : Below w.heap.size w W) => En mb W _ _ _ _ _ _ m k h1 hrl (h.below hW)
 obtain ⟨H, hH⟩ : ∃ H, m.home k = H := ⟨_, rfl⟩
 rw [hH] at Ze Qq hr ⊢
 obtain ⟨g, cap, rfl⟩ := jd h.rg (by omega)
 obtain ⟨A, hA⟩ : ∃ A : Obj, A = .cells #[.bool a.c, .int .i64 a.n] 171 := ⟨_, rfl⟩
 obtain ⟨B, hB⟩ : ∃ B : Obj, B = .cells #[.bool b.c, .int .i64 b.n] 171 := ⟨_, rfl⟩
 obtain ⟨R, hR⟩ : ∃ R : Obj, R = .cells #[.bool false, .int .i64 0] 171 := ⟨_, rfl⟩
 obtain ⟨W1, hE⟩ : ∃ W1, W1 = ((w.alloc A).alloc B).alloc R := ⟨_, rfl⟩
 have hW1 : Below w.heap.size w W1 := by rw [hE]; exact aE (aE (aE (Below.refl _ _) _) _) _
 have P8 : W1.heap[w.heap.size]? = some A := by rw [hE]; exact aL _ (aL _ (aj w A))
 have Jw : W1.heap[w.heap.size + 1]? = some B := by rw [hE]; exact aL _ (by have := aj (w.alloc A) B; simpa using this)
 have hbR : W1.heap[w.heap.size + 1 + 1]? = some R := by rw [hE]; have := aj ((w.alloc A).alloc B) R; simpa using this
 have Ov := Beside.new h P8 (Nat.le_refl _)
 have Ug := Beside.new h Jw (by omega)
 have kM := Beside.new h hbR (by omega)
 have mr := h.below hW1
 have qo : bu mb mb w W1 nv cv (.slice (some ⟨g, 0, none⟩) m.regs.length cap) nv cv (.slice (some ⟨g, 0, none⟩) m.regs.length cap) := bu.below mb mb _ _ _ hW1
 have hset := mr.Zc H r hr
 have VO := Ov.keep hset.1
 have VP := Ug.keep hset.1
 have fN := kM.keep hset.1
 have cO := qo.trans hset.1
 have Zf : Hid _ := Ze
 have vS : Hid _ := cO
 have vT : Hid _ := hset.2
 have Qr : Hid _ := VO
 have Rp : Hid _ := VP
 have jD : Hid _ := fN
 have HW1 : Hid _ := hW1
 obtain ⟨_, _, _, _, _, y7, _⟩ := bt mr.y
 have nu := af mr.y
 have hg : g < W1.heap.size := (mr.rg.lt g rfl).2
 have nI : g ≠ mb := fun e => mr.ry (by rw [e]; rfl)
 have fz := mr.rg.frozenAt (H * 3 + 2)
 obtain ⟨r0, r1, r2⟩ := mC mr.rg H r hr
 clear h hset Ov Ug kM VO VP fN qo cO mr P8 Jw hbR hW1 Ze ef hr hb q1 q2 q3 q4 q5 q6 hH
 unfold ptr at Zf
 unfold ptr lf
 generalize hn : m.regs.length = n at *
 go_enter Tryz.func184, Tryz.ntmps184
 subst hA
 subst hB
 subst hR
 go_wp2_with fail
 rw [<- hE]
 refine Calls.mono (Zf.out _ HW1.out) ?_
 rintro _ w'' ⟨rfl, hw⟩
 have hw' := hw.symm
 subst hw'
 clear hE hw
 go_upto_region 6 with fail
 obtain ⟨W2, tT⟩ : ∃ W2, W2 = W1.setCell ⟨g, H * 3 + 2, none⟩ (.int .i64 ((r.cells : Int) + 1)) := ⟨_, rfl⟩
 rw [<- tT]
 have bf : gR mb W2 tn aM fuel nv cv (.slice (some ⟨g, 0, none⟩) n cap) { m with regs := m.regs.set H { r with cells := r.cells + 1 } } := by rw [tT]; exact vT.out
 have cO : bu mb mb w W2 nv cv (.slice (some ⟨g, 0, none⟩) n cap) nv cv (.slice (some ⟨g, 0, none⟩) n cap) := by rw [tT]; exact vS.out
 have Ov : Beside mb w.heap.size W2 nv cv (.slice (some ⟨g, 0, none⟩) n cap) (.cells #[.bool a.c, .int .i64 a.n] 171) := by rw [tT]; exact Qr.out
 have Ug : Beside mb (w.heap.size + 1) W2 nv cv (.slice (some ⟨g, 0, none⟩) n cap) (.cells #[.bool b.c, .int .i64 b.n] 171) := by rw [tT]; exact Rp.out
 have kM : Beside mb (w.heap.size + 1 + 1) W2 nv cv (.slice (some ⟨g, 0, none⟩) n cap) (.cells #[.bool false, .int .i64 0] 171) := by rw [tT]; exact jD.out
 clear tT vT vS Qr Rp jD HW1 Zf y7 r0 r1 r2 fz nu hg
 have VM : w.heap.size <= w.heap.size + 1 + 1 := by omega
 generalize w.heap.size + 1 + 1 = q at *
 obtain ⟨a0, a1⟩ := wg Ov.b
 obtain ⟨b0, b1⟩ := wg Ug.b
 have hla := af Ov.b
 have hlb := af Ug.b
 obtain ⟨_, _, _, _, y6, _, _, _, _⟩ := bt bf.y
 have nu := af bf.y
 obtain ⟨C, hC⟩ : ∃ C : Obj, C = .cells #[.bool a.c, .int .i64 a.n, .bool b.c, .int .i64 b.n, .int .i64 H, .int .i64 r.gb] 219 := ⟨_, rfl⟩
 have hW : Below W2.heap.size W2 (W2.alloc C).drew := rI W2 C
 have HW : Hid _ := hW
 have dS : Hid ((W2.alloc C).drew.ownsRow 0 219 6 cv m.cells.length (m.cells.flatMap Ic)) := aA bf.cl hW
 have xX : Hid (∀ (j : Nat) (u : Value), (Ic ⟨a, b, H, r.gb⟩)[j]? = some u -> (W2.alloc C).drew.cell? ((⟨W2.heap.size, 0, none⟩ : Addr).add j) = some u) := by
  intro j u hj
  have hq := bH W2 (Ic ⟨a, b, H, r.gb⟩) 219 j
  rw [<- hj, <- hq, hC]; rfl
 have Dw : Hid ((W2.alloc C).drew.heap[mb]? = some (.cells (lz tn aM fuel nv cv (.slice (some ⟨g, 0, none⟩) n cap) { m with regs := m.regs.set H { r with cells := r.cells + 1 } }) 169 (0, 0))) := by
  show (W2.alloc C).drew.heap[mb]? = _
  rw [hW.block mb nu]; exact bf.y
 have HCY : Hid _ := bf.cy
 have vT : Hid _ := bf
 have vS : Hid _ := cO
 have jD : Hid _ := kM
 clear bf cO Ov Ug kM hW
 subst hC
 go_region_law (refine rK rfl (.tmp 45) (.tmp 51) 166 rfl 219 i0 _ 6 48 Tryz.KP HI.out pq.out pz.out pF.out rfl (by decide) cv m.cells.length (m.cells.flatMap Ic) (by simp [Act.eval]) dS.out ⟨W2.heap.size, 0, none⟩ 1 1 (Ic ⟨a, b, H, r.gb⟩) (by simp [Act.eval]) rfl xX.out (R2 _) (by decide) (by unfold maxLen; omega) (by omega) ?_; intro g' cap' w' hown hgrow gP; have nU := cu hgrow Dw.out HCY.out; have c6 : w'.cell? ⟨mb, 6, none⟩ = some cv := (by rw [aa nU]; rfl); have f6 := ag nU 6)
 all_goals
  have hadd := gR.Zd vT.out ⟨a, b, H, r.gb⟩ HW.out hgrow hown gP
  have bM := vS.out.trans hadd.1
  have Ig := jD.out.keep hadd.1
  have dV := hadd.2
  clear hadd hown hgrow gP nU c6 f6 vT vS jD HW dS xX Dw HCY HI pq pz pF a0 a1 b0 b1 y6
  generalize w'.setCell ⟨mb, 6, none⟩ (.slice (some ⟨g', 0, none⟩) (m.cells.length + 1) cap') = W3 at bM Ig dV ⊢
  have y9 : W3.cell? ⟨mb, 9, none⟩ = some (.int .i64 m.live) := (bt dV.y).2.2.2.2.2.2.2.1
  have f9 : W3.frozen? ⟨mb, 9, none⟩ = false := ag dV.y 9
  have Ow := af dV.y
  have bQ := dV.Cc { m with regs := m.regs.set H { r with cells := r.cells + 1 }, cells := m.cells ++ [⟨a, b, H, r.gb⟩], live := m.live + 1 } 9 (.int .i64 (m.live + 1)) rfl rfl rfl rfl
  have Kt : Hid _ := bM.trans bQ.1
  have Ih : Hid _ := Ig.keep bQ.1
  have H0 : Hid _ := bQ.2
  have VQ : (W3.setCell ⟨mb, 9, none⟩ (.int .i64 (m.live + 1))).cell? ⟨mb, 10, none⟩ = some (.int .i64 m.most) := (bt bQ.2.y).2.2.2.2.2.2.2.2
  have hy9 : (W3.setCell ⟨mb, 9, none⟩ (.int .i64 (m.live + 1))).cell? ⟨mb, 9, none⟩ = some (.int .i64 (m.live + 1)) := (bt bQ.2.y).2.2.2.2.2.2.2.1
  clear bM Ig dV bQ
  go_upto_region 8 with fail
  obtain ⟨W4, hE4⟩ : ∃ W4, W4 = W3.setCell ⟨mb, 9, none⟩ (.int .i64 (m.live + 1)) := ⟨_, rfl⟩
  rw [<- hE4] at Kt Ih H0 VQ hy9 ⊢
  clear hE4 y9 f9 Ow
  have Zg := af H0.out.y
  go_quiet (fail)
  rename_i nq
  obtain ⟨W5, tU⟩ : ∃ W5, W5 = W4.drewN nq := ⟨_, rfl⟩
  have Ox : Below W4.heap.size W4 W5 := by rw [tU]; exact il (Below.refl _ _)
  rw [<- tU]
  have mw := H0.out.below Ox
  have nQ := Kt.out.trans (bu.below mb mb _ _ _ Ox)
  have aG := Ih.out.keep (bu.below mb mb _ _ _ Ox)
  clear tU Ox H0 Kt Ih hy9 VQ Zg
  have z9 : W5.cell? ⟨mb, 9, none⟩ = some (.int .i64 (m.live + 1)) := (bt mw.y).2.2.2.2.2.2.2.1
  have z10 : W5.cell? ⟨mb, 10, none⟩ = some (.int .i64 m.most) := (bt mw.y).2.2.2.2.2.2.2.2
  have z6 : W5.cell? ⟨mb, 6, none⟩ = some (.slice (some ⟨g', 0, none⟩) (m.cells.length + 1) cap') := (bt mw.y).2.2.2.2.1
  have g10 : W5.frozen? ⟨mb, 10, none⟩ = false := ag mw.y 10
  have aaM := af mw.y
  have x0 : W5.cell? ⟨q, 0, none⟩ = some (.bool false) := by rw [aa aG.b]; rfl
  have x1 : W5.cell? ⟨q, 1, none⟩ = some (.int .i64 0) := by rw [aa aG.b]; rfl
  have g0 : W5.frozen? ⟨q, 0, none⟩ = false := ag aG.b 0
  have g1 : W5.frozen? ⟨q, 1, none⟩ = false := ag aG.b 1
  have wh := af aG.b
  have Zh : q ≠ mb := aG.ne
  have hmq : mb ≠ q := fun e => Zh e.symm
  have BU : Hid _ := mw
  have ye : Hid _ := nQ
  have cZ : Hid _ := aG
  clear mw nQ aG
  by_cases hq : m.most < m.live + 1
  ·have R4 : Hid (mo = m.live + 1) := by have := XV.out; rw [if_pos hq] at this; exact this
   clear XV
   go_wp2
   have Zi := BU.out.Cc { m with regs := m.regs.set H { r with cells := r.cells + 1 }, cells := m.cells ++ [⟨a, b, H, r.gb⟩], live := m.live + 1, most := m.live + 1 } 10 (.int .i64 (m.live + 1)) rfl rfl rfl rfl
   have aS := cZ.out.keep Zi.1
   have jn := (Zi.2.beside aS.ne aS.n aS.c aS.r 0 (.bool true)).beside aS.ne aS.n aS.c aS.r 1 (.int .i64 m.cells.length)
   have iq := ((ye.out.trans Zi.1).upto (aw (aw (Below.refl _ _) ⟨q, 0, none⟩ VM (.bool true)) ⟨q, 1, none⟩ VM (.int .i64 m.cells.length)))
   refine bodyPost_ret (v := .agg #[.bool true, .int .i64 m.cells.length]) (by simp [results, Tryz.results184, go_sem, x0, x1]) rfl ⟨rfl, _, iq, ?_⟩
   rw [R4.out]; exact jn
  ·have R4 : Hid (mo = m.most) := by have := XV.out; rw [if_neg hq] at this; exact this
   clear XV
   go_wp2
   have aS := cZ.out
   have jn := (BU.out.beside aS.ne aS.n aS.c aS.r 0 (.bool true)).beside aS.ne aS.n aS.c aS.r 1 (.int .i64 m.cells.length)
   have iq := (ye.out.upto (aw (aw (Below.refl _ _) ⟨q, 0, none⟩ VM (.bool true)) ⟨q, 1, none⟩ VM (.int .i64 m.cells.length)))
   refine bodyPost_ret (v := .agg #[.bool true, .int .i64 m.cells.length]) (by simp [results, Tryz.results184, go_sem, x0, x1]) rfl ⟨rfl, _, iq, ?_⟩
   rw [R4.out]; exact jn
end Go.Proofs.YtpicaknklgccoaaGreatDoor
