import Derived.Test.YtpicaknklgccoaaGreatDoorS21
set_option maxHeartbeats 4000000
set_option maxRecDepth 100000
namespace Go.Proofs.YtpicaknklgccoaaGreatDoor
open Go.RowKit
structure Cj (mb B : Nat) (w : World) (nv cv rv tn aM : Value) (ns : List NR) (op : List Int) : Prop where
 b : B <= mb
 s : B <= w.heap.size
 n : ∀ g, nv.ownBlock = some g -> B <= g
 c : ∀ g, cv.ownBlock = some g -> B <= g
 r : ∀ g, rv.ownBlock = some g -> B <= g
 tree : ∀ w', Below B w w' -> bh w' tn aM ns op
 len : ns.length <= 9000
theorem Cj.Qs {mb B : Nat} {w w' : World} {nv cv rv bw we tS tn aM : Value} {ns : List NR} {op : List Int} (h : Cj mb B w nv cv rv tn aM ns op) (hf : bu mb mb w w' nv cv rv bw we tS) : Below B w w' :=
 have hb := h.b
 have hs := h.s
 ⟨hf.os, hf.tape, hf.output, hf.size, fun k hk => hf.blk k (by omega) (by omega) (by omega) (fun e => by have := h.n k e; omega) (fun e => by have := h.c k e; omega) (fun e => by have := h.r k e; omega)⟩
theorem Cj.on {mb B : Nat} {w w' : World} {nv cv rv bw we tS tn aM : Value} {ns : List NR} {op : List Int} (h : Cj mb B w nv cv rv tn aM ns op) (hf : bu mb mb w w' nv cv rv bw we tS) : Cj mb B w' bw we tS tn aM ns op := by
 have hs := h.s
 refine ⟨h.b, Nat.le_trans h.s hf.size, fun g hg => ?_, fun g hg => ?_, fun g hg => ?_, fun w2 h2 => h.tree w2 ((h.Qs hf).trans h2), h.len⟩
 ·rcases hf.s g hg with e | e
  ·exact h.n g e
  ·omega
 ·rcases hf.n g hg with e | e
  ·exact h.c g e
  ·omega
 ·rcases hf.o g hg with e | e
  ·exact h.r g e
  ·omega
structure iL (mb B : Nat) (w : World) (tn aM : Value) (fuel : Nat) (nv cv rv : Value) (m : MM) (ns : List NR) (op : List Int) (c : Nat) : Prop where
 i : gR mb w tn aM fuel nv cv rv m
 bd : mR fuel m
 env : Cj mb B w nv cv rv tn aM ns op
 r1 : 1 <= m.regs.length
 rl : m.regs.length + c <= 20000
 ob : m.opened + 20000 * (fuel - m.steps) + c <= 3000000000
 nl : m.named.length = ns.length
 fu : fuel <= 20000
theorem iL.on {mb B : Nat} {w w' : World} {tn aM : Value} {fuel : Nat} {nv cv rv bw we tS : Value} {m m' : MM} {ns : List NR} {op : List Int} {c c' a s : Nat} (h : iL mb B w tn aM fuel nv cv rv m ns op c) (hf : bu mb mb w w' nv cv rv bw we tS)
  (hi : gR mb w' tn aM fuel bw we tS m') (hb : mR fuel m') (hg : ep a s m m') (hc : a + c' <= c) : iL mb B w' tn aM fuel bw we tS m' ns op c' := by
 have h1 := h.ob; have h2 := hg.op; have h3 := hg.st; have h4 := hb.steps; have h5 := h.rl; have h6 := h.r1
 exact ⟨hi, hb, h.env.on hf, by rw [hg.rg]; exact h6, by rw [hg.rg]; omega, by omega, by rw [hg.nm]; exact h.nl, h.fu⟩
theorem iL.below {mb B : Nat} {w w' : World} {tn aM : Value} {fuel : Nat} {nv cv rv : Value} {m : MM} {ns : List NR} {op : List Int} {c : Nat} (h : iL mb B w tn aM fuel nv cv rv m ns op c) (hb : Below w.heap.size w w') : iL mb B w' tn aM fuel nv cv rv m ns op c :=
 ⟨h.i.below hb, h.bd, h.env.on (bu.below mb mb nv cv rv hb), h.r1, h.rl, h.ob, h.nl, h.fu⟩
theorem iL.less {mb B : Nat} {w : World} {tn aM : Value} {fuel : Nat} {nv cv rv : Value} {m : MM} {ns : List NR} {op : List Int} {c c' : Nat} (h : iL mb B w tn aM fuel nv cv rv m ns op c) (hc : c' <= c) : iL mb B w tn aM fuel nv cv rv m ns op c' :=
 ⟨h.i, h.bd, h.env, h.r1, by have := h.rl; omega, by have := h.ob; omega, h.nl, h.fu⟩
def fO (mb : Nat) (w : World) (tn aM : Value) (fuel : Nat) (nv cv rv : Value) (x : MV × MM) (e : Ending) (w' : World) : Prop :=
 e = .returned (lf x.1) /\ ∃ bw we tS, bu mb mb w w' nv cv rv bw we tS /\ gR mb w' tn aM fuel bw we tS x.2
def gf (mb B : Nat) (tn aM : Value) (fuel : Nat) (ns : List NR) (op : List Int) (i : Int) (c : Nat) (f : MM -> MV × MM) : Prop :=
 ∀ (w : World) (nv cv rv : Value) (m : MM), iL mb B w tn aM fuel nv cv rv m ns op c -> vZ fuel c m (f m) /\ Calls Tryz.prog 98 #[ptr mb, .int .i64 i] w (fO mb w tn aM fuel nv cv rv (f m))
theorem Ck (mb B : Nat) (tn aM : Value) (fuel : Nat) (ns : List NR) (op : List Int) (n : NR) (ca cb : Nat) (fa fb : MM -> MV × MM) (oA : -1 <= n.p0 /\ n.p0 <= 9000)
  (ha : gf mb B tn aM fuel ns op n.p0 ca fa) (hb : gf mb B tn aM fuel ns op n.p1 cb fb)
  (w : World) (nv cv rv : Value) (m : MM) (h : iL mb B w tn aM fuel nv cv rv m ns op (ca + cb)) :
  Calls Tryz.prog 159 #[ptr mb, aI n] w (fO mb w tn aM fuel nv cv rv (fb ((fa m).2.name n.p0 (fa m).1))) := by
 obtain ⟨N, hN⟩ : ∃ N : Obj, N = .cells #[.int .i64 n.form, .int .i64 n.at_, .int .i64 n.aO, .int .i64 n.num, .string (bs n.word), .int .i64 n.region, .int .i64 n.source, .int .i64 n.p0, .int .i64 n.p1, .int .i64 n.p2] 160 := ⟨_, rfl⟩
 obtain ⟨R, hR⟩ : ∃ R : Obj, R = .cells #[.bool false, .int .i64 0] 171 := ⟨_, rfl⟩
 obtain ⟨W1, hE⟩ : ∃ W1, W1 = (w.alloc N).alloc R := ⟨_, rfl⟩
 have hW1 : Below w.heap.size w W1 := by rw [hE]; exact aE (aE (Below.refl _ _) _) _
 have h1 := h.below hW1
 have oL : Beside mb w.heap.size W1 nv cv rv (bR n) := Beside.new h.i (by rw [hE, hN]; exact aL _ (aj w _)) (Nat.le_refl _)
 have kM : Beside mb (w.heap.size + 1) W1 nv cv rv (.cells #[.bool false, .int .i64 0] 171) := Beside.new h.i (by rw [hE, hR]; have := aj (w.alloc N) (.cells #[.bool false, .int .i64 0] 171); simpa using this) (by omega)
 have eK := ha W1 nv cv rv m (h1.less (by omega))
 have dO : Hid (bu mb mb w W1 nv cv rv nv cv rv) := bu.below mb mb nv cv rv hW1
 have HA : Hid _ := eK.2
 have HK : Hid _ := eK.1
 have HB : Hid _ := hb
 have H1 : Hid _ := h1
 have ld : Hid _ := oL
 have jD : Hid _ := kM
 have HP : Hid _ := oA
 have fL : w.heap.size <= w.heap.size + 1 := by omega
 clear eK ha hb hW1 h1 oL kM h oA
 unfold ptr at HA
 unfold ptr aI
 go_enter Tryz.func159, Tryz.ntmps159
 subst hN
 subst hR
 go_wp2_with fail
 rw [<- hE]
 refine Calls.mono HA.out ?_
 rintro _ w2 ⟨rfl, cq, ll, jL, hf2, qj⟩
 have dq := ld.out.keep hf2
 have fN := jD.out.keep hf2
 have h2 := H1.out.on (c' := cb) hf2 qj HK.out.1 HK.out.2.2.inner (by omega)
 have iM := HK.out.2.1
 have cj : Hid _ := dO.out.trans hf2
 clear hE hf2 qj ld jD H1 dO HA HK
 generalize fa m = x at *
 generalize w.heap.size + 1 = q at *
 obtain ⟨W3, gS⟩ : ∃ W3, W3 = w2.alloc (.cells #[.bool x.1.c, .int .i64 x.1.n] 171) := ⟨_, rfl⟩
 have hW3 : Below w2.heap.size w2 W3 := by rw [gS]; exact aE (Below.refl _ _) _
 have h3 := h2.below hW3
 have hf3 : bu mb mb w2 W3 cq ll jL cq ll jL := bu.below mb mb cq ll jL hW3
 have rL := dq.keep hf3
 have Ig := fN.keep hf3
 have bq := Cd mb W3 tn aM fuel cq ll jL x.2 n.p0 x.1 (by have := HP.out; omega) (by rw [h3.nl]; exact h3.env.len) h3.i
 have Cm : Hid _ := bq
 have H3 : Hid _ := h3
 have dC : Hid _ := cj.out.trans hf3
 have nV : Hid _ := rL
 have eA : Hid _ := Ig
 have qq : Hid _ := iM
 obtain ⟨_, _, _, _, _, _, _, c7, c8, _⟩ := aC dq.b
 have yf := af dq.b
 clear h3 hf3 rL Ig bq cj hW3 h2 dq fN iM
 unfold ptr lf at Cm
 unfold lf
 go_wp2_with fail
 rw [<- gS]
 refine Calls.mono Cm.out ?_
 rintro _ w4 ⟨rfl, cT, hi4⟩
 have l6 := nV.out.keep cT
 have qt := eA.out.keep cT
 have h4 := H3.out.on (c' := cb) cT hi4 (MM.uO H3.out.bd n.p0 x.1 qq.out) (mB x.2 n.p0 x.1) (by omega)
 have hkb := HB.out w4 cq ll jL _ h4
 have ur : Hid _ := hkb.2
 have js : Hid _ := dC.out.trans cT
 have Ih : Hid _ := qt
 obtain ⟨_, _, _, _, _, _, _, d7, d8, _⟩ := aC l6.b
 have Ep := af l6.b
 clear gS cT hi4 h4 hkb l6 qt nV eA H3 dC Cm qq c7 c8 yf HB HP
 unfold ptr at ur
 go_wp2_with fail
 refine Calls.mono ur.out ?_
 rintro _ w5 ⟨rfl, Er, Zj, Zk, ew, nA⟩
 have aG := Ih.out.keep ew
 have fJ : Hid _ := js.out.trans ew
 have iJ : Hid _ := nA
 have cZ : Hid _ := aG
 have x0 : w5.cell? ⟨q, 0, none⟩ = some (.bool false) := by rw [aa aG.b]; rfl
 have x1 : w5.cell? ⟨q, 1, none⟩ = some (.int .i64 0) := by rw [aa aG.b]; rfl
 have g0 : w5.frozen? ⟨q, 0, none⟩ = false := ag aG.b 0
 have g1 : w5.frozen? ⟨q, 1, none⟩ = false := ag aG.b 1
 have wh := af aG.b
 clear ew nA aG Ih js ur d7 d8 Ep
 generalize fb (x.2.name n.p0 x.1) = y at *
 unfold lf
 go_wp2
 have aS := cZ.out
 have jn := (iJ.out.beside aS.ne aS.n aS.c aS.r 0 (.bool y.1.c)).beside aS.ne aS.n aS.c aS.r 1 (.int .i64 y.1.n)
 have iq := (fJ.out.upto (aw (aw (Below.refl _ _) ⟨q, 0, none⟩ fL (.bool y.1.c)) ⟨q, 1, none⟩ fL (.int .i64 y.1.n)))
 refine bodyPost_ret (v := .agg #[.bool y.1.c, .int .i64 y.1.n]) (by simp [results, Tryz.results159, go_sem, x0, x1]) rfl ⟨rfl, _, _, _, iq, jn⟩
theorem Ak (mb B : Nat) (tn aM : Value) (fuel : Nat) (ns : List NR) (op : List Int) (n : NR) (ca cb : Nat) (fa fb : MM -> MV × MM) (ha : gf mb B tn aM fuel ns op n.p0 ca fa) (hb : gf mb B tn aM fuel ns op n.p1 cb fb)
  (w : World) (nv cv rv : Value) (m : MM) (h : iL mb B w tn aM fuel nv cv rv m ns op (ca + cb)) :
  Calls Tryz.prog 160 #[ptr mb, aI n] w (fO mb w tn aM fuel nv cv rv ((fb (fa m).2).2.aZ n.region (fa m).1 (fb (fa m).2).1)) := by
 obtain ⟨N, hN⟩ : ∃ N : Obj, N = .cells #[.int .i64 n.form, .int .i64 n.at_, .int .i64 n.aO, .int .i64 n.num, .string (bs n.word), .int .i64 n.region, .int .i64 n.source, .int .i64 n.p0, .int .i64 n.p1, .int .i64 n.p2] 160 := ⟨_, rfl⟩
 obtain ⟨R, hR⟩ : ∃ R : Obj, R = .cells #[.bool false, .int .i64 0] 171 := ⟨_, rfl⟩
 obtain ⟨W1, hE⟩ : ∃ W1, W1 = (w.alloc N).alloc R := ⟨_, rfl⟩
 have hW1 : Below w.heap.size w W1 := by rw [hE]; exact aE (aE (Below.refl _ _) _) _
 have h1 := h.below hW1
 have oL : Beside mb w.heap.size W1 nv cv rv (bR n) := Beside.new h.i (by rw [hE, hN]; exact aL _ (aj w _)) (Nat.le_refl _)
 have kM : Beside mb (w.heap.size + 1) W1 nv cv rv (.cells #[.bool false, .int .i64 0] 171) := Beside.new h.i (by rw [hE, hR]; have := aj (w.alloc N) (.cells #[.bool false, .int .i64 0] 171); simpa using this) (by omega)
 have dO : Hid (bu mb mb w W1 nv cv rv nv cv rv) := bu.below mb mb nv cv rv hW1
 have H1 : Hid _ := h1
 have ld : Hid _ := oL
 have jD : Hid _ := kM
 have fL : w.heap.size <= w.heap.size + 1 := by omega
 have eK := ha W1 nv cv rv m (h1.less (by omega))
 have HA : Hid _ := eK.2
 have HK : Hid _ := eK.1
 skip
 clear eK ha hW1 h1 oL kM h
 unfold ptr at HA
 unfold ptr aI
 go_enter Tryz.func160, Tryz.ntmps160
 subst hN
 subst hR
 go_wp2_with fail
 rw [<- hE]
 refine Calls.mono HA.out ?_
 rintro _ w2 ⟨rfl, cq, ll, jL, hf2, qj⟩
 have dq := ld.out.keep hf2
 have fN := jD.out.keep hf2
 have h2 := H1.out.on (c' := cb) hf2 qj HK.out.1 HK.out.2.2.inner (by omega)
 have iM := HK.out.2.1
 have cj : Hid _ := dO.out.trans hf2
 clear hE hf2 qj ld jD H1 dO HA HK
 generalize fa m = x at *
 generalize w.heap.size + 1 = q at *
 obtain ⟨W3, gS⟩ : ∃ W3, W3 = w2.alloc (.cells #[.bool x.1.c, .int .i64 x.1.n] 171) := ⟨_, rfl⟩
 have hW3 : Below w2.heap.size w2 W3 := by rw [gS]; exact aE (Below.refl _ _) _
 have h3 := h2.below hW3
 have hf3 : bu mb mb w2 W3 cq ll jL cq ll jL := bu.below mb mb cq ll jL hW3
 have nf : Beside mb w2.heap.size W3 cq ll jL (.cells #[.bool x.1.c, .int .i64 x.1.n] 171) := Beside.new h2.i (by rw [gS]; exact aj w2 _) (Nat.le_refl _)
 have dC : Hid _ := cj.out.trans hf3
 have nV : Hid _ := dq.keep hf3
 have eA : Hid _ := fN.keep hf3
 have nW : Hid _ := nf
 have qq : Hid _ := iM
 have H3 : Hid _ := h3
 obtain ⟨c0, _, _, _, _, c5, _, c7, c8, c9⟩ := aC dq.b
 have yf := af dq.b
 have hkb := hb W3 cq ll jL x.2 (h3.less (by omega))
 have ur : Hid _ := hkb.2
 have nk : Hid _ := hkb.1
 clear h3 hf3 cj hW3 h2 dq fN iM hkb hb nf
 unfold ptr at ur
 unfold lf
 go_wp2_with fail
 rw [<- gS]
 refine Calls.mono ur.out ?_
 rintro _ w4 ⟨rfl, gy, yO, yg, cT, hi4⟩
 have l6 := nV.out.keep cT
 have qt := eA.out.keep cT
 have sP := nW.out.keep cT
 have h4 := H3.out.on (c' := 0) cT hi4 nk.out.1 nk.out.2.2.inner (by omega)
 have Ii := nk.out.2.1
 have js : Hid _ := dC.out.trans cT
 clear gS cT hi4 nV eA nW H3 dC ur nk c0 c5 c7 c8 c9 yf
 generalize fb x.2 = y at *
 generalize w2.heap.size = p at *
 obtain ⟨W5, tU⟩ : ∃ W5, W5 = w4.alloc (.cells #[.bool y.1.c, .int .i64 y.1.n] 171) := ⟨_, rfl⟩
 have vR : Below w4.heap.size w4 W5 := by rw [tU]; exact aE (Below.refl _ _) _
 have h5 := h4.below vR
 have ew : bu mb mb w4 W5 gy yO yg gy yO yg := bu.below mb mb gy yO yg vR
 have nX := qt.keep ew
 obtain ⟨R5, R6⟩ := wg sP.b
 obtain ⟨d0, _, _, _, _, d5, _, d7, d8, d9⟩ := aC l6.b
 have Ep := af l6.b
 have Ij := af sP.b
 have hnc := Ci mb W5 tn aM fuel gy yO yg y.2 n.region x.1 y.1 h5.r1 h5.fu h5.bd h5.i
 have Zl : Hid _ := hnc
 have VR : Hid _ := js.out.trans ew
 have Qt : Hid _ := nX
 clear hnc h5 ew nX vR h4 l6 qt sP Ii js qq
 unfold ptr lf at Zl
 unfold lf
 go_wp2_with fail
 rw [<- tU]
 refine Calls.mono Zl.out ?_
 rintro _ w6 ⟨rfl, cv6, wi, Nb⟩
 have fJ : Hid _ := VR.out.trans wi
 have iJ : Hid _ := Nb
 have aG := Qt.out.keep wi
 have cZ : Hid _ := aG
 have x0 : w6.cell? ⟨q, 0, none⟩ = some (.bool false) := by rw [aa aG.b]; rfl
 have x1 : w6.cell? ⟨q, 1, none⟩ = some (.int .i64 0) := by rw [aa aG.b]; rfl
 have g0 : w6.frozen? ⟨q, 0, none⟩ = false := ag aG.b 0
 have g1 : w6.frozen? ⟨q, 1, none⟩ = false := ag aG.b 1
 have wh := af aG.b
 clear aG wi Nb Zl VR Qt tU
 generalize y.2.aZ n.region x.1 y.1 = z at *
 go_wp2
 have aS := cZ.out
 have jn := (iJ.out.beside aS.ne aS.n aS.c aS.r 0 (.bool z.1.c)).beside aS.ne aS.n aS.c aS.r 1 (.int .i64 z.1.n)
 have iq := (fJ.out.upto (aw (aw (Below.refl _ _) ⟨q, 0, none⟩ fL (.bool z.1.c)) ⟨q, 1, none⟩ fL (.int .i64 z.1.n)))
 refine bodyPost_ret (v := .agg #[.bool z.1.c, .int .i64 z.1.n]) (by simp [results, Tryz.results160, go_sem, x0, x1]) rfl ⟨rfl, _, _, _, iq, jn⟩
theorem Es (mb B : Nat) (tn aM : Value) (fuel : Nat) (ns : List NR) (op : List Int) (n : NR) (ca cb : Nat) (fa fb fc : MM -> MV × MM) (ha : gf mb B tn aM fuel ns op n.p0 ca fa) (hb : gf mb B tn aM fuel ns op n.p1 cb fb) (cc : Nat) (hc : gf mb B tn aM fuel ns op n.p2 cc fc)
  (w : World) (nv cv rv : Value) (m : MM) (h : iL mb B w tn aM fuel nv cv rv m ns op (ca + (cb + cc))) :
  Calls Tryz.prog 162 #[ptr mb, aI n] w (fO mb w tn aM fuel nv cv rv (if (fa m).1.n ≠ 0 then fb (fa m).2 else fc (fa m).2)) := by
 obtain ⟨N, hN⟩ : ∃ N : Obj, N = .cells #[.int .i64 n.form, .int .i64 n.at_, .int .i64 n.aO, .int .i64 n.num, .string (bs n.word), .int .i64 n.region, .int .i64 n.source, .int .i64 n.p0, .int .i64 n.p1, .int .i64 n.p2] 160 := ⟨_, rfl⟩
 obtain ⟨R, hR⟩ : ∃ R : Obj, R = .cells #[.bool false, .int .i64 0] 171 := ⟨_, rfl⟩
 obtain ⟨W1, hE⟩ : ∃ W1, W1 = (w.alloc N).alloc R := ⟨_, rfl⟩
 have hW1 : Below w.heap.size w W1 := by rw [hE]; exact aE (aE (Below.refl _ _) _) _
 have h1 := h.below hW1
 have oL : Beside mb w.heap.size W1 nv cv rv (bR n) := Beside.new h.i (by rw [hE, hN]; exact aL _ (aj w _)) (Nat.le_refl _)
 have kM : Beside mb (w.heap.size + 1) W1 nv cv rv (.cells #[.bool false, .int .i64 0] 171) := Beside.new h.i (by rw [hE, hR]; have := aj (w.alloc N) (.cells #[.bool false, .int .i64 0] 171); simpa using this) (by omega)
 have dO : Hid (bu mb mb w W1 nv cv rv nv cv rv) := bu.below mb mb nv cv rv hW1
 have H1 : Hid _ := h1
 have ld : Hid _ := oL
 have jD : Hid _ := kM
 have fL : w.heap.size <= w.heap.size + 1 := by omega
 have eK := ha W1 nv cv rv m (h1.less (by omega))
 have HA : Hid _ := eK.2
 have HK : Hid _ := eK.1
 obtain ⟨y, hy⟩ : ∃ y, y = if (fa m).1.n ≠ 0 then fb (fa m).2 else fc (fa m).2 := ⟨_, rfl⟩
 rw [<- hy]
 have HY : Hid _ := hy
 clear hy
 clear eK ha hW1 h1 oL kM h
 unfold ptr at HA
 unfold ptr aI
 go_enter Tryz.func162, Tryz.ntmps162
 subst hN
 subst hR
 go_wp2_with fail
 rw [<- hE]
 refine Calls.mono HA.out ?_
 rintro _ w2 ⟨rfl, cq, ll, jL, hf2, qj⟩
 have dq := ld.out.keep hf2
 have fN := jD.out.keep hf2
 have h2 := H1.out.on (c' := (cb + cc)) hf2 qj HK.out.1 HK.out.2.2.inner (by omega)
 have iM := HK.out.2.1
 have cj : Hid _ := dO.out.trans hf2
 clear hE hf2 qj ld jD H1 dO HA HK
 generalize fa m = x at *
 generalize w.heap.size + 1 = q at *
 obtain ⟨W3, gS⟩ : ∃ W3, W3 = w2.alloc (.cells #[.bool x.1.c, .int .i64 x.1.n] 171) := ⟨_, rfl⟩
 have hW3 : Below w2.heap.size w2 W3 := by rw [gS]; exact aE (Below.refl _ _) _
 have h3 := h2.below hW3
 have hf3 : bu mb mb w2 W3 cq ll jL cq ll jL := bu.below mb mb cq ll jL hW3
 have nf : Beside mb w2.heap.size W3 cq ll jL (.cells #[.bool x.1.c, .int .i64 x.1.n] 171) := Beside.new h2.i (by rw [gS]; exact aj w2 _) (Nat.le_refl _)
 have dC : Hid _ := cj.out.trans hf3
 have nV : Hid _ := dq.keep hf3
 have eA : Hid _ := fN.keep hf3
 have nW : Hid _ := nf
 have qq : Hid _ := iM
 have H3 : Hid _ := h3
 obtain ⟨c0, _, _, _, _, c5, _, c7, c8, c9⟩ := aC dq.b
 have yf := af dq.b
 by_cases hq : x.1.n ≠ 0
 ·have VT : y = fb x.2 := by have := HY.out; rw [if_pos hq] at this; exact this
  have hkb := hb W3 cq ll jL x.2 (h3.less (by omega))
  have ur : Hid _ := hkb.2
  rw [<- VT] at ur
  have KL : (x.1.n != 0) = true := by simpa using hq
  clear h3 hf3 cj hW3 h2 dq fN iM hkb hb hc nf VT HY hq
  unfold ptr at ur
  unfold lf
  go_wp2_with fail
  rw [<- gS]
  refine Calls.mono ur.out ?_
  rintro _ w4 ⟨rfl, gy, yO, yg, cT, hi4⟩
  have fJ : Hid _ := dC.out.trans cT
  have iJ : Hid _ := hi4
  have aG := eA.out.keep cT
  have cZ : Hid _ := aG
  have x0 : w4.cell? ⟨q, 0, none⟩ = some (.bool false) := by rw [aa aG.b]; rfl
  have x1 : w4.cell? ⟨q, 1, none⟩ = some (.int .i64 0) := by rw [aa aG.b]; rfl
  have g0 : w4.frozen? ⟨q, 0, none⟩ = false := ag aG.b 0
  have g1 : w4.frozen? ⟨q, 1, none⟩ = false := ag aG.b 1
  have wh := af aG.b
  clear aG cT hi4 ur dC eA nV nW H3 gS c0 c5 c7 c8 c9 yf qq
  unfold lf
  go_wp2
  have aS := cZ.out
  have jn := (iJ.out.beside aS.ne aS.n aS.c aS.r 0 (.bool y.1.c)).beside aS.ne aS.n aS.c aS.r 1 (.int .i64 y.1.n)
  have iq := (fJ.out.upto (aw (aw (Below.refl _ _) ⟨q, 0, none⟩ fL (.bool y.1.c)) ⟨q, 1, none⟩ fL (.int .i64 y.1.n)))
  refine bodyPost_ret (v := .agg #[.bool y.1.c, .int .i64 y.1.n]) (by simp [results, Tryz.results162, go_sem, x0, x1]) rfl ⟨rfl, _, _, _, iq, jn⟩
 ·have VT : y = fc x.2 := by have := HY.out; rw [if_neg hq] at this; exact this
  have hkb := hc W3 cq ll jL x.2 (h3.less (by omega))
  have ur : Hid _ := hkb.2
  rw [<- VT] at ur
  have KL : (x.1.n != 0) = false := by simpa using hq
  clear h3 hf3 cj hW3 h2 dq fN iM hkb hb hc nf VT HY hq
  unfold ptr at ur
  unfold lf
  go_wp2_with fail
  rw [<- gS]
  refine Calls.mono ur.out ?_
  rintro _ w4 ⟨rfl, gy, yO, yg, cT, hi4⟩
  have fJ : Hid _ := dC.out.trans cT
  have iJ : Hid _ := hi4
  have aG := eA.out.keep cT
  have cZ : Hid _ := aG
  have x0 : w4.cell? ⟨q, 0, none⟩ = some (.bool false) := by rw [aa aG.b]; rfl
  have x1 : w4.cell? ⟨q, 1, none⟩ = some (.int .i64 0) := by rw [aa aG.b]; rfl
  have g0 : w4.frozen? ⟨q, 0, none⟩ = false := ag aG.b 0
  have g1 : w4.frozen? ⟨q, 1, none⟩ = false := ag aG.b 1
  have wh := af aG.b
  clear aG cT hi4 ur dC eA nV nW H3 gS c0 c5 c7 c8 c9 yf qq
  unfold lf
  go_wp2
  have aS := cZ.out
  have jn := (iJ.out.beside aS.ne aS.n aS.c aS.r 0 (.bool y.1.c)).beside aS.ne aS.n aS.c aS.r 1 (.int .i64 y.1.n)
  have iq := (fJ.out.upto (aw (aw (Below.refl _ _) ⟨q, 0, none⟩ fL (.bool y.1.c)) ⟨q, 1, none⟩ fL (.int .i64 y.1.n)))
  refine bodyPost_ret (v := .agg #[.bool y.1.c, .int .i64 y.1.n]) (by simp [results, Tryz.results162, go_sem, x0, x1]) rfl ⟨rfl, _, _, _, iq, jn⟩
theorem Cn (mb B : Nat) (tn aM : Value) (fuel : Nat) (ns : List NR) (op : List Int) (n : NR) (hrg : -1 <= n.region /\ n.region <= 9999) (ca : Nat) (fa : MM -> MV × MM) (ha : gf mb B tn aM fuel ns op n.p0 ca fa)
  (w : World) (nv cv rv : Value) (m : MM) (h : iL mb B w tn aM fuel nv cv rv m ns op (1 + ca)) :
  Calls Tryz.prog 129 #[ptr mb, aI n] w (fO mb w tn aM fuel nv cv rv ((fa (m.opn n.region)).1, (fa (m.opn n.region)).2.fin)) := by
 obtain ⟨N, hN⟩ : ∃ N : Obj, N = .cells #[.int .i64 n.form, .int .i64 n.at_, .int .i64 n.aO, .int .i64 n.num, .string (bs n.word), .int .i64 n.region, .int .i64 n.source, .int .i64 n.p0, .int .i64 n.p1, .int .i64 n.p2] 160 := ⟨_, rfl⟩
 obtain ⟨R, hR⟩ : ∃ R : Obj, R = .cells #[.bool false, .int .i64 0] 171 := ⟨_, rfl⟩
 obtain ⟨W1, hE⟩ : ∃ W1, W1 = (w.alloc N).alloc R := ⟨_, rfl⟩
 have hW1 : Below w.heap.size w W1 := by rw [hE]; exact aE (aE (Below.refl _ _) _) _
 have h1 := h.below hW1
 have oL : Beside mb w.heap.size W1 nv cv rv (bR n) := Beside.new h.i (by rw [hE, hN]; exact aL _ (aj w _)) (Nat.le_refl _)
 have kM : Beside mb (w.heap.size + 1) W1 nv cv rv (.cells #[.bool false, .int .i64 0] 171) := Beside.new h.i (by rw [hE, hR]; have := aj (w.alloc N) (.cells #[.bool false, .int .i64 0] 171); simpa using this) (by omega)
 have dO : Hid (bu mb mb w W1 nv cv rv nv cv rv) := bu.below mb mb nv cv rv hW1
 have H1 : Hid _ := h1
 have ld : Hid _ := oL
 have jD : Hid _ := kM
 have fL : w.heap.size <= w.heap.size + 1 := by omega
 have Al := h1.ob
 have hrl := h1.rl
 have hop := Cf mb W1 tn aM fuel nv cv rv m n.region (by omega) (by omega) h1.i
 have Hg : Hid _ := hop
 have XD : Hid _ := hrg
 have HHA : Hid _ := ha
 clear hop h1 oL kM h Al hrl hrg ha hW1
 unfold ptr at Hg
 unfold ptr aI
 go_enter Tryz.func129, Tryz.ntmps129
 subst hN
 subst hR
 go_wp2_with fail
 rw [<- hE]
 refine Calls.mono Hg.out ?_
 rintro _ w1 ⟨rfl, rv1, hf1, hi1⟩
 have hs1 := ld.out.keep hf1
 have VU := jD.out.keep hf1
 have h1' := H1.out
 have VV := MM.Ai h1'.bd n.region XD.out (by have := h1'.rl; omega)
 have lQ : iL mb B w1 tn aM fuel nv cv rv1 (m.opn n.region) ns op ca := ⟨hi1, VV, h1'.env.on hf1, by simp [MM.opn], by have := h1'.rl; simp [MM.opn]; omega, by have := h1'.ob; simp only [MM.opn]; omega, h1'.nl, h1'.fu⟩
 have eK := HHA.out w1 nv cv rv1 _ lQ
 have HA : Hid _ := eK.2
 have HK : Hid _ := eK.1
 have pM : Hid _ := lQ
 have cj : Hid _ := dO.out.trans hf1
 have VW : Hid _ := VU
 obtain ⟨_, _, _, _, _, c5, _, c7, _, _⟩ := aC hs1.b
 have yf := af hs1.b
 clear hE hf1 hi1 hs1 VU h1' VV lQ eK Hg XD HHA H1 dO ld jD
 unfold ptr at HA
 go_wp2_with fail
 refine Calls.mono HA.out ?_
 rintro _ w2 ⟨rfl, cq, ll, jL, hf2, qj⟩
 have fN := VW.out.keep hf2
 have h2 := pM.out.on (c' := 0) hf2 qj HK.out.1 HK.out.2.2.inner (by omega)
 have dC : Hid _ := cj.out.trans hf2
 clear hf2 qj HA HK pM cj VW c5 c7 yf
 generalize fa (m.opn n.region) = x at *
 generalize w.heap.size + 1 = q at *
 obtain ⟨W3, gS⟩ : ∃ W3, W3 = w2.alloc (.cells #[.bool x.1.c, .int .i64 x.1.n] 171) := ⟨_, rfl⟩
 have hW3 : Below w2.heap.size w2 W3 := by rw [gS]; exact aE (Below.refl _ _) _
 have h3 := h2.below hW3
 have hf3 : bu mb mb w2 W3 cq ll jL cq ll jL := bu.below mb mb cq ll jL hW3
 have nf : Beside mb w2.heap.size W3 cq ll jL (.cells #[.bool x.1.c, .int .i64 x.1.n] 171) := Beside.new h2.i (by rw [gS]; exact aj w2 _) (Nat.le_refl _)
 have hen := KM mb W3 tn aM fuel cq ll jL x.2 h3.r1 h3.fu h3.bd h3.i
 have Zm : Hid _ := hen
 have js : Hid _ := dC.out.trans hf3
 have eA : Hid _ := fN.keep hf3
 have nW : Hid _ := nf
 clear hen hf3 nf fN h3 hW3 h2 dC
 unfold ptr at Zm
 unfold lf
 go_wp2_with fail
 rw [<- gS]
 refine Calls.mono Zm.out ?_
 rintro _ w4 ⟨rfl, yg, cT, hi4⟩
 obtain ⟨R5, R6⟩ := wg (nW.out.keep cT).b
 have Ij := af (nW.out.keep cT).b
 have fJ : Hid _ := js.out.trans cT
 have iJ : Hid _ := hi4
 have aG := eA.out.keep cT
 have cZ : Hid _ := aG
 have x0 : w4.cell? ⟨q, 0, none⟩ = some (.bool false) := by rw [aa aG.b]; rfl
 have x1 : w4.cell? ⟨q, 1, none⟩ = some (.int .i64 0) := by rw [aa aG.b]; rfl
 have g0 : w4.frozen? ⟨q, 0, none⟩ = false := ag aG.b 0
 have g1 : w4.frozen? ⟨q, 1, none⟩ = false := ag aG.b 1
 have wh := af aG.b
 clear aG cT hi4 Zm js eA nW gS
 generalize w2.heap.size = p at *
 go_wp2
 have aS := cZ.out
 have jn := (iJ.out.beside aS.ne aS.n aS.c aS.r 0 (.bool x.1.c)).beside aS.ne aS.n aS.c aS.r 1 (.int .i64 x.1.n)
 have iq := (fJ.out.upto (aw (aw (Below.refl _ _) ⟨q, 0, none⟩ fL (.bool x.1.c)) ⟨q, 1, none⟩ fL (.int .i64 x.1.n)))
 refine bodyPost_ret (v := .agg #[.bool x.1.c, .int .i64 x.1.n]) (by simp [results, Tryz.results129, go_sem, x0, x1]) rfl ⟨rfl, _, _, _, iq, jn⟩
theorem mD {a b : Nat} (h : a = b) : ((a : Int) == (b : Int)) = true := by subst h; simp
theorem jX {a b : Nat} (h : a ≠ b) : ((a : Int) == (b : Int)) = false := by rw [beq_eq_false_iff_ne]; omega
def oM (f : Nat) (a b : Int) : Int := if f = 8 then Int.tmod (a + b) 10000 else if f = 9 then Int.tmod (a + 10000 - b) 10000 else if a < b then 1 else 0
theorem rM (mb B : Nat) (tn aM : Value) (fuel : Nat) (ns : List NR) (op : List Int) (n : NR) (ca : Nat) (fa : MM -> MV × MM) (ha : gf mb B tn aM fuel ns op n.p0 ca fa)
  (w : World) (nv cv rv : Value) (m : MM) (h : iL mb B w tn aM fuel nv cv rv m ns op (ca)) :
  Calls Tryz.prog 161 #[ptr mb, aI n] w (fO mb w tn aM fuel nv cv rv (if n.form = 5 then ((fa m).2.use (fa m).1).1.a else ((fa m).2.use (fa m).1).1.b, ((fa m).2.use (fa m).1).2)) := by
 obtain ⟨N, hN⟩ : ∃ N : Obj, N = .cells #[.int .i64 n.form, .int .i64 n.at_, .int .i64 n.aO, .int .i64 n.num, .string (bs n.word), .int .i64 n.region, .int .i64 n.source, .int .i64 n.p0, .int .i64 n.p1, .int .i64 n.p2] 160 := ⟨_, rfl⟩
 obtain ⟨R, hR⟩ : ∃ R : Obj, R = .cells #[.bool false, .int .i64 0] 171 := ⟨_, rfl⟩
 obtain ⟨W1, hE⟩ : ∃ W1, W1 = (w.alloc N).alloc R := ⟨_, rfl⟩
 have hW1 : Below w.heap.size w W1 := by rw [hE]; exact aE (aE (Below.refl _ _) _) _
 have h1 := h.below hW1
 have oL : Beside mb w.heap.size W1 nv cv rv (bR n) := Beside.new h.i (by rw [hE, hN]; exact aL _ (aj w _)) (Nat.le_refl _)
 have kM : Beside mb (w.heap.size + 1) W1 nv cv rv (.cells #[.bool false, .int .i64 0] 171) := Beside.new h.i (by rw [hE, hR]; have := aj (w.alloc N) (.cells #[.bool false, .int .i64 0] 171); simpa using this) (by omega)
 have dO : Hid (bu mb mb w W1 nv cv rv nv cv rv) := bu.below mb mb nv cv rv hW1
 have H1 : Hid _ := h1
 have ld : Hid _ := oL
 have jD : Hid _ := kM
 have fL : w.heap.size <= w.heap.size + 1 := by omega
 have eK := ha W1 nv cv rv m (h1.less (by omega))
 have HA : Hid _ := eK.2
 have HK : Hid _ := eK.1
 obtain ⟨pv, Qu⟩ : ∃ pv, pv = if n.form = 5 then ((fa m).2.use (fa m).1).1.a else ((fa m).2.use (fa m).1).1.b := ⟨_, rfl⟩
 rw [<- Qu]
 have Nc : Hid _ := Qu
 clear Qu
 clear eK ha hW1 h1 oL kM h
 unfold ptr at HA
 unfold ptr aI
 go_enter Tryz.func161, Tryz.ntmps161
 subst hN
 subst hR
 go_wp2_with fail
 rw [<- hE]
 refine Calls.mono HA.out ?_
 rintro _ w2 ⟨rfl, cq, ll, jL, hf2, qj⟩
 have dq := ld.out.keep hf2
 have fN := jD.out.keep hf2
 have h2 := H1.out.on (c' := 0) hf2 qj HK.out.1 HK.out.2.2.inner (by omega)
 have iM := HK.out.2.1
 have cj : Hid _ := dO.out.trans hf2
 clear hE hf2 qj ld jD H1 dO HA HK
 generalize fa m = x at *
 generalize w.heap.size + 1 = q at *
 obtain ⟨W3, gS⟩ : ∃ W3, W3 = w2.alloc (.cells #[.bool x.1.c, .int .i64 x.1.n] 171) := ⟨_, rfl⟩
 have hW3 : Below w2.heap.size w2 W3 := by rw [gS]; exact aE (Below.refl _ _) _
 have h3 := h2.below hW3
 have hf3 : bu mb mb w2 W3 cq ll jL cq ll jL := bu.below mb mb cq ll jL hW3
 have nf : Beside mb w2.heap.size W3 cq ll jL (.cells #[.bool x.1.c, .int .i64 x.1.n] 171) := Beside.new h2.i (by rw [gS]; exact aj w2 _) (Nat.le_refl _)
 have dC : Hid _ := cj.out.trans hf3
 have nV : Hid _ := dq.keep hf3
 have eA : Hid _ := fN.keep hf3
 have nW : Hid _ := nf
 have qq : Hid _ := iM
 have H3 : Hid _ := h3
 obtain ⟨c0, _, _, _, _, c5, _, c7, c8, c9⟩ := aC dq.b
 have yf := af dq.b
 have VX := FY mb W3 tn aM fuel cq ll jL x.2 x.1 h3.bd h3.fu iM h3.i
 have R7 : Hid _ := VX
 clear h3 hf3 cj hW3 h2 dq fN iM VX nf nW qq H3
 unfold ptr lf at R7
 unfold lf
 go_wp2_with fail
 rw [<- gS]
 refine Calls.mono R7.out ?_
 rintro _ w4 ⟨rfl, cT, hi4⟩
 have l6 := nV.out.keep cT
 have qt := eA.out.keep cT
 have js : Hid _ := dC.out.trans cT
 clear gS cT nV eA dC R7 c0 c5 c7 c8 c9 yf
 generalize x.2.use x.1 = z at *
 obtain ⟨W5, tU⟩ : ∃ W5, W5 = w4.alloc (.cells #[.bool z.1.a.c, .int .i64 z.1.a.n, .bool z.1.b.c, .int .i64 z.1.b.n, .int .i64 z.1.home, .int .i64 z.1.gb] 219) := ⟨_, rfl⟩
 have vR : Below w4.heap.size w4 W5 := by rw [tU]; exact aE (Below.refl _ _) _
 have nA := hi4.below vR
 have ew : bu mb mb w4 W5 cq ll jL cq ll jL := bu.below mb mb cq ll jL vR
 have nX := qt.keep ew
 have yh := l6.keep ew
 have uD : W5.heap[w4.heap.size]? = some (.cells #[.bool z.1.a.c, .int .i64 z.1.a.n, .bool z.1.b.c, .int .i64 z.1.b.n, .int .i64 z.1.home, .int .i64 z.1.gb] 219) := by rw [tU]; exact aj w4 _
 obtain ⟨e0, e1, e2, e3, e4, e5⟩ := kL uD
 obtain ⟨d0, _, _, _, _, _, _, _, _, _⟩ := aC yh.b
 have aaN := af yh.b
 have aaO := af uD
 unfold KH
 go_upto_region 3 with fail
 rw [<- tU]
 have fJ : Hid _ := js.out.trans ew
 have iJ : Hid _ := nA
 have aG := nX
 have cZ : Hid _ := aG
 have x0 : W5.cell? ⟨q, 0, none⟩ = some (.bool false) := by rw [aa aG.b]; rfl
 have x1 : W5.cell? ⟨q, 1, none⟩ = some (.int .i64 0) := by rw [aa aG.b]; rfl
 have g0 : W5.frozen? ⟨q, 0, none⟩ = false := ag aG.b 0
 have g1 : W5.frozen? ⟨q, 1, none⟩ = false := ag aG.b 1
 have wh := af aG.b
 clear aG nX nA ew js yh l6 qt hi4 vR tU uD
 generalize w4.heap.size = r at *
 by_cases hq : n.form = 5
 ·have KL : ((n.form : Int) == 5) = true := mD hq
  have hv : pv = z.1.a := by have := Nc.out; rw [if_pos hq] at this; exact this
  clear Nc hq
  subst hv
  go_wp2
  have aS := cZ.out
  have jn := (iJ.out.beside aS.ne aS.n aS.c aS.r 0 (.bool z.1.a.c)).beside aS.ne aS.n aS.c aS.r 1 (.int .i64 z.1.a.n)
  have iq := (fJ.out.upto (aw (aw (Below.refl _ _) ⟨q, 0, none⟩ fL (.bool z.1.a.c)) ⟨q, 1, none⟩ fL (.int .i64 z.1.a.n)))
  refine bodyPost_ret (v := .agg #[.bool z.1.a.c, .int .i64 z.1.a.n]) (by simp [results, Tryz.results161, go_sem, x0, x1]) rfl ⟨rfl, _, _, _, iq, jn⟩
 ·have KL : ((n.form : Int) == 5) = false := jX hq
  have hv : pv = z.1.b := by have := Nc.out; rw [if_neg hq] at this; exact this
  clear Nc hq
  subst hv
  go_wp2
  have aS := cZ.out
  have jn := (iJ.out.beside aS.ne aS.n aS.c aS.r 0 (.bool z.1.b.c)).beside aS.ne aS.n aS.c aS.r 1 (.int .i64 z.1.b.n)
  have iq := (fJ.out.upto (aw (aw (Below.refl _ _) ⟨q, 0, none⟩ fL (.bool z.1.b.c)) ⟨q, 1, none⟩ fL (.int .i64 z.1.b.n)))
  refine bodyPost_ret (v := .agg #[.bool z.1.b.c, .int .i64 z.1.b.n]) (by simp [results, Tryz.results161, go_sem, x0, x1]) rfl ⟨rfl, _, _, _, iq, jn⟩
theorem uu (mb B : Nat) (tn aM : Value) (fuel : Nat) (ns : List NR) (op : List Int) (n : NR) (ca cb : Nat) (fa fb : MM -> MV × MM) (ha : gf mb B tn aM fuel ns op n.p0 ca fa) (hb : gf mb B tn aM fuel ns op n.p1 cb fb)
  (w : World) (nv cv rv : Value) (m : MM) (h : iL mb B w tn aM fuel nv cv rv m ns op (ca + cb)) :
  Calls Tryz.prog 163 #[ptr mb, aI n] w (fO mb w tn aM fuel nv cv rv (⟨false, oM n.form (fa m).1.n (fb (fa m).2).1.n⟩, (fb (fa m).2).2)) := by
 obtain ⟨N, hN⟩ : ∃ N : Obj, N = .cells #[.int .i64 n.form, .int .i64 n.at_, .int .i64 n.aO, .int .i64 n.num, .string (bs n.word), .int .i64 n.region, .int .i64 n.source, .int .i64 n.p0, .int .i64 n.p1, .int .i64 n.p2] 160 := ⟨_, rfl⟩
 obtain ⟨R, hR⟩ : ∃ R : Obj, R = .cells #[.bool false, .int .i64 0] 171 := ⟨_, rfl⟩
 obtain ⟨W1, hE⟩ : ∃ W1, W1 = (w.alloc N).alloc R := ⟨_, rfl⟩
 have hW1 : Below w.heap.size w W1 := by rw [hE]; exact aE (aE (Below.refl _ _) _) _
 have h1 := h.below hW1
 have oL : Beside mb w.heap.size W1 nv cv rv (bR n) := Beside.new h.i (by rw [hE, hN]; exact aL _ (aj w _)) (Nat.le_refl _)
 have kM : Beside mb (w.heap.size + 1) W1 nv cv rv (.cells #[.bool false, .int .i64 0] 171) := Beside.new h.i (by rw [hE, hR]; have := aj (w.alloc N) (.cells #[.bool false, .int .i64 0] 171); simpa using this) (by omega)
 have dO : Hid (bu mb mb w W1 nv cv rv nv cv rv) := bu.below mb mb nv cv rv hW1
 have H1 : Hid _ := h1
 have ld : Hid _ := oL
 have jD : Hid _ := kM
 have fL : w.heap.size <= w.heap.size + 1 := by omega
 have eK := ha W1 nv cv rv m (h1.less (by omega))
 have HA : Hid _ := eK.2
 have HK : Hid _ := eK.1
 obtain ⟨av, VY⟩ : ∃ av, av = oM n.form (fa m).1.n (fb (fa m).2).1.n := ⟨_, rfl⟩
 rw [<- VY]
 have Qv : Hid _ := VY
 clear VY
 clear eK ha hW1 h1 oL kM h
 unfold ptr at HA
 unfold ptr aI
 go_enter Tryz.func163, Tryz.ntmps163
 subst hN
 subst hR
 go_wp2_with fail
 rw [<- hE]
 refine Calls.mono HA.out ?_
 rintro _ w2 ⟨rfl, cq, ll, jL, hf2, qj⟩
 have dq := ld.out.keep hf2
 have fN := jD.out.keep hf2
 have h2 := H1.out.on (c' := cb) hf2 qj HK.out.1 HK.out.2.2.inner (by omega)
 have iM := HK.out.2.1
 have cj : Hid _ := dO.out.trans hf2
 clear hE hf2 qj ld jD H1 dO HA HK
 generalize fa m = x at *
 generalize w.heap.size + 1 = q at *
 obtain ⟨W3, gS⟩ : ∃ W3, W3 = w2.alloc (.cells #[.bool x.1.c, .int .i64 x.1.n] 171) := ⟨_, rfl⟩
 have hW3 : Below w2.heap.size w2 W3 := by rw [gS]; exact aE (Below.refl _ _) _
 have h3 := h2.below hW3
 have hf3 : bu mb mb w2 W3 cq ll jL cq ll jL := bu.below mb mb cq ll jL hW3
 have nf : Beside mb w2.heap.size W3 cq ll jL (.cells #[.bool x.1.c, .int .i64 x.1.n] 171) := Beside.new h2.i (by rw [gS]; exact aj w2 _) (Nat.le_refl _)
 have dC : Hid _ := cj.out.trans hf3
 have nV : Hid _ := dq.keep hf3
 have eA : Hid _ := fN.keep hf3
 have nW : Hid _ := nf
 have qq : Hid _ := iM
 have H3 : Hid _ := h3
 obtain ⟨c0, _, _, _, _, c5, _, c7, c8, c9⟩ := aC dq.b
 have yf := af dq.b
 have hkb := hb W3 cq ll jL x.2 (h3.less (by omega))
 have ur : Hid _ := hkb.2
 have nk : Hid _ := hkb.1
 clear h3 hf3 cj hW3 h2 dq fN iM hkb hb nf
 unfold ptr at ur
 unfold lf
 go_wp2_with fail
 rw [<- gS]
 refine Calls.mono ur.out ?_
 rintro _ w4 ⟨rfl, gy, yO, yg, cT, hi4⟩
 have l6 := nV.out.keep cT
 have qt := eA.out.keep cT
 have sP := nW.out.keep cT
 have h4 := H3.out.on (c' := 0) cT hi4 nk.out.1 nk.out.2.2.inner (by omega)
 have Ii := nk.out.2.1
 have js : Hid _ := dC.out.trans cT
 clear gS cT hi4 nV eA nW H3 dC ur nk c0 c5 c7 c8 c9 yf
 generalize fb x.2 = y at *
 generalize w2.heap.size = p at *
 obtain ⟨W5, tU⟩ : ∃ W5, W5 = w4.alloc (.cells #[.bool y.1.c, .int .i64 y.1.n] 171) := ⟨_, rfl⟩
 have vR : Below w4.heap.size w4 W5 := by rw [tU]; exact aE (Below.refl _ _) _
 have h5 := h4.below vR
 have ew : bu mb mb w4 W5 gy yO yg gy yO yg := bu.below mb mb gy yO yg vR
 have nX := qt.keep ew
 obtain ⟨R5, R6⟩ := wg sP.b
 obtain ⟨d0, _, _, _, _, d5, _, d7, d8, d9⟩ := aC l6.b
 have Ep := af l6.b
 have Ij := af sP.b
 have yh := l6.keep ew
 have Ik := sP.keep ew
 have hyb : W5.heap[w4.heap.size]? = some (.cells #[.bool y.1.c, .int .i64 y.1.n] 171) := by rw [tU]; exact aj w4 _
 obtain ⟨e0, e1⟩ := wg hyb
 obtain ⟨k0, k1⟩ := wg Ik.b
 obtain ⟨m0, _, _, _, _, _, _, _, _, _⟩ := aC yh.b
 have hl1 := af yh.b
 have hl2 := af Ik.b
 have hl3 := af hyb
 have VZ := qq.out
 unfold MV.bd at VZ Ii
 unfold lf
 go_upto_region 3 with fail
 rw [<- tU]
 have fJ : Hid _ := js.out.trans ew
 have iJ : Hid _ := h5.i
 have aG := nX
 have cZ : Hid _ := aG
 have x0 : W5.cell? ⟨q, 0, none⟩ = some (.bool false) := by rw [aa aG.b]; rfl
 have x1 : W5.cell? ⟨q, 1, none⟩ = some (.int .i64 0) := by rw [aa aG.b]; rfl
 have g0 : W5.frozen? ⟨q, 0, none⟩ = false := ag aG.b 0
 have g1 : W5.frozen? ⟨q, 1, none⟩ = false := ag aG.b 1
 have wh := af aG.b
 clear aG nX h5 ew js yh Ik l6 sP qt h4 vR tU hyb qq d0 d5 d7 d8 d9 R5 R6 Ep Ij
 generalize w4.heap.size = r at *
 by_cases Nd : n.form = 8
 ·have KL : ((n.form : Int) == 8) = true := mD Nd
  have hv : av = Int.tmod (x.1.n + y.1.n) 10000 := by rw [Qv.out]; unfold oM; rw [if_pos Nd]
  clear Nd Qv
  subst hv
  go_wp2
  have aS := cZ.out
  have jn := (iJ.out.beside aS.ne aS.n aS.c aS.r 0 (.bool (⟨false, Int.tmod (x.1.n + y.1.n) 10000⟩ : MV).c)).beside aS.ne aS.n aS.c aS.r 1 (.int .i64 (⟨false, Int.tmod (x.1.n + y.1.n) 10000⟩ : MV).n)
  have iq := (fJ.out.upto (aw (aw (Below.refl _ _) ⟨q, 0, none⟩ fL (.bool (⟨false, Int.tmod (x.1.n + y.1.n) 10000⟩ : MV).c)) ⟨q, 1, none⟩ fL (.int .i64 (⟨false, Int.tmod (x.1.n + y.1.n) 10000⟩ : MV).n)))
  refine bodyPost_ret (v := .agg #[.bool (⟨false, Int.tmod (x.1.n + y.1.n) 10000⟩ : MV).c, .int .i64 (⟨false, Int.tmod (x.1.n + y.1.n) 10000⟩ : MV).n]) (by simp [results, Tryz.results163, go_sem, x0, x1]) rfl ⟨rfl, _, _, _, iq, jn⟩
 ·have KL : ((n.form : Int) == 8) = false := jX Nd
  by_cases Qw : n.form = 9
  ·have Zn : ((n.form : Int) == 9) = true := mD Qw
   have hv : av = Int.tmod (x.1.n + 10000 - y.1.n) 10000 := by rw [Qv.out]; unfold oM; rw [if_neg Nd, if_pos Qw]
   clear Nd Qw Qv
   subst hv
   go_wp2
   have aS := cZ.out
   have jn := (iJ.out.beside aS.ne aS.n aS.c aS.r 0 (.bool (⟨false, Int.tmod (x.1.n + 10000 - y.1.n) 10000⟩ : MV).c)).beside aS.ne aS.n aS.c aS.r 1 (.int .i64 (⟨false, Int.tmod (x.1.n + 10000 - y.1.n) 10000⟩ : MV).n)
   have iq := (fJ.out.upto (aw (aw (Below.refl _ _) ⟨q, 0, none⟩ fL (.bool (⟨false, Int.tmod (x.1.n + 10000 - y.1.n) 10000⟩ : MV).c)) ⟨q, 1, none⟩ fL (.int .i64 (⟨false, Int.tmod (x.1.n + 10000 - y.1.n) 10000⟩ : MV).n)))
   refine bodyPost_ret (v := .agg #[.bool (⟨false, Int.tmod (x.1.n + 10000 - y.1.n) 10000⟩ : MV).c, .int .i64 (⟨false, Int.tmod (x.1.n + 10000 - y.1.n) 10000⟩ : MV).n]) (by simp [results, Tryz.results163, go_sem, x0, x1]) rfl ⟨rfl, _, _, _, iq, jn⟩
  ·have Zn : ((n.form : Int) == 9) = false := jX Qw
   by_cases hlt : x.1.n < y.1.n
   ·have hv : av = 1 := by rw [Qv.out]; unfold oM; rw [if_neg Nd, if_neg Qw, if_pos hlt]
    clear Nd Qw Qv
    subst hv
    go_wp2
    have aS := cZ.out
    have jn := (iJ.out.beside aS.ne aS.n aS.c aS.r 0 (.bool (⟨false, 1⟩ : MV).c)).beside aS.ne aS.n aS.c aS.r 1 (.int .i64 (⟨false, 1⟩ : MV).n)
    have iq := (fJ.out.upto (aw (aw (Below.refl _ _) ⟨q, 0, none⟩ fL (.bool (⟨false, 1⟩ : MV).c)) ⟨q, 1, none⟩ fL (.int .i64 (⟨false, 1⟩ : MV).n)))
    refine bodyPost_ret (v := .agg #[.bool (⟨false, 1⟩ : MV).c, .int .i64 (⟨false, 1⟩ : MV).n]) (by simp [results, Tryz.results163, go_sem, x0, x1]) rfl ⟨rfl, _, _, _, iq, jn⟩
   ·have hv : av = 0 := by rw [Qv.out]; unfold oM; rw [if_neg Nd, if_neg Qw, if_neg hlt]
    clear Nd Qw Qv
    subst hv
    go_wp2
    have aS := cZ.out
    have jn := (iJ.out.beside aS.ne aS.n aS.c aS.r 0 (.bool (⟨false, 0⟩ : MV).c)).beside aS.ne aS.n aS.c aS.r 1 (.int .i64 (⟨false, 0⟩ : MV).n)
    have iq := (fJ.out.upto (aw (aw (Below.refl _ _) ⟨q, 0, none⟩ fL (.bool (⟨false, 0⟩ : MV).c)) ⟨q, 1, none⟩ fL (.int .i64 (⟨false, 0⟩ : MV).n)))
    refine bodyPost_ret (v := .agg #[.bool (⟨false, 0⟩ : MV).c, .int .i64 (⟨false, 0⟩ : MV).n]) (by simp [results, Tryz.results163, go_sem, x0, x1]) rfl ⟨rfl, _, _, _, iq, jn⟩
theorem Beside.other {mb k s : Nat} {w w' : World} {nv cv rv : Value} {o : Obj} (h : Beside mb k w nv cv rv o) (hb : Below s w w') (hk : k < s) : Beside mb k w' nv cv rv o := ⟨by rw [hb.block k hk]; exact h.b, h.ne, h.n, h.c, h.r⟩
theorem Am (mb B : Nat) (tn aM : Value) (fuel : Nat) (ns : List NR) (op : List Int) (n : NR) (gu : -1 <= n.p1 /\ n.p1 <= 9000) (ca cb cc : Nat) (fa fb fc : MM -> MV × MM) (ha : gf mb B tn aM fuel ns op n.p0 ca fa) (hb : gf mb B tn aM fuel ns op n.p1 cb fb) (hcc : cc <= 20000) (hc : gf mb B tn aM fuel ns op n.p2 cc fc)
  (w : World) (nv cv rv : Value) (m : MM) (h : iL mb B w tn aM fuel nv cv rv m ns op (ca + (cb + cc))) :
  Calls Tryz.prog 164 #[ptr mb, aI n] w (fO mb w tn aM fuel nv cv rv (cP n.p1 fc (fa m).1.n.toNat (fb (fa m).2).1 (fb (fa m).2).2)) := by
 obtain ⟨N, hN⟩ : ∃ N : Obj, N = .cells #[.int .i64 n.form, .int .i64 n.at_, .int .i64 n.aO, .int .i64 n.num, .string (bs n.word), .int .i64 n.region, .int .i64 n.source, .int .i64 n.p0, .int .i64 n.p1, .int .i64 n.p2] 160 := ⟨_, rfl⟩
 obtain ⟨R, hR⟩ : ∃ R : Obj, R = .cells #[.bool false, .int .i64 0] 171 := ⟨_, rfl⟩
 obtain ⟨W1, hE⟩ : ∃ W1, W1 = (w.alloc N).alloc R := ⟨_, rfl⟩
 have hW1 : Below w.heap.size w W1 := by rw [hE]; exact aE (aE (Below.refl _ _) _) _
 have h1 := h.below hW1
 have oL : Beside mb w.heap.size W1 nv cv rv (bR n) := Beside.new h.i (by rw [hE, hN]; exact aL _ (aj w _)) (Nat.le_refl _)
 have kM : Beside mb (w.heap.size + 1) W1 nv cv rv (.cells #[.bool false, .int .i64 0] 171) := Beside.new h.i (by rw [hE, hR]; have := aj (w.alloc N) (.cells #[.bool false, .int .i64 0] 171); simpa using this) (by omega)
 have dO : Hid (bu mb mb w W1 nv cv rv nv cv rv) := bu.below mb mb nv cv rv hW1
 have H1 : Hid _ := h1
 have ld : Hid _ := oL
 have jD : Hid _ := kM
 have fL : w.heap.size <= w.heap.size + 1 := by omega
 have eK := ha W1 nv cv rv m (h1.less (by omega))
 have HA : Hid _ := eK.2
 have HK : Hid _ := eK.1
 obtain ⟨res, hres⟩ : ∃ res, res = cP n.p1 fc (fa m).1.n.toNat (fb (fa m).2).1 (fb (fa m).2).2 := ⟨_, rfl⟩
 rw [<- hres]
 have iN : Hid _ := hres
 clear hres
 clear eK ha hW1 h1 oL kM h
 unfold ptr at HA
 unfold ptr aI
 go_enter Tryz.func164, Tryz.ntmps164
 subst hN
 subst hR
 go_wp2_with fail
 rw [<- hE]
 refine Calls.mono HA.out ?_
 rintro _ w2 ⟨rfl, cq, ll, jL, hf2, qj⟩
 have dq := ld.out.keep hf2
 have fN := jD.out.keep hf2
 have h2 := H1.out.on (c' := (cb + cc)) hf2 qj HK.out.1 HK.out.2.2.inner (by omega)
 have iM := HK.out.2.1
 have cj : Hid _ := dO.out.trans hf2
 clear hE hf2 qj ld jD H1 dO HA HK
 generalize fa m = x at *
 generalize w.heap.size + 1 = q at *
 obtain ⟨W3, gS⟩ : ∃ W3, W3 = w2.alloc (.cells #[.bool x.1.c, .int .i64 x.1.n] 171) := ⟨_, rfl⟩
 have hW3 : Below w2.heap.size w2 W3 := by rw [gS]; exact aE (Below.refl _ _) _
 have h3 := h2.below hW3
 have hf3 : bu mb mb w2 W3 cq ll jL cq ll jL := bu.below mb mb cq ll jL hW3
 have nf : Beside mb w2.heap.size W3 cq ll jL (.cells #[.bool x.1.c, .int .i64 x.1.n] 171) := Beside.new h2.i (by rw [gS]; exact aj w2 _) (Nat.le_refl _)
 have dC : Hid _ := cj.out.trans hf3
 have nV : Hid _ := dq.keep hf3
 have eA : Hid _ := fN.keep hf3
 have nW : Hid _ := nf
 have qq : Hid _ := iM
 have H3 : Hid _ := h3
 obtain ⟨c0, _, _, _, _, c5, _, c7, c8, c9⟩ := aC dq.b
 have yf := af dq.b
 have hkb := hb W3 cq ll jL x.2 (h3.less (by omega))
 have ur : Hid _ := hkb.2
 have nk : Hid _ := hkb.1
 have Zo : Hid (w.heap.size < w2.heap.size /\ q < w2.heap.size) := ⟨af dq.b, af fN.b⟩
 have Rp : Hid (B <= w2.heap.size) := h2.env.s
 clear h3 hf3 cj hW3 h2 dq fN iM hkb hb nf
 unfold ptr at ur
 unfold lf
 go_wp2_with fail
 rw [<- gS]
 refine Calls.mono ur.out ?_
 rintro _ w4 ⟨rfl, gy, yO, yg, cT, hi4⟩
 have l6 := nV.out.keep cT
 have qt := eA.out.keep cT
 have sP := nW.out.keep cT
 have h4 := H3.out.on (c' := cc) cT hi4 nk.out.1 nk.out.2.2.inner (by omega)
 have Ii := nk.out.2.1
 have js : Hid _ := dC.out.trans cT
 clear gS cT hi4 nV eA nW H3 dC ur nk c0 c5 c7 c8 c9 yf
 generalize fb x.2 = y at *
 obtain ⟨W5, tU⟩ : ∃ W5, W5 = w4.alloc (.cells #[.bool y.1.c, .int .i64 y.1.n] 171) := ⟨_, rfl⟩
 have vR : Below w4.heap.size w4 W5 := by rw [tU]; exact aE (Below.refl _ _) _
 have h5 := h4.below vR
 have ew : bu mb mb w4 W5 gy yO yg gy yO yg := bu.below mb mb gy yO yg vR
 have nX := qt.keep ew
 obtain ⟨R5, R6⟩ := wg sP.b
 obtain ⟨d0, _, _, _, _, d5, _, d7, d8, d9⟩ := aC l6.b
 have Ep := af l6.b
 have Ij := af sP.b
 have yh := l6.keep ew
 have Ik := sP.keep ew
 have V0 : Beside mb w4.heap.size W5 gy yO yg (.cells #[.bool y.1.c, .int .i64 y.1.n] 171) := Beside.new h4.i (by rw [tU]; exact aj w4 _) (Nat.le_refl _)
 have hqp : q < w4.heap.size := af qt.b
 have hpl : w2.heap.size < w4.heap.size := Ij
 have hNl : w.heap.size < w4.heap.size := Ep
 have hN2 : w.heap.size < w2.heap.size := Zo.out.1
 have M6 : q < w2.heap.size := Zo.out.2
 have VZ := qq.out
 unfold MV.bd at VZ
 have aaP : -30000 <= x.1.n /\ x.1.n <= 30000 := VZ
 have HC : Hid _ := hc
 have RA : Hid _ := gu
 have H5 : Hid _ := h5
 have fJ : Hid _ := js.out.trans ew
 have V1 : Hid _ := yh
 have V2 : Hid _ := Ik
 have V3 : Hid _ := V0
 have cZ : Hid _ := nX
 have V4 : Hid _ := Ii
 unfold lf
 go_upto_region 3 with fail
 rw [<- tU]
 clear yh Ik V0 nX h5 h4 ew js tU vR l6 sP qt R5 R6 d0 d5 d7 d8 d9 Ep Ij qq Ii hc gu VZ Zo
 generalize w2.heap.size = p at *
 generalize w4.heap.size = s at *
 obtain ⟨T, hT⟩ : ∃ T, T = x.1.n.toNat := ⟨_, rfl⟩
 rw [<- hT] at iN
 go_wp2_with fail
 go_loopw [7] (fun i wr => ∃ (j : Nat) (v : MV) (mj : MM) (Nf Ng Nh : Value), j <= T /\ i = .int .i64 j /\ Beside mb w.heap.size wr Nf Ng Nh (bR n) /\ Beside mb q wr Nf Ng Nh (.cells #[.bool false, .int .i64 0] 171) /\ Beside mb p wr Nf Ng Nh (.cells #[.bool x.1.c, .int .i64 x.1.n] 171) /\ Beside mb s wr Nf Ng Nh (.cells #[.bool v.c, .int .i64 v.n] 171) /\
   bu mb mb w wr nv cv rv Nf Ng Nh /\ v.bd /\ iL mb B wr tn aM fuel Nf Ng Nh mj ns op (if mj.fault = 0 then cc else 0) /\ res = cP n.p1 fc (T - j) v mj) (fun i _ => T - (intOf i).toNat)
 case atStart =>
  refine ⟨0, y.1, y.2, gy, yO, yg, Nat.zero_le _, rfl, V1.out, cZ.out, V2.out, V3.out, fJ.out, V4.out, H5.out.less ?_, by rw [iN.out, Nat.sub_zero]⟩
  split <;> omega
 case round =>
  obtain ⟨j, v, mj, Nf, Ng, Nh, hj, rfl, oL, kM, XW, XX, hf, hv, hst, hr⟩ := hrel
  have ld : Hid _ := oL
  have jD : Hid _ := kM
  have HSX : Hid _ := XW
  have HSV : Hid _ := XX
  have HF : Hid _ := hf
  have HV : Hid _ := hv
  have iQ : Hid _ := hst
  have HR : Hid _ := hr
  obtain ⟨R5, R6⟩ := wg XW.b
  obtain ⟨vc0, vc1⟩ := wg XX.b
  obtain ⟨_, _, y4, _⟩ := bt hst.i.y
  obtain ⟨_, _, _, _, _, _, _, d7, d8, d9⟩ := aC oL.b
  have l1 := af oL.b
  have l2 := af XW.b
  have l3 := af XX.b
  have l4 := af hst.i.y
  clear oL kM XW XX hf hv hst hr iN V1 cZ V2 V3 fJ V4 H5
  by_cases hex : j < T /\ mj.fault = 0
  ·obtain ⟨Zp, hfz⟩ := hex
   have hjx : (j : Int) < x.1.n := by omega
   rw [hfz] at y4
   have KQ : iL mb B wr tn aM fuel Nf Ng Nh mj ns op cc := by have := iQ.out; rw [if_pos hfz] at this; exact this
   have bq := Cd mb wr tn aM fuel Nf Ng Nh mj n.p1 v (by have := RA.out; omega) (by rw [KQ.nl]; exact KQ.env.len) KQ.i
   have Cm : Hid _ := bq
   have R8 : Hid _ := KQ
   have HFZ : Hid _ := hfz
   clear bq KQ iQ
   unfold ptr lf at Cm
   go_wp2_with fail
   refine Calls.mono Cm.out ?_
   rintro _ w6 ⟨rfl, wi, Nb⟩
   have h6 := R8.out.on (c' := cc) wi Nb (MM.uO R8.out.bd n.p1 v HV.out) (mB mj n.p1 v) (by omega)
   have hkc := HC.out w6 Nf Ng Nh _ h6
   have Uh : Hid _ := hkc.2
   have sJ : Hid _ := hkc.1
   have H6 : Hid _ := h6
   have Ui : Hid _ := HF.out.trans wi
   have Oy := ld.out.keep wi
   have V5 : Hid _ := Oy
   have Co : Hid _ := jD.out.keep wi
   have V6 : Hid _ := HSX.out.keep wi
   have V7 : Hid _ := HSV.out.keep wi
   obtain ⟨_, _, _, _, _, _, _, e7, e8, e9⟩ := aC Oy.b
   have k1 := af Oy.b
   clear wi Nb h6 hkc Oy Cm ld jD HSX HSV HF R8 d7 d8 d9 R5 R6 vc0 vc1 y4 l1 l2 l3 l4
   unfold ptr at Uh
   go_wp2_with fail
   refine Calls.mono Uh.out ?_
   rintro _ w7 ⟨rfl, V8, cv7, rv7, iq, jn⟩
   have Il := V7.out.keep iq
   have Zq : Hid _ := V5.out.keep iq
   have Zr : Hid _ := Co.out.keep iq
   have Zt : Hid _ := V6.out.keep iq
   have Zu : Hid _ := Il
   have HF7 : Hid _ := Ui.out.trans iq
   have HI7 : Hid _ := jn
   have Zv : Hid _ := iq
   obtain ⟨vd0, vd1⟩ := wg Il.b
   have u0 : w7.frozen? ⟨s, 0, none⟩ = false := ag Il.b 0
   have u1 : w7.frozen? ⟨s, 1, none⟩ = false := ag Il.b 1
   have k2 := af Il.b
   clear iq jn Il V5 Co V6 V7 Ui Uh e7 e8 e9 k1
   generalize hz : fc (mj.name n.p1 v) = z at *
   unfold lf
   go_wp2
   go_roundw
   case rel =>
    have DF := Zu.out
    have wj := H6.out.on (c' := 0) Zv.out HI7.out sJ.out.1 sJ.out.2.2.inner (by omega)
    have V9 : Below s w7 ((w7.setCell ⟨s, 0, none⟩ (.bool z.1.c)).setCell ⟨s, 1, none⟩ (.int .i64 z.1.n)) := aw (aw (Below.refl _ _) ⟨s, 0, none⟩ (Nat.le_refl _) _) ⟨s, 1, none⟩ (Nat.le_refl _) _
    have hi8 := (HI7.out.beside DF.ne DF.n DF.c DF.r 0 (.bool z.1.c)).beside DF.ne DF.n DF.c DF.r 1 (.int .i64 z.1.n)
    have hB := wj.env.b
    have hs8 : w.heap.size <= s := by omega
    refine ⟨j + 1, z.1, z.2, V8, cv7, rv7, Zp, by go_num, Zq.out.other V9 hNl, Zr.out.other V9 hqp, Zt.out.other V9 hpl, ⟨az (az DF.b 0 _) 1 _, DF.ne, DF.n, DF.c, DF.r⟩, HF7.out.upto (V9.mono hs8), sJ.out.2.1, ?_, ?_⟩
    ·have KR := sJ.out.2.2.op
     have Al := H6.out.ob
     have hrl := H6.out.rl
     have Im := sJ.out.2.2.st
     have hrg := sJ.out.2.2.rg
     have Qx := sJ.out.1.steps
     refine ⟨hi8, sJ.out.1, ⟨wj.env.b, by have := wj.env.s; simp only [World.setCell, Array.size_modify]; omega, wj.env.n, wj.env.c, wj.env.r, fun w' hw' => wj.env.tree w' ((V9.mono (by have := Rp.out; omega)).trans hw'), wj.env.len⟩, wj.r1, ?_, ?_, wj.nl, wj.fu⟩
     ·split <;> omega
     ·split
      ·rename_i h0
       rw [if_pos h0] at KR
       omega
      ·rename_i h0
       rw [if_neg h0] at KR
       omega
    ·rw [HR.out, show T - j = (T - (j + 1)) + 1 from by omega]
     simp only [cP]
     rw [if_neg (by simp [HFZ.out]), hz]
   case measure => simp [intOf]; omega
  ·have R9 : res = (v, mj) := by
    rw [HR.out]
    by_cases Zp : j < T
    ·have hfz : mj.fault ≠ 0 := fun e => hex ⟨Zp, e⟩
     rw [show T - j = (T - (j + 1)) + 1 from by omega]
     simp only [cP]
     rw [if_pos hfz]
    ·rw [show T - j = 0 from by omega]; rfl
   subst R9
   have NZ := jD.out
   have x0 : wr.cell? ⟨q, 0, none⟩ = some (.bool false) := by rw [aa NZ.b]; rfl
   have x1 : wr.cell? ⟨q, 1, none⟩ = some (.int .i64 0) := by rw [aa NZ.b]; rfl
   have g0 : wr.frozen? ⟨q, 0, none⟩ = false := ag NZ.b 0
   have g1 : wr.frozen? ⟨q, 1, none⟩ = false := ag NZ.b 1
   have wh := af NZ.b
   clear NZ HR
   by_cases hjx : (j : Int) < x.1.n
   ·have hfz : mj.fault ≠ 0 := fun e => hex ⟨by omega, e⟩
    have hfb : ((mj.fault : Int) == 0) = false := tQ hfz
    clear hex hfz
    go_wp2
    have aS := jD.out
    have jn := (iQ.out.i.beside aS.ne aS.n aS.c aS.r 0 (.bool v.c)).beside aS.ne aS.n aS.c aS.r 1 (.int .i64 v.n)
    have iq := (HF.out.upto (aw (aw (Below.refl _ _) ⟨q, 0, none⟩ fL (.bool v.c)) ⟨q, 1, none⟩ fL (.int .i64 v.n)))
    refine bodyPost_ret (v := .agg #[.bool v.c, .int .i64 v.n]) (by simp [results, Tryz.results164, go_sem, x0, x1]) rfl ⟨rfl, _, _, _, iq, jn⟩
   ·clear hex
    go_wp2
    have aS := jD.out
    have jn := (iQ.out.i.beside aS.ne aS.n aS.c aS.r 0 (.bool v.c)).beside aS.ne aS.n aS.c aS.r 1 (.int .i64 v.n)
    have iq := (HF.out.upto (aw (aw (Below.refl _ _) ⟨q, 0, none⟩ fL (.bool v.c)) ⟨q, 1, none⟩ fL (.int .i64 v.n)))
    refine bodyPost_ret (v := .agg #[.bool v.c, .int .i64 v.n]) (by simp [results, Tryz.results164, go_sem, x0, x1]) rfl ⟨rfl, _, _, _, iq, jn⟩
end Go.Proofs.YtpicaknklgccoaaGreatDoor
