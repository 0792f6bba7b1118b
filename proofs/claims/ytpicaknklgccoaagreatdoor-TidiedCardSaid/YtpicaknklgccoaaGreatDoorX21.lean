import Derived.Test.YtpicaknklgccoaaGreatDoorX20
namespace Go.Proofs.YtpicaknklgccoaaGreatDoor
open Go.RowKit
structure MEnv (mb B : Nat) (w : World) (nv cv rv tn to_ : Value) (ns : List NR) (op : List Int) : Prop where
 b : B ≤ mb
 s : B ≤ w.heap.size
 n : ∀ g, nv.ownBlock = some g → B ≤ g
 c : ∀ g, cv.ownBlock = some g → B ≤ g
 r : ∀ g, rv.ownBlock = some g → B ≤ g
 tree : ∀ w', Below B w w' → TreeIn w' tn to_ ns op
 len : ns.length ≤ 9000
theorem MEnv.bel {mb B : Nat} {w w' : World} {nv cv rv nv' cv' rv' tn to_ : Value} {ns : List NR} {op : List Int} (h : MEnv mb B w nv cv rv tn to_ ns op) (hf : PFr mb mb w w' nv cv rv nv' cv' rv') : Below B w w' :=
 have hb := h.b
 have hs := h.s
 ⟨hf.os, hf.tape, hf.output, hf.size, fun k hk => hf.blk k (by omega) (by omega) (by omega) (fun e => by have := h.n k e; omega) (fun e => by have := h.c k e; omega) (fun e => by have := h.r k e; omega)⟩
theorem MEnv.on {mb B : Nat} {w w' : World} {nv cv rv nv' cv' rv' tn to_ : Value} {ns : List NR} {op : List Int} (h : MEnv mb B w nv cv rv tn to_ ns op) (hf : PFr mb mb w w' nv cv rv nv' cv' rv') : MEnv mb B w' nv' cv' rv' tn to_ ns op := by
 have hs := h.s
 refine ⟨h.b, Nat.le_trans h.s hf.size, fun g hg => ?_, fun g hg => ?_, fun g hg => ?_, fun w2 h2 => h.tree w2 ((h.bel hf).trans h2), h.len⟩
 ·rcases hf.s g hg with e | e
  ·exact h.n g e
  ·omega
 ·rcases hf.n g hg with e | e
  ·exact h.c g e
  ·omega
 ·rcases hf.o g hg with e | e
  ·exact h.r g e
  ·omega
structure MSt (mb B : Nat) (w : World) (tn to_ : Value) (fuel : Nat) (nv cv rv : Value) (m : MM) (ns : List NR) (op : List Int) (c : Nat) : Prop where
 i : MIn mb w tn to_ fuel nv cv rv m
 bd : MBd fuel m
 env : MEnv mb B w nv cv rv tn to_ ns op
 r1 : 1 ≤ m.regs.length
 rl : m.regs.length + c ≤ 20000
 ob : m.opened + 20000 * (fuel - m.steps) + c ≤ 3000000000
 nl : m.named.length = ns.length
 fu : fuel ≤ 20000
theorem MSt.on {mb B : Nat} {w w' : World} {tn to_ : Value} {fuel : Nat} {nv cv rv nv' cv' rv' : Value} {m m' : MM} {ns : List NR} {op : List Int} {c c' a s : Nat} (h : MSt mb B w tn to_ fuel nv cv rv m ns op c) (hf : PFr mb mb w w' nv cv rv nv' cv' rv')
  (hi : MIn mb w' tn to_ fuel nv' cv' rv' m') (hb : MBd fuel m') (hg : Inner a s m m') (hc : a + c' ≤ c) : MSt mb B w' tn to_ fuel nv' cv' rv' m' ns op c' := by
 have h1 := h.ob; have h2 := hg.op; have h3 := hg.st; have h4 := hb.steps; have h5 := h.rl; have h6 := h.r1
 exact ⟨hi, hb, h.env.on hf, by rw [hg.rg]; exact h6, by rw [hg.rg]; omega, by omega, by rw [hg.nm]; exact h.nl, h.fu⟩
theorem MSt.below {mb B : Nat} {w w' : World} {tn to_ : Value} {fuel : Nat} {nv cv rv : Value} {m : MM} {ns : List NR} {op : List Int} {c : Nat} (h : MSt mb B w tn to_ fuel nv cv rv m ns op c) (hb : Below w.heap.size w w') : MSt mb B w' tn to_ fuel nv cv rv m ns op c :=
 ⟨h.i.below hb, h.bd, h.env.on (PFr.below mb mb nv cv rv hb), h.r1, h.rl, h.ob, h.nl, h.fu⟩
theorem MSt.less {mb B : Nat} {w : World} {tn to_ : Value} {fuel : Nat} {nv cv rv : Value} {m : MM} {ns : List NR} {op : List Int} {c c' : Nat} (h : MSt mb B w tn to_ fuel nv cv rv m ns op c) (hc : c' ≤ c) : MSt mb B w tn to_ fuel nv cv rv m ns op c' :=
 ⟨h.i, h.bd, h.env, h.r1, by have := h.rl; omega, by have := h.ob; omega, h.nl, h.fu⟩
def MOut (mb : Nat) (w : World) (tn to_ : Value) (fuel : Nat) (nv cv rv : Value) (x : MV × MM) (e : Ending) (w' : World) : Prop :=
 e = .returned (mvV x.1) ∧ ∃ nv' cv' rv', PFr mb mb w w' nv cv rv nv' cv' rv' ∧ MIn mb w' tn to_ fuel nv' cv' rv' x.2
def WorkOk (mb B : Nat) (tn to_ : Value) (fuel : Nat) (ns : List NR) (op : List Int) (i : Int) (c : Nat) (f : MM → MV × MM) : Prop :=
 ∀ (w : World) (nv cv rv : Value) (m : MM), MSt mb B w tn to_ fuel nv cv rv m ns op c → MKeeps fuel c m (f m) ∧ Calls Tryz.prog 98 #[ptr mb, .int .i64 i] w (MOut mb w tn to_ fuel nv cv rv (f m))
set_option maxRecDepth 100000 in
set_option maxHeartbeats 4000000 in
theorem workLet_any (mb B : Nat) (tn to_ : Value) (fuel : Nat) (ns : List NR) (op : List Int) (n : NR) (ca cb : Nat) (fa fb : MM → MV × MM) (hp0 : -1 ≤ n.p0 ∧ n.p0 ≤ 9000)
  (ha : WorkOk mb B tn to_ fuel ns op n.p0 ca fa) (hb : WorkOk mb B tn to_ fuel ns op n.p1 cb fb)
  (w : World) (nv cv rv : Value) (m : MM) (h : MSt mb B w tn to_ fuel nv cv rv m ns op (ca + cb)) :
  Calls Tryz.prog 159 #[ptr mb, nrVal n] w (MOut mb w tn to_ fuel nv cv rv (fb ((fa m).2.name n.p0 (fa m).1))) := by
 obtain ⟨N, hN⟩ : ∃ N : Obj, N = .cells #[.int .i64 n.form, .int .i64 n.at_, .int .i64 n.beh, .int .i64 n.num, .string (bs n.word), .int .i64 n.region, .int .i64 n.source, .int .i64 n.p0, .int .i64 n.p1, .int .i64 n.p2] 160 := ⟨_, rfl⟩
 obtain ⟨R, hR⟩ : ∃ R : Obj, R = .cells #[.bool false, .int .i64 0] 171 := ⟨_, rfl⟩
 obtain ⟨W1, hE⟩ : ∃ W1, W1 = (w.alloc N).alloc R := ⟨_, rfl⟩
 have hW1 : Below w.heap.size w W1 := by rw [hE]; exact below_al (below_al (Below.refl _ _) _) _
 have h1 := h.below hW1
 have hsN : Beside mb w.heap.size W1 nv cv rv (nrO n) := Beside.new h.i (by rw [hE, hN]; exact blk_alloc _ (blk_new w _)) (Nat.le_refl _)
 have hsR : Beside mb (w.heap.size + 1) W1 nv cv rv (.cells #[.bool false, .int .i64 0] 171) := Beside.new h.i (by rw [hE, hR]; have := blk_new (w.alloc N) (.cells #[.bool false, .int .i64 0] 171); simpa using this) (by omega)
 have hka := ha W1 nv cv rv m (h1.less (by omega))
 have HF1 : Hid (PFr mb mb w W1 nv cv rv nv cv rv) := PFr.below mb mb nv cv rv hW1
 have HA : Hid _ := hka.2
 have HK : Hid _ := hka.1
 have HB : Hid _ := hb
 have H1 : Hid _ := h1
 have HSN : Hid _ := hsN
 have HSR : Hid _ := hsR
 have HP : Hid _ := hp0
 have hrw : w.heap.size ≤ w.heap.size + 1 := by omega
 clear hka ha hb hW1 h1 hsN hsR h hp0
 unfold ptr at HA
 unfold ptr nrVal
 go_enter Tryz.func159, Tryz.ntmps159
 subst hN
 subst hR
 go_wp2_with fail
 rw [← hE]
 refine Calls.mono HA.out ?_
 rintro _ w2 ⟨rfl, nv2, cv2, rv2, hf2, hi2⟩
 have hsN2 := HSN.out.keep hf2
 have hsR2 := HSR.out.keep hf2
 have h2 := H1.out.on (c' := cb) hf2 hi2 HK.out.1 HK.out.2.2.inner (by omega)
 have hbd2 := HK.out.2.1
 have HF2 : Hid _ := HF1.out.trans hf2
 clear hE hf2 hi2 HSN HSR H1 HF1 HA HK
 generalize fa m = x at *
 generalize w.heap.size + 1 = q at *
 obtain ⟨W3, hE3⟩ : ∃ W3, W3 = w2.alloc (.cells #[.bool x.1.c, .int .i64 x.1.n] 171) := ⟨_, rfl⟩
 have hW3 : Below w2.heap.size w2 W3 := by rw [hE3]; exact below_al (Below.refl _ _) _
 have h3 := h2.below hW3
 have hf3 : PFr mb mb w2 W3 nv2 cv2 rv2 nv2 cv2 rv2 := PFr.below mb mb nv2 cv2 rv2 hW3
 have hsN3 := hsN2.keep hf3
 have hsR3 := hsR2.keep hf3
 have hna := name_any mb W3 tn to_ fuel nv2 cv2 rv2 x.2 n.p0 x.1 (by have := HP.out; omega) (by rw [h3.nl]; exact h3.env.len) h3.i
 have HNA : Hid _ := hna
 have H3 : Hid _ := h3
 have HF3 : Hid _ := HF2.out.trans hf3
 have HSN3 : Hid _ := hsN3
 have HSR3 : Hid _ := hsR3
 have HBD2 : Hid _ := hbd2
 obtain ⟨_, _, _, _, _, _, _, c7, c8, _⟩ := nr_cells10 hsN2.b
 have hlp := blk_lt hsN2.b
 clear h3 hf3 hsN3 hsR3 hna HF2 hW3 h2 hsN2 hsR2 hbd2
 unfold ptr mvV at HNA
 unfold mvV
 go_wp2_with fail
 rw [← hE3]
 refine Calls.mono HNA.out ?_
 rintro _ w4 ⟨rfl, hf4, hi4⟩
 have hsN4 := HSN3.out.keep hf4
 have hsR4 := HSR3.out.keep hf4
 have h4 := H3.out.on (c' := cb) hf4 hi4 (MM.name_bd H3.out.bd n.p0 x.1 HBD2.out) (name_inner x.2 n.p0 x.1) (by omega)
 have hkb := HB.out w4 nv2 cv2 rv2 _ h4
 have HKB : Hid _ := hkb.2
 have HF4 : Hid _ := HF3.out.trans hf4
 have HSR4 : Hid _ := hsR4
 obtain ⟨_, _, _, _, _, _, _, d7, d8, _⟩ := nr_cells10 hsN4.b
 have hlp4 := blk_lt hsN4.b
 clear hE3 hf4 hi4 h4 hkb hsN4 hsR4 HSN3 HSR3 H3 HF3 HNA HBD2 c7 c8 hlp HB HP
 unfold ptr at HKB
 go_wp2_with fail
 refine Calls.mono HKB.out ?_
 rintro _ w5 ⟨rfl, nv5, cv5, rv5, hf5, hi5⟩
 have hsR5 := HSR4.out.keep hf5
 have HF5 : Hid _ := HF4.out.trans hf5
 have HI5 : Hid _ := hi5
 have HSR5 : Hid _ := hsR5
 have x0 : w5.cell? ⟨q, 0, none⟩ = some (.bool false) := by rw [blk_cell hsR5.b]; rfl
 have x1 : w5.cell? ⟨q, 1, none⟩ = some (.int .i64 0) := by rw [blk_cell hsR5.b]; rfl
 have g0 : w5.frozen? ⟨q, 0, none⟩ = false := blk_free hsR5.b 0
 have g1 : w5.frozen? ⟨q, 1, none⟩ = false := blk_free hsR5.b 1
 have hq5 := blk_lt hsR5.b
 clear hf5 hi5 hsR5 HSR4 HF4 HKB d7 d8 hlp4
 generalize fb (x.2.name n.p0 x.1) = y at *
 unfold mvV
 go_wp2
 have hs7 := HSR5.out
 have hi7 := (HI5.out.beside hs7.ne hs7.n hs7.c hs7.r 0 (.bool y.1.c)).beside hs7.ne hs7.n hs7.c hs7.r 1 (.int .i64 y.1.n)
 have hf7 := (HF5.out.upto (below_set' (below_set' (Below.refl _ _) ⟨q, 0, none⟩ hrw (.bool y.1.c)) ⟨q, 1, none⟩ hrw (.int .i64 y.1.n)))
 refine bodyPost_ret (v := .agg #[.bool y.1.c, .int .i64 y.1.n]) (by simp [results, Tryz.results159, go_sem, x0, x1]) rfl ⟨rfl, _, _, _, hf7, hi7⟩
set_option maxRecDepth 100000 in
set_option maxHeartbeats 4000000 in
theorem workPair_any (mb B : Nat) (tn to_ : Value) (fuel : Nat) (ns : List NR) (op : List Int) (n : NR) (ca cb : Nat) (fa fb : MM → MV × MM) (ha : WorkOk mb B tn to_ fuel ns op n.p0 ca fa) (hb : WorkOk mb B tn to_ fuel ns op n.p1 cb fb)
  (w : World) (nv cv rv : Value) (m : MM) (h : MSt mb B w tn to_ fuel nv cv rv m ns op (ca + cb)) :
  Calls Tryz.prog 160 #[ptr mb, nrVal n] w (MOut mb w tn to_ fuel nv cv rv ((fb (fa m).2).2.newCell n.region (fa m).1 (fb (fa m).2).1)) := by
 obtain ⟨N, hN⟩ : ∃ N : Obj, N = .cells #[.int .i64 n.form, .int .i64 n.at_, .int .i64 n.beh, .int .i64 n.num, .string (bs n.word), .int .i64 n.region, .int .i64 n.source, .int .i64 n.p0, .int .i64 n.p1, .int .i64 n.p2] 160 := ⟨_, rfl⟩
 obtain ⟨R, hR⟩ : ∃ R : Obj, R = .cells #[.bool false, .int .i64 0] 171 := ⟨_, rfl⟩
 obtain ⟨W1, hE⟩ : ∃ W1, W1 = (w.alloc N).alloc R := ⟨_, rfl⟩
 have hW1 : Below w.heap.size w W1 := by rw [hE]; exact below_al (below_al (Below.refl _ _) _) _
 have h1 := h.below hW1
 have hsN : Beside mb w.heap.size W1 nv cv rv (nrO n) := Beside.new h.i (by rw [hE, hN]; exact blk_alloc _ (blk_new w _)) (Nat.le_refl _)
 have hsR : Beside mb (w.heap.size + 1) W1 nv cv rv (.cells #[.bool false, .int .i64 0] 171) := Beside.new h.i (by rw [hE, hR]; have := blk_new (w.alloc N) (.cells #[.bool false, .int .i64 0] 171); simpa using this) (by omega)
 have HF1 : Hid (PFr mb mb w W1 nv cv rv nv cv rv) := PFr.below mb mb nv cv rv hW1
 have H1 : Hid _ := h1
 have HSN : Hid _ := hsN
 have HSR : Hid _ := hsR
 have hrw : w.heap.size ≤ w.heap.size + 1 := by omega
 have hka := ha W1 nv cv rv m (h1.less (by omega))
 have HA : Hid _ := hka.2
 have HK : Hid _ := hka.1
 skip
 clear hka ha hW1 h1 hsN hsR h
 unfold ptr at HA
 unfold ptr nrVal
 go_enter Tryz.func160, Tryz.ntmps160
 subst hN
 subst hR
 go_wp2_with fail
 rw [← hE]
 refine Calls.mono HA.out ?_
 rintro _ w2 ⟨rfl, nv2, cv2, rv2, hf2, hi2⟩
 have hsN2 := HSN.out.keep hf2
 have hsR2 := HSR.out.keep hf2
 have h2 := H1.out.on (c' := cb) hf2 hi2 HK.out.1 HK.out.2.2.inner (by omega)
 have hbd2 := HK.out.2.1
 have HF2 : Hid _ := HF1.out.trans hf2
 clear hE hf2 hi2 HSN HSR H1 HF1 HA HK
 generalize fa m = x at *
 generalize w.heap.size + 1 = q at *
 obtain ⟨W3, hE3⟩ : ∃ W3, W3 = w2.alloc (.cells #[.bool x.1.c, .int .i64 x.1.n] 171) := ⟨_, rfl⟩
 have hW3 : Below w2.heap.size w2 W3 := by rw [hE3]; exact below_al (Below.refl _ _) _
 have h3 := h2.below hW3
 have hf3 : PFr mb mb w2 W3 nv2 cv2 rv2 nv2 cv2 rv2 := PFr.below mb mb nv2 cv2 rv2 hW3
 have hsX3 : Beside mb w2.heap.size W3 nv2 cv2 rv2 (.cells #[.bool x.1.c, .int .i64 x.1.n] 171) := Beside.new h2.i (by rw [hE3]; exact blk_new w2 _) (Nat.le_refl _)
 have HF3 : Hid _ := HF2.out.trans hf3
 have HSN3 : Hid _ := hsN2.keep hf3
 have HSR3 : Hid _ := hsR2.keep hf3
 have HSX3 : Hid _ := hsX3
 have HBD2 : Hid _ := hbd2
 have H3 : Hid _ := h3
 obtain ⟨c0, _, _, _, _, c5, _, c7, c8, c9⟩ := nr_cells10 hsN2.b
 have hlp := blk_lt hsN2.b
 have hkb := hb W3 nv2 cv2 rv2 x.2 (h3.less (by omega))
 have HKB : Hid _ := hkb.2
 have HK2 : Hid _ := hkb.1
 clear h3 hf3 HF2 hW3 h2 hsN2 hsR2 hbd2 hkb hb hsX3
 unfold ptr at HKB
 unfold mvV
 go_wp2_with fail
 rw [← hE3]
 refine Calls.mono HKB.out ?_
 rintro _ w4 ⟨rfl, nv4, cv4, rv4, hf4, hi4⟩
 have hsN4 := HSN3.out.keep hf4
 have hsR4 := HSR3.out.keep hf4
 have hsX4 := HSX3.out.keep hf4
 have h4 := H3.out.on (c' := 0) hf4 hi4 HK2.out.1 HK2.out.2.2.inner (by omega)
 have hbd4 := HK2.out.2.1
 have HF4 : Hid _ := HF3.out.trans hf4
 clear hE3 hf4 hi4 HSN3 HSR3 HSX3 H3 HF3 HKB HK2 c0 c5 c7 c8 c9 hlp
 generalize fb x.2 = y at *
 generalize w2.heap.size = p at *
 obtain ⟨W5, hE5⟩ : ∃ W5, W5 = w4.alloc (.cells #[.bool y.1.c, .int .i64 y.1.n] 171) := ⟨_, rfl⟩
 have hW5 : Below w4.heap.size w4 W5 := by rw [hE5]; exact below_al (Below.refl _ _) _
 have h5 := h4.below hW5
 have hf5 : PFr mb mb w4 W5 nv4 cv4 rv4 nv4 cv4 rv4 := PFr.below mb mb nv4 cv4 rv4 hW5
 have hsR5' := hsR4.keep hf5
 obtain ⟨xc0, xc1⟩ := blk2 hsX4.b
 obtain ⟨d0, _, _, _, _, d5, _, d7, d8, d9⟩ := nr_cells10 hsN4.b
 have hlp4 := blk_lt hsN4.b
 have hlx4 := blk_lt hsX4.b
 have hnc := newCell_any mb W5 tn to_ fuel nv4 cv4 rv4 y.2 n.region x.1 y.1 h5.r1 h5.fu h5.bd h5.i
 have HNC : Hid _ := hnc
 have HF5' : Hid _ := HF4.out.trans hf5
 have HSR5' : Hid _ := hsR5'
 clear hnc h5 hf5 hsR5' hW5 h4 hsN4 hsR4 hsX4 hbd4 HF4 HBD2
 unfold ptr mvV at HNC
 unfold mvV
 go_wp2_with fail
 rw [← hE5]
 refine Calls.mono HNC.out ?_
 rintro _ w6 ⟨rfl, cv6, hf6, hi6⟩
 have HF5 : Hid _ := HF5'.out.trans hf6
 have HI5 : Hid _ := hi6
 have hsR5 := HSR5'.out.keep hf6
 have HSR5 : Hid _ := hsR5
 have x0 : w6.cell? ⟨q, 0, none⟩ = some (.bool false) := by rw [blk_cell hsR5.b]; rfl
 have x1 : w6.cell? ⟨q, 1, none⟩ = some (.int .i64 0) := by rw [blk_cell hsR5.b]; rfl
 have g0 : w6.frozen? ⟨q, 0, none⟩ = false := blk_free hsR5.b 0
 have g1 : w6.frozen? ⟨q, 1, none⟩ = false := blk_free hsR5.b 1
 have hq5 := blk_lt hsR5.b
 clear hsR5 hf6 hi6 HNC HF5' HSR5' hE5
 generalize y.2.newCell n.region x.1 y.1 = z at *
 go_wp2
 have hs7 := HSR5.out
 have hi7 := (HI5.out.beside hs7.ne hs7.n hs7.c hs7.r 0 (.bool z.1.c)).beside hs7.ne hs7.n hs7.c hs7.r 1 (.int .i64 z.1.n)
 have hf7 := (HF5.out.upto (below_set' (below_set' (Below.refl _ _) ⟨q, 0, none⟩ hrw (.bool z.1.c)) ⟨q, 1, none⟩ hrw (.int .i64 z.1.n)))
 refine bodyPost_ret (v := .agg #[.bool z.1.c, .int .i64 z.1.n]) (by simp [results, Tryz.results160, go_sem, x0, x1]) rfl ⟨rfl, _, _, _, hf7, hi7⟩
set_option maxRecDepth 100000 in
set_option maxHeartbeats 4000000 in
theorem workIf_any (mb B : Nat) (tn to_ : Value) (fuel : Nat) (ns : List NR) (op : List Int) (n : NR) (ca cb : Nat) (fa fb fc : MM → MV × MM) (ha : WorkOk mb B tn to_ fuel ns op n.p0 ca fa) (hb : WorkOk mb B tn to_ fuel ns op n.p1 cb fb) (cc : Nat) (hc : WorkOk mb B tn to_ fuel ns op n.p2 cc fc)
  (w : World) (nv cv rv : Value) (m : MM) (h : MSt mb B w tn to_ fuel nv cv rv m ns op (ca + (cb + cc))) :
  Calls Tryz.prog 162 #[ptr mb, nrVal n] w (MOut mb w tn to_ fuel nv cv rv (if (fa m).1.n ≠ 0 then fb (fa m).2 else fc (fa m).2)) := by
 obtain ⟨N, hN⟩ : ∃ N : Obj, N = .cells #[.int .i64 n.form, .int .i64 n.at_, .int .i64 n.beh, .int .i64 n.num, .string (bs n.word), .int .i64 n.region, .int .i64 n.source, .int .i64 n.p0, .int .i64 n.p1, .int .i64 n.p2] 160 := ⟨_, rfl⟩
 obtain ⟨R, hR⟩ : ∃ R : Obj, R = .cells #[.bool false, .int .i64 0] 171 := ⟨_, rfl⟩
 obtain ⟨W1, hE⟩ : ∃ W1, W1 = (w.alloc N).alloc R := ⟨_, rfl⟩
 have hW1 : Below w.heap.size w W1 := by rw [hE]; exact below_al (below_al (Below.refl _ _) _) _
 have h1 := h.below hW1
 have hsN : Beside mb w.heap.size W1 nv cv rv (nrO n) := Beside.new h.i (by rw [hE, hN]; exact blk_alloc _ (blk_new w _)) (Nat.le_refl _)
 have hsR : Beside mb (w.heap.size + 1) W1 nv cv rv (.cells #[.bool false, .int .i64 0] 171) := Beside.new h.i (by rw [hE, hR]; have := blk_new (w.alloc N) (.cells #[.bool false, .int .i64 0] 171); simpa using this) (by omega)
 have HF1 : Hid (PFr mb mb w W1 nv cv rv nv cv rv) := PFr.below mb mb nv cv rv hW1
 have H1 : Hid _ := h1
 have HSN : Hid _ := hsN
 have HSR : Hid _ := hsR
 have hrw : w.heap.size ≤ w.heap.size + 1 := by omega
 have hka := ha W1 nv cv rv m (h1.less (by omega))
 have HA : Hid _ := hka.2
 have HK : Hid _ := hka.1
 obtain ⟨y, hy⟩ : ∃ y, y = if (fa m).1.n ≠ 0 then fb (fa m).2 else fc (fa m).2 := ⟨_, rfl⟩
 rw [← hy]
 have HY : Hid _ := hy
 clear hy
 clear hka ha hW1 h1 hsN hsR h
 unfold ptr at HA
 unfold ptr nrVal
 go_enter Tryz.func162, Tryz.ntmps162
 subst hN
 subst hR
 go_wp2_with fail
 rw [← hE]
 refine Calls.mono HA.out ?_
 rintro _ w2 ⟨rfl, nv2, cv2, rv2, hf2, hi2⟩
 have hsN2 := HSN.out.keep hf2
 have hsR2 := HSR.out.keep hf2
 have h2 := H1.out.on (c' := (cb + cc)) hf2 hi2 HK.out.1 HK.out.2.2.inner (by omega)
 have hbd2 := HK.out.2.1
 have HF2 : Hid _ := HF1.out.trans hf2
 clear hE hf2 hi2 HSN HSR H1 HF1 HA HK
 generalize fa m = x at *
 generalize w.heap.size + 1 = q at *
 obtain ⟨W3, hE3⟩ : ∃ W3, W3 = w2.alloc (.cells #[.bool x.1.c, .int .i64 x.1.n] 171) := ⟨_, rfl⟩
 have hW3 : Below w2.heap.size w2 W3 := by rw [hE3]; exact below_al (Below.refl _ _) _
 have h3 := h2.below hW3
 have hf3 : PFr mb mb w2 W3 nv2 cv2 rv2 nv2 cv2 rv2 := PFr.below mb mb nv2 cv2 rv2 hW3
 have hsX3 : Beside mb w2.heap.size W3 nv2 cv2 rv2 (.cells #[.bool x.1.c, .int .i64 x.1.n] 171) := Beside.new h2.i (by rw [hE3]; exact blk_new w2 _) (Nat.le_refl _)
 have HF3 : Hid _ := HF2.out.trans hf3
 have HSN3 : Hid _ := hsN2.keep hf3
 have HSR3 : Hid _ := hsR2.keep hf3
 have HSX3 : Hid _ := hsX3
 have HBD2 : Hid _ := hbd2
 have H3 : Hid _ := h3
 obtain ⟨c0, _, _, _, _, c5, _, c7, c8, c9⟩ := nr_cells10 hsN2.b
 have hlp := blk_lt hsN2.b
 by_cases hq : x.1.n ≠ 0
 ·have hyy : y = fb x.2 := by have := HY.out; rw [if_pos hq] at this; exact this
  have hkb := hb W3 nv2 cv2 rv2 x.2 (h3.less (by omega))
  have HKB : Hid _ := hkb.2
  rw [← hyy] at HKB
  have hqb : (x.1.n != 0) = true := by simpa using hq
  clear h3 hf3 HF2 hW3 h2 hsN2 hsR2 hbd2 hkb hb hc hsX3 hyy HY hq
  unfold ptr at HKB
  unfold mvV
  go_wp2_with fail
  rw [← hE3]
  refine Calls.mono HKB.out ?_
  rintro _ w4 ⟨rfl, nv4, cv4, rv4, hf4, hi4⟩
  have HF5 : Hid _ := HF3.out.trans hf4
  have HI5 : Hid _ := hi4
  have hsR5 := HSR3.out.keep hf4
  have HSR5 : Hid _ := hsR5
  have x0 : w4.cell? ⟨q, 0, none⟩ = some (.bool false) := by rw [blk_cell hsR5.b]; rfl
  have x1 : w4.cell? ⟨q, 1, none⟩ = some (.int .i64 0) := by rw [blk_cell hsR5.b]; rfl
  have g0 : w4.frozen? ⟨q, 0, none⟩ = false := blk_free hsR5.b 0
  have g1 : w4.frozen? ⟨q, 1, none⟩ = false := blk_free hsR5.b 1
  have hq5 := blk_lt hsR5.b
  clear hsR5 hf4 hi4 HKB HF3 HSR3 HSN3 HSX3 H3 hE3 c0 c5 c7 c8 c9 hlp HBD2
  unfold mvV
  go_wp2
  have hs7 := HSR5.out
  have hi7 := (HI5.out.beside hs7.ne hs7.n hs7.c hs7.r 0 (.bool y.1.c)).beside hs7.ne hs7.n hs7.c hs7.r 1 (.int .i64 y.1.n)
  have hf7 := (HF5.out.upto (below_set' (below_set' (Below.refl _ _) ⟨q, 0, none⟩ hrw (.bool y.1.c)) ⟨q, 1, none⟩ hrw (.int .i64 y.1.n)))
  refine bodyPost_ret (v := .agg #[.bool y.1.c, .int .i64 y.1.n]) (by simp [results, Tryz.results162, go_sem, x0, x1]) rfl ⟨rfl, _, _, _, hf7, hi7⟩
 ·have hyy : y = fc x.2 := by have := HY.out; rw [if_neg hq] at this; exact this
  have hkb := hc W3 nv2 cv2 rv2 x.2 (h3.less (by omega))
  have HKB : Hid _ := hkb.2
  rw [← hyy] at HKB
  have hqb : (x.1.n != 0) = false := by simpa using hq
  clear h3 hf3 HF2 hW3 h2 hsN2 hsR2 hbd2 hkb hb hc hsX3 hyy HY hq
  unfold ptr at HKB
  unfold mvV
  go_wp2_with fail
  rw [← hE3]
  refine Calls.mono HKB.out ?_
  rintro _ w4 ⟨rfl, nv4, cv4, rv4, hf4, hi4⟩
  have HF5 : Hid _ := HF3.out.trans hf4
  have HI5 : Hid _ := hi4
  have hsR5 := HSR3.out.keep hf4
  have HSR5 : Hid _ := hsR5
  have x0 : w4.cell? ⟨q, 0, none⟩ = some (.bool false) := by rw [blk_cell hsR5.b]; rfl
  have x1 : w4.cell? ⟨q, 1, none⟩ = some (.int .i64 0) := by rw [blk_cell hsR5.b]; rfl
  have g0 : w4.frozen? ⟨q, 0, none⟩ = false := blk_free hsR5.b 0
  have g1 : w4.frozen? ⟨q, 1, none⟩ = false := blk_free hsR5.b 1
  have hq5 := blk_lt hsR5.b
  clear hsR5 hf4 hi4 HKB HF3 HSR3 HSN3 HSX3 H3 hE3 c0 c5 c7 c8 c9 hlp HBD2
  unfold mvV
  go_wp2
  have hs7 := HSR5.out
  have hi7 := (HI5.out.beside hs7.ne hs7.n hs7.c hs7.r 0 (.bool y.1.c)).beside hs7.ne hs7.n hs7.c hs7.r 1 (.int .i64 y.1.n)
  have hf7 := (HF5.out.upto (below_set' (below_set' (Below.refl _ _) ⟨q, 0, none⟩ hrw (.bool y.1.c)) ⟨q, 1, none⟩ hrw (.int .i64 y.1.n)))
  refine bodyPost_ret (v := .agg #[.bool y.1.c, .int .i64 y.1.n]) (by simp [results, Tryz.results162, go_sem, x0, x1]) rfl ⟨rfl, _, _, _, hf7, hi7⟩
set_option maxRecDepth 100000 in
set_option maxHeartbeats 4000000 in
theorem workNew_any (mb B : Nat) (tn to_ : Value) (fuel : Nat) (ns : List NR) (op : List Int) (n : NR) (hrg : -1 ≤ n.region ∧ n.region ≤ 9999) (ca : Nat) (fa : MM → MV × MM) (ha : WorkOk mb B tn to_ fuel ns op n.p0 ca fa)
  (w : World) (nv cv rv : Value) (m : MM) (h : MSt mb B w tn to_ fuel nv cv rv m ns op (1 + ca)) :
  Calls Tryz.prog 129 #[ptr mb, nrVal n] w (MOut mb w tn to_ fuel nv cv rv ((fa (m.opn n.region)).1, (fa (m.opn n.region)).2.fin)) := by
 obtain ⟨N, hN⟩ : ∃ N : Obj, N = .cells #[.int .i64 n.form, .int .i64 n.at_, .int .i64 n.beh, .int .i64 n.num, .string (bs n.word), .int .i64 n.region, .int .i64 n.source, .int .i64 n.p0, .int .i64 n.p1, .int .i64 n.p2] 160 := ⟨_, rfl⟩
 obtain ⟨R, hR⟩ : ∃ R : Obj, R = .cells #[.bool false, .int .i64 0] 171 := ⟨_, rfl⟩
 obtain ⟨W1, hE⟩ : ∃ W1, W1 = (w.alloc N).alloc R := ⟨_, rfl⟩
 have hW1 : Below w.heap.size w W1 := by rw [hE]; exact below_al (below_al (Below.refl _ _) _) _
 have h1 := h.below hW1
 have hsN : Beside mb w.heap.size W1 nv cv rv (nrO n) := Beside.new h.i (by rw [hE, hN]; exact blk_alloc _ (blk_new w _)) (Nat.le_refl _)
 have hsR : Beside mb (w.heap.size + 1) W1 nv cv rv (.cells #[.bool false, .int .i64 0] 171) := Beside.new h.i (by rw [hE, hR]; have := blk_new (w.alloc N) (.cells #[.bool false, .int .i64 0] 171); simpa using this) (by omega)
 have HF1 : Hid (PFr mb mb w W1 nv cv rv nv cv rv) := PFr.below mb mb nv cv rv hW1
 have H1 : Hid _ := h1
 have HSN : Hid _ := hsN
 have HSR : Hid _ := hsR
 have hrw : w.heap.size ≤ w.heap.size + 1 := by omega
 have hob := h1.ob
 have hrl := h1.rl
 have hop := open_any mb W1 tn to_ fuel nv cv rv m n.region (by omega) (by omega) h1.i
 have HOP : Hid _ := hop
 have HRG : Hid _ := hrg
 have HHA : Hid _ := ha
 clear hop h1 hsN hsR h hob hrl hrg ha hW1
 unfold ptr at HOP
 unfold ptr nrVal
 go_enter Tryz.func129, Tryz.ntmps129
 subst hN
 subst hR
 go_wp2_with fail
 rw [← hE]
 refine Calls.mono HOP.out ?_
 rintro _ w1 ⟨rfl, rv1, hf1, hi1⟩
 have hs1 := HSN.out.keep hf1
 have hsR1 := HSR.out.keep hf1
 have h1' := H1.out
 have hbd1 := MM.opn_bd h1'.bd n.region HRG.out (by have := h1'.rl; omega)
 have hm1 : MSt mb B w1 tn to_ fuel nv cv rv1 (m.opn n.region) ns op ca := ⟨hi1, hbd1, h1'.env.on hf1, by simp [MM.opn], by have := h1'.rl; simp [MM.opn]; omega, by have := h1'.ob; simp only [MM.opn]; omega, h1'.nl, h1'.fu⟩
 have hka := HHA.out w1 nv cv rv1 _ hm1
 have HA : Hid _ := hka.2
 have HK : Hid _ := hka.1
 have HM1 : Hid _ := hm1
 have HF2 : Hid _ := HF1.out.trans hf1
 have HSR1 : Hid _ := hsR1
 obtain ⟨_, _, _, _, _, c5, _, c7, _, _⟩ := nr_cells10 hs1.b
 have hlp := blk_lt hs1.b
 clear hE hf1 hi1 hs1 hsR1 h1' hbd1 hm1 hka HOP HRG HHA H1 HF1 HSN HSR
 unfold ptr at HA
 go_wp2_with fail
 refine Calls.mono HA.out ?_
 rintro _ w2 ⟨rfl, nv2, cv2, rv2, hf2, hi2⟩
 have hsR2 := HSR1.out.keep hf2
 have h2 := HM1.out.on (c' := 0) hf2 hi2 HK.out.1 HK.out.2.2.inner (by omega)
 have HF3 : Hid _ := HF2.out.trans hf2
 clear hf2 hi2 HA HK HM1 HF2 HSR1 c5 c7 hlp
 generalize fa (m.opn n.region) = x at *
 generalize w.heap.size + 1 = q at *
 obtain ⟨W3, hE3⟩ : ∃ W3, W3 = w2.alloc (.cells #[.bool x.1.c, .int .i64 x.1.n] 171) := ⟨_, rfl⟩
 have hW3 : Below w2.heap.size w2 W3 := by rw [hE3]; exact below_al (Below.refl _ _) _
 have h3 := h2.below hW3
 have hf3 : PFr mb mb w2 W3 nv2 cv2 rv2 nv2 cv2 rv2 := PFr.below mb mb nv2 cv2 rv2 hW3
 have hsX3 : Beside mb w2.heap.size W3 nv2 cv2 rv2 (.cells #[.bool x.1.c, .int .i64 x.1.n] 171) := Beside.new h2.i (by rw [hE3]; exact blk_new w2 _) (Nat.le_refl _)
 have hen := mend_any mb W3 tn to_ fuel nv2 cv2 rv2 x.2 h3.r1 h3.fu h3.bd h3.i
 have HEN : Hid _ := hen
 have HF4 : Hid _ := HF3.out.trans hf3
 have HSR3 : Hid _ := hsR2.keep hf3
 have HSX3 : Hid _ := hsX3
 clear hen hf3 hsX3 hsR2 h3 hW3 h2 HF3
 unfold ptr at HEN
 unfold mvV
 go_wp2_with fail
 rw [← hE3]
 refine Calls.mono HEN.out ?_
 rintro _ w4 ⟨rfl, rv4, hf4, hi4⟩
 obtain ⟨xc0, xc1⟩ := blk2 (HSX3.out.keep hf4).b
 have hlx4 := blk_lt (HSX3.out.keep hf4).b
 have HF5 : Hid _ := HF4.out.trans hf4
 have HI5 : Hid _ := hi4
 have hsR5 := HSR3.out.keep hf4
 have HSR5 : Hid _ := hsR5
 have x0 : w4.cell? ⟨q, 0, none⟩ = some (.bool false) := by rw [blk_cell hsR5.b]; rfl
 have x1 : w4.cell? ⟨q, 1, none⟩ = some (.int .i64 0) := by rw [blk_cell hsR5.b]; rfl
 have g0 : w4.frozen? ⟨q, 0, none⟩ = false := blk_free hsR5.b 0
 have g1 : w4.frozen? ⟨q, 1, none⟩ = false := blk_free hsR5.b 1
 have hq5 := blk_lt hsR5.b
 clear hsR5 hf4 hi4 HEN HF4 HSR3 HSX3 hE3
 generalize w2.heap.size = p at *
 go_wp2
 have hs7 := HSR5.out
 have hi7 := (HI5.out.beside hs7.ne hs7.n hs7.c hs7.r 0 (.bool x.1.c)).beside hs7.ne hs7.n hs7.c hs7.r 1 (.int .i64 x.1.n)
 have hf7 := (HF5.out.upto (below_set' (below_set' (Below.refl _ _) ⟨q, 0, none⟩ hrw (.bool x.1.c)) ⟨q, 1, none⟩ hrw (.int .i64 x.1.n)))
 refine bodyPost_ret (v := .agg #[.bool x.1.c, .int .i64 x.1.n]) (by simp [results, Tryz.results129, go_sem, x0, x1]) rfl ⟨rfl, _, _, _, hf7, hi7⟩
theorem ibeq_true' {a b : Nat} (h : a = b) : ((a : Int) == (b : Int)) = true := by subst h; simp
theorem ibeq_false'' {a b : Nat} (h : a ≠ b) : ((a : Int) == (b : Int)) = false := by rw [beq_eq_false_iff_ne]; omega
def mArithN (f : Nat) (a b : Int) : Int := if f = 8 then Int.tmod (a + b) 10000 else if f = 9 then Int.tmod (a + 10000 - b) 10000 else if a < b then 1 else 0
set_option maxRecDepth 100000 in
set_option maxHeartbeats 4000000 in
theorem workPart_any (mb B : Nat) (tn to_ : Value) (fuel : Nat) (ns : List NR) (op : List Int) (n : NR) (ca : Nat) (fa : MM → MV × MM) (ha : WorkOk mb B tn to_ fuel ns op n.p0 ca fa)
  (w : World) (nv cv rv : Value) (m : MM) (h : MSt mb B w tn to_ fuel nv cv rv m ns op (ca)) :
  Calls Tryz.prog 161 #[ptr mb, nrVal n] w (MOut mb w tn to_ fuel nv cv rv (if n.form = 5 then ((fa m).2.use (fa m).1).1.a else ((fa m).2.use (fa m).1).1.b, ((fa m).2.use (fa m).1).2)) := by
 obtain ⟨N, hN⟩ : ∃ N : Obj, N = .cells #[.int .i64 n.form, .int .i64 n.at_, .int .i64 n.beh, .int .i64 n.num, .string (bs n.word), .int .i64 n.region, .int .i64 n.source, .int .i64 n.p0, .int .i64 n.p1, .int .i64 n.p2] 160 := ⟨_, rfl⟩
 obtain ⟨R, hR⟩ : ∃ R : Obj, R = .cells #[.bool false, .int .i64 0] 171 := ⟨_, rfl⟩
 obtain ⟨W1, hE⟩ : ∃ W1, W1 = (w.alloc N).alloc R := ⟨_, rfl⟩
 have hW1 : Below w.heap.size w W1 := by rw [hE]; exact below_al (below_al (Below.refl _ _) _) _
 have h1 := h.below hW1
 have hsN : Beside mb w.heap.size W1 nv cv rv (nrO n) := Beside.new h.i (by rw [hE, hN]; exact blk_alloc _ (blk_new w _)) (Nat.le_refl _)
 have hsR : Beside mb (w.heap.size + 1) W1 nv cv rv (.cells #[.bool false, .int .i64 0] 171) := Beside.new h.i (by rw [hE, hR]; have := blk_new (w.alloc N) (.cells #[.bool false, .int .i64 0] 171); simpa using this) (by omega)
 have HF1 : Hid (PFr mb mb w W1 nv cv rv nv cv rv) := PFr.below mb mb nv cv rv hW1
 have H1 : Hid _ := h1
 have HSN : Hid _ := hsN
 have HSR : Hid _ := hsR
 have hrw : w.heap.size ≤ w.heap.size + 1 := by omega
 have hka := ha W1 nv cv rv m (h1.less (by omega))
 have HA : Hid _ := hka.2
 have HK : Hid _ := hka.1
 obtain ⟨pv, hpv⟩ : ∃ pv, pv = if n.form = 5 then ((fa m).2.use (fa m).1).1.a else ((fa m).2.use (fa m).1).1.b := ⟨_, rfl⟩
 rw [← hpv]
 have HPV : Hid _ := hpv
 clear hpv
 clear hka ha hW1 h1 hsN hsR h
 unfold ptr at HA
 unfold ptr nrVal
 go_enter Tryz.func161, Tryz.ntmps161
 subst hN
 subst hR
 go_wp2_with fail
 rw [← hE]
 refine Calls.mono HA.out ?_
 rintro _ w2 ⟨rfl, nv2, cv2, rv2, hf2, hi2⟩
 have hsN2 := HSN.out.keep hf2
 have hsR2 := HSR.out.keep hf2
 have h2 := H1.out.on (c' := 0) hf2 hi2 HK.out.1 HK.out.2.2.inner (by omega)
 have hbd2 := HK.out.2.1
 have HF2 : Hid _ := HF1.out.trans hf2
 clear hE hf2 hi2 HSN HSR H1 HF1 HA HK
 generalize fa m = x at *
 generalize w.heap.size + 1 = q at *
 obtain ⟨W3, hE3⟩ : ∃ W3, W3 = w2.alloc (.cells #[.bool x.1.c, .int .i64 x.1.n] 171) := ⟨_, rfl⟩
 have hW3 : Below w2.heap.size w2 W3 := by rw [hE3]; exact below_al (Below.refl _ _) _
 have h3 := h2.below hW3
 have hf3 : PFr mb mb w2 W3 nv2 cv2 rv2 nv2 cv2 rv2 := PFr.below mb mb nv2 cv2 rv2 hW3
 have hsX3 : Beside mb w2.heap.size W3 nv2 cv2 rv2 (.cells #[.bool x.1.c, .int .i64 x.1.n] 171) := Beside.new h2.i (by rw [hE3]; exact blk_new w2 _) (Nat.le_refl _)
 have HF3 : Hid _ := HF2.out.trans hf3
 have HSN3 : Hid _ := hsN2.keep hf3
 have HSR3 : Hid _ := hsR2.keep hf3
 have HSX3 : Hid _ := hsX3
 have HBD2 : Hid _ := hbd2
 have H3 : Hid _ := h3
 obtain ⟨c0, _, _, _, _, c5, _, c7, c8, c9⟩ := nr_cells10 hsN2.b
 have hlp := blk_lt hsN2.b
 have hus := use_any mb W3 tn to_ fuel nv2 cv2 rv2 x.2 x.1 h3.bd h3.fu hbd2 h3.i
 have HUS : Hid _ := hus
 clear h3 hf3 HF2 hW3 h2 hsN2 hsR2 hbd2 hus hsX3 HSX3 HBD2 H3
 unfold ptr mvV at HUS
 unfold mvV
 go_wp2_with fail
 rw [← hE3]
 refine Calls.mono HUS.out ?_
 rintro _ w4 ⟨rfl, hf4, hi4⟩
 have hsN4 := HSN3.out.keep hf4
 have hsR4 := HSR3.out.keep hf4
 have HF4 : Hid _ := HF3.out.trans hf4
 clear hE3 hf4 HSN3 HSR3 HF3 HUS c0 c5 c7 c8 c9 hlp
 generalize x.2.use x.1 = z at *
 obtain ⟨W5, hE5⟩ : ∃ W5, W5 = w4.alloc (.cells #[.bool z.1.a.c, .int .i64 z.1.a.n, .bool z.1.b.c, .int .i64 z.1.b.n, .int .i64 z.1.home, .int .i64 z.1.ser] 219) := ⟨_, rfl⟩
 have hW5 : Below w4.heap.size w4 W5 := by rw [hE5]; exact below_al (Below.refl _ _) _
 have hi5 := hi4.below hW5
 have hf5 : PFr mb mb w4 W5 nv2 cv2 rv2 nv2 cv2 rv2 := PFr.below mb mb nv2 cv2 rv2 hW5
 have hsR5' := hsR4.keep hf5
 have hsN5 := hsN4.keep hf5
 have hcb : W5.heap[w4.heap.size]? = some (.cells #[.bool z.1.a.c, .int .i64 z.1.a.n, .bool z.1.b.c, .int .i64 z.1.b.n, .int .i64 z.1.home, .int .i64 z.1.ser] 219) := by rw [hE5]; exact blk_new w4 _
 obtain ⟨e0, e1, e2, e3, e4, e5⟩ := mc_cells hcb
 obtain ⟨d0, _, _, _, _, _, _, _, _, _⟩ := nr_cells10 hsN5.b
 have hlp5 := blk_lt hsN5.b
 have hlc5 := blk_lt hcb
 unfold mcV
 go_upto_region 3 with fail
 rw [← hE5]
 have HF5 : Hid _ := HF4.out.trans hf5
 have HI5 : Hid _ := hi5
 have hsR5 := hsR5'
 have HSR5 : Hid _ := hsR5
 have x0 : W5.cell? ⟨q, 0, none⟩ = some (.bool false) := by rw [blk_cell hsR5.b]; rfl
 have x1 : W5.cell? ⟨q, 1, none⟩ = some (.int .i64 0) := by rw [blk_cell hsR5.b]; rfl
 have g0 : W5.frozen? ⟨q, 0, none⟩ = false := blk_free hsR5.b 0
 have g1 : W5.frozen? ⟨q, 1, none⟩ = false := blk_free hsR5.b 1
 have hq5 := blk_lt hsR5.b
 clear hsR5 hsR5' hi5 hf5 HF4 hsN5 hsN4 hsR4 hi4 hW5 hE5 hcb
 generalize w4.heap.size = r at *
 by_cases hq : n.form = 5
 ·have hqb : ((n.form : Int) == 5) = true := ibeq_true' hq
  have hv : pv = z.1.a := by have := HPV.out; rw [if_pos hq] at this; exact this
  clear HPV hq
  subst hv
  go_wp2
  have hs7 := HSR5.out
  have hi7 := (HI5.out.beside hs7.ne hs7.n hs7.c hs7.r 0 (.bool z.1.a.c)).beside hs7.ne hs7.n hs7.c hs7.r 1 (.int .i64 z.1.a.n)
  have hf7 := (HF5.out.upto (below_set' (below_set' (Below.refl _ _) ⟨q, 0, none⟩ hrw (.bool z.1.a.c)) ⟨q, 1, none⟩ hrw (.int .i64 z.1.a.n)))
  refine bodyPost_ret (v := .agg #[.bool z.1.a.c, .int .i64 z.1.a.n]) (by simp [results, Tryz.results161, go_sem, x0, x1]) rfl ⟨rfl, _, _, _, hf7, hi7⟩
 ·have hqb : ((n.form : Int) == 5) = false := ibeq_false'' hq
  have hv : pv = z.1.b := by have := HPV.out; rw [if_neg hq] at this; exact this
  clear HPV hq
  subst hv
  go_wp2
  have hs7 := HSR5.out
  have hi7 := (HI5.out.beside hs7.ne hs7.n hs7.c hs7.r 0 (.bool z.1.b.c)).beside hs7.ne hs7.n hs7.c hs7.r 1 (.int .i64 z.1.b.n)
  have hf7 := (HF5.out.upto (below_set' (below_set' (Below.refl _ _) ⟨q, 0, none⟩ hrw (.bool z.1.b.c)) ⟨q, 1, none⟩ hrw (.int .i64 z.1.b.n)))
  refine bodyPost_ret (v := .agg #[.bool z.1.b.c, .int .i64 z.1.b.n]) (by simp [results, Tryz.results161, go_sem, x0, x1]) rfl ⟨rfl, _, _, _, hf7, hi7⟩
set_option maxRecDepth 100000 in
set_option maxHeartbeats 4000000 in
theorem workNumbers_any (mb B : Nat) (tn to_ : Value) (fuel : Nat) (ns : List NR) (op : List Int) (n : NR) (ca cb : Nat) (fa fb : MM → MV × MM) (ha : WorkOk mb B tn to_ fuel ns op n.p0 ca fa) (hb : WorkOk mb B tn to_ fuel ns op n.p1 cb fb)
  (w : World) (nv cv rv : Value) (m : MM) (h : MSt mb B w tn to_ fuel nv cv rv m ns op (ca + cb)) :
  Calls Tryz.prog 163 #[ptr mb, nrVal n] w (MOut mb w tn to_ fuel nv cv rv (⟨false, mArithN n.form (fa m).1.n (fb (fa m).2).1.n⟩, (fb (fa m).2).2)) := by
 obtain ⟨N, hN⟩ : ∃ N : Obj, N = .cells #[.int .i64 n.form, .int .i64 n.at_, .int .i64 n.beh, .int .i64 n.num, .string (bs n.word), .int .i64 n.region, .int .i64 n.source, .int .i64 n.p0, .int .i64 n.p1, .int .i64 n.p2] 160 := ⟨_, rfl⟩
 obtain ⟨R, hR⟩ : ∃ R : Obj, R = .cells #[.bool false, .int .i64 0] 171 := ⟨_, rfl⟩
 obtain ⟨W1, hE⟩ : ∃ W1, W1 = (w.alloc N).alloc R := ⟨_, rfl⟩
 have hW1 : Below w.heap.size w W1 := by rw [hE]; exact below_al (below_al (Below.refl _ _) _) _
 have h1 := h.below hW1
 have hsN : Beside mb w.heap.size W1 nv cv rv (nrO n) := Beside.new h.i (by rw [hE, hN]; exact blk_alloc _ (blk_new w _)) (Nat.le_refl _)
 have hsR : Beside mb (w.heap.size + 1) W1 nv cv rv (.cells #[.bool false, .int .i64 0] 171) := Beside.new h.i (by rw [hE, hR]; have := blk_new (w.alloc N) (.cells #[.bool false, .int .i64 0] 171); simpa using this) (by omega)
 have HF1 : Hid (PFr mb mb w W1 nv cv rv nv cv rv) := PFr.below mb mb nv cv rv hW1
 have H1 : Hid _ := h1
 have HSN : Hid _ := hsN
 have HSR : Hid _ := hsR
 have hrw : w.heap.size ≤ w.heap.size + 1 := by omega
 have hka := ha W1 nv cv rv m (h1.less (by omega))
 have HA : Hid _ := hka.2
 have HK : Hid _ := hka.1
 obtain ⟨av, hav⟩ : ∃ av, av = mArithN n.form (fa m).1.n (fb (fa m).2).1.n := ⟨_, rfl⟩
 rw [← hav]
 have HAV : Hid _ := hav
 clear hav
 clear hka ha hW1 h1 hsN hsR h
 unfold ptr at HA
 unfold ptr nrVal
 go_enter Tryz.func163, Tryz.ntmps163
 subst hN
 subst hR
 go_wp2_with fail
 rw [← hE]
 refine Calls.mono HA.out ?_
 rintro _ w2 ⟨rfl, nv2, cv2, rv2, hf2, hi2⟩
 have hsN2 := HSN.out.keep hf2
 have hsR2 := HSR.out.keep hf2
 have h2 := H1.out.on (c' := cb) hf2 hi2 HK.out.1 HK.out.2.2.inner (by omega)
 have hbd2 := HK.out.2.1
 have HF2 : Hid _ := HF1.out.trans hf2
 clear hE hf2 hi2 HSN HSR H1 HF1 HA HK
 generalize fa m = x at *
 generalize w.heap.size + 1 = q at *
 obtain ⟨W3, hE3⟩ : ∃ W3, W3 = w2.alloc (.cells #[.bool x.1.c, .int .i64 x.1.n] 171) := ⟨_, rfl⟩
 have hW3 : Below w2.heap.size w2 W3 := by rw [hE3]; exact below_al (Below.refl _ _) _
 have h3 := h2.below hW3
 have hf3 : PFr mb mb w2 W3 nv2 cv2 rv2 nv2 cv2 rv2 := PFr.below mb mb nv2 cv2 rv2 hW3
 have hsX3 : Beside mb w2.heap.size W3 nv2 cv2 rv2 (.cells #[.bool x.1.c, .int .i64 x.1.n] 171) := Beside.new h2.i (by rw [hE3]; exact blk_new w2 _) (Nat.le_refl _)
 have HF3 : Hid _ := HF2.out.trans hf3
 have HSN3 : Hid _ := hsN2.keep hf3
 have HSR3 : Hid _ := hsR2.keep hf3
 have HSX3 : Hid _ := hsX3
 have HBD2 : Hid _ := hbd2
 have H3 : Hid _ := h3
 obtain ⟨c0, _, _, _, _, c5, _, c7, c8, c9⟩ := nr_cells10 hsN2.b
 have hlp := blk_lt hsN2.b
 have hkb := hb W3 nv2 cv2 rv2 x.2 (h3.less (by omega))
 have HKB : Hid _ := hkb.2
 have HK2 : Hid _ := hkb.1
 clear h3 hf3 HF2 hW3 h2 hsN2 hsR2 hbd2 hkb hb hsX3
 unfold ptr at HKB
 unfold mvV
 go_wp2_with fail
 rw [← hE3]
 refine Calls.mono HKB.out ?_
 rintro _ w4 ⟨rfl, nv4, cv4, rv4, hf4, hi4⟩
 have hsN4 := HSN3.out.keep hf4
 have hsR4 := HSR3.out.keep hf4
 have hsX4 := HSX3.out.keep hf4
 have h4 := H3.out.on (c' := 0) hf4 hi4 HK2.out.1 HK2.out.2.2.inner (by omega)
 have hbd4 := HK2.out.2.1
 have HF4 : Hid _ := HF3.out.trans hf4
 clear hE3 hf4 hi4 HSN3 HSR3 HSX3 H3 HF3 HKB HK2 c0 c5 c7 c8 c9 hlp
 generalize fb x.2 = y at *
 generalize w2.heap.size = p at *
 obtain ⟨W5, hE5⟩ : ∃ W5, W5 = w4.alloc (.cells #[.bool y.1.c, .int .i64 y.1.n] 171) := ⟨_, rfl⟩
 have hW5 : Below w4.heap.size w4 W5 := by rw [hE5]; exact below_al (Below.refl _ _) _
 have h5 := h4.below hW5
 have hf5 : PFr mb mb w4 W5 nv4 cv4 rv4 nv4 cv4 rv4 := PFr.below mb mb nv4 cv4 rv4 hW5
 have hsR5' := hsR4.keep hf5
 obtain ⟨xc0, xc1⟩ := blk2 hsX4.b
 obtain ⟨d0, _, _, _, _, d5, _, d7, d8, d9⟩ := nr_cells10 hsN4.b
 have hlp4 := blk_lt hsN4.b
 have hlx4 := blk_lt hsX4.b
 have hsN5 := hsN4.keep hf5
 have hsX5 := hsX4.keep hf5
 have hyb : W5.heap[w4.heap.size]? = some (.cells #[.bool y.1.c, .int .i64 y.1.n] 171) := by rw [hE5]; exact blk_new w4 _
 obtain ⟨e0, e1⟩ := blk2 hyb
 obtain ⟨k0, k1⟩ := blk2 hsX5.b
 obtain ⟨m0, _, _, _, _, _, _, _, _, _⟩ := nr_cells10 hsN5.b
 have hl1 := blk_lt hsN5.b
 have hl2 := blk_lt hsX5.b
 have hl3 := blk_lt hyb
 have hxb := HBD2.out
 unfold MV.bd at hxb hbd4
 unfold mvV
 go_upto_region 3 with fail
 rw [← hE5]
 have HF5 : Hid _ := HF4.out.trans hf5
 have HI5 : Hid _ := h5.i
 have hsR5 := hsR5'
 have HSR5 : Hid _ := hsR5
 have x0 : W5.cell? ⟨q, 0, none⟩ = some (.bool false) := by rw [blk_cell hsR5.b]; rfl
 have x1 : W5.cell? ⟨q, 1, none⟩ = some (.int .i64 0) := by rw [blk_cell hsR5.b]; rfl
 have g0 : W5.frozen? ⟨q, 0, none⟩ = false := blk_free hsR5.b 0
 have g1 : W5.frozen? ⟨q, 1, none⟩ = false := blk_free hsR5.b 1
 have hq5 := blk_lt hsR5.b
 clear hsR5 hsR5' h5 hf5 HF4 hsN5 hsX5 hsN4 hsX4 hsR4 h4 hW5 hE5 hyb HBD2 d0 d5 d7 d8 d9 xc0 xc1 hlp4 hlx4
 generalize w4.heap.size = r at *
 by_cases hq8 : n.form = 8
 ·have hqb : ((n.form : Int) == 8) = true := ibeq_true' hq8
  have hv : av = Int.tmod (x.1.n + y.1.n) 10000 := by rw [HAV.out]; unfold mArithN; rw [if_pos hq8]
  clear hq8 HAV
  subst hv
  go_wp2
  have hs7 := HSR5.out
  have hi7 := (HI5.out.beside hs7.ne hs7.n hs7.c hs7.r 0 (.bool (⟨false, Int.tmod (x.1.n + y.1.n) 10000⟩ : MV).c)).beside hs7.ne hs7.n hs7.c hs7.r 1 (.int .i64 (⟨false, Int.tmod (x.1.n + y.1.n) 10000⟩ : MV).n)
  have hf7 := (HF5.out.upto (below_set' (below_set' (Below.refl _ _) ⟨q, 0, none⟩ hrw (.bool (⟨false, Int.tmod (x.1.n + y.1.n) 10000⟩ : MV).c)) ⟨q, 1, none⟩ hrw (.int .i64 (⟨false, Int.tmod (x.1.n + y.1.n) 10000⟩ : MV).n)))
  refine bodyPost_ret (v := .agg #[.bool (⟨false, Int.tmod (x.1.n + y.1.n) 10000⟩ : MV).c, .int .i64 (⟨false, Int.tmod (x.1.n + y.1.n) 10000⟩ : MV).n]) (by simp [results, Tryz.results163, go_sem, x0, x1]) rfl ⟨rfl, _, _, _, hf7, hi7⟩
 ·have hqb : ((n.form : Int) == 8) = false := ibeq_false'' hq8
  by_cases hq9 : n.form = 9
  ·have hqb9 : ((n.form : Int) == 9) = true := ibeq_true' hq9
   have hv : av = Int.tmod (x.1.n + 10000 - y.1.n) 10000 := by rw [HAV.out]; unfold mArithN; rw [if_neg hq8, if_pos hq9]
   clear hq8 hq9 HAV
   subst hv
   go_wp2
   have hs7 := HSR5.out
   have hi7 := (HI5.out.beside hs7.ne hs7.n hs7.c hs7.r 0 (.bool (⟨false, Int.tmod (x.1.n + 10000 - y.1.n) 10000⟩ : MV).c)).beside hs7.ne hs7.n hs7.c hs7.r 1 (.int .i64 (⟨false, Int.tmod (x.1.n + 10000 - y.1.n) 10000⟩ : MV).n)
   have hf7 := (HF5.out.upto (below_set' (below_set' (Below.refl _ _) ⟨q, 0, none⟩ hrw (.bool (⟨false, Int.tmod (x.1.n + 10000 - y.1.n) 10000⟩ : MV).c)) ⟨q, 1, none⟩ hrw (.int .i64 (⟨false, Int.tmod (x.1.n + 10000 - y.1.n) 10000⟩ : MV).n)))
   refine bodyPost_ret (v := .agg #[.bool (⟨false, Int.tmod (x.1.n + 10000 - y.1.n) 10000⟩ : MV).c, .int .i64 (⟨false, Int.tmod (x.1.n + 10000 - y.1.n) 10000⟩ : MV).n]) (by simp [results, Tryz.results163, go_sem, x0, x1]) rfl ⟨rfl, _, _, _, hf7, hi7⟩
  ·have hqb9 : ((n.form : Int) == 9) = false := ibeq_false'' hq9
   by_cases hlt : x.1.n < y.1.n
   ·have hv : av = 1 := by rw [HAV.out]; unfold mArithN; rw [if_neg hq8, if_neg hq9, if_pos hlt]
    clear hq8 hq9 HAV
    subst hv
    go_wp2
    have hs7 := HSR5.out
    have hi7 := (HI5.out.beside hs7.ne hs7.n hs7.c hs7.r 0 (.bool (⟨false, 1⟩ : MV).c)).beside hs7.ne hs7.n hs7.c hs7.r 1 (.int .i64 (⟨false, 1⟩ : MV).n)
    have hf7 := (HF5.out.upto (below_set' (below_set' (Below.refl _ _) ⟨q, 0, none⟩ hrw (.bool (⟨false, 1⟩ : MV).c)) ⟨q, 1, none⟩ hrw (.int .i64 (⟨false, 1⟩ : MV).n)))
    refine bodyPost_ret (v := .agg #[.bool (⟨false, 1⟩ : MV).c, .int .i64 (⟨false, 1⟩ : MV).n]) (by simp [results, Tryz.results163, go_sem, x0, x1]) rfl ⟨rfl, _, _, _, hf7, hi7⟩
   ·have hv : av = 0 := by rw [HAV.out]; unfold mArithN; rw [if_neg hq8, if_neg hq9, if_neg hlt]
    clear hq8 hq9 HAV
    subst hv
    go_wp2
    have hs7 := HSR5.out
    have hi7 := (HI5.out.beside hs7.ne hs7.n hs7.c hs7.r 0 (.bool (⟨false, 0⟩ : MV).c)).beside hs7.ne hs7.n hs7.c hs7.r 1 (.int .i64 (⟨false, 0⟩ : MV).n)
    have hf7 := (HF5.out.upto (below_set' (below_set' (Below.refl _ _) ⟨q, 0, none⟩ hrw (.bool (⟨false, 0⟩ : MV).c)) ⟨q, 1, none⟩ hrw (.int .i64 (⟨false, 0⟩ : MV).n)))
    refine bodyPost_ret (v := .agg #[.bool (⟨false, 0⟩ : MV).c, .int .i64 (⟨false, 0⟩ : MV).n]) (by simp [results, Tryz.results163, go_sem, x0, x1]) rfl ⟨rfl, _, _, _, hf7, hi7⟩
theorem Beside.other {mb k s : Nat} {w w' : World} {nv cv rv : Value} {o : Obj} (h : Beside mb k w nv cv rv o) (hb : Below s w w') (hk : k < s) : Beside mb k w' nv cv rv o := ⟨by rw [hb.block k hk]; exact h.b, h.ne, h.n, h.c, h.r⟩
set_option maxRecDepth 100000 in
set_option maxHeartbeats 4000000 in
theorem workLoop_any (mb B : Nat) (tn to_ : Value) (fuel : Nat) (ns : List NR) (op : List Int) (n : NR) (hp1 : -1 ≤ n.p1 ∧ n.p1 ≤ 9000) (ca cb cc : Nat) (fa fb fc : MM → MV × MM) (ha : WorkOk mb B tn to_ fuel ns op n.p0 ca fa) (hb : WorkOk mb B tn to_ fuel ns op n.p1 cb fb) (hcc : cc ≤ 20000) (hc : WorkOk mb B tn to_ fuel ns op n.p2 cc fc)
  (w : World) (nv cv rv : Value) (m : MM) (h : MSt mb B w tn to_ fuel nv cv rv m ns op (ca + (cb + cc))) :
  Calls Tryz.prog 164 #[ptr mb, nrVal n] w (MOut mb w tn to_ fuel nv cv rv (mTurns n.p1 fc (fa m).1.n.toNat (fb (fa m).2).1 (fb (fa m).2).2)) := by
 obtain ⟨N, hN⟩ : ∃ N : Obj, N = .cells #[.int .i64 n.form, .int .i64 n.at_, .int .i64 n.beh, .int .i64 n.num, .string (bs n.word), .int .i64 n.region, .int .i64 n.source, .int .i64 n.p0, .int .i64 n.p1, .int .i64 n.p2] 160 := ⟨_, rfl⟩
 obtain ⟨R, hR⟩ : ∃ R : Obj, R = .cells #[.bool false, .int .i64 0] 171 := ⟨_, rfl⟩
 obtain ⟨W1, hE⟩ : ∃ W1, W1 = (w.alloc N).alloc R := ⟨_, rfl⟩
 have hW1 : Below w.heap.size w W1 := by rw [hE]; exact below_al (below_al (Below.refl _ _) _) _
 have h1 := h.below hW1
 have hsN : Beside mb w.heap.size W1 nv cv rv (nrO n) := Beside.new h.i (by rw [hE, hN]; exact blk_alloc _ (blk_new w _)) (Nat.le_refl _)
 have hsR : Beside mb (w.heap.size + 1) W1 nv cv rv (.cells #[.bool false, .int .i64 0] 171) := Beside.new h.i (by rw [hE, hR]; have := blk_new (w.alloc N) (.cells #[.bool false, .int .i64 0] 171); simpa using this) (by omega)
 have HF1 : Hid (PFr mb mb w W1 nv cv rv nv cv rv) := PFr.below mb mb nv cv rv hW1
 have H1 : Hid _ := h1
 have HSN : Hid _ := hsN
 have HSR : Hid _ := hsR
 have hrw : w.heap.size ≤ w.heap.size + 1 := by omega
 have hka := ha W1 nv cv rv m (h1.less (by omega))
 have HA : Hid _ := hka.2
 have HK : Hid _ := hka.1
 obtain ⟨res, hres⟩ : ∃ res, res = mTurns n.p1 fc (fa m).1.n.toNat (fb (fa m).2).1 (fb (fa m).2).2 := ⟨_, rfl⟩
 rw [← hres]
 have HRES : Hid _ := hres
 clear hres
 clear hka ha hW1 h1 hsN hsR h
 unfold ptr at HA
 unfold ptr nrVal
 go_enter Tryz.func164, Tryz.ntmps164
 subst hN
 subst hR
 go_wp2_with fail
 rw [← hE]
 refine Calls.mono HA.out ?_
 rintro _ w2 ⟨rfl, nv2, cv2, rv2, hf2, hi2⟩
 have hsN2 := HSN.out.keep hf2
 have hsR2 := HSR.out.keep hf2
 have h2 := H1.out.on (c' := (cb + cc)) hf2 hi2 HK.out.1 HK.out.2.2.inner (by omega)
 have hbd2 := HK.out.2.1
 have HF2 : Hid _ := HF1.out.trans hf2
 clear hE hf2 hi2 HSN HSR H1 HF1 HA HK
 generalize fa m = x at *
 generalize w.heap.size + 1 = q at *
 obtain ⟨W3, hE3⟩ : ∃ W3, W3 = w2.alloc (.cells #[.bool x.1.c, .int .i64 x.1.n] 171) := ⟨_, rfl⟩
 have hW3 : Below w2.heap.size w2 W3 := by rw [hE3]; exact below_al (Below.refl _ _) _
 have h3 := h2.below hW3
 have hf3 : PFr mb mb w2 W3 nv2 cv2 rv2 nv2 cv2 rv2 := PFr.below mb mb nv2 cv2 rv2 hW3
 have hsX3 : Beside mb w2.heap.size W3 nv2 cv2 rv2 (.cells #[.bool x.1.c, .int .i64 x.1.n] 171) := Beside.new h2.i (by rw [hE3]; exact blk_new w2 _) (Nat.le_refl _)
 have HF3 : Hid _ := HF2.out.trans hf3
 have HSN3 : Hid _ := hsN2.keep hf3
 have HSR3 : Hid _ := hsR2.keep hf3
 have HSX3 : Hid _ := hsX3
 have HBD2 : Hid _ := hbd2
 have H3 : Hid _ := h3
 obtain ⟨c0, _, _, _, _, c5, _, c7, c8, c9⟩ := nr_cells10 hsN2.b
 have hlp := blk_lt hsN2.b
 have hkb := hb W3 nv2 cv2 rv2 x.2 (h3.less (by omega))
 have HKB : Hid _ := hkb.2
 have HK2 : Hid _ := hkb.1
 have HLW : Hid (w.heap.size < w2.heap.size ∧ q < w2.heap.size) := ⟨blk_lt hsN2.b, blk_lt hsR2.b⟩
 have HSB : Hid (B ≤ w2.heap.size) := h2.env.s
 clear h3 hf3 HF2 hW3 h2 hsN2 hsR2 hbd2 hkb hb hsX3
 unfold ptr at HKB
 unfold mvV
 go_wp2_with fail
 rw [← hE3]
 refine Calls.mono HKB.out ?_
 rintro _ w4 ⟨rfl, nv4, cv4, rv4, hf4, hi4⟩
 have hsN4 := HSN3.out.keep hf4
 have hsR4 := HSR3.out.keep hf4
 have hsX4 := HSX3.out.keep hf4
 have h4 := H3.out.on (c' := cc) hf4 hi4 HK2.out.1 HK2.out.2.2.inner (by omega)
 have hbd4 := HK2.out.2.1
 have HF4 : Hid _ := HF3.out.trans hf4
 clear hE3 hf4 hi4 HSN3 HSR3 HSX3 H3 HF3 HKB HK2 c0 c5 c7 c8 c9 hlp
 generalize fb x.2 = y at *
 obtain ⟨W5, hE5⟩ : ∃ W5, W5 = w4.alloc (.cells #[.bool y.1.c, .int .i64 y.1.n] 171) := ⟨_, rfl⟩
 have hW5 : Below w4.heap.size w4 W5 := by rw [hE5]; exact below_al (Below.refl _ _) _
 have h5 := h4.below hW5
 have hf5 : PFr mb mb w4 W5 nv4 cv4 rv4 nv4 cv4 rv4 := PFr.below mb mb nv4 cv4 rv4 hW5
 have hsR5' := hsR4.keep hf5
 obtain ⟨xc0, xc1⟩ := blk2 hsX4.b
 obtain ⟨d0, _, _, _, _, d5, _, d7, d8, d9⟩ := nr_cells10 hsN4.b
 have hlp4 := blk_lt hsN4.b
 have hlx4 := blk_lt hsX4.b
 have hsN5 := hsN4.keep hf5
 have hsX5 := hsX4.keep hf5
 have hsY5 : Beside mb w4.heap.size W5 nv4 cv4 rv4 (.cells #[.bool y.1.c, .int .i64 y.1.n] 171) := Beside.new h4.i (by rw [hE5]; exact blk_new w4 _) (Nat.le_refl _)
 have hqp : q < w4.heap.size := blk_lt hsR4.b
 have hpl : w2.heap.size < w4.heap.size := hlx4
 have hNl : w.heap.size < w4.heap.size := hlp4
 have hN2 : w.heap.size < w2.heap.size := HLW.out.1
 have hq2 : q < w2.heap.size := HLW.out.2
 have hxb := HBD2.out
 unfold MV.bd at hxb
 have hxb' : -30000 ≤ x.1.n ∧ x.1.n ≤ 30000 := hxb
 have HC : Hid _ := hc
 have HP1 : Hid _ := hp1
 have H5 : Hid _ := h5
 have HF5 : Hid _ := HF4.out.trans hf5
 have HSN5 : Hid _ := hsN5
 have HSX5 : Hid _ := hsX5
 have HSY5 : Hid _ := hsY5
 have HSR5 : Hid _ := hsR5'
 have HBD4 : Hid _ := hbd4
 unfold mvV
 go_upto_region 3 with fail
 rw [← hE5]
 clear hsN5 hsX5 hsY5 hsR5' h5 h4 hf5 HF4 hE5 hW5 hsN4 hsX4 hsR4 xc0 xc1 d0 d5 d7 d8 d9 hlp4 hlx4 HBD2 hbd4 hc hp1 hxb HLW
 generalize w2.heap.size = p at *
 generalize w4.heap.size = s at *
 obtain ⟨T, hT⟩ : ∃ T, T = x.1.n.toNat := ⟨_, rfl⟩
 rw [← hT] at HRES
 go_wp2_with fail
 go_loopw [7] (fun i wr => ∃ (j : Nat) (v : MV) (mj : MM) (nvj cvj rvj : Value), j ≤ T ∧ i = .int .i64 j ∧ Beside mb w.heap.size wr nvj cvj rvj (nrO n) ∧ Beside mb q wr nvj cvj rvj (.cells #[.bool false, .int .i64 0] 171) ∧ Beside mb p wr nvj cvj rvj (.cells #[.bool x.1.c, .int .i64 x.1.n] 171) ∧ Beside mb s wr nvj cvj rvj (.cells #[.bool v.c, .int .i64 v.n] 171) ∧
   PFr mb mb w wr nv cv rv nvj cvj rvj ∧ v.bd ∧ MSt mb B wr tn to_ fuel nvj cvj rvj mj ns op (if mj.fault = 0 then cc else 0) ∧ res = mTurns n.p1 fc (T - j) v mj) (fun i _ => T - (intOf i).toNat)
 case atStart =>
  refine ⟨0, y.1, y.2, nv4, cv4, rv4, Nat.zero_le _, rfl, HSN5.out, HSR5.out, HSX5.out, HSY5.out, HF5.out, HBD4.out, H5.out.less ?_, by rw [HRES.out, Nat.sub_zero]⟩
  split <;> omega
 case round =>
  obtain ⟨j, v, mj, nvj, cvj, rvj, hj, rfl, hsN, hsR, hsX, hsV, hf, hv, hst, hr⟩ := hrel
  have HSN : Hid _ := hsN
  have HSR : Hid _ := hsR
  have HSX : Hid _ := hsX
  have HSV : Hid _ := hsV
  have HF : Hid _ := hf
  have HV : Hid _ := hv
  have HST : Hid _ := hst
  have HR : Hid _ := hr
  obtain ⟨xc0, xc1⟩ := blk2 hsX.b
  obtain ⟨vc0, vc1⟩ := blk2 hsV.b
  obtain ⟨_, _, y4, _⟩ := mm_cells hst.i.y
  obtain ⟨_, _, _, _, _, _, _, d7, d8, d9⟩ := nr_cells10 hsN.b
  have l1 := blk_lt hsN.b
  have l2 := blk_lt hsX.b
  have l3 := blk_lt hsV.b
  have l4 := blk_lt hst.i.y
  clear hsN hsR hsX hsV hf hv hst hr HRES HSN5 HSR5 HSX5 HSY5 HF5 HBD4 H5
  by_cases hex : j < T ∧ mj.fault = 0
  ·obtain ⟨hjT, hfz⟩ := hex
   have hjx : (j : Int) < x.1.n := by omega
   rw [hfz] at y4
   have hstc : MSt mb B wr tn to_ fuel nvj cvj rvj mj ns op cc := by have := HST.out; rw [if_pos hfz] at this; exact this
   have hna := name_any mb wr tn to_ fuel nvj cvj rvj mj n.p1 v (by have := HP1.out; omega) (by rw [hstc.nl]; exact hstc.env.len) hstc.i
   have HNA : Hid _ := hna
   have HSTC : Hid _ := hstc
   have HFZ : Hid _ := hfz
   clear hna hstc HST
   unfold ptr mvV at HNA
   go_wp2_with fail
   refine Calls.mono HNA.out ?_
   rintro _ w6 ⟨rfl, hf6, hi6⟩
   have h6 := HSTC.out.on (c' := cc) hf6 hi6 (MM.name_bd HSTC.out.bd n.p1 v HV.out) (name_inner mj n.p1 v) (by omega)
   have hkc := HC.out w6 nvj cvj rvj _ h6
   have HKC : Hid _ := hkc.2
   have HKK : Hid _ := hkc.1
   have H6 : Hid _ := h6
   have HF6 : Hid _ := HF.out.trans hf6
   have hsN6 := HSN.out.keep hf6
   have HSN6 : Hid _ := hsN6
   have HSR6 : Hid _ := HSR.out.keep hf6
   have HSX6 : Hid _ := HSX.out.keep hf6
   have HSV6 : Hid _ := HSV.out.keep hf6
   obtain ⟨_, _, _, _, _, _, _, e7, e8, e9⟩ := nr_cells10 hsN6.b
   have k1 := blk_lt hsN6.b
   clear hf6 hi6 h6 hkc hsN6 HNA HSN HSR HSX HSV HF HSTC d7 d8 d9 xc0 xc1 vc0 vc1 y4 l1 l2 l3 l4
   unfold ptr at HKC
   go_wp2_with fail
   refine Calls.mono HKC.out ?_
   rintro _ w7 ⟨rfl, nv7, cv7, rv7, hf7, hi7⟩
   have hsV7 := HSV6.out.keep hf7
   have HSN7 : Hid _ := HSN6.out.keep hf7
   have HSR7 : Hid _ := HSR6.out.keep hf7
   have HSX7 : Hid _ := HSX6.out.keep hf7
   have HSV7 : Hid _ := hsV7
   have HF7 : Hid _ := HF6.out.trans hf7
   have HI7 : Hid _ := hi7
   have HF7' : Hid _ := hf7
   obtain ⟨vd0, vd1⟩ := blk2 hsV7.b
   have u0 : w7.frozen? ⟨s, 0, none⟩ = false := blk_free hsV7.b 0
   have u1 : w7.frozen? ⟨s, 1, none⟩ = false := blk_free hsV7.b 1
   have k2 := blk_lt hsV7.b
   clear hf7 hi7 hsV7 HSN6 HSR6 HSX6 HSV6 HF6 HKC e7 e8 e9 k1
   generalize hz : fc (mj.name n.p1 v) = z at *
   unfold mvV
   go_wp2
   go_roundw
   case rel =>
    have hsv := HSV7.out
    have hst7 := H6.out.on (c' := 0) HF7'.out HI7.out HKK.out.1 HKK.out.2.2.inner (by omega)
    have hwB : Below s w7 ((w7.setCell ⟨s, 0, none⟩ (.bool z.1.c)).setCell ⟨s, 1, none⟩ (.int .i64 z.1.n)) := below_set' (below_set' (Below.refl _ _) ⟨s, 0, none⟩ (Nat.le_refl _) _) ⟨s, 1, none⟩ (Nat.le_refl _) _
    have hi8 := (HI7.out.beside hsv.ne hsv.n hsv.c hsv.r 0 (.bool z.1.c)).beside hsv.ne hsv.n hsv.c hsv.r 1 (.int .i64 z.1.n)
    have hB := hst7.env.b
    have hs8 : w.heap.size ≤ s := by omega
    refine ⟨j + 1, z.1, z.2, nv7, cv7, rv7, hjT, by go_num, HSN7.out.other hwB hNl, HSR7.out.other hwB hqp, HSX7.out.other hwB hpl, ⟨blk_set (blk_set hsv.b 0 _) 1 _, hsv.ne, hsv.n, hsv.c, hsv.r⟩, HF7.out.upto (hwB.mono hs8), HKK.out.2.1, ?_, ?_⟩
    ·have hbonus := HKK.out.2.2.op
     have hob := H6.out.ob
     have hrl := H6.out.rl
     have hstp := HKK.out.2.2.st
     have hrg := HKK.out.2.2.rg
     have hsf := HKK.out.1.steps
     refine ⟨hi8, HKK.out.1, ⟨hst7.env.b, by have := hst7.env.s; simp only [World.setCell, Array.size_modify]; omega, hst7.env.n, hst7.env.c, hst7.env.r, fun w' hw' => hst7.env.tree w' ((hwB.mono (by have := HSB.out; omega)).trans hw'), hst7.env.len⟩, hst7.r1, ?_, ?_, hst7.nl, hst7.fu⟩
     ·split <;> omega
     ·split
      ·rename_i h0
       rw [if_pos h0] at hbonus
       omega
      ·rename_i h0
       rw [if_neg h0] at hbonus
       omega
    ·rw [HR.out, show T - j = (T - (j + 1)) + 1 from by omega]
     simp only [mTurns]
     rw [if_neg (by simp [HFZ.out]), hz]
   case measure => simp [intOf]; omega
  ·have hfinal : res = (v, mj) := by
    rw [HR.out]
    by_cases hjT : j < T
    ·have hfz : mj.fault ≠ 0 := fun e => hex ⟨hjT, e⟩
     rw [show T - j = (T - (j + 1)) + 1 from by omega]
     simp only [mTurns]
     rw [if_pos hfz]
    ·rw [show T - j = 0 from by omega]; rfl
   subst hfinal
   have hs5 := HSR.out
   have x0 : wr.cell? ⟨q, 0, none⟩ = some (.bool false) := by rw [blk_cell hs5.b]; rfl
   have x1 : wr.cell? ⟨q, 1, none⟩ = some (.int .i64 0) := by rw [blk_cell hs5.b]; rfl
   have g0 : wr.frozen? ⟨q, 0, none⟩ = false := blk_free hs5.b 0
   have g1 : wr.frozen? ⟨q, 1, none⟩ = false := blk_free hs5.b 1
   have hq5 := blk_lt hs5.b
   clear hs5 HR
   by_cases hjx : (j : Int) < x.1.n
   ·have hfz : mj.fault ≠ 0 := fun e => hex ⟨by omega, e⟩
    have hfb : ((mj.fault : Int) == 0) = false := ibeq_false' hfz
    clear hex hfz
    go_wp2
    have hs7 := HSR.out
    have hi7 := (HST.out.i.beside hs7.ne hs7.n hs7.c hs7.r 0 (.bool v.c)).beside hs7.ne hs7.n hs7.c hs7.r 1 (.int .i64 v.n)
    have hf7 := (HF.out.upto (below_set' (below_set' (Below.refl _ _) ⟨q, 0, none⟩ hrw (.bool v.c)) ⟨q, 1, none⟩ hrw (.int .i64 v.n)))
    refine bodyPost_ret (v := .agg #[.bool v.c, .int .i64 v.n]) (by simp [results, Tryz.results164, go_sem, x0, x1]) rfl ⟨rfl, _, _, _, hf7, hi7⟩
   ·clear hex
    go_wp2
    have hs7 := HSR.out
    have hi7 := (HST.out.i.beside hs7.ne hs7.n hs7.c hs7.r 0 (.bool v.c)).beside hs7.ne hs7.n hs7.c hs7.r 1 (.int .i64 v.n)
    have hf7 := (HF.out.upto (below_set' (below_set' (Below.refl _ _) ⟨q, 0, none⟩ hrw (.bool v.c)) ⟨q, 1, none⟩ hrw (.int .i64 v.n)))
    refine bodyPost_ret (v := .agg #[.bool v.c, .int .i64 v.n]) (by simp [results, Tryz.results164, go_sem, x0, x1]) rfl ⟨rfl, _, _, _, hf7, hi7⟩
end Go.Proofs.YtpicaknklgccoaaGreatDoor
