import Derived.Test.YtpicaknklgccoabGreatDoorX23
namespace Go.Proofs.YtpicaknklgccoabGreatDoor
open Go.RowKit
theorem Beside.other {mb k s : Nat} {w w' : World} {nv cv rv : Value} {o : Obj} (h : Beside mb k w nv cv rv o) (hb : Below s w w') (hk : k < s) : Beside mb k w' nv cv rv o := ⟨by rw [hb.block k hk]; exact h.b, h.ne, h.n, h.c, h.r⟩
set_option maxRecDepth 100000 in
set_option maxHeartbeats 4000000 in
theorem workLoop_any (mb B : Nat) (tn to_ : Value) (fuel : Nat) (ns : List NR) (op : List Int) (n : NR) (hp1 : -1 ≤ n.p1 ∧ n.p1 ≤ 9000) (ca cb cc : Nat) (fa fb fc : MM → MV × MM) (ha : WorkOk mb B tn to_ fuel ns op n.p0 ca fa) (hb : WorkOk mb B tn to_ fuel ns op n.p1 cb fb) (hcc : cc ≤ 20000) (hc : WorkOk mb B tn to_ fuel ns op n.p2 cc fc)
  (w : World) (nv cv rv : Value) (m : MM) (h : MSt mb B w tn to_ fuel nv cv rv m ns op (ca + (cb + cc))) :
  Calls Tryz.prog 115 #[ptr mb, nrVal n] w (MOut mb w tn to_ fuel nv cv rv (mTurns n.p1 fc (fa m).1.n.toNat (fb (fa m).2).1 (fb (fa m).2).2)) := by
 obtain ⟨N, hN⟩ : ∃ N : Obj, N = .cells #[.int .i64 n.form, .int .i64 n.at_, .int .i64 n.beh, .int .i64 n.num, .string (bs n.word), .int .i64 n.region, .int .i64 n.source, .int .i64 n.p0, .int .i64 n.p1, .int .i64 n.p2] 108 := ⟨_, rfl⟩
 obtain ⟨R, hR⟩ : ∃ R : Obj, R = .cells #[.bool false, .int .i64 0] 122 := ⟨_, rfl⟩
 obtain ⟨W1, hE⟩ : ∃ W1, W1 = (w.alloc N).alloc R := ⟨_, rfl⟩
 have hW1 : Below w.heap.size w W1 := by rw [hE]; exact below_al (below_al (Below.refl _ _) _) _
 have h1 := h.below hW1
 have hsN : Beside mb w.heap.size W1 nv cv rv (nrO n) := Beside.new h.i (by rw [hE, hN]; exact blk_alloc _ (blk_new w _)) (Nat.le_refl _)
 have hsR : Beside mb (w.heap.size + 1) W1 nv cv rv (.cells #[.bool false, .int .i64 0] 122) := Beside.new h.i (by rw [hE, hR]; have := blk_new (w.alloc N) (.cells #[.bool false, .int .i64 0] 122); simpa using this) (by omega)
 have HF1 : Hid (PFr mb mb w W1 nv cv rv nv cv rv) := PFr.below mb mb nv cv rv hW1
 have H1 : Hid _ := h1
 have HSN : Hid _ := hsN
 have HSR : Hid _ := hsR
 have hrw : w.heap.size ≤ w.heap.size + 1 := by omega
 have hka := ha W1 nv cv rv m (h1.less (by omega))
 have HA : Hid _ := hka.2
 have HK : Hid _ := hka.1
 obtain ⟨res, hres⟩ : ∃ res, res = mTurns n.p1 fc (fa m).1.n.toNat (fb (fa m).2).1 (fb (fa m).2).2 := ⟨_, rfl⟩
 rw [← hres]
 have HRES : Hid _ := hres
 clear hres
 clear hka ha hW1 h1 hsN hsR h
 unfold ptr at HA
 unfold ptr nrVal
 go_enter Tryz.func115, Tryz.ntmps115
 subst hN
 subst hR
 go_wp2_with fail
 rw [← hE]
 refine Calls.mono HA.out ?_
 rintro _ w2 ⟨rfl, nv2, cv2, rv2, hf2, hi2⟩
 have hsN2 := HSN.out.keep hf2
 have hsR2 := HSR.out.keep hf2
 have h2 := H1.out.on (c' := (cb + cc)) hf2 hi2 HK.out.1 HK.out.2.2.inner (by omega)
 have hbd2 := HK.out.2.1
 have HF2 : Hid _ := HF1.out.trans hf2
 clear hE hf2 hi2 HSN HSR H1 HF1 HA HK
 generalize fa m = x at *
 generalize w.heap.size + 1 = q at *
 obtain ⟨W3, hE3⟩ : ∃ W3, W3 = w2.alloc (.cells #[.bool x.1.c, .int .i64 x.1.n] 122) := ⟨_, rfl⟩
 have hW3 : Below w2.heap.size w2 W3 := by rw [hE3]; exact below_al (Below.refl _ _) _
 have h3 := h2.below hW3
 have hf3 : PFr mb mb w2 W3 nv2 cv2 rv2 nv2 cv2 rv2 := PFr.below mb mb nv2 cv2 rv2 hW3
 have hsX3 : Beside mb w2.heap.size W3 nv2 cv2 rv2 (.cells #[.bool x.1.c, .int .i64 x.1.n] 122) := Beside.new h2.i (by rw [hE3]; exact blk_new w2 _) (Nat.le_refl _)
 have HF3 : Hid _ := HF2.out.trans hf3
 have HSN3 : Hid _ := hsN2.keep hf3
 have HSR3 : Hid _ := hsR2.keep hf3
 have HSX3 : Hid _ := hsX3
 have HBD2 : Hid _ := hbd2
 have H3 : Hid _ := h3
 obtain ⟨c0, _, _, _, _, c5, _, c7, c8, c9⟩ := nr_cells10 hsN2.b
 have hlp := blk_lt hsN2.b
 have hkb := hb W3 nv2 cv2 rv2 x.2 (h3.less (by omega))
 have HKB : Hid _ := hkb.2
 have HK2 : Hid _ := hkb.1
 have HLW : Hid (w.heap.size < w2.heap.size ∧ q < w2.heap.size) := ⟨blk_lt hsN2.b, blk_lt hsR2.b⟩
 have HSB : Hid (B ≤ w2.heap.size) := h2.env.s
 clear h3 hf3 HF2 hW3 h2 hsN2 hsR2 hbd2 hkb hb hsX3
 unfold ptr at HKB
 unfold mvV
 go_wp2_with fail
 rw [← hE3]
 refine Calls.mono HKB.out ?_
 rintro _ w4 ⟨rfl, nv4, cv4, rv4, hf4, hi4⟩
 have hsN4 := HSN3.out.keep hf4
 have hsR4 := HSR3.out.keep hf4
 have hsX4 := HSX3.out.keep hf4
 have h4 := H3.out.on (c' := cc) hf4 hi4 HK2.out.1 HK2.out.2.2.inner (by omega)
 have hbd4 := HK2.out.2.1
 have HF4 : Hid _ := HF3.out.trans hf4
 clear hE3 hf4 hi4 HSN3 HSR3 HSX3 H3 HF3 HKB HK2 c0 c5 c7 c8 c9 hlp
 generalize fb x.2 = y at *
 obtain ⟨W5, hE5⟩ : ∃ W5, W5 = w4.alloc (.cells #[.bool y.1.c, .int .i64 y.1.n] 122) := ⟨_, rfl⟩
 have hW5 : Below w4.heap.size w4 W5 := by rw [hE5]; exact below_al (Below.refl _ _) _
 have h5 := h4.below hW5
 have hf5 : PFr mb mb w4 W5 nv4 cv4 rv4 nv4 cv4 rv4 := PFr.below mb mb nv4 cv4 rv4 hW5
 have hsR5' := hsR4.keep hf5
 obtain ⟨xc0, xc1⟩ := blk2 hsX4.b
 obtain ⟨d0, _, _, _, _, d5, _, d7, d8, d9⟩ := nr_cells10 hsN4.b
 have hlp4 := blk_lt hsN4.b
 have hlx4 := blk_lt hsX4.b
 have hsN5 := hsN4.keep hf5
 have hsX5 := hsX4.keep hf5
 have hsY5 : Beside mb w4.heap.size W5 nv4 cv4 rv4 (.cells #[.bool y.1.c, .int .i64 y.1.n] 122) := Beside.new h4.i (by rw [hE5]; exact blk_new w4 _) (Nat.le_refl _)
 have hqp : q < w4.heap.size := blk_lt hsR4.b
 have hpl : w2.heap.size < w4.heap.size := hlx4
 have hNl : w.heap.size < w4.heap.size := hlp4
 have hN2 : w.heap.size < w2.heap.size := HLW.out.1
 have hq2 : q < w2.heap.size := HLW.out.2
 have hxb := HBD2.out
 unfold MV.bd at hxb
 have hxb' : -30000 ≤ x.1.n ∧ x.1.n ≤ 30000 := hxb
 have HC : Hid _ := hc
 have HP1 : Hid _ := hp1
 have H5 : Hid _ := h5
 have HF5 : Hid _ := HF4.out.trans hf5
 have HSN5 : Hid _ := hsN5
 have HSX5 : Hid _ := hsX5
 have HSY5 : Hid _ := hsY5
 have HSR5 : Hid _ := hsR5'
 have HBD4 : Hid _ := hbd4
 unfold mvV
 go_upto_region 3 with fail
 rw [← hE5]
 clear hsN5 hsX5 hsY5 hsR5' h5 h4 hf5 HF4 hE5 hW5 hsN4 hsX4 hsR4 xc0 xc1 d0 d5 d7 d8 d9 hlp4 hlx4 HBD2 hbd4 hc hp1 hxb HLW
 generalize w2.heap.size = p at *
 generalize w4.heap.size = s at *
 obtain ⟨T, hT⟩ : ∃ T, T = x.1.n.toNat := ⟨_, rfl⟩
 rw [← hT] at HRES
 go_wp2_with fail
 go_loopw [7] (fun i wr => ∃ (j : Nat) (v : MV) (mj : MM) (nvj cvj rvj : Value), j ≤ T ∧ i = .int .i64 j ∧ Beside mb w.heap.size wr nvj cvj rvj (nrO n) ∧ Beside mb q wr nvj cvj rvj (.cells #[.bool false, .int .i64 0] 122) ∧ Beside mb p wr nvj cvj rvj (.cells #[.bool x.1.c, .int .i64 x.1.n] 122) ∧ Beside mb s wr nvj cvj rvj (.cells #[.bool v.c, .int .i64 v.n] 122) ∧
   PFr mb mb w wr nv cv rv nvj cvj rvj ∧ v.bd ∧ MSt mb B wr tn to_ fuel nvj cvj rvj mj ns op (if mj.fault = 0 then cc else 0) ∧ res = mTurns n.p1 fc (T - j) v mj) (fun i _ => T - (intOf i).toNat)
 case atStart =>
  refine ⟨0, y.1, y.2, nv4, cv4, rv4, Nat.zero_le _, rfl, HSN5.out, HSR5.out, HSX5.out, HSY5.out, HF5.out, HBD4.out, H5.out.less ?_, by rw [HRES.out, Nat.sub_zero]⟩
  split <;> omega
 case round =>
  obtain ⟨j, v, mj, nvj, cvj, rvj, hj, rfl, hsN, hsR, hsX, hsV, hf, hv, hst, hr⟩ := hrel
  have HSN : Hid _ := hsN
  have HSR : Hid _ := hsR
  have HSX : Hid _ := hsX
  have HSV : Hid _ := hsV
  have HF : Hid _ := hf
  have HV : Hid _ := hv
  have HST : Hid _ := hst
  have HR : Hid _ := hr
  obtain ⟨xc0, xc1⟩ := blk2 hsX.b
  obtain ⟨vc0, vc1⟩ := blk2 hsV.b
  obtain ⟨_, _, y4, _⟩ := mm_cells hst.i.y
  obtain ⟨_, _, _, _, _, _, _, d7, d8, d9⟩ := nr_cells10 hsN.b
  have l1 := blk_lt hsN.b
  have l2 := blk_lt hsX.b
  have l3 := blk_lt hsV.b
  have l4 := blk_lt hst.i.y
  clear hsN hsR hsX hsV hf hv hst hr HRES HSN5 HSR5 HSX5 HSY5 HF5 HBD4 H5
  by_cases hex : j < T ∧ mj.fault = 0
  ·obtain ⟨hjT, hfz⟩ := hex
   have hjx : (j : Int) < x.1.n := by omega
   rw [hfz] at y4
   have hstc : MSt mb B wr tn to_ fuel nvj cvj rvj mj ns op cc := by have := HST.out; rw [if_pos hfz] at this; exact this
   have hna := name_any mb wr tn to_ fuel nvj cvj rvj mj n.p1 v (by have := HP1.out; omega) (by rw [hstc.nl]; exact hstc.env.len) hstc.i
   have HNA : Hid _ := hna
   have HSTC : Hid _ := hstc
   have HFZ : Hid _ := hfz
   clear hna hstc HST
   unfold ptr mvV at HNA
   go_wp2_with fail
   refine Calls.mono HNA.out ?_
   rintro _ w6 ⟨rfl, hf6, hi6⟩
   have h6 := HSTC.out.on (c' := cc) hf6 hi6 (MM.name_bd HSTC.out.bd n.p1 v HV.out) (name_inner mj n.p1 v) (by omega)
   have hkc := HC.out w6 nvj cvj rvj _ h6
   have HKC : Hid _ := hkc.2
   have HKK : Hid _ := hkc.1
   have H6 : Hid _ := h6
   have HF6 : Hid _ := HF.out.trans hf6
   have hsN6 := HSN.out.keep hf6
   have HSN6 : Hid _ := hsN6
   have HSR6 : Hid _ := HSR.out.keep hf6
   have HSX6 : Hid _ := HSX.out.keep hf6
   have HSV6 : Hid _ := HSV.out.keep hf6
   obtain ⟨_, _, _, _, _, _, _, e7, e8, e9⟩ := nr_cells10 hsN6.b
   have k1 := blk_lt hsN6.b
   clear hf6 hi6 h6 hkc hsN6 HNA HSN HSR HSX HSV HF HSTC d7 d8 d9 xc0 xc1 vc0 vc1 y4 l1 l2 l3 l4
   unfold ptr at HKC
   go_wp2_with fail
   refine Calls.mono HKC.out ?_
   rintro _ w7 ⟨rfl, nv7, cv7, rv7, hf7, hi7⟩
   have hsV7 := HSV6.out.keep hf7
   have HSN7 : Hid _ := HSN6.out.keep hf7
   have HSR7 : Hid _ := HSR6.out.keep hf7
   have HSX7 : Hid _ := HSX6.out.keep hf7
   have HSV7 : Hid _ := hsV7
   have HF7 : Hid _ := HF6.out.trans hf7
   have HI7 : Hid _ := hi7
   have HF7' : Hid _ := hf7
   obtain ⟨vd0, vd1⟩ := blk2 hsV7.b
   have u0 : w7.frozen? ⟨s, 0, none⟩ = false := blk_free hsV7.b 0
   have u1 : w7.frozen? ⟨s, 1, none⟩ = false := blk_free hsV7.b 1
   have k2 := blk_lt hsV7.b
   clear hf7 hi7 hsV7 HSN6 HSR6 HSX6 HSV6 HF6 HKC e7 e8 e9 k1
   generalize hz : fc (mj.name n.p1 v) = z at *
   unfold mvV
   go_wp2
   go_roundw
   case rel =>
    have hsv := HSV7.out
    have hst7 := H6.out.on (c' := 0) HF7'.out HI7.out HKK.out.1 HKK.out.2.2.inner (by omega)
    have hwB : Below s w7 ((w7.setCell ⟨s, 0, none⟩ (.bool z.1.c)).setCell ⟨s, 1, none⟩ (.int .i64 z.1.n)) := below_set' (below_set' (Below.refl _ _) ⟨s, 0, none⟩ (Nat.le_refl _) _) ⟨s, 1, none⟩ (Nat.le_refl _) _
    have hi8 := (HI7.out.beside hsv.ne hsv.n hsv.c hsv.r 0 (.bool z.1.c)).beside hsv.ne hsv.n hsv.c hsv.r 1 (.int .i64 z.1.n)
    have hB := hst7.env.b
    have hs8 : w.heap.size ≤ s := by omega
    refine ⟨j + 1, z.1, z.2, nv7, cv7, rv7, hjT, by go_num, HSN7.out.other hwB hNl, HSR7.out.other hwB hqp, HSX7.out.other hwB hpl, ⟨blk_set (blk_set hsv.b 0 _) 1 _, hsv.ne, hsv.n, hsv.c, hsv.r⟩, HF7.out.upto (hwB.mono hs8), HKK.out.2.1, ?_, ?_⟩
    ·have hbonus := HKK.out.2.2.op
     have hob := H6.out.ob
     have hrl := H6.out.rl
     have hstp := HKK.out.2.2.st
     have hrg := HKK.out.2.2.rg
     have hsf := HKK.out.1.steps
     refine ⟨hi8, HKK.out.1, ⟨hst7.env.b, by have := hst7.env.s; simp only [World.setCell, Array.size_modify]; omega, hst7.env.n, hst7.env.c, hst7.env.r, fun w' hw' => hst7.env.tree w' ((hwB.mono (by have := HSB.out; omega)).trans hw'), hst7.env.len⟩, hst7.r1, ?_, ?_, hst7.nl, hst7.fu⟩
     ·split <;> omega
     ·split
      ·rename_i h0
       rw [if_pos h0] at hbonus
       omega
      ·rename_i h0
       rw [if_neg h0] at hbonus
       omega
    ·rw [HR.out, show T - j = (T - (j + 1)) + 1 from by omega]
     simp only [mTurns]
     rw [if_neg (by simp [HFZ.out]), hz]
   case measure => simp [intOf]; omega
  ·have hfinal : res = (v, mj) := by
    rw [HR.out]
    by_cases hjT : j < T
    ·have hfz : mj.fault ≠ 0 := fun e => hex ⟨hjT, e⟩
     rw [show T - j = (T - (j + 1)) + 1 from by omega]
     simp only [mTurns]
     rw [if_pos hfz]
    ·rw [show T - j = 0 from by omega]; rfl
   subst hfinal
   have hs5 := HSR.out
   have x0 : wr.cell? ⟨q, 0, none⟩ = some (.bool false) := by rw [blk_cell hs5.b]; rfl
   have x1 : wr.cell? ⟨q, 1, none⟩ = some (.int .i64 0) := by rw [blk_cell hs5.b]; rfl
   have g0 : wr.frozen? ⟨q, 0, none⟩ = false := blk_free hs5.b 0
   have g1 : wr.frozen? ⟨q, 1, none⟩ = false := blk_free hs5.b 1
   have hq5 := blk_lt hs5.b
   clear hs5 HR
   by_cases hjx : (j : Int) < x.1.n
   ·have hfz : mj.fault ≠ 0 := fun e => hex ⟨by omega, e⟩
    have hfb : ((mj.fault : Int) == 0) = false := ibeq_false' hfz
    clear hex hfz
    go_wp2
    have hs7 := HSR.out
    have hi7 := (HST.out.i.beside hs7.ne hs7.n hs7.c hs7.r 0 (.bool v.c)).beside hs7.ne hs7.n hs7.c hs7.r 1 (.int .i64 v.n)
    have hf7 := (HF.out.upto (below_set' (below_set' (Below.refl _ _) ⟨q, 0, none⟩ hrw (.bool v.c)) ⟨q, 1, none⟩ hrw (.int .i64 v.n)))
    refine bodyPost_ret (v := .agg #[.bool v.c, .int .i64 v.n]) (by simp [results, Tryz.results115, go_sem, x0, x1]) rfl ⟨rfl, _, _, _, hf7, hi7⟩
   ·clear hex
    go_wp2
    have hs7 := HSR.out
    have hi7 := (HST.out.i.beside hs7.ne hs7.n hs7.c hs7.r 0 (.bool v.c)).beside hs7.ne hs7.n hs7.c hs7.r 1 (.int .i64 v.n)
    have hf7 := (HF.out.upto (below_set' (below_set' (Below.refl _ _) ⟨q, 0, none⟩ hrw (.bool v.c)) ⟨q, 1, none⟩ hrw (.int .i64 v.n)))
    refine bodyPost_ret (v := .agg #[.bool v.c, .int .i64 v.n]) (by simp [results, Tryz.results115, go_sem, x0, x1]) rfl ⟨rfl, _, _, _, hf7, hi7⟩
end Go.Proofs.YtpicaknklgccoabGreatDoor
