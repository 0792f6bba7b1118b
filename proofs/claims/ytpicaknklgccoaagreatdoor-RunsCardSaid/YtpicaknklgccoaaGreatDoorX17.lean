import Derived.Test.YtpicaknklgccoaaGreatDoorX12
namespace Go.Proofs.YtpicaknklgccoaaGreatDoor
open Go.RowKit
theorem rturns_err (f : RV → RS → RV × RS) (k : Nat) (v : RV) (st : RS) (h : st.e ≠ 0) : rTurns f k v st = (v, st) := by
 cases k with
 | zero => rfl
 | succ k => simp only [rTurns]; rw [if_pos h]
theorem rturns_succ (f : RV → RS → RV × RS) (k : Nat) (v : RV) (st : RS) (h : st.e = 0) : rTurns f (k + 1) v st = rTurns f k (f v st).1 (f v st).2 := by
 simp only [rTurns]; rw [if_neg (by simpa using h)]
set_option maxRecDepth 100000 in
set_option maxHeartbeats 4000000 in
theorem pwork_loop {w0 : World} (pb fuel : Nat) (p : Nat) (nm rg : List UInt8) (x y z : PT) (G : TEnv) (T : Ty) (hwx : WT G x .n) (hwy : WT G y T) (hwz : WT (G ++ [(nm, T)]) z T) (htx : x.tame) (hty : y.tame) (htz : z.tame) (hfx : x.wf) (hfy : y.wf) (hfz : z.wf)
  (ihx : PWork w0 pb fuel x G) (ihy : PWork w0 pb fuel y G) (ihz : PWork w0 pb fuel z (G ++ [(nm, T)])) : PGo w0 pb fuel (.node p .loop nm rg [x, y, z]) G := by
 intro id site b F env hp st ov wv tv obs w hT hP hH henv hok he hq
 obtain ⟨gk, vc, bx, bb, bc, id1, site1, id2, site2, id3, site3, hka, hT1, hT2, hT3⟩ := kat3 hT
 have hne : b ≠ pb := by have := hP.hpb; have := hka.hb; omega
 have hgy : gk ≠ pb := by have := hP.hpb; have := hka.hg; omega
 simp only [PT.cnt, cntL] at hok
 obtain ⟨f, hfd⟩ : ∃ f : RV → RS → RV × RS, f = fun v st => rW fuel z ((nm, v) :: env) st := ⟨_, rfl⟩
 have hev : rW fuel (.node p .loop nm rg [x, y, z]) env st = rTurns f (rW fuel x env { st with steps := st.steps + 1 }).1.num.toNat (rW fuel y env (rW fuel x env { st with steps := st.steps + 1 }).2).1 (rW fuel y env (rW fuel x env { st with steps := st.steps + 1 }).2).2 := by
  rw [hfd]
  conv => lhs; unfold rW
  rw [if_neg (by simp), rbegun_go he hq]; simp only [reduceCtorEq, if_false, if_true, rLoop]
 rw [hev]
 have hok1 := hok.step hq
 have hr1 := rW_res fuel hwx env { st with steps := st.steps + 1 } htx (fun _ => henv)
 have h1 := fun m => ihx id1 site1 bx F env hp { st with steps := st.steps + 1 } ov wv tv obs _ hT1 (hP.drew m).setS (hH.keep (hP.stepI m) (List.prefix_refl _)) (fun _ => henv) (fun _ => hok1.le (by omega))
 have hok2 := fun e => hok1.on x env hfx he (by omega) e
 generalize rW fuel x env { st with steps := st.steps + 1 } = r1 at *
 have hr2 := rW_res fuel hwy env r1.2 hty (fun _ => henv)
 have h2 := fun ov2 wv2 tv2 obs2 w2 (hP2 : PlIn w0 w2 pb ov2 wv2 tv2 obs2 fuel r1.2) (hH2 : isH w2 obs2 env hp) => ihy id2 site2 bb F env hp r1.2 ov2 wv2 tv2 obs2 w2 hT2 hP2 hH2 (fun _ => henv) (fun e => (hok2 e).le (by omega))
 have hok3 : (rW fuel y env r1.2).2.e = 0 → POk fuel _ (rW fuel y env r1.2).2 := fun e => (hok2 (hr2.1 e).1).on y env hfy (hr2.1 e).1 (by omega) e
 generalize rW fuel y env r1.2 = r2 at *
 obtain ⟨k, hk, hk0, hk9⟩ := rres_num hr1
 obtain ⟨K, rfl⟩ : ∃ K : Nat, k = K := ⟨k.toNat, by omega⟩
 have hnum : r1.1.num.toNat = K := by rw [hk]; simp [RV.num]
 rw [hnum]
 have h3 : ∀ (v : RV) (st3 : RS) (hp2 : Option Addr) (ov2 wv2 tv2 : Value) (obs2 : List Nat) (w2 : World), (st3.e = 0 → v.has T) → (st3.e = 0 → POk fuel (1 + (x.cnt + (y.cnt + (z.cnt + 0)))) st3) → PlIn w0 w2 pb ov2 wv2 tv2 obs2 fuel st3 → isH w2 obs2 ((nm, v) :: env) hp2 →
   Calls Tryz.prog 43 #[ptr pb, ptr bc, .pointer hp2] w2 (POut w0 pb fuel w2 obs2 (f v st3)) := by
  intro v st3 hp2 ov2 wv2 tv2 obs2 w2 hv hs4 hP2 hH2
  rw [hfd]
  exact ihz id3 site3 bc F ((nm, v) :: env) hp2 st3 ov2 wv2 tv2 obs2 w2 hT3 hP2 hH2 (fun e => henv.snoc (hv e)) (fun e => (hs4 e).le (by omega))
 have h4 : ∀ (v : RV) (st3 : RS), st3.e = 0 → (st3.e = 0 → v.has T) → (st3.e = 0 → POk fuel (1 + (x.cnt + (y.cnt + (z.cnt + 0)))) st3) → ((f v st3).2.e = 0 → (f v st3).1.has T) ∧ ((f v st3).2.e = 0 → POk fuel (1 + (x.cnt + (y.cnt + (z.cnt + 0)))) (f v st3).2) := by
  intro v st3 h0 hv hs4
  rw [hfd]
  exact ⟨fun e => ((rW_res fuel hwz ((nm, v) :: env) st3 htz (fun e => henv.snoc (hv e))).1 e).2, fun e => (hs4 h0).on z _ hfz h0 (by omega) e⟩
 have hkw := hka.on hP.b0
 have x0 := hkw.c0
 have x4 := hkw.c4
 have xk0 := hkw.ck 0 bx rfl
 have xl1 := hkw.hb
 have xl2 := hkw.hg
 have qn : ((bs Kw.loop.bytes).toList == [110, 101, 119]) = false := by rw [bs_beq0]; decide
 have q0 : ((bs Kw.loop.bytes).toList == [110, 117, 109, 98, 101, 114]) = false := by rw [bs_beq0]; decide
 have q1 : ((bs Kw.loop.bytes).toList == [110, 97, 109, 101]) = false := by rw [bs_beq0]; decide
 have q2 : ((bs Kw.loop.bytes).toList == [108, 101, 116]) = false := by rw [bs_beq0]; decide
 have q3 : ((bs Kw.loop.bytes).toList == [105, 102]) = false := by rw [bs_beq0]; decide
 have q4 : ((bs Kw.loop.bytes).toList == [108, 111, 111, 112]) = true := by rw [bs_beq0]; decide
 have y3 := hP.c.1
 have y4 := hP.c.2.1
 have hpl := hP.c.2.2.2.2
 have y6 := hP.c6 he
 have f4 := blk_free hP.y 4
 have q9 : ((st.steps : Int) == (fuel : Int)) = false := by rw [beq_eq_false_iff_ne]; omega
 have hss := hok.s
 have hsf := hok.f
 have HR2 : Hid (r2.2.e = 0 → r2.1.has T) := fun e => (hr2.1 e).2
 have HS3 : Hid _ := hok3
 have HK : Hid _ := hka
 have HH : Hid _ := hH
 have HI : Hid _ := fun m => hP.stepI m
 have HKR : Hid _ := hk
 unfold ptr at h1 h2 h3
 have H1 : Hid _ := h1
 have H2 : Hid _ := h2
 have H3 : Hid _ := h3
 have H4 : Hid _ := h4
 clear hka hkw hT hP hH henv hok he hev hq hT1 hT2 hT3 ihx ihy ihz hok1 hok2 hok3 hr1 hr2 h1 h2 h3 h4 hk hfd hnum
 show Calls _ _ #[Value.pointer (some ⟨pb, 0, none⟩), Value.pointer (some ⟨b, 0, none⟩), _] w _
 go_enter Tryz.func43, Tryz.ntmps43
 go_wp2_with fail
 go_quiet (fail)
 go_wp2_with fail
 refine Calls.mono (H1.out _) ?_
 rintro _ w2 ⟨nb, ov2, wv2, tv2, obs2, rfl, hv2, ho2, hi2, hP2⟩
 have hiw := (HI.out _).trans hi2
 have hkw := HK.out.on hP2.b0
 have z4 := hkw.c4
 have zk1 := hkw.ck 1 bb rfl
 have zl1 := hkw.hb
 have zl2 := hkw.hg
 have hH2 := HH.out.keep hiw ho2
 have hc2 := H2.out ov2 wv2 tv2 obs2 w2 hP2 hH2
 rw [HKR.out] at hv2
 have HV2 : Hid _ := hv2
 have HIW : Hid _ := hiw
 have HO2 : Hid _ := ho2
 clear hv2 ho2 hi2 hP2 hiw hkw H1 H2 HI HKR hH2 y3 y4 y6 f4 x0 x4 xk0
 go_wp2_with fail
 refine hc2.mono ?_
 rintro _ w3 ⟨vb3, ov3, wv3, tv3, obs3, rfl, hv3, ho3, hi3, hP3⟩
 have HN3 : Hid (w3.heap[nb]? = some (.cells (vCells (K : Int) none none none) 132 (0, 0))) := hi3.v _ _ HV2.out
 have HV3 : Hid _ := hv3
 have HO3 : Hid _ := List.IsPrefix.trans HO2.out ho3
 have HI3 : Hid _ := HIW.out.trans hi3
 have HP3 : Hid _ := hP3
 have HH3 : Hid _ := HH.out.keep (HIW.out.trans hi3) (List.IsPrefix.trans HO2.out ho3)
 clear hv3 ho3 hi3 hP3 hc2 HIW HO2 HV2 HH z4 zk1
 go_wp2_with fail
 go_loopw [11, 12] (fun vv i wr => ∃ (j : Nat) (v : RV) (st4 : RS) (vb : Nat) (ov4 wv4 tv4 : Value) (obs4 : List Nat), j ≤ K ∧ i = .int .i64 j ∧ vv = .pointer (some ⟨vb, 0, none⟩) ∧ rTurns f K r2.1 r2.2 = rTurns f (K - j) v st4 ∧ (st4.e = 0 → v.has T) ∧ (st4.e = 0 → POk fuel (1 + (x.cnt + (y.cnt + (z.cnt + 0)))) st4) ∧ isV wr obs4 v vb ∧ obs3 <+: obs4 ∧ Imm w3 wr ∧ PlIn w0 wr pb ov4 wv4 tv4 obs4 fuel st4) (fun _ i _ => K - (intOf i).toNat)
 case atStart => exact ⟨0, r2.1, r2.2, vb3, ov3, wv3, tv3, obs3, by omega, rfl, rfl, rfl, HR2.out, HS3.out, HV3.out, List.prefix_refl _, Imm.refl _, HP3.out⟩
 case round =>
  obtain ⟨j, v, st4, vb4, ov4, wv4, tv4, obs4, hj, rfl, rfl, htu, hv, hs4, hv4, ho4, hi4, hP4⟩ := hrel
  have e6 := hP4.c.2.2.2.1
  have hplr := hP4.c.2.2.2.2
  have hnb := hi4.v _ _ HN3.out
  have n0 : wr.cell? ⟨nb, 0, none⟩ = some (.int .i64 K) := by rw [blk_cell hnb]; rfl
  have hnl := blk_lt hnb
  have hkw := HK.out.on hP4.b0
  have u2 := hkw.c2
  have u4 := hkw.c4
  have uk2 := hkw.ck 2 bc rfl
  have ul1 := hkw.hb
  have ul2 := hkw.hg
  have HTU : Hid _ := htu
  have HOU : Hid (POut w0 pb fuel w obs (v, st4) (.returned (.pointer (some ⟨vb4, 0, none⟩))) wr) := ⟨vb4, ov4, wv4, tv4, obs4, rfl, hv4, List.IsPrefix.trans HO3.out ho4, HI3.out.trans hi4, hP4⟩
  by_cases hj0 : j = K
  ·have HE : Hid (rTurns f (K - j) v st4 = (v, st4)) := by rw [show K - j = 0 by omega]; exact rfl
   have hjk : ((j : Int) < (K : Int)) = False := by simp; omega
   clear htu hv4 ho4 hi4 hP4 hnb hkw hv hs4
   subst hj0
   go_wp2
   go_ret
   rw [HTU.out, HE.out]
   exact HOU.out
  ·have hjk : (j : Int) < (K : Int) := by omega
   by_cases he4 : st4.e = 0
   ·have qe : ((st4.e : Int) == 0) = true := by rw [he4]; rfl
    have HE : Hid (rTurns f (K - j) v st4 = rTurns f (K - (j + 1)) (f v st4).1 (f v st4).2) := by
     rw [show K - j = (K - (j + 1)) + 1 by omega]; exact rturns_succ f _ v st4 he4
    have H5 : Hid _ := H4.out v st4 he4 hv hs4
    have HIO : Hid _ := And.intro hi4 ho4
    have hun : ∀ W, Below wr.heap.size wr W ∧ W.heap[wr.heap.size]? = some (.cells #[.string (bs nm), .pointer (some ⟨vb4, 0, none⟩), .pointer hp] 134 (0, 0)) → Calls Tryz.prog 43 #[.pointer (some ⟨pb, 0, none⟩), .pointer (some ⟨bc, 0, none⟩), .pointer (some ⟨wr.heap.size, 0, none⟩)] W (POut w0 pb fuel wr obs4 (f v st4)) := by
     intro W hW
     refine (H3.out v st4 _ ov4 wv4 tv4 obs4 W hv hs4 (hP4.grow hW.1) (isH_cons (HH3.out.keep hi4 ho4) hv4 hW)).mono (fun e w' h => ?_)
     exact h.pre (Imm.below hW.1) (List.prefix_refl _)
    clear htu hv4 ho4 hi4 hP4 hnb hkw hv hs4 he4 HOU
    go_wp2
    go_region_with (go_at_call 43; refine (hun _ ?_).mono ?_; exact held_new rfl rfl rfl rfl; intro e w5 h5; obtain ⟨vb5, rfl, HO⟩ := h5.two; clear h5)
    all_goals
     go_wp2
     go_roundw
     case rel =>
      obtain ⟨vb6, ov5, wv5, tv5, obs5, hee, hv5, ho5, hi5, hP5⟩ := HO.out
      cases hee
      exact ⟨j + 1, (f v st4).1, (f v st4).2, vb5, ov5, wv5, tv5, obs5, by omega, by go_num, rfl, by rw [HTU.out, HE.out], H5.out.1, H5.out.2, hv5, List.IsPrefix.trans HIO.out.2 ho5, HIO.out.1.trans hi5, hP5⟩
     case measure => simp [intOf]; omega
   ·have qe : ((st4.e : Int) == 0) = false := by rw [beq_eq_false_iff_ne]; omega
    have HE : Hid _ := rturns_err f (K - j) v st4 he4
    clear htu hv4 ho4 hi4 hP4 hnb hkw hv hs4 he4
    go_wp2
    go_ret
    rw [HTU.out, HE.out]
    exact HOU.out
end Go.Proofs.YtpicaknklgccoaaGreatDoor
