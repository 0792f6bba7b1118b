import Derived.Test.YtpicaknklgccoaaGreatDoorX13
import Derived.Test.YtpicaknklgccoaaGreatDoorX15
namespace Go.Proofs.YtpicaknklgccoaaGreatDoor
open Go.RowKit
set_option maxRecDepth 100000 in
set_option maxHeartbeats 4000000 in
theorem pparts_pair {w0 : World} (pb fuel p : Nat) (nm rg : List UInt8) (x y : PT) (G : TEnv) (hfx : x.wf) (hfy : y.wf) (ihx : PWork w0 pb fuel x G) (ihy : PWork w0 pb fuel y G) (hdown : ∀ (env : REnv) (st : RS), (rW fuel y env st).2.e = 0 → st.e = 0) : PParts w0 pb fuel p .pair nm rg [x, y] G := by
 intro id site b F env hp st ov wv tv obs w hT hP hH henv hok he
 obtain ⟨gk, vc, bx, bb, id1, site1, id2, site2, hka, hT1, hT2⟩ := kat2 hT
 have hne : b ≠ pb := by have := hP.hpb; have := hka.hb; omega
 have hgy : gk ≠ pb := by have := hP.hpb; have := hka.hg; omega
 have hN := isT_n hT
 simp only [cntL] at hok
 have h1 := ihx id1 site1 bx F env hp st ov wv tv obs _ hT1 hP hH (fun _ => henv) (fun _ => hok.le (by omega))
 have hok2 := fun e => hok.on x env hfx he (by omega) e
 have hev : rOps fuel .pair (valueL rg) [x, y] env st = if (rW fuel y env (rW fuel x env st).2).2.e ≠ 0 then (.n 0, (rW fuel y env (rW fuel x env st).2).2) else rPair (valueL rg) (rW fuel x env st).1 (rW fuel y env (rW fuel x env st).2).1 (rW fuel y env (rW fuel x env st).2).2 := by simp only [rOps, if_true]
 rw [hev]
 generalize rW fuel x env st = r1 at *
 have h2 := fun ov2 wv2 tv2 obs2 w2 (hP2 : PlIn w0 w2 pb ov2 wv2 tv2 obs2 fuel r1.2) (hH2 : isH w2 obs2 env hp) => ihy id2 site2 bb F env hp r1.2 ov2 wv2 tv2 obs2 w2 hT2 hP2 hH2 (fun _ => henv) (fun e => (hok2 e).le (by omega))
 have hok3 : (rW fuel y env r1.2).2.e = 0 → POk fuel _ (rW fuel y env r1.2).2 := fun e => (hok2 (hdown env r1.2 e)).on y env hfy (hdown env r1.2 e) (by omega) e
 generalize rW fuel y env r1.2 = r2 at *
 obtain ⟨R, hR⟩ : ∃ R, R = if r2.2.e ≠ 0 then (RV.n 0, r2.2) else rPair (valueL rg) r1.1 r2.1 r2.2 := ⟨_, rfl⟩
 rw [← hR]
 have HRN : Hid (r2.2.e = 0 → R = rPair (valueL rg) r1.1 r2.1 r2.2) := fun h => by rw [hR, if_neg (fun g => g h)]
 have HRE : Hid (r2.2.e ≠ 0 → R = (RV.n 0, r2.2)) := fun h => by rw [hR, if_pos h]
 have hkw := hka.on hP.b0
 have x4 := hkw.c4
 have xk0 := hkw.ck 0 bx rfl
 have xl1 := hkw.hb
 have xl2 := hkw.hg
 have q_pair : ((bs Kw.pair.bytes).toList == [112, 97, 105, 114]) = true := by rw [bs_beq0]; decide
 have q_fst : ((bs Kw.pair.bytes).toList == [102, 115, 116]) = false := by rw [bs_beq0]; decide
 have q_snd : ((bs Kw.pair.bytes).toList == [115, 110, 100]) = false := by rw [bs_beq0]; decide
 have HK : Hid _ := hka
 have HH : Hid _ := hH
 have HN : Hid _ := hN
 have HOK : Hid _ := hok3
 unfold ptr at h1 h2
 have H1 : Hid _ := h1
 have H2 : Hid _ := h2
 clear hka hkw hT hP hH henv hok he hev hT1 hT2 ihx ihy h1 h2 hR hok2 hok3 hN hdown
 show Calls _ _ #[Value.pointer (some ⟨pb, 0, none⟩), Value.pointer (some ⟨b, 0, none⟩), _] w _
 go_enter Tryz.func74, Tryz.ntmps74
 go_wp2_with fail
 refine Calls.mono H1.out ?_
 rintro _ w2 ⟨va, ov2, wv2, tv2, obs2, rfl, hv2, ho2, hi2, hP2⟩
 have hkw := HK.out.on hP2.b0
 have z0 := hkw.c0
 have z4 := hkw.c4
 have zk1 := hkw.ck 1 bb rfl
 have zl1 := hkw.hb
 have zl2 := hkw.hg
 have hc2 := H2.out ov2 wv2 tv2 obs2 w2 hP2 (HH.out.keep hi2 ho2)
 have HV : Hid _ := hv2
 have HO : Hid _ := ho2
 have HI : Hid _ := hi2
 clear hv2 ho2 hi2 hP2 hkw H1 H2 HH x4 xk0
 go_wp2_with fail
 refine hc2.mono ?_
 rintro _ w3 ⟨vb, ov3, wv3, tv3, obs3, rfl, hv3, ho3, hi3, hP3⟩
 have e6 := hP3.c.2.2.2.1
 have ul := hP3.c.2.2.2.2
 have hkw := HK.out.on hP3.b0
 have u0 := hkw.c0
 have u4 := hkw.c4
 have ul1 := hkw.hb
 have u3 : w3.cell? ⟨b, 3, none⟩ = some (.int .i64 (valueL rg)) := (hP3.b0.cell (p := ⟨b, 3, none⟩) HK.out.hb).trans HN.out
 have HVA : Hid _ := HV.out.keep hi3 ho3
 have HVB : Hid _ := hv3
 have HI3 : Hid _ := HI.out.trans hi3
 have HO3 : Hid _ := List.IsPrefix.trans HO.out ho3
 have HP3 : Hid _ := hP3
 clear hv3 ho3 hi3 hP3 hkw HV HI HO hc2 z0 z4 zk1
 by_cases he3 : r2.2.e = 0
 ·have qe : ((r2.2.e : Int) != 0) = false := by rw [he3]; rfl
  have hok3 := HOK.out he3
  have hwh := where_any pb fuel ov3 wv3 tv3 obs3 r2.2 w3 (valueL rg) HP3.out (by have := hok3.o; omega) (by have := hok3.w; have := hok3.c; have := hok3.s; have := hok3.f; omega)
  have hcb := where_cb (valueL rg) hok3.b
  have hwe := where_e r2.2 (valueL rg)
  have hRR := HRN.out he3
  have hlim : r2.2.cells ≤ 20000 := by have := hok3.c; have := hok3.s; have := hok3.f; omega
  have htl : r2.2.tide.length ≤ 400000000 := by have := hok3.t; omega
  unfold rPair at hRR
  generalize r2.2.where_ (valueL rg) = q at *
  have HRR : Hid _ := hRR
  unfold ptr at hwh
  clear he3 HRN HRE HOK hok3 hRR
  go_wp2_with fail
  refine hwh.mono ?_
  rintro _ w4 ⟨wv4, obs4, ob, rfl, hob, ho4, hi4, hP4⟩
  have hil : q.1 < q.2.ops.length := by rw [← hP4.len]; exact (List.getElem?_eq_some_iff.1 hob).1
  obtain ⟨b', ro, e1, _, e3, e4⟩ := hP4.at hil
  rw [hob] at e1
  cases e1
  have hro : ro.cells ≤ 20000 := by have := hcb.o q.1 ro e3; have := hwe.2.1; omega
  have hqc : q.2.cells = r2.2.cells := hwe.2.1
  have hqt : q.2.tide = r2.2.tide := hwe.2.2.1
  have hp5 := hP4.setOp (st' := { q.2 with ops := q.2.ops.set q.1 { ro with cells := ro.cells + 1 } }) q.1 ob ro { ro with cells := ro.cells + 1 } hob e3 1 (.int .i64 ((ro.cells : Int) + 1)) (by simp [roCells]) rfl rfl rfl rfl rfl
  have hp6 := hp5.set (st' := { { q.2 with ops := q.2.ops.set q.1 { ro with cells := ro.cells + 1 } } with cells := q.2.cells + 1 }) 5 (.int .i64 ((q.2.cells : Int) + 1)) (by simp [plCells]) rfl rfl rfl rfl
  have hI6 : Imm w4 ((w4.setCell ⟨ob, 1, none⟩ (.int .i64 ((ro.cells : Int) + 1))).setCell ⟨pb, 5, none⟩ (.int .i64 ((q.2.cells : Int) + 1))) := (Imm.set e4 (by decide) (by decide)).trans (Imm.set hp5.y (by decide) (by decide))
  have hone : q.2.one q.1 = { { { q.2 with ops := q.2.ops.set q.1 { ro with cells := ro.cells + 1 } } with cells := q.2.cells + 1 } with tide := q.2.tide ++ [1] } := by
   simp only [RS.one]; rw [modify_set e3]
  have O1 : w4.cell? ⟨ob, 1, none⟩ = some (.int .i64 ro.cells) := by rw [blk_cell e4]; rfl
  have F1 := blk_free e4 1
  have L1 := blk_lt e4
  have hqlim : q.2.cells ≤ 20000 := by omega
  have C5 : (w4.setCell ⟨ob, 1, none⟩ (.int .i64 ((ro.cells : Int) + 1))).cell? ⟨pb, 5, none⟩ = some (.int .i64 q.2.cells) := by rw [blk_cell hp5.y]; rfl
  have F5 := blk_free hp5.y 5
  have L5 := blk_lt hp5.y
  have HP6 : Hid _ := hp6
  have HI6 : Hid _ := HI3.out.trans (hi4.trans hI6)
  have HVA6 : Hid _ := HVA.out.keep (hi4.trans hI6) ho4
  have HVB6 : Hid _ := HVB.out.keep (hi4.trans hI6) ho4
  have HO6 : Hid _ := List.IsPrefix.trans HO3.out ho4
  have HOB : Hid _ := hob
  have HRF : Hid (R = (RV.p r1.1 r2.1 q.1, { { { q.2 with ops := q.2.ops.set q.1 { ro with cells := ro.cells + 1 } } with cells := q.2.cells + 1 } with tide := q.2.tide ++ [1] })) := by rw [HRR.out, ← hone]; exact rfl
  have HQT : Hid _ := hqt
  clear hP4 hp5 hp6 hI6 hone e4 e3 hob ho4 hi4 HI3 HP3 HVA HVB HO3 HRR hwh hcb hwe hqt hqc
  go_upto_region 14 with fail
  obtain ⟨w6, hw6⟩ : ∃ w6, w6 = (w4.setCell ⟨ob, 1, none⟩ (.int .i64 ((ro.cells : Int) + 1))).setCell ⟨pb, 5, none⟩ (.int .i64 ((q.2.cells : Int) + 1)) := ⟨_, rfl⟩
  rw [← hw6]
  have hp6 := HP6.out
  have hI6 := HI6.out
  have hVA := HVA6.out
  have hVB := HVB6.out
  rw [← hw6] at hp6 hI6 hVA hVB
  obtain ⟨i1, hi, hz0, hz1, hz2⟩ := info_parts Tryz.infoIntL
  have HJ0 : Hid _ := hi
  have HJ1 : Hid _ := hz0
  have HJ2 : Hid _ := hz1
  have HJ3 : Hid _ := hz2
  obtain ⟨ta, tc, htv⟩ := rsl hp6.t
  have htl6 : q.2.tide.length ≤ 400000000 := by rw [HQT.out]; exact htl
  have T2 : w6.cell? ⟨pb, 2, none⟩ = some (.slice ta q.2.tide.length tc) := by rw [blk_cell hp6.y, ← htv]; rfl
  have L6 := blk_lt hp6.y
  have HOWN : Hid ((w6.alloc (.cells #[.int .i64 1] 3)).ownsRow 0 3 1 (.slice ta q.2.tide.length tc) q.2.tide.length (q.2.tide.map fun k => Value.int .i64 k)) := by
   have h1 := owns_base (base' := 0) hp6.t (fun _ _ => Nat.zero_le _)
   rw [htv] at h1
   exact h1.alloc _
  have HC3 : Hid (∀ u ∈ ([Value.int .i64 1] : List Value), u.oneCell' = true) := by intro v hv; simp only [List.mem_singleton] at hv; subst hv; rfl
  have HPU : Hid _ := fun (g cap : Nat) (w' : World) => hp6.pushT (w3 := w') (g := g) (cap := cap) (A := .cells #[.int .i64 1] 3) 1
  have HTV : Hid _ := htv
  have HNE : Hid ((Value.slice ta q.2.tide.length tc).ownBlock ≠ some pb) := by
   intro h
   obtain ⟨arr, hb⟩ := own_type hp6.t (show tv3.ownBlock = some pb by rw [htv]; exact h)
   rw [hp6.y] at hb
   simp only [Option.some.injEq, Obj.cells.injEq] at hb
   exact absurd hb.2.1 (by decide)
  have HY6 : Hid _ := hp6.y
  have HI7 : Hid _ := hI6
  have HA7 : Hid _ := hVA
  have HB7 : Hid _ := hVB
  clear hp6 hI6 hVA hVB htv hi hz0 hz1 hz2 hw6 HP6 HI6 HVA6 HVB6 O1 F1 L1 C5 F5 L5
  go_wp2_with (at_builtin; go_must (refine app_own _ rfl (.tmp 87) (.tmp 88) 42 rfl 3 i1 _ 1 8 Tryz.undIntsL HJ0.out HJ1.out HJ2.out HJ3.out rfl (by decide) (.slice ta q.2.tide.length tc) q.2.tide.length (q.2.tide.map fun k => Value.int .i64 k) rfl HOWN.out ⟨w6.heap.size, 0, none⟩ 1 1 [.int .i64 1] rfl rfl ?c1 HC3.out (by decide) ?c3 ?c4 ?_))
  case c3 => unfold maxLen; omega
  case c4 => omega
  intro g8 cap8 w8 hown8 hgrow8 hor8
  have hb8 := grown_new HY6.out L6 HNE.out hgrow8 ((Below.refl _ w6).alloc (Nat.le_refl _) _)
  have c28 : w8.cell? ⟨pb, 2, none⟩ = some tv3 := (blk_cell hb8 2).trans rfl
  have f28 := blk_free hb8 2
  have l28 := blk_lt hb8
  have hpu := HPU.out g8 cap8 w8 (by rw [HTV.out]; exact hgrow8) hown8 (by rw [HTV.out]; rcases hor8 with h | h; exact Or.inl h; exact Or.inr (by simpa using h))
  have HPF : Hid _ := hpu.1
  have HIF : Hid _ := hpu.2
  clear hpu hown8 hgrow8 hor8 hb8 HPU HOWN
  go_upto_region 15 with fail
  obtain ⟨w9, hw9⟩ : ∃ w9, w9 = w8.setCell ⟨pb, 2, none⟩ (.slice (some ⟨g8, 0, none⟩) (q.2.tide.length + 1) cap8) := ⟨_, rfl⟩
  rw [← hw9]
  have hP9 := HPF.out
  have hI9 := HIF.out
  rw [← hw9] at hP9 hI9
  have hbel : Below w9.heap.size w9 (w9.alloc (.cells #[.int .i64 0, .pointer (some ⟨va, 0, none⟩), .pointer (some ⟨vb, 0, none⟩), .pointer (some ⟨ob, 0, none⟩)] 132)) := (Below.refl _ _).alloc (Nat.le_refl _) _
  have HFIN : Hid (POut w0 pb fuel w obs R (.returned (.pointer (some ⟨w9.heap.size, 0, none⟩))) (w9.alloc (.cells #[.int .i64 0, .pointer (some ⟨va, 0, none⟩), .pointer (some ⟨vb, 0, none⟩), .pointer (some ⟨ob, 0, none⟩)] 132))) := by
   rw [HRF.out]
   refine ⟨w9.heap.size, _, wv4, _, obs4, rfl, ?_, HO6.out, HI7.out.trans (hI9.trans (Imm.below hbel)), hP9.grow hbel⟩
   simp only [isV]
   exact ⟨va, vb, ob, blk_new _ _, HOB.out, HA7.out.keep (hI9.trans (Imm.below hbel)) (List.prefix_refl _), HB7.out.keep (hI9.trans (Imm.below hbel)) (List.prefix_refl _)⟩
  clear hP9 hI9 hbel hw9 HPF HIF c28 f28 l28
  go_wp2
  go_ret
  exact HFIN.out
 ·have qe : ((r2.2.e : Int) != 0) = true := by simp; omega
  have HRR : Hid _ := HRE.out he3
  have HZ : Hid _ := (zeroV HP3.out 0 w3.heap.size rfl).pre HI3.out HO3.out
  clear he3 HRN HRE
  go_wp2
  go_ret
  rw [HRR.out]
  exact HZ.out
end Go.Proofs.YtpicaknklgccoaaGreatDoor
