import Derived.Test.YtpicaknklgccoaaGreatDoorX12
import Derived.Test.YtpicaknklgccoaaGreatDoorX2
import Derived.Test.YtpicaknklgccoaaGreatDoorX10
import Derived.Test.YtpicaknklgccoaaGreatDoorX3
import Derived.Laws.Tables
namespace Go.Proofs.YtpicaknklgccoaaGreatDoor
open Go.RowKit
def PParts (w0 : World) (pb fuel p : Nat) (k : Kw) (nm rg : List UInt8) (kids : List PT) (G : TEnv) : Prop :=
 ∀ (id site b : Nat) (F : Nat → Prop) (env : REnv) (hp : Option Addr) (st : RS) (ov wv tv : Value) (obs : List Nat) (w : World), IsT w0 F (.node p k nm rg kids) id site b → PlIn w0 w pb ov wv tv obs fuel st → isH w obs env hp → REnvHas env G → POk fuel (1 + cntL kids) st → st.e = 0 →
  Calls Tryz.prog 74 #[ptr pb, ptr b, .pointer hp] w (POut w0 pb fuel w obs (rOps fuel k (valueL rg) kids env st))
theorem wrap_smallM (n : Int) (h : -1000000 ≤ n ∧ n ≤ 1000000) : IntKind.i64.wrap n = n := by
 have e : IntKind.i64.wrap n = (n + 9223372036854775808) % 18446744073709551616 - 9223372036854775808 := by simp [IntKind.wrap, IntKind.bits, IntKind.signed]; omega
 rw [e]; omega
theorem POut.grow {w0 : World} {pb fuel : Nat} {w w' w'' : World} {obs : List Nat} {r : RV × RS} {e : Ending} (h : POut w0 pb fuel w obs r e w') (hb : Below w'.heap.size w' w'') : POut w0 pb fuel w obs r e w'' := by
 obtain ⟨vb, ov, wv, tv, obs', h1, h2, h3, h4, h5⟩ := h
 exact ⟨vb, ov, wv, tv, obs', h1, h2.keep (Imm.below hb) (List.prefix_refl _), h3, h4.trans (Imm.below hb), h5.grow hb⟩
theorem below_dM (w : World) : Below w.heap.size w w.drew := ⟨rfl, rfl, rfl, Nat.le_refl _, fun _ _ => rfl⟩
theorem used_0 {st : RS} {v : RV} (h : (st.used v).e = 0) : st.e = 0 := (used_e st v).2.2.2.2.2.2 h
set_option maxRecDepth 100000 in
set_option maxHeartbeats 1000000 in
theorem pwork_parts {w0 : World} (pb fuel p : Nat) (k : Kw) (nm rg : List UInt8) (kids : List PT) (G : TEnv) (hn : k ≠ .new) (h1 : k ≠ .let_) (h2 : k ≠ .if_) (h3 : k ≠ .loop) (hp : PParts w0 pb fuel p k nm rg kids G) : PGo w0 pb fuel (.node p k nm rg kids) G := by
 intro id site b F env hp' st ov wv tv obs w hT hP hH henv hok he hq
 obtain ⟨va, vc, ⟨g0, g2, g4⟩, hb, _⟩ := node_kid hT
 have hne : b ≠ pb := by have := hP.hpb; omega
 simp only [PT.cnt] at hok
 have hev : rW fuel (.node p k nm rg kids) env st = rOps fuel k (valueL rg) kids env { st with steps := st.steps + 1 } := by
  conv => lhs; unfold rW
  rw [if_neg hn, rbegun_go he hq, if_neg h1, if_neg h2, if_neg h3]
 rw [hev]
 have hok1 := hok.step hq
 have hc := fun m => hp id site b F env hp' { st with steps := st.steps + 1 } ov wv tv obs _ hT (hP.drew m).setS (hH.keep (hP.stepI m) (List.prefix_refl _)) henv hok1 he
 have x0 : w.cell? ⟨b, 0, none⟩ = some (.string (bs k.bytes)) := (hP.b0.cell (p := ⟨b, 0, none⟩) hb).trans g0
 have qn : ((bs k.bytes).toList == [110, 101, 119]) = false := by rw [bs_beq0]; cases k <;> first | decide | exact absurd rfl hn
 have q0 : ((bs k.bytes).toList == [110, 117, 109, 98, 101, 114]) = false := by rw [bs_beq0]; cases k <;> decide
 have q1 : ((bs k.bytes).toList == [110, 97, 109, 101]) = false := by rw [bs_beq0]; cases k <;> decide
 have q2 : ((bs k.bytes).toList == [108, 101, 116]) = false := by rw [bs_beq0]; cases k <;> first | decide | exact absurd rfl h1
 have q3 : ((bs k.bytes).toList == [105, 102]) = false := by rw [bs_beq0]; cases k <;> first | decide | exact absurd rfl h2
 have q4 : ((bs k.bytes).toList == [108, 111, 111, 112]) = false := by rw [bs_beq0]; cases k <;> first | decide | exact absurd rfl h3
 have y3 := hP.c.1
 have y4 := hP.c.2.1
 have hpl := hP.c.2.2.2.2
 have y6 := hP.c6 he
 have f4 := blk_free hP.y 4
 have hbw : b < w.heap.size := by have := hP.b0.size; omega
 have q9 : ((st.steps : Int) == (fuel : Int)) = false := by rw [beq_eq_false_iff_ne]; omega
 have hss := hok.s
 have hsf := hok.f
 have HI : Hid _ := fun m => hP.stepI m
 generalize rOps fuel k (valueL rg) kids env { st with steps := st.steps + 1 } = R at *
 unfold ptr at hc
 have HC : Hid _ := hc
 clear hc hp hT hP hH henv hok he hev hq g0 g2 g4 hok1
 show Calls _ _ #[Value.pointer (some ⟨pb, 0, none⟩), Value.pointer (some ⟨b, 0, none⟩), _] w _
 go_enter Tryz.func43, Tryz.ntmps43
 go_wp2_with fail
 go_quiet (fail)
 go_wp2_with fail
 refine Calls.mono (HC.out _) (fun e w3 h => ?_)
 obtain ⟨vb3, rfl, HO⟩ := (h.pre (HI.out _) (List.prefix_refl _)).two
 clear h HC HI
 go_wp2
 go_ret
 exact HO.out
set_option maxRecDepth 100000 in
set_option maxHeartbeats 1000000 in
theorem pwork_new {w0 : World} (pb fuel p : Nat) (nm rg : List UInt8) (a : PT) (G : TEnv) (hp : ∀ (id site b : Nat) (F : Nat → Prop) (env : REnv) (hp : Option Addr) (st : RS) (ov wv tv : Value) (obs : List Nat) (w : World), IsT w0 F (.node p .new nm rg [a]) id site b → PlIn w0 w pb ov wv tv obs fuel st → isH w obs env hp → REnvHas env G → POk fuel (1 + a.cnt) st → st.e = 0 →
  Calls Tryz.prog 73 #[ptr pb, ptr b, .pointer hp] w (POut w0 pb fuel w obs (rNew fuel (valueL rg) [a] env st))) : PWork w0 pb fuel (.node p .new nm rg [a]) G := by
 intro id site b F env hp' st ov wv tv obs w hT hP hH henv hok
 by_cases he : st.e = 0
 ·obtain ⟨va, vc, ⟨g0, g2, g4⟩, hb, _⟩ := node_kid hT
  have hok' := hok he
  simp only [PT.cnt, cntL, Nat.add_zero] at hok'
  have hev : rW fuel (.node p .new nm rg [a]) env st = rNew fuel (valueL rg) [a] env st := by
   conv => lhs; unfold rW
   rw [if_pos rfl, if_neg (by simpa using he)]
  rw [hev]
  have hc := hp id site b F env hp' st ov wv tv obs w hT hP hH (henv he) hok' he
  have x0 : w.cell? ⟨b, 0, none⟩ = some (.string (bs Kw.new.bytes)) := (hP.b0.cell (p := ⟨b, 0, none⟩) hb).trans g0
  have qn : ((bs Kw.new.bytes).toList == [110, 101, 119]) = true := by rw [bs_beq0]; decide
  have y6 := hP.c6 he
  have hpl := hP.c.2.2.2.2
  have hbw : b < w.heap.size := by have := hP.b0.size; omega
  unfold ptr at hc
  generalize rNew fuel (valueL rg) [a] env st = R at *
  clear hp hT hP hH henv hok he hev g0 g2 g4 hok'
  show Calls _ _ #[Value.pointer (some ⟨pb, 0, none⟩), Value.pointer (some ⟨b, 0, none⟩), _] w _
  go_enter Tryz.func43, Tryz.ntmps43
  go_wp2_with fail
  refine Calls.mono hc (fun e w3 h => ?_)
  obtain ⟨vb3, rfl, HO⟩ := h.two
  clear h hc
  go_wp2
  go_ret
  exact HO.out
 ·exact pwork_bad b hp' env st ov wv tv obs w hP he
set_option maxRecDepth 100000 in
set_option maxHeartbeats 4000000 in
theorem pparts_fst {w0 : World} (pb fuel p : Nat) (nm rg : List UInt8) (x : PT) (G : TEnv) (A B : Ty) (hwx : WT G x (.p 0 A B)) (htx : x.tame) (ihx : PWork w0 pb fuel x G) : PParts w0 pb fuel p .fst nm rg [x] G := by
 intro id site b F env hp st ov wv tv obs w hT hP hH henv hok he
 obtain ⟨gk, vc, bx, id1, site1, hka, hT1⟩ := kat1 hT
 have hne : b ≠ pb := by have := hP.hpb; have := hka.hb; omega
 have hgy : gk ≠ pb := by have := hP.hpb; have := hka.hg; omega
 simp only [cntL] at hok
 have hr1 := rW_res fuel hwx env st htx (fun _ => henv)
 have h1 := ihx id1 site1 bx F env hp st ov wv tv obs _ hT1 hP hH (fun _ => henv) (fun _ => hok.le (by omega))
 have hev : rOps fuel .fst (valueL rg) [x] env st = if ((rW fuel x env st).2.used (rW fuel x env st).1).e ≠ 0 then (.n 0, (rW fuel x env st).2.used (rW fuel x env st).1) else ((rW fuel x env st).1.fst, (rW fuel x env st).2.used (rW fuel x env st).1) := by simp only [rOps, if_true]
 rw [hev]
 generalize rW fuel x env st = r1 at *
 obtain ⟨R, hR⟩ : ∃ R, R = if (r1.2.used r1.1).e ≠ 0 then (RV.n 0, r1.2.used r1.1) else (r1.1.fst, r1.2.used r1.1) := ⟨_, rfl⟩
 rw [← hR]
 have HRN : Hid ((r1.2.used r1.1).e = 0 → R = (r1.1.fst, r1.2.used r1.1)) := fun h => by rw [hR, if_neg (fun g => g h)]
 have HRE : Hid ((r1.2.used r1.1).e ≠ 0 → R = (RV.n 0, r1.2.used r1.1)) := fun h => by rw [hR, if_pos h]
 have HL : Hid ((r1.2.used r1.1).e = 0 → ∃ a b h, r1.1 = .p a b h) := fun e => by
  obtain ⟨a, b, c, h, _⟩ := rhas_pair (hr1.1 (used_0 e)).2
  exact ⟨a, b, c, h⟩
 have hkw := hka.on hP.b0
 have x4 := hkw.c4
 have xk0 := hkw.ck 0 bx rfl
 have xl1 := hkw.hb
 have xl2 := hkw.hg
 have q_pair : ((bs Kw.fst.bytes).toList == [112, 97, 105, 114]) = false := by rw [bs_beq0]; decide
 have q_fst : ((bs Kw.fst.bytes).toList == [102, 115, 116]) = true := by rw [bs_beq0]; decide
 have q_snd : ((bs Kw.fst.bytes).toList == [115, 110, 100]) = false := by rw [bs_beq0]; decide
 have HK : Hid _ := hka
 unfold ptr at h1
 have H1 : Hid _ := h1
 clear hka hkw hT hP hH henv hok he hev hT1 ihx h1 hR hr1
 show Calls _ _ #[Value.pointer (some ⟨pb, 0, none⟩), Value.pointer (some ⟨b, 0, none⟩), _] w _
 go_enter Tryz.func74, Tryz.ntmps74
 go_wp2_with fail
 refine Calls.mono H1.out ?_
 rintro _ w2 ⟨va, ov2, wv2, tv2, obs2, rfl, hv2, ho2, hi2, hP2⟩
 have hkw := HK.out.on hP2.b0
 have z0 := hkw.c0
 have z4 := hkw.c4
 have zl1 := hkw.hb
 have hus := used_any pb fuel ov2 wv2 tv2 obs2 r1.2 w2 r1.1 va hP2 hv2
 have HV : Hid _ := hv2
 have HO : Hid _ := ho2
 have HI : Hid _ := hi2
 unfold ptr at hus
 clear hv2 ho2 hi2 hP2 hkw H1 x4 xk0
 go_wp2_with fail
 refine hus.mono ?_
 rintro _ w3 ⟨rfl, hi3, hP3⟩
 have e6 := hP3.c.2.2.2.1
 have ul := hP3.c.2.2.2.2
 have hkw := HK.out.on hP3.b0
 have u0 := hkw.c0
 have ul1 := hkw.hb
 by_cases he3 : (r1.2.used r1.1).e = 0
 ·have qe : (((r1.2.used r1.1).e : Int) != 0) = false := by rw [he3]; rfl
  obtain ⟨a, b', hh, hab⟩ := HL.out he3
  have hv3 := HV.out.keep hi3 (List.prefix_refl _)
  rw [hab] at hv3
  simp only [isV] at hv3
  obtain ⟨ba, bb, o, hblk, _, hva, hvb⟩ := hv3
  have a1 : w3.cell? ⟨va, 1, none⟩ = some (.pointer (some ⟨ba, 0, none⟩)) := by rw [blk_cell hblk]; rfl
  have a2 : w3.cell? ⟨va, 2, none⟩ = some (.pointer (some ⟨bb, 0, none⟩)) := by rw [blk_cell hblk]; rfl
  have al := blk_lt hblk
  have HRR : Hid (R = (a, r1.2.used r1.1)) := by rw [HRN.out he3, hab]; exact rfl
  have HVA : Hid _ := hva
  have HI3 : Hid _ := HI.out.trans hi3
  have HP3 : Hid _ := hP3
  clear hi3 hP3 he3 hab hblk hva hvb hkw HK HL HRN HRE HV hus z0 z4
  go_wp2
  go_ret
  rw [HRR.out]
  exact ⟨ba, ov2, wv2, tv2, obs2, rfl, HVA.out, HO.out, HI3.out, HP3.out⟩
 ·have qe : (((r1.2.used r1.1).e : Int) != 0) = true := by simp; omega
  have HRR : Hid _ := HRE.out he3
  have HZ : Hid _ := (zeroV hP3 0 w3.heap.size rfl).pre (HI.out.trans hi3) HO.out
  clear hi3 hP3 he3 hkw HK HL HRN HRE HV hus z0 z4
  go_wp2
  go_ret
  rw [HRR.out]
  exact HZ.out
set_option maxRecDepth 100000 in
set_option maxHeartbeats 4000000 in
theorem pparts_snd {w0 : World} (pb fuel p : Nat) (nm rg : List UInt8) (x : PT) (G : TEnv) (A B : Ty) (hwx : WT G x (.p 0 A B)) (htx : x.tame) (ihx : PWork w0 pb fuel x G) : PParts w0 pb fuel p .snd nm rg [x] G := by
 intro id site b F env hp st ov wv tv obs w hT hP hH henv hok he
 obtain ⟨gk, vc, bx, id1, site1, hka, hT1⟩ := kat1 hT
 have hne : b ≠ pb := by have := hP.hpb; have := hka.hb; omega
 have hgy : gk ≠ pb := by have := hP.hpb; have := hka.hg; omega
 simp only [cntL] at hok
 have hr1 := rW_res fuel hwx env st htx (fun _ => henv)
 have h1 := ihx id1 site1 bx F env hp st ov wv tv obs _ hT1 hP hH (fun _ => henv) (fun _ => hok.le (by omega))
 have hev : rOps fuel .snd (valueL rg) [x] env st = if ((rW fuel x env st).2.used (rW fuel x env st).1).e ≠ 0 then (.n 0, (rW fuel x env st).2.used (rW fuel x env st).1) else ((rW fuel x env st).1.snd, (rW fuel x env st).2.used (rW fuel x env st).1) := by simp only [rOps, reduceCtorEq, if_false]
 rw [hev]
 generalize rW fuel x env st = r1 at *
 obtain ⟨R, hR⟩ : ∃ R, R = if (r1.2.used r1.1).e ≠ 0 then (RV.n 0, r1.2.used r1.1) else (r1.1.snd, r1.2.used r1.1) := ⟨_, rfl⟩
 rw [← hR]
 have HRN : Hid ((r1.2.used r1.1).e = 0 → R = (r1.1.snd, r1.2.used r1.1)) := fun h => by rw [hR, if_neg (fun g => g h)]
 have HRE : Hid ((r1.2.used r1.1).e ≠ 0 → R = (RV.n 0, r1.2.used r1.1)) := fun h => by rw [hR, if_pos h]
 have HL : Hid ((r1.2.used r1.1).e = 0 → ∃ a b h, r1.1 = .p a b h) := fun e => by
  obtain ⟨a, b, c, h, _⟩ := rhas_pair (hr1.1 (used_0 e)).2
  exact ⟨a, b, c, h⟩
 have hkw := hka.on hP.b0
 have x4 := hkw.c4
 have xk0 := hkw.ck 0 bx rfl
 have xl1 := hkw.hb
 have xl2 := hkw.hg
 have q_pair : ((bs Kw.snd.bytes).toList == [112, 97, 105, 114]) = false := by rw [bs_beq0]; decide
 have q_fst : ((bs Kw.snd.bytes).toList == [102, 115, 116]) = false := by rw [bs_beq0]; decide
 have q_snd : ((bs Kw.snd.bytes).toList == [115, 110, 100]) = true := by rw [bs_beq0]; decide
 have HK : Hid _ := hka
 unfold ptr at h1
 have H1 : Hid _ := h1
 clear hka hkw hT hP hH henv hok he hev hT1 ihx h1 hR hr1
 show Calls _ _ #[Value.pointer (some ⟨pb, 0, none⟩), Value.pointer (some ⟨b, 0, none⟩), _] w _
 go_enter Tryz.func74, Tryz.ntmps74
 go_wp2_with fail
 refine Calls.mono H1.out ?_
 rintro _ w2 ⟨va, ov2, wv2, tv2, obs2, rfl, hv2, ho2, hi2, hP2⟩
 have hkw := HK.out.on hP2.b0
 have z0 := hkw.c0
 have z4 := hkw.c4
 have zl1 := hkw.hb
 have hus := used_any pb fuel ov2 wv2 tv2 obs2 r1.2 w2 r1.1 va hP2 hv2
 have HV : Hid _ := hv2
 have HO : Hid _ := ho2
 have HI : Hid _ := hi2
 unfold ptr at hus
 clear hv2 ho2 hi2 hP2 hkw H1 x4 xk0
 go_wp2_with fail
 refine hus.mono ?_
 rintro _ w3 ⟨rfl, hi3, hP3⟩
 have e6 := hP3.c.2.2.2.1
 have ul := hP3.c.2.2.2.2
 have hkw := HK.out.on hP3.b0
 have u0 := hkw.c0
 have ul1 := hkw.hb
 by_cases he3 : (r1.2.used r1.1).e = 0
 ·have qe : (((r1.2.used r1.1).e : Int) != 0) = false := by rw [he3]; rfl
  obtain ⟨a, b', hh, hab⟩ := HL.out he3
  have hv3 := HV.out.keep hi3 (List.prefix_refl _)
  rw [hab] at hv3
  simp only [isV] at hv3
  obtain ⟨ba, bb, o, hblk, _, hva, hvb⟩ := hv3
  have a1 : w3.cell? ⟨va, 1, none⟩ = some (.pointer (some ⟨ba, 0, none⟩)) := by rw [blk_cell hblk]; rfl
  have a2 : w3.cell? ⟨va, 2, none⟩ = some (.pointer (some ⟨bb, 0, none⟩)) := by rw [blk_cell hblk]; rfl
  have al := blk_lt hblk
  have HRR : Hid (R = (b', r1.2.used r1.1)) := by rw [HRN.out he3, hab]; exact rfl
  have HVA : Hid _ := hvb
  have HI3 : Hid _ := HI.out.trans hi3
  have HP3 : Hid _ := hP3
  clear hi3 hP3 he3 hab hblk hva hvb hkw HK HL HRN HRE HV hus z0 z4
  go_wp2
  go_ret
  rw [HRR.out]
  exact ⟨bb, ov2, wv2, tv2, obs2, rfl, HVA.out, HO.out, HI3.out, HP3.out⟩
 ·have qe : (((r1.2.used r1.1).e : Int) != 0) = true := by simp; omega
  have HRR : Hid _ := HRE.out he3
  have HZ : Hid _ := (zeroV hP3 0 w3.heap.size rfl).pre (HI.out.trans hi3) HO.out
  clear hi3 hP3 he3 hkw HK HL HRN HRE HV hus z0 z4
  go_wp2
  go_ret
  rw [HRR.out]
  exact HZ.out
set_option maxRecDepth 100000 in
set_option maxHeartbeats 4000000 in
theorem pparts_add {w0 : World} (pb fuel p : Nat) (nm rg : List UInt8) (x y : PT) (G : TEnv) (hwx : WT G x .n) (hwy : WT G y .n) (htx : x.tame) (hty : y.tame) (hfx : x.wf) (ihx : PWork w0 pb fuel x G) (ihy : PWork w0 pb fuel y G) : PParts w0 pb fuel p .add nm rg [x, y] G := by
 intro id site b F env hp st ov wv tv obs w hT hP hH henv hok he
 obtain ⟨gk, vc, bx, bb, id1, site1, id2, site2, hka, hT1, hT2⟩ := kat2 hT
 have hne : b ≠ pb := by have := hP.hpb; have := hka.hb; omega
 have hgy : gk ≠ pb := by have := hP.hpb; have := hka.hg; omega
 simp only [cntL] at hok
 have hr1 := rW_res fuel hwx env st htx (fun _ => henv)
 have h1 := ihx id1 site1 bx F env hp st ov wv tv obs _ hT1 hP hH (fun _ => henv) (fun _ => hok.le (by omega))
 have hok2 := fun e => hok.on x env hfx he (by omega) e
 have hev : rOps fuel .add (valueL rg) [x, y] env st = if (rW fuel y env (rW fuel x env st).2).2.e ≠ 0 then (.n 0, (rW fuel y env (rW fuel x env st).2).2) else (.n (rArith .add (rW fuel x env st).1.num (rW fuel y env (rW fuel x env st).2).1.num), (rW fuel y env (rW fuel x env st).2).2) := by simp only [rOps, reduceCtorEq, if_false]
 rw [hev]
 generalize rW fuel x env st = r1 at *
 have hr2 := rW_res fuel hwy env r1.2 hty (fun _ => henv)
 have h2 := fun ov2 wv2 tv2 obs2 w2 (hP2 : PlIn w0 w2 pb ov2 wv2 tv2 obs2 fuel r1.2) (hH2 : isH w2 obs2 env hp) => ihy id2 site2 bb F env hp r1.2 ov2 wv2 tv2 obs2 w2 hT2 hP2 hH2 (fun _ => henv) (fun e => (hok2 e).le (by omega))
 generalize rW fuel y env r1.2 = r2 at *
 obtain ⟨i, hi, hi0, hi9⟩ := rres_num hr1
 obtain ⟨j, hj, hj0, hj9⟩ := rres_num hr2
 obtain ⟨R, hR⟩ : ∃ R, R = if r2.2.e ≠ 0 then (RV.n 0, r2.2) else (RV.n (rArith .add r1.1.num r2.1.num), r2.2) := ⟨_, rfl⟩
 rw [← hR]
 have HRN : Hid (r2.2.e = 0 → R = (RV.n (rArith .add i j), r2.2)) := fun h => by rw [hR, if_neg (fun g => g h), hi, hj]; rfl
 have HRE : Hid (r2.2.e ≠ 0 → R = (RV.n 0, r2.2)) := fun h => by rw [hR, if_pos h]
 have hkw := hka.on hP.b0
 have x4 := hkw.c4
 have xk0 := hkw.ck 0 bx rfl
 have xl1 := hkw.hb
 have xl2 := hkw.hg
 have q_pair : ((bs Kw.add.bytes).toList == [112, 97, 105, 114]) = false := by rw [bs_beq0]; decide
 have q_fst : ((bs Kw.add.bytes).toList == [102, 115, 116]) = false := by rw [bs_beq0]; decide
 have q_snd : ((bs Kw.add.bytes).toList == [115, 110, 100]) = false := by rw [bs_beq0]; decide
 have q_add : ((bs Kw.add.bytes).toList == [97, 100, 100]) = true := by rw [bs_beq0]; decide
 have q_sub : ((bs Kw.add.bytes).toList == [115, 117, 98]) = false := by rw [bs_beq0]; decide
 have HK : Hid _ := hka
 have HH : Hid _ := hH
 have HIJ : Hid _ := And.intro hi hj
 unfold ptr at h1 h2
 have H1 : Hid _ := h1
 have H2 : Hid _ := h2
 clear hka hkw hT hP hH henv hok he hev hT1 hT2 ihx ihy h1 h2 hR hr1 hr2 hok2 hi hj
 show Calls _ _ #[Value.pointer (some ⟨pb, 0, none⟩), Value.pointer (some ⟨b, 0, none⟩), _] w _
 go_enter Tryz.func74, Tryz.ntmps74
 go_wp2_with fail
 refine Calls.mono H1.out ?_
 rintro _ w2 ⟨va, ov2, wv2, tv2, obs2, rfl, hv2, ho2, hi2, hP2⟩
 have hkw := HK.out.on hP2.b0
 have z0 := hkw.c0
 have z4 := hkw.c4
 have zk1 := hkw.ck 1 bb rfl
 have zl1 := hkw.hb
 have zl2 := hkw.hg
 have hc2 := H2.out ov2 wv2 tv2 obs2 w2 hP2 (HH.out.keep hi2 ho2)
 rw [HIJ.out.1] at hv2
 have HV : Hid (w2.heap[va]? = some (.cells (vCells i none none none) 132 (0, 0))) := hv2
 have HO : Hid _ := ho2
 have HI : Hid _ := hi2
 clear hv2 ho2 hi2 hP2 hkw H1 H2 HH x4 xk0
 go_wp2_with fail
 refine hc2.mono ?_
 rintro _ w3 ⟨vb, ov3, wv3, tv3, obs3, rfl, hv3, ho3, hi3, hP3⟩
 have e6 := hP3.c.2.2.2.1
 have ul := hP3.c.2.2.2.2
 have hkw := HK.out.on hP3.b0
 have u0 := hkw.c0
 have u4 := hkw.c4
 have ul1 := hkw.hb
 rw [HIJ.out.2] at hv3
 simp only [isV] at hv3
 have hva := hi3.v _ _ HV.out
 have a0 : w3.cell? ⟨va, 0, none⟩ = some (.int .i64 i) := by rw [blk_cell hva]; rfl
 have b0 : w3.cell? ⟨vb, 0, none⟩ = some (.int .i64 j) := by rw [blk_cell hv3]; rfl
 have al := blk_lt hva
 have bl := blk_lt hv3
 have HI3 : Hid _ := HI.out.trans hi3
 have HO3 : Hid _ := List.IsPrefix.trans HO.out ho3
 have HP3 : Hid _ := hP3
 clear hv3 ho3 hi3 hP3 hkw hva HK HV HI HO hc2 HIJ z0 z4 zk1
 by_cases he3 : r2.2.e = 0
 ·have qe : ((r2.2.e : Int) != 0) = false := by rw [he3]; rfl
  have HRR : Hid _ := HRN.out he3
  clear he3 HRN HRE
  have hw1 : IntKind.i64.wrap (i + j) = i + j := wrap_smallM _ (by omega)
  have HA : Hid (rArith .add i j = (i + j) % 10000) := by unfold rArith; rw [if_pos rfl, Int.tmod_eq_emod_of_nonneg (by omega)]; exact rfl
  have HZ : Hid _ := ((zeroV HP3.out ((i + j) % 10000) w3.heap.size rfl).pre HI3.out HO3.out).grow (below_dM _)
  go_wp2
  go_region
  all_goals (go_wp2; go_ret; rw [HRR.out, HA.out]; exact HZ.out)
 ·have qe : ((r2.2.e : Int) != 0) = true := by simp; omega
  have HRR : Hid _ := HRE.out he3
  have HZ : Hid _ := (zeroV HP3.out 0 w3.heap.size rfl).pre HI3.out HO3.out
  clear he3 HRN HRE
  go_wp2
  go_ret
  rw [HRR.out]
  exact HZ.out
set_option maxRecDepth 100000 in
set_option maxHeartbeats 4000000 in
theorem pparts_sub {w0 : World} (pb fuel p : Nat) (nm rg : List UInt8) (x y : PT) (G : TEnv) (hwx : WT G x .n) (hwy : WT G y .n) (htx : x.tame) (hty : y.tame) (hfx : x.wf) (ihx : PWork w0 pb fuel x G) (ihy : PWork w0 pb fuel y G) : PParts w0 pb fuel p .sub nm rg [x, y] G := by
 intro id site b F env hp st ov wv tv obs w hT hP hH henv hok he
 obtain ⟨gk, vc, bx, bb, id1, site1, id2, site2, hka, hT1, hT2⟩ := kat2 hT
 have hne : b ≠ pb := by have := hP.hpb; have := hka.hb; omega
 have hgy : gk ≠ pb := by have := hP.hpb; have := hka.hg; omega
 simp only [cntL] at hok
 have hr1 := rW_res fuel hwx env st htx (fun _ => henv)
 have h1 := ihx id1 site1 bx F env hp st ov wv tv obs _ hT1 hP hH (fun _ => henv) (fun _ => hok.le (by omega))
 have hok2 := fun e => hok.on x env hfx he (by omega) e
 have hev : rOps fuel .sub (valueL rg) [x, y] env st = if (rW fuel y env (rW fuel x env st).2).2.e ≠ 0 then (.n 0, (rW fuel y env (rW fuel x env st).2).2) else (.n (rArith .sub (rW fuel x env st).1.num (rW fuel y env (rW fuel x env st).2).1.num), (rW fuel y env (rW fuel x env st).2).2) := by simp only [rOps, reduceCtorEq, if_false]
 rw [hev]
 generalize rW fuel x env st = r1 at *
 have hr2 := rW_res fuel hwy env r1.2 hty (fun _ => henv)
 have h2 := fun ov2 wv2 tv2 obs2 w2 (hP2 : PlIn w0 w2 pb ov2 wv2 tv2 obs2 fuel r1.2) (hH2 : isH w2 obs2 env hp) => ihy id2 site2 bb F env hp r1.2 ov2 wv2 tv2 obs2 w2 hT2 hP2 hH2 (fun _ => henv) (fun e => (hok2 e).le (by omega))
 generalize rW fuel y env r1.2 = r2 at *
 obtain ⟨i, hi, hi0, hi9⟩ := rres_num hr1
 obtain ⟨j, hj, hj0, hj9⟩ := rres_num hr2
 obtain ⟨R, hR⟩ : ∃ R, R = if r2.2.e ≠ 0 then (RV.n 0, r2.2) else (RV.n (rArith .sub r1.1.num r2.1.num), r2.2) := ⟨_, rfl⟩
 rw [← hR]
 have HRN : Hid (r2.2.e = 0 → R = (RV.n (rArith .sub i j), r2.2)) := fun h => by rw [hR, if_neg (fun g => g h), hi, hj]; rfl
 have HRE : Hid (r2.2.e ≠ 0 → R = (RV.n 0, r2.2)) := fun h => by rw [hR, if_pos h]
 have hkw := hka.on hP.b0
 have x4 := hkw.c4
 have xk0 := hkw.ck 0 bx rfl
 have xl1 := hkw.hb
 have xl2 := hkw.hg
 have q_pair : ((bs Kw.sub.bytes).toList == [112, 97, 105, 114]) = false := by rw [bs_beq0]; decide
 have q_fst : ((bs Kw.sub.bytes).toList == [102, 115, 116]) = false := by rw [bs_beq0]; decide
 have q_snd : ((bs Kw.sub.bytes).toList == [115, 110, 100]) = false := by rw [bs_beq0]; decide
 have q_add : ((bs Kw.sub.bytes).toList == [97, 100, 100]) = false := by rw [bs_beq0]; decide
 have q_sub : ((bs Kw.sub.bytes).toList == [115, 117, 98]) = true := by rw [bs_beq0]; decide
 have HK : Hid _ := hka
 have HH : Hid _ := hH
 have HIJ : Hid _ := And.intro hi hj
 unfold ptr at h1 h2
 have H1 : Hid _ := h1
 have H2 : Hid _ := h2
 clear hka hkw hT hP hH henv hok he hev hT1 hT2 ihx ihy h1 h2 hR hr1 hr2 hok2 hi hj
 show Calls _ _ #[Value.pointer (some ⟨pb, 0, none⟩), Value.pointer (some ⟨b, 0, none⟩), _] w _
 go_enter Tryz.func74, Tryz.ntmps74
 go_wp2_with fail
 refine Calls.mono H1.out ?_
 rintro _ w2 ⟨va, ov2, wv2, tv2, obs2, rfl, hv2, ho2, hi2, hP2⟩
 have hkw := HK.out.on hP2.b0
 have z0 := hkw.c0
 have z4 := hkw.c4
 have zk1 := hkw.ck 1 bb rfl
 have zl1 := hkw.hb
 have zl2 := hkw.hg
 have hc2 := H2.out ov2 wv2 tv2 obs2 w2 hP2 (HH.out.keep hi2 ho2)
 rw [HIJ.out.1] at hv2
 have HV : Hid (w2.heap[va]? = some (.cells (vCells i none none none) 132 (0, 0))) := hv2
 have HO : Hid _ := ho2
 have HI : Hid _ := hi2
 clear hv2 ho2 hi2 hP2 hkw H1 H2 HH x4 xk0
 go_wp2_with fail
 refine hc2.mono ?_
 rintro _ w3 ⟨vb, ov3, wv3, tv3, obs3, rfl, hv3, ho3, hi3, hP3⟩
 have e6 := hP3.c.2.2.2.1
 have ul := hP3.c.2.2.2.2
 have hkw := HK.out.on hP3.b0
 have u0 := hkw.c0
 have u4 := hkw.c4
 have ul1 := hkw.hb
 rw [HIJ.out.2] at hv3
 simp only [isV] at hv3
 have hva := hi3.v _ _ HV.out
 have a0 : w3.cell? ⟨va, 0, none⟩ = some (.int .i64 i) := by rw [blk_cell hva]; rfl
 have b0 : w3.cell? ⟨vb, 0, none⟩ = some (.int .i64 j) := by rw [blk_cell hv3]; rfl
 have al := blk_lt hva
 have bl := blk_lt hv3
 have HI3 : Hid _ := HI.out.trans hi3
 have HO3 : Hid _ := List.IsPrefix.trans HO.out ho3
 have HP3 : Hid _ := hP3
 clear hv3 ho3 hi3 hP3 hkw hva HK HV HI HO hc2 HIJ z0 z4 zk1
 by_cases he3 : r2.2.e = 0
 ·have qe : ((r2.2.e : Int) != 0) = false := by rw [he3]; rfl
  have HRR : Hid _ := HRN.out he3
  clear he3 HRN HRE
  have hw1 : IntKind.i64.wrap (i + 10000) = i + 10000 := wrap_smallM _ (by omega)
  have hw2 : IntKind.i64.wrap (i + 10000 - j) = i + 10000 - j := wrap_smallM _ (by omega)
  have HA : Hid (rArith .sub i j = (i + 10000 - j) % 10000) := by unfold rArith; simp only [reduceCtorEq, if_false, if_true]; rw [Int.tmod_eq_emod_of_nonneg (by omega)]; exact rfl
  have HZ : Hid _ := ((zeroV HP3.out ((i + 10000 - j) % 10000) w3.heap.size rfl).pre HI3.out HO3.out).grow (below_dM _)
  go_wp2
  go_region
  all_goals (go_wp2; go_ret; rw [HRR.out, HA.out]; exact HZ.out)
 ·have qe : ((r2.2.e : Int) != 0) = true := by simp; omega
  have HRR : Hid _ := HRE.out he3
  have HZ : Hid _ := (zeroV HP3.out 0 w3.heap.size rfl).pre HI3.out HO3.out
  clear he3 HRN HRE
  go_wp2
  go_ret
  rw [HRR.out]
  exact HZ.out
set_option maxRecDepth 100000 in
set_option maxHeartbeats 4000000 in
theorem pparts_less {w0 : World} (pb fuel p : Nat) (nm rg : List UInt8) (x y : PT) (G : TEnv) (hwx : WT G x .n) (hwy : WT G y .n) (htx : x.tame) (hty : y.tame) (hfx : x.wf) (ihx : PWork w0 pb fuel x G) (ihy : PWork w0 pb fuel y G) : PParts w0 pb fuel p .less nm rg [x, y] G := by
 intro id site b F env hp st ov wv tv obs w hT hP hH henv hok he
 obtain ⟨gk, vc, bx, bb, id1, site1, id2, site2, hka, hT1, hT2⟩ := kat2 hT
 have hne : b ≠ pb := by have := hP.hpb; have := hka.hb; omega
 have hgy : gk ≠ pb := by have := hP.hpb; have := hka.hg; omega
 simp only [cntL] at hok
 have hr1 := rW_res fuel hwx env st htx (fun _ => henv)
 have h1 := ihx id1 site1 bx F env hp st ov wv tv obs _ hT1 hP hH (fun _ => henv) (fun _ => hok.le (by omega))
 have hok2 := fun e => hok.on x env hfx he (by omega) e
 have hev : rOps fuel .less (valueL rg) [x, y] env st = if (rW fuel y env (rW fuel x env st).2).2.e ≠ 0 then (.n 0, (rW fuel y env (rW fuel x env st).2).2) else (.n (rArith .less (rW fuel x env st).1.num (rW fuel y env (rW fuel x env st).2).1.num), (rW fuel y env (rW fuel x env st).2).2) := by simp only [rOps, reduceCtorEq, if_false]
 rw [hev]
 generalize rW fuel x env st = r1 at *
 have hr2 := rW_res fuel hwy env r1.2 hty (fun _ => henv)
 have h2 := fun ov2 wv2 tv2 obs2 w2 (hP2 : PlIn w0 w2 pb ov2 wv2 tv2 obs2 fuel r1.2) (hH2 : isH w2 obs2 env hp) => ihy id2 site2 bb F env hp r1.2 ov2 wv2 tv2 obs2 w2 hT2 hP2 hH2 (fun _ => henv) (fun e => (hok2 e).le (by omega))
 generalize rW fuel y env r1.2 = r2 at *
 obtain ⟨i, hi, hi0, hi9⟩ := rres_num hr1
 obtain ⟨j, hj, hj0, hj9⟩ := rres_num hr2
 obtain ⟨R, hR⟩ : ∃ R, R = if r2.2.e ≠ 0 then (RV.n 0, r2.2) else (RV.n (rArith .less r1.1.num r2.1.num), r2.2) := ⟨_, rfl⟩
 rw [← hR]
 have HRN : Hid (r2.2.e = 0 → R = (RV.n (rArith .less i j), r2.2)) := fun h => by rw [hR, if_neg (fun g => g h), hi, hj]; rfl
 have HRE : Hid (r2.2.e ≠ 0 → R = (RV.n 0, r2.2)) := fun h => by rw [hR, if_pos h]
 have hkw := hka.on hP.b0
 have x4 := hkw.c4
 have xk0 := hkw.ck 0 bx rfl
 have xl1 := hkw.hb
 have xl2 := hkw.hg
 have q_pair : ((bs Kw.less.bytes).toList == [112, 97, 105, 114]) = false := by rw [bs_beq0]; decide
 have q_fst : ((bs Kw.less.bytes).toList == [102, 115, 116]) = false := by rw [bs_beq0]; decide
 have q_snd : ((bs Kw.less.bytes).toList == [115, 110, 100]) = false := by rw [bs_beq0]; decide
 have q_add : ((bs Kw.less.bytes).toList == [97, 100, 100]) = false := by rw [bs_beq0]; decide
 have q_sub : ((bs Kw.less.bytes).toList == [115, 117, 98]) = false := by rw [bs_beq0]; decide
 have HK : Hid _ := hka
 have HH : Hid _ := hH
 have HIJ : Hid _ := And.intro hi hj
 unfold ptr at h1 h2
 have H1 : Hid _ := h1
 have H2 : Hid _ := h2
 clear hka hkw hT hP hH henv hok he hev hT1 hT2 ihx ihy h1 h2 hR hr1 hr2 hok2 hi hj
 show Calls _ _ #[Value.pointer (some ⟨pb, 0, none⟩), Value.pointer (some ⟨b, 0, none⟩), _] w _
 go_enter Tryz.func74, Tryz.ntmps74
 go_wp2_with fail
 refine Calls.mono H1.out ?_
 rintro _ w2 ⟨va, ov2, wv2, tv2, obs2, rfl, hv2, ho2, hi2, hP2⟩
 have hkw := HK.out.on hP2.b0
 have z0 := hkw.c0
 have z4 := hkw.c4
 have zk1 := hkw.ck 1 bb rfl
 have zl1 := hkw.hb
 have zl2 := hkw.hg
 have hc2 := H2.out ov2 wv2 tv2 obs2 w2 hP2 (HH.out.keep hi2 ho2)
 rw [HIJ.out.1] at hv2
 have HV : Hid (w2.heap[va]? = some (.cells (vCells i none none none) 132 (0, 0))) := hv2
 have HO : Hid _ := ho2
 have HI : Hid _ := hi2
 clear hv2 ho2 hi2 hP2 hkw H1 H2 HH x4 xk0
 go_wp2_with fail
 refine hc2.mono ?_
 rintro _ w3 ⟨vb, ov3, wv3, tv3, obs3, rfl, hv3, ho3, hi3, hP3⟩
 have e6 := hP3.c.2.2.2.1
 have ul := hP3.c.2.2.2.2
 have hkw := HK.out.on hP3.b0
 have u0 := hkw.c0
 have u4 := hkw.c4
 have ul1 := hkw.hb
 rw [HIJ.out.2] at hv3
 simp only [isV] at hv3
 have hva := hi3.v _ _ HV.out
 have a0 : w3.cell? ⟨va, 0, none⟩ = some (.int .i64 i) := by rw [blk_cell hva]; rfl
 have b0 : w3.cell? ⟨vb, 0, none⟩ = some (.int .i64 j) := by rw [blk_cell hv3]; rfl
 have al := blk_lt hva
 have bl := blk_lt hv3
 have HI3 : Hid _ := HI.out.trans hi3
 have HO3 : Hid _ := List.IsPrefix.trans HO.out ho3
 have HP3 : Hid _ := hP3
 clear hv3 ho3 hi3 hP3 hkw hva HK HV HI HO hc2 HIJ z0 z4 zk1
 by_cases he3 : r2.2.e = 0
 ·have qe : ((r2.2.e : Int) != 0) = false := by rw [he3]; rfl
  have HRR : Hid _ := HRN.out he3
  clear he3 HRN HRE
  have HZ : Hid _ := fun (k : Int) m => (zeroV (HP3.out.drew m) k w3.heap.size rfl).pre (HI3.out.trans (Imm.below (below_drewP w3 m))) HO3.out
  by_cases hlt : i < j
  ·have HA : Hid (rArith .less i j = 1) := by unfold rArith; simp only [reduceCtorEq, if_false]; rw [if_pos hlt]; exact rfl
   go_wp2
   go_quiet (fail)
   go_wp2
   go_ret
   rw [HRR.out, HA.out]
   exact HZ.out 1 _
  ·have HA : Hid (rArith .less i j = 0) := by unfold rArith; simp only [reduceCtorEq, if_false]; rw [if_neg hlt]; exact rfl
   go_wp2
   go_quiet (fail)
   go_wp2
   go_ret
   rw [HRR.out, HA.out]
   exact HZ.out 0 _
 ·have qe : ((r2.2.e : Int) != 0) = true := by simp; omega
  have HRR : Hid _ := HRE.out he3
  have HZ : Hid _ := (zeroV HP3.out 0 w3.heap.size rfl).pre HI3.out HO3.out
  clear he3 HRN HRE
  go_wp2
  go_ret
  rw [HRR.out]
  exact HZ.out
def bA (s : ByteArray) (a : Nat) : UInt8 := if h : a < s.size then s[a] else 0
theorem bA_in (s : ByteArray) (a : Nat) (h : a < s.size) : bA s a = s[a] := by unfold bA; rw [dif_pos h]
theorem bA_out (s : ByteArray) (a : Nat) (h : s.size ≤ a) : bA s a = 0 := by unfold bA; rw [dif_neg (by omega)]
set_option maxHeartbeats 400000 in
theorem byteAt_any (s : ByteArray) (a : Nat) (w : World) (ha : a ≤ 10000) :
  Calls Tryz.prog 192 #[.string s, .int .i64 a] w fun e w' => e = .returned (.int .u8 ((bA s a).toNat : Int)) ∧ w' = w := by
 by_cases h : a < s.size
 ·rw [bA_in s a h]
  go_enter Tryz.func192, Tryz.ntmps192
  go_wp2
  go_ret
  exact ⟨rfl, rfl⟩
 ·rw [bA_out s a (by omega)]
  go_enter Tryz.func192, Tryz.ntmps192
  go_wp2
  go_ret
  exact ⟨rfl, rfl⟩
set_option maxHeartbeats 400000 in
theorem isLetter_any (c : UInt8) (w : World) :
  Calls Tryz.prog 193 #[.int .u8 (c.toNat : Int)] w fun e w' => e = .returned (.bool (inB 97 122 c)) ∧ w' = w := by
 have hc : c.toNat < 256 := c.toNat_lt
 unfold inB
 go_enter Tryz.func193, Tryz.ntmps193
 go_wp2
 all_goals go_ret
 ·refine ⟨ret_bool ?_, rfl⟩
  have h1 : (97 : Int) ≤ (c.toNat : Int) := by assumption
  simp [h1]
 ·refine ⟨ret_bool ?_, rfl⟩
  have h1 : ¬ (97 : Int) ≤ (c.toNat : Int) := by omega
  simp [h1]
set_option maxHeartbeats 400000 in
theorem isDigit_any (c : UInt8) (w : World) :
  Calls Tryz.prog 195 #[.int .u8 (c.toNat : Int)] w fun e w' => e = .returned (.bool (inB 48 57 c)) ∧ w' = w := by
 have hc : c.toNat < 256 := c.toNat_lt
 unfold inB
 go_enter Tryz.func195, Tryz.ntmps195
 go_wp2
 all_goals go_ret
 ·refine ⟨ret_bool ?_, rfl⟩
  have h1 : (48 : Int) ≤ (c.toNat : Int) := by assumption
  simp [h1]
 ·refine ⟨ret_bool ?_, rfl⟩
  have h1 : ¬ (48 : Int) ≤ (c.toNat : Int) := by omega
  simp [h1]
set_option maxHeartbeats 400000 in
theorem isBlank_any (c : UInt8) (w : World) :
  Calls Tryz.prog 202 #[.int .u8 (c.toNat : Int)] w fun e w' => e = .returned (.bool (blankB c)) ∧ w' = w := by
 have e1 : ((c.toNat : Int) == 32) = (c == 32) := byte_eq c 32
 have e2 : ((c.toNat : Int) == 10) = (c == 10) := byte_eq c 10
 unfold blankB
 rw [← e1, ← e2]
 clear e1 e2
 go_enter Tryz.func202, Tryz.ntmps202
 go_wp2
 all_goals go_ret
 all_goals
  refine ⟨ret_bool ?_, rfl⟩
  simp_all
def nbl : List UInt8 → Nat
 | [] => 0
 | c :: r => if blankB c then nbl r + 1 else 0
theorem nbl_le (l : List UInt8) : nbl l ≤ l.length := by
 induction l with
 | nil => simp [nbl]
 | cons c r ih => simp only [nbl]; split <;> simp <;> omega
set_option maxRecDepth 100000 in
set_option maxHeartbeats 1000000 in
theorem skipBlanks_any (s : ByteArray) (a : Nat) (w : World) (hs : s.size ≤ 9000) (ha : a ≤ s.size) :
  Calls Tryz.prog 191 #[.string s, .int .i64 a] w fun e w' => e = .returned (.int .i64 ((a + nbl (s.data.toList.drop a) : Nat) : Int)) ∧ w' = w := by
 have hby := fun k (h : k ≤ 10000) w => byteAt_any s k w h
 go_enter Tryz.func191, Tryz.ntmps191
 go_wp2
 go_loop [5] (fun i => ∃ k : Nat, k ≤ s.size ∧ i = .int .i64 k ∧ a + nbl (s.data.toList.drop a) = k + nbl (s.data.toList.drop k)) (fun i => s.size - (intOf i).toNat)
 case atStart => exact ⟨a, ha, rfl, rfl⟩
 case round =>
  obtain ⟨k, hk, rfl, hr⟩ := hrel
  have HR : Hid _ := hr
  clear hr
  by_cases hlt : k < s.size
  ·by_cases hb : blankB s[k] = true
   ·have hn : nbl (s.data.toList.drop k) = nbl (s.data.toList.drop (k + 1)) + 1 := by rw [drop_cons s k hlt]; simp [nbl, hb]
    have HN : Hid _ := hn
    have hbl := fun w => isBlank_any s[k] w
    rw [hb] at hbl
    have hbk := hby k (by omega)
    rw [bA_in s k hlt] at hbk
    clear hn hb
    go_wp2_with (first
     | (go_at_call 192; refine (hbk _).mono ?_; rintro e w' ⟨rfl, rfl⟩)
     | (go_at_call 202; refine (hbl _).mono ?_; rintro e w' ⟨rfl, rfl⟩))
    go_round
    case rel => exact ⟨k + 1, by omega, by go_num, by rw [HR.out, HN.out]; omega⟩
    case measure => simp [intOf]; omega
   ·have hb0 : blankB s[k] = false := by simpa using hb
    have hn : nbl (s.data.toList.drop k) = 0 := by rw [drop_cons s k hlt]; simp [nbl, hb0]
    have HN : Hid _ := hn
    have hbl := fun w => isBlank_any s[k] w
    rw [hb0] at hbl
    have hbk := hby k (by omega)
    rw [bA_in s k hlt] at hbk
    clear hn hb hb0
    go_wp2_with (first
     | (go_at_call 192; refine (hbk _).mono ?_; rintro e w' ⟨rfl, rfl⟩)
     | (go_at_call 202; refine (hbl _).mono ?_; rintro e w' ⟨rfl, rfl⟩))
    go_ret
    exact ⟨ret_int (by have h1 := HR.out; have h2 := HN.out; omega), rfl⟩
  ·have hn : nbl (s.data.toList.drop k) = 0 := by rw [drop_end s k (by omega)]; rfl
   have HN : Hid _ := hn
   clear hn
   go_wp2
   go_ret
   exact ⟨ret_int (by have h1 := HR.out; have h2 := HN.out; omega), rfl⟩
set_option maxRecDepth 100000 in
set_option maxHeartbeats 1000000 in
theorem valueOf_any (s : ByteArray) (a n b : Nat) (w : World) (hs : s.size ≤ 9000) (hab : b = a + n) (ha : b ≤ s.size) (hn : n ≤ 5) (hd : ∀ c ∈ (s.data.toList.drop a).take n, c ≠ 35) :
  Calls Tryz.prog 205 #[.string s, .int .i64 a, .int .i64 b] w fun e w' => e = .returned (.int .i64 (valueL ((s.data.toList.drop a).take n))) ∧ w' = w := by
 have hby := fun k (h : k ≤ 10000) w => byteAt_any s k w h
 have HD : Hid _ := hd
 clear hd
 go_enter Tryz.func205, Tryz.ntmps205
 go_wp2
 go_loop [7, 8] (fun v i => ∃ k j : Nat, k ≤ n ∧ j = a + k ∧ i = .int .i64 j ∧ v = .int .i64 (valueL ((s.data.toList.drop a).take k))) (fun _ i => b - (intOf i).toNat)
 case atStart => exact ⟨0, a, by omega, rfl, rfl, rfl⟩
 case round =>
  obtain ⟨k, j, hk, hj, rfl, rfl⟩ := hrel
  have hb := valueL_bd ((s.data.toList.drop a).take k)
  have hp := pow5 ((s.data.toList.drop a).take k).length (by simp; omega)
  obtain ⟨m, hm⟩ : ∃ m, m = valueL ((s.data.toList.drop a).take k) := ⟨_, rfl⟩
  rw [← hm] at hb
  obtain ⟨hb1, hb2⟩ : -3000000 ≤ m ∧ m ≤ 3000000 := by omega
  clear hp hb
  by_cases hlt : k < n
  ·have hin : j < s.size := by omega
   have hsn : valueL ((s.data.toList.drop a).take (k + 1)) = 10 * m + (s[j].toNat : Int) - 48 := by
    have e : (s.data.toList.drop a).take (k + 1) = (s.data.toList.drop a).take k ++ [s[j]] := by
     subst hj; rw [List.take_succ_eq_append_getElem (by simp; omega), List.getElem_drop]; rfl
    have hne : s[j] ≠ 35 := by
     apply HD.out
     have : s[j] ∈ (s.data.toList.drop a).take (k + 1) := by rw [e]; simp
     rw [show (s.data.toList.drop a).take (k + 1) = ((s.data.toList.drop a).take n).take (k + 1) from by rw [List.take_take, Nat.min_eq_left (by omega)]] at this
     exact List.mem_of_mem_take this
    rw [e, valueL_snoc, if_neg hne, hm]
   have HS : Hid _ := hsn
   have hcb : s[j].toNat < 256 := s[j].toNat_lt
   have HC : Hid _ := hcb
   have hbk := hby j (by omega)
   rw [bA_in s j hin] at hbk
   clear hsn hcb
   rw [← hm]
   have HM : Hid _ := hm
   clear hm
   have HJ : Hid (j = a + k) := hj
   have hjb : j < b := by omega
   have HAB : Hid (b = a + n) := hab
   clear hj hab
   go_wp2_with fail
   refine (hbk _).mono ?_
   rintro e w' ⟨rfl, rfl⟩
   go_wp2
   go_round
   case rel =>
    have := HJ.out
    refine ⟨k + 1, j + 1, by omega, by omega, by go_num, ?_⟩
    rw [HS.out]
    have := HC.out
    rw [IntWalk.wrap64_in (s[j].toNat : Int) (by omega), IntWalk.wrap64_in (m * 10 + (s[j].toNat : Int)) (by omega), IntWalk.wrap64_in _ (by omega), Int.mul_comm m 10]
   case measure => simp [intOf]; omega
  ·have hkn : k = n := by omega
   subst hkn
   go_wp2
   go_ret
   exact ⟨rfl, rfl⟩
set_option maxHeartbeats 400000 in
theorem cut_any (s : ByteArray) (a b : Nat) (w : World) (ha : a ≤ b) (hb : b ≤ s.size) :
  Calls Tryz.prog 203 #[.string s, .int .i64 a, .int .i64 b] w fun e w' => e = .returned (.string (s.extract a b)) ∧ w' = w := by
 go_enter Tryz.func203, Tryz.ntmps203
 go_wp2
 go_ret
 exact ⟨rfl, rfl⟩
theorem kw_key (s : ByteArray) (k : Kw) : (s.toList == k.bytes) = decide (kwOf s.data.toList = some k) := by
 rw [Lib.toList_data]
 by_cases h : kwOf s.data.toList = some k
 ·rw [decide_eq_true h, kwOf_some h]; simp
 ·rw [decide_eq_false h, beq_eq_false_iff_ne]
  intro e; rw [e, kwOf_bytes] at h; exact h rfl
set_option maxRecDepth 100000 in
set_option maxHeartbeats 1000000 in
theorem kindOf_any (s : ByteArray) (w : World) :
  Calls Tryz.prog 204 #[.string s] w fun e w' => e = .returned (.int .i64 ((kindN (wordCl s.data.toList 0) : Nat) : Int)) ∧ w' = w := by
 have f1 := kw_key s .let_
 have f2 := kw_key s .pair
 have f3 := kw_key s .fst
 have f4 := kw_key s .snd
 have f5 := kw_key s .if_
 have f6 := kw_key s .add
 have f7 := kw_key s .sub
 have f8 := kw_key s .less
 have f9 := kw_key s .loop
 have f10 := kw_key s .new
 simp only [Kw.bytes] at f1 f2 f3 f4 f5 f6 f7 f8 f9 f10
 unfold wordCl
 cases hk : kwOf s.data.toList with
 | none =>
  rw [hk] at f1 f2 f3 f4 f5 f6 f7 f8 f9 f10
  simp only [reduceCtorEq, decide_false] at f1 f2 f3 f4 f5 f6 f7 f8 f9 f10
  clear hk
  go_enter Tryz.func204, Tryz.ntmps204
  go_wp2
  go_ret
  exact ⟨rfl, rfl⟩
 | some k =>
  rw [hk] at f1 f2 f3 f4 f5 f6 f7 f8 f9 f10
  clear hk
  cases k
  all_goals
   simp only [Option.some.injEq, reduceCtorEq, decide_false, decide_true] at f1 f2 f3 f4 f5 f6 f7 f8 f9 f10
   go_enter Tryz.func204, Tryz.ntmps204
   go_wp2
   go_ret
   exact ⟨rfl, rfl⟩
def tnVal (t : TN) : Value := .agg #[.int .i64 t.kind, .int .i64 t.at_, .int .i64 t.beh, .string (bs t.word), .int .i64 t.num]
theorem bA_let (s : ByteArray) (k : Nat) (lo hi : Int) (hlo : 0 < lo) : (inB lo hi (bA s k) = true ∧ k < s.size ∧ run lo hi (s.data.toList.drop k) = run lo hi (s.data.toList.drop (k + 1)) + 1) ∨ (inB lo hi (bA s k) = false ∧ run lo hi (s.data.toList.drop k) = 0) := by
 by_cases h : k < s.size
 ·rw [bA_in s k h, drop_cons s k h]
  cases hb : inB lo hi s[k] with
  | true => left; exact ⟨rfl, h, by simp [run, hb]⟩
  | false => right; exact ⟨rfl, by simp [run, hb]⟩
 ·right
  rw [bA_out s k (by omega), drop_end s k (by omega)]
  refine ⟨?_, rfl⟩
  unfold inB
  have h0 : ((0 : UInt8).toNat : Int) = 0 := rfl
  rw [h0, decide_eq_false (by omega : ¬ lo ≤ 0)]; rfl
theorem wordCl_small (l : List UInt8) (n : Nat) (h : n ≤ 8) : wordCl l n = wordCl l 0 := by
 unfold wordCl; cases kwOf l <;> simp [h]
theorem wordCl_big (l : List UInt8) (h : 8 < l.length) : wordCl l l.length = .bad := by
 unfold wordCl
 cases hk : kwOf l with
 | none => simp; omega
 | some k =>
  have := kwOf_some hk
  rw [this] at h
  clear this hk
  revert h
  cases k <;> simp [Kw.bytes]
set_option maxRecDepth 100000 in
set_option maxHeartbeats 1000000 in
theorem readWord_any (s : ByteArray) (a n : Nat) (w : World) (hs : s.size ≤ 9000) (hn : n = run 97 122 (s.data.toList.drop a)) (ha : a + n ≤ s.size) :
  Calls Tryz.prog 194 #[.string s, .int .i64 a] w fun e w' => e = .returned (tnVal ⟨kindN (wordCl ((s.data.toList.drop a).take n) n), a, a + n, if n ≤ 8 then (s.data.toList.drop a).take n else [], 0⟩) ∧ Below w.heap.size w w' := by
 have hby := fun k (h : k ≤ 10000) w => byteAt_any s k w h
 have HN : Hid _ := hn
 clear hn
 go_enter Tryz.func194, Tryz.ntmps194
 go_wp2
 go_loop [5] (fun i => ∃ k j : Nat, k ≤ n ∧ Hid (j = a + k) ∧ j ≤ s.size ∧ i = .int .i64 j ∧ Hid (n = k + run 97 122 (s.data.toList.drop j))) (fun i => s.size - (intOf i).toNat)
 case atStart => exact ⟨0, a, by omega, (rfl : a = a + 0), by omega, rfl, (by rw [← HN.out]; omega : n = 0 + run 97 122 (s.data.toList.drop a))⟩
 case round =>
  obtain ⟨k, j, hk, HJ, hjs, rfl, HR⟩ := hrel
  have hbk := hby j (by omega)
  have hil := fun w => isLetter_any (bA s j) w
  rcases bA_let s j 97 122 (by decide) with ⟨h1, h2, h3⟩ | ⟨h1, h2⟩
  ·rw [h1] at hil
   have H3 : Hid _ := h3
   clear h1 h3
   go_wp2_with (first
    | (go_at_call 192; refine (hbk _).mono ?_; rintro e w' ⟨rfl, rfl⟩)
    | (go_at_call 193; refine (hil _).mono ?_; rintro e w' ⟨rfl, rfl⟩))
   go_round
   case rel => exact ⟨k + 1, j + 1, by have h := HR.out; rw [H3.out] at h; omega, (by have h := HJ.out; omega : j + 1 = a + (k + 1)), by omega, by go_num, (by have h := HR.out; rw [H3.out] at h; omega : n = (k + 1) + run 97 122 (s.data.toList.drop (j + 1)))⟩
   case measure => simp [intOf]; omega
  ·rw [h1] at hil
   have hkn : k = n := by have h := HR.out; rw [h2] at h; omega
   have hja : j = a + n := by rw [← hkn]; exact HJ.out
   clear h1 h2 HR
   have hcu := fun w => cut_any s a j w (by omega) hjs
   have hkd := fun w => kindOf_any (s.extract a j) w
   have hex : (s.extract a j).data.toList = (s.data.toList.drop a).take n := by rw [hja, ext_of]
   rw [hex] at hkd
   have HEX : Hid _ := bs_eq hex
   have HJ' : Hid (j = a + n) := hja
   have hjk : (j : Int) - (a : Int) = (n : Int) := by omega
   clear hex hja hkn HJ hk
   by_cases h8 : n ≤ 8
   ·have H8 : Hid (n ≤ 8) := h8
    go_wp2_with (first
     | (go_at_call 192; refine (hbk _).mono ?_; rintro e w' ⟨rfl, rfl⟩)
     | (go_at_call 193; refine (hil _).mono ?_; rintro e w' ⟨rfl, rfl⟩)
     | (go_at_call 203; refine (hcu _).mono ?_; rintro e w' ⟨rfl, rfl⟩)
     | (go_at_call 204; refine (hkd _).mono ?_; rintro e w' ⟨rfl, rfl⟩))
    refine bodyPost_ret (v := .agg #[.int .i64 ((kindN (wordCl ((s.data.toList.drop a).take n) 0) : Nat) : Int), .int .i64 a, .int .i64 j, .string (s.extract a j), .int .i64 0]) (by simp [results, Tryz.results194, go_sem]) rfl ⟨?_, (Below.refl _ _).alloc (Nat.le_refl _) _⟩
    rw [HEX.out, HJ'.out, wordCl_small _ _ H8.out]; first | rfl | (rw [if_pos H8.out]; rfl)
   ·have H8 : Hid (¬ n ≤ 8) := h8
    have hlen : ((s.data.toList.drop a).take n).length = n := by simp; omega
    have HB : Hid (wordCl ((s.data.toList.drop a).take n) n = .bad) := by
     have := wordCl_big ((s.data.toList.drop a).take n) (by omega)
     rw [hlen] at this; exact this
    clear hlen
    go_wp2_with (first
     | (go_at_call 192; refine (hbk _).mono ?_; rintro e w' ⟨rfl, rfl⟩)
     | (go_at_call 193; refine (hil _).mono ?_; rintro e w' ⟨rfl, rfl⟩))
    refine bodyPost_ret (v := .agg #[.int .i64 1, .int .i64 a, .int .i64 j, .string ⟨#[]⟩, .int .i64 0]) (by simp [results, Tryz.results194, go_sem]) rfl ⟨?_, (Below.refl _ _).alloc (Nat.le_refl _) _⟩
    rw [HB.out, HJ'.out]; first | rfl | (rw [if_neg H8.out]; rfl)
theorem run_mem (lo hi : Int) (l : List UInt8) : ∀ c ∈ l.take (run lo hi l), inB lo hi c = true := by
 induction l with
 | nil => simp
 | cons c r ih =>
  simp only [run]
  by_cases h : inB lo hi c = true
  ·rw [if_pos h, List.take_succ_cons]
   intro x hx
   rcases List.mem_cons.1 hx with rfl | hx
   ·exact h
   ·exact ih x hx
  ·rw [if_neg h]; simp
def numTN (l : List UInt8) (most kind a d n : Nat) : TN := if numeralB (l.take n) most then ⟨kind, a, d + n, [], valueL (l.take n)⟩ else ⟨1, a, d + n, [], 0⟩
set_option maxRecDepth 100000 in
set_option maxHeartbeats 2000000 in
theorem readNumber_any (s : ByteArray) (a d n most kind : Nat) (w : World) (hs : s.size ≤ 9000) (hn : n = run 48 57 (s.data.toList.drop d)) (ha : d + n ≤ s.size) (hm : 3 ≤ most ∧ most ≤ 4) :
  Calls Tryz.prog 196 #[.string s, .int .i64 a, .int .i64 d, .int .i64 most, .int .i64 kind] w fun e w' => e = .returned (tnVal (numTN (s.data.toList.drop d) most kind a d n)) ∧ Below w.heap.size w w' := by
 have hby := fun k (h : k ≤ 10000) w => byteAt_any s k w h
 have hdig : ∀ c ∈ (s.data.toList.drop d).take n, c ≠ 35 := by
  rw [hn]; intro c hc e
  have := run_mem 48 57 _ c hc
  rw [e] at this; revert this; decide
 have HDIG : Hid _ := hdig
 have HN : Hid _ := hn
 have hlen : ((s.data.toList.drop d).take n).length = n := by simp; omega
 have hhead : 0 < n → ((s.data.toList.drop d).take n).head? = some (bA s d) := by
  intro h0
  rw [bA_in s d (by omega), drop_cons s d (by omega)]
  obtain ⟨m, rfl⟩ : ∃ m, n = m + 1 := ⟨n - 1, by omega⟩
  simp
 have hnum : numeralB ((s.data.toList.drop d).take n) most = (decide (0 < n) && decide (n ≤ most) && (decide (n = 1) || (((s.data.toList.drop d).take n).head? != some 48))) := by unfold numeralB; rw [hlen]
 have HNUM : Hid _ := hnum
 have HHEAD : Hid _ := hhead
 clear hn hdig hlen hnum hhead
 go_enter Tryz.func196, Tryz.ntmps196
 go_wp2
 go_loop [11] (fun i => ∃ k j : Nat, k ≤ n ∧ Hid (j = d + k) ∧ j ≤ s.size ∧ i = .int .i64 j ∧ Hid (n = k + run 48 57 (s.data.toList.drop j))) (fun i => s.size - (intOf i).toNat)
 case atStart => exact ⟨0, d, by omega, (rfl : d = d + 0), by omega, rfl, (by rw [← HN.out]; omega : n = 0 + run 48 57 (s.data.toList.drop d))⟩
 case round =>
  obtain ⟨k, j, hk, HJ, hjs, rfl, HR⟩ := hrel
  have hbk := hby j (by omega)
  have hil := fun w => isDigit_any (bA s j) w
  rcases bA_let s j 48 57 (by decide) with ⟨h1, h2, h3⟩ | ⟨h1, h2⟩
  ·rw [h1] at hil
   have H3 : Hid _ := h3
   clear h1 h3
   go_wp2_with (first
    | (go_at_call 192; refine (hbk _).mono ?_; rintro e w' ⟨rfl, rfl⟩)
    | (go_at_call 195; refine (hil _).mono ?_; rintro e w' ⟨rfl, rfl⟩))
   go_round
   case rel => exact ⟨k + 1, j + 1, by have h := HR.out; rw [H3.out] at h; omega, (by have h := HJ.out; omega : j + 1 = d + (k + 1)), by omega, by go_num, (by have h := HR.out; rw [H3.out] at h; omega : n = (k + 1) + run 48 57 (s.data.toList.drop (j + 1)))⟩
   case measure => simp [intOf]; omega
  ·rw [h1] at hil
   have hkn : k = n := by have h := HR.out; rw [h2] at h; omega
   have hja : j = d + n := by rw [← hkn]; exact HJ.out
   clear h1 h2 HR
   have HJ' : Hid (j = d + n) := hja
   have hjk : (j : Int) - (d : Int) = (n : Int) := by omega
   have hbd := hby d (by omega)
   have e48 : (((bA s d).toNat : Int) == 48) = (bA s d == 48) := byte_eq (bA s d) 48
   have HE48 : Hid _ := e48
   clear hja hkn HJ hk e48
   by_cases c0 : n = 0
   ·have b0 : ((n : Int) == 0) = true := by rw [c0]; rfl
    have HF : Hid (numTN (s.data.toList.drop d) most kind a d n = ⟨1, a, d + n, [], 0⟩) := by
     have : numeralB ((s.data.toList.drop d).take n) most = false := by rw [HNUM.out]; simp [c0]
     unfold numTN; rw [this]; rfl
    have c0' : n < 1 := by omega
    clear c0
    go_wp2_with (first
     | (go_at_call_of 192 (Value.int IntKind.i64 (j : Int)); refine (hbk _).mono ?_; rintro e w' ⟨rfl, rfl⟩)
     | (go_at_call_of 192 (Value.int IntKind.i64 (d : Int)); refine (hbd _).mono ?_; rintro e w' ⟨rfl, rfl⟩)
     | (go_at_call 195; refine (hil _).mono ?_; rintro e w' ⟨rfl, rfl⟩)
     | (go_at_call 205; refine (hva _).mono ?_; rintro e w' ⟨rfl, rfl⟩))
    refine bodyPost_ret (v := .agg #[.int .i64 1, .int .i64 a, .int .i64 j, .string ⟨#[]⟩, .int .i64 0]) (by simp [results, Tryz.results196, go_sem]) rfl ⟨?_, (Below.refl _ _).alloc (Nat.le_refl _) _⟩
    rw [HF.out, HJ'.out]; rfl
   ·have b0 : ((n : Int) == 0) = false := by rw [beq_eq_false_iff_ne]; omega
    have c1 : 1 ≤ n := by omega
    have hh := HHEAD.out (by omega)
    by_cases cm : n ≤ most
    ·have hva := fun w => valueOf_any s d n j w hs HJ'.out hjs (by omega) HDIG.out
     by_cases c2 : n = 1
     ·have HF : Hid (numTN (s.data.toList.drop d) most kind a d n = ⟨kind, a, d + n, [], valueL ((s.data.toList.drop d).take n)⟩) := by
       have : numeralB ((s.data.toList.drop d).take n) most = true := by rw [HNUM.out]; simp [c2]; omega
       unfold numTN; rw [this]; rfl
      have c2' : n < 2 := by omega
      clear c2 hh c0
      go_wp2_with (first
       | (go_at_call_of 192 (Value.int IntKind.i64 (j : Int)); refine (hbk _).mono ?_; rintro e w' ⟨rfl, rfl⟩)
       | (go_at_call_of 192 (Value.int IntKind.i64 (d : Int)); refine (hbd _).mono ?_; rintro e w' ⟨rfl, rfl⟩)
       | (go_at_call 195; refine (hil _).mono ?_; rintro e w' ⟨rfl, rfl⟩)
       | (go_at_call 205; refine (hva _).mono ?_; rintro e w' ⟨rfl, rfl⟩))
      refine bodyPost_ret (v := .agg #[.int .i64 kind, .int .i64 a, .int .i64 j, .string ⟨#[]⟩, .int .i64 (valueL ((s.data.toList.drop d).take n))]) (by simp [results, Tryz.results196, go_sem]) rfl ⟨?_, (Below.refl _ _).alloc (Nat.le_refl _) _⟩
      rw [HF.out, HJ'.out]; rfl
     ·cases e0 : (bA s d == 48) with
      | true =>
       have b48 : (((bA s d).toNat : Int) == 48) = true := by rw [HE48.out]; exact e0
       have HF : Hid (numTN (s.data.toList.drop d) most kind a d n = ⟨1, a, d + n, [], 0⟩) := by
        have h48 : bA s d = 48 := by simpa using e0
        have : numeralB ((s.data.toList.drop d).take n) most = false := by rw [HNUM.out, hh, h48]; simp [c2]
        unfold numTN; rw [this]; rfl
       have c2' : 1 < n := by omega
       clear c2 hh c0 e0
       go_wp2_with (first
        | (go_at_call_of 192 (Value.int IntKind.i64 (j : Int)); refine (hbk _).mono ?_; rintro e w' ⟨rfl, rfl⟩)
        | (go_at_call_of 192 (Value.int IntKind.i64 (d : Int)); refine (hbd _).mono ?_; rintro e w' ⟨rfl, rfl⟩)
        | (go_at_call 195; refine (hil _).mono ?_; rintro e w' ⟨rfl, rfl⟩)
        | (go_at_call 205; refine (hva _).mono ?_; rintro e w' ⟨rfl, rfl⟩))
       refine bodyPost_ret (v := .agg #[.int .i64 1, .int .i64 a, .int .i64 j, .string ⟨#[]⟩, .int .i64 0]) (by simp [results, Tryz.results196, go_sem]) rfl ⟨?_, (Below.refl _ _).alloc (Nat.le_refl _) _⟩
       rw [HF.out, HJ'.out]; rfl
      | false =>
       have b48 : (((bA s d).toNat : Int) == 48) = false := by rw [HE48.out]; exact e0
       have HF : Hid (numTN (s.data.toList.drop d) most kind a d n = ⟨kind, a, d + n, [], valueL ((s.data.toList.drop d).take n)⟩) := by
        have h48 : bA s d ≠ 48 := by simpa using e0
        have : numeralB ((s.data.toList.drop d).take n) most = true := by rw [HNUM.out, hh]; simp [h48, cm]; omega
        unfold numTN; rw [this]; rfl
       have c2' : 1 < n := by omega
       clear c2 hh c0 e0
       go_wp2_with (first
        | (go_at_call_of 192 (Value.int IntKind.i64 (j : Int)); refine (hbk _).mono ?_; rintro e w' ⟨rfl, rfl⟩)
        | (go_at_call_of 192 (Value.int IntKind.i64 (d : Int)); refine (hbd _).mono ?_; rintro e w' ⟨rfl, rfl⟩)
        | (go_at_call 195; refine (hil _).mono ?_; rintro e w' ⟨rfl, rfl⟩)
        | (go_at_call 205; refine (hva _).mono ?_; rintro e w' ⟨rfl, rfl⟩))
       refine bodyPost_ret (v := .agg #[.int .i64 kind, .int .i64 a, .int .i64 j, .string ⟨#[]⟩, .int .i64 (valueL ((s.data.toList.drop d).take n))]) (by simp [results, Tryz.results196, go_sem]) rfl ⟨?_, (Below.refl _ _).alloc (Nat.le_refl _) _⟩
       rw [HF.out, HJ'.out]; rfl
    ·have HF : Hid (numTN (s.data.toList.drop d) most kind a d n = ⟨1, a, d + n, [], 0⟩) := by
      have : numeralB ((s.data.toList.drop d).take n) most = false := by rw [HNUM.out]; simp [cm]
      unfold numTN; rw [this]; rfl
     have c2' : 1 < n := by omega
     clear hh c0
     go_wp2_with (first
      | (go_at_call_of 192 (Value.int IntKind.i64 (j : Int)); refine (hbk _).mono ?_; rintro e w' ⟨rfl, rfl⟩)
      | (go_at_call_of 192 (Value.int IntKind.i64 (d : Int)); refine (hbd _).mono ?_; rintro e w' ⟨rfl, rfl⟩)
      | (go_at_call 195; refine (hil _).mono ?_; rintro e w' ⟨rfl, rfl⟩)
      | (go_at_call 205; refine (hva _).mono ?_; rintro e w' ⟨rfl, rfl⟩))
     refine bodyPost_ret (v := .agg #[.int .i64 1, .int .i64 a, .int .i64 j, .string ⟨#[]⟩, .int .i64 0]) (by simp [results, Tryz.results196, go_sem]) rfl ⟨?_, (Below.refl _ _).alloc (Nat.le_refl _) _⟩
     rw [HF.out, HJ'.out]; rfl
theorem st_row {P : Program} {ops : Array Oper} {rest : List Oper} {o : Oper} {a : Act} {w : World} {Q : Exit → Act → World → Prop} (hgd : o.guard = none) (ty : TypeId) (x y : Operand) (ho : o.op = .store ty x y)
  (g : Nat) (cells : Array Value) (hx : a.eval x = .pointer (some ⟨g, 0, none⟩)) (hy : a.eval y = .agg cells)
  (t : TypeId) (old : Array Value) (hg : w.heap[g]? = some (.cells old t (0, 0))) (hi : (P.info? ty).map (·.size) = some cells.size)
  (hold : old.size = cells.size) (h1 : cells.all (·.oneCell') = true)
  (h : ∀ W : World, W.heap[g]? = some (.cells cells t (0, 0)) → W.heap.size = w.heap.size → (∀ k, k ≠ g → W.heap[k]? = w.heap[k]?) → W.os = w.os → W.tape = w.tape → W.output = w.output →
   wpList P ops Q rest (a.put o.dst undef) W) : wpList P ops Q (o :: rest) a w := by
 refine wpList_store_row hgd ty x y ho g cells hx hy t old hg hi hold h1 ?_
 exact h _ (setRow_heap w g old cells t (0, 0) hg) (by simp) (fun k hk => setRow_other w g k cells hk) rfl rfl rfl
theorem below_new {B g : Nat} {w0 w W : World} (hb : Below B w0 w) (hg : B ≤ g) (hs : W.heap.size = w.heap.size) (ho : ∀ k, k ≠ g → W.heap[k]? = w.heap[k]?) (e1 : W.os = w.os) (e2 : W.tape = w.tape) (e3 : W.output = w.output) : Below B w0 W :=
 ⟨e1.trans hb.os, e2.trans hb.tape, e3.trans hb.output, by rw [hs]; exact hb.size, fun k hk => by rw [ho k (by omega)]; exact hb.block k hk⟩
end Go.Proofs.YtpicaknklgccoaaGreatDoor
