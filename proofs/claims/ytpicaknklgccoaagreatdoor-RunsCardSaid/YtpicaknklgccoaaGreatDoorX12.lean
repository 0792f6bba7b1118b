import Derived.Test.YtpicaknklgccoaaGreatDoorX10
import Derived.Test.YtpicaknklgccoaaGreatDoorX11
import Derived.Deep.LoopGhost
namespace Go.Proofs.YtpicaknklgccoaaGreatDoor
open Go.RowKit
theorem POut.two {w0 : World} {pb fuel : Nat} {w w' : World} {obs : List Nat} {r : RV × RS} {e : Ending} (h : POut w0 pb fuel w obs r e w') : ∃ vb : Nat, e = .returned (.pointer (some ⟨vb, 0, none⟩)) ∧ Hid (POut w0 pb fuel w obs r (.returned (.pointer (some ⟨vb, 0, none⟩))) w') := by
 obtain ⟨vb, ov, wv, tv, obs', h1, h2⟩ := h
 exact ⟨vb, h1, ⟨vb, ov, wv, tv, obs', rfl, h2⟩⟩
theorem isT_n {w0 : World} {F : Nat → Prop} {p : Nat} {k : Kw} {nm rg : List UInt8} {kids : List PT} {id site b : Nat} (hT : IsT w0 F (.node p k nm rg kids) id site b) : w0.cell? ⟨b, 3, none⟩ = some (.int .i64 (valueL rg)) := by
 simp only [IsT] at hT
 obtain ⟨_, kv, bl, hb, _⟩ := hT
 rw [blk_cell hb]; rfl
theorem rbegun_go {fuel : Nat} {st : RS} {f : RS → RV × RS} (h0 : st.e = 0) (h : st.steps ≠ fuel) : rBegun fuel st f = f { st with steps := st.steps + 1 } := by unfold rBegun; rw [if_neg (by simpa using h0), if_neg h]
theorem POk.step {fuel n : Nat} {st : RS} (h : POk fuel n st) (hq : st.steps ≠ fuel) : POk fuel n { st with steps := st.steps + 1 } := by
 have h1 := h.s
 have h2 := h.c
 have h3 := h.t
 refine ⟨h.f, by show st.steps + 1 ≤ fuel; omega, by show st.cells ≤ st.steps + 1; omega, h.w, h.o, ?_, ⟨h.b.o, h.b.t⟩⟩
 show st.tide.length + n * (fuel - (st.steps + 1) + 1) ≤ _
 have : n * (fuel - (st.steps + 1) + 1) ≤ n * (fuel - st.steps + 1) := mul_le_of (by omega)
 omega
theorem POk.le {fuel n m : Nat} {st : RS} (h : POk fuel n st) (hm : m ≤ n) : POk fuel m st := by
 have h3 := h.t
 have h4 := h.o
 have : m * (fuel - st.steps + 1) ≤ n * (fuel - st.steps + 1) := Nat.mul_le_mul_right _ hm
 exact ⟨h.f, h.s, h.c, h.w, by omega, by omega, h.b⟩
theorem POk.on {fuel n : Nat} {st : RS} (h : POk fuel n st) (t : PT) (env : REnv) (hw : t.wf) (he : st.e = 0) (hc : t.cnt ≤ n) (he' : (rW fuel t env st).2.e = 0) : POk fuel n (rW fuel t env st).2 := by
 have r := rW_rb fuel t env st hw he h.s
 have k := rW_keeps fuel t env st
 have cb := rW_cb fuel t env st h.b
 generalize (rW fuel t env st).2 = s' at *
 have t1 := r.tide
 rw [e01_0 he', Nat.add_zero] at t1
 have a1 := r.steps
 have a2 := r.cells
 have a3 := r.whl
 have b1 := h.c
 have b2 := h.w
 have b3 := h.o
 have b4 := h.t
 have b5 := h.s
 refine ⟨h.f, a1.2, by omega, by omega, by rw [k.opn]; omega, ?_, cb⟩
 have k1 : t.cnt * (s'.steps - st.steps) ≤ n * (s'.steps - st.steps) := Nat.mul_le_mul_right _ hc
 have k3 : n * (s'.steps - st.steps) + n * (fuel - s'.steps + 1) = n * (fuel - st.steps + 1) := by rw [← Nat.mul_add]; congr 1; omega
 omega
theorem PlIn.stepI {w0 w : World} {pb : Nat} {ov wv tv : Value} {obs : List Nat} {fuel : Nat} {st : RS} (h : PlIn w0 w pb ov wv tv obs fuel st) (m : Nat) : Imm w ((w.drewN m).setCell ⟨pb, 4, none⟩ (.int .i64 ((st.steps : Int) + 1))) := (Imm.below (below_drewP w m)).trans ((h.drew m).immSet 4 _)
theorem isH_cons {w W : World} {obs : List Nat} {env : REnv} {hp : Option Addr} {nm : List UInt8} {v : RV} {bv n : Nat} (hH : isH w obs env hp) (hv : isV w obs v bv) (hb : Below w.heap.size w W ∧ W.heap[n]? = some (.cells (hCells nm bv hp) 134 (0, 0))) : isH W obs ((nm, v) :: env) (some ⟨n, 0, none⟩) := by
 have hi := Imm.below hb.1
 simp only [isH]
 exact ⟨n, bv, hp, rfl, hb.2, hv.keep hi (List.prefix_refl _), hH.keep hi (List.prefix_refl _)⟩
theorem held_new {w W : World} {A : Obj} (h : W.heap = w.heap.push A) (ho : W.os = w.os) (ht : W.tape = w.tape) (hp : W.output = w.output) : Below w.heap.size w W ∧ W.heap[w.heap.size]? = some A := by
 refine ⟨⟨ho, ht, hp, by rw [h]; simp, fun k hk => ?_⟩, by rw [h]; simp⟩
 rw [h, Array.getElem?_push, if_neg (by omega)]
set_option maxRecDepth 100000 in
set_option maxHeartbeats 1000000 in
theorem pwork_name {w0 : World} (pb fuel : Nat) (p : Nat) (s : List UInt8) (G : TEnv) : PGo w0 pb fuel (.name p s) G := by
 intro id site b F env hp st ov wv tv obs w hT hP hH henv hok he hq
 simp only [IsT] at hT
 have hbl := blk_lt hT.2
 have hbx : w.heap[b]? = some _ := (hP.b0.block b hbl).trans hT.2
 have x0 : w.cell? ⟨b, 0, none⟩ = some (.string (bs nameB)) := by rw [blk_cell hbx]; rfl
 have q0 : ((bs nameB).toList == [110, 101, 119]) = false := by rw [bs_beq0]; decide
 have q1 : ((bs nameB).toList == [110, 117, 109, 98, 101, 114]) = false := by rw [bs_beq0]; decide
 have q2 : ((bs nameB).toList == [110, 97, 109, 101]) = true := by rw [bs_beq0]; decide
 have y3 := hP.c.1
 have y4 := hP.c.2.1
 have hpl := hP.c.2.2.2.2
 have y6 := hP.c6 he
 have f4 := blk_free hP.y 4
 have hbw : b < w.heap.size := blk_lt hbx
 have hne : b ≠ pb := by have := hP.hpb; omega
 have q9 : ((st.steps : Int) == (fuel : Int)) = false := by rw [beq_eq_false_iff_ne]; omega
 have hss := hok.s
 have hsf := hok.f
 have hev : rW fuel (.name p s) env st = (rlook env s, { st with steps := st.steps + 1 }) := by unfold rW; rw [rbegun_go he hq]
 rw [hev]
 have HP : Hid _ := fun m => (hP.drew m).setS
 have HI : Hid _ := fun m => hP.stepI m
 have HH : Hid _ := hH
 have HT : Hid _ := hT.2
 clear hT hP hH henv hok he hq hev hbx
 show Calls _ _ #[Value.pointer (some ⟨pb, 0, none⟩), Value.pointer (some ⟨b, 0, none⟩), _] w _
 go_enter Tryz.func43, Tryz.ntmps43
 go_wp2
 go_quiet (fail)
 go_wp2
 obtain ⟨W, hW⟩ : ∃ W, W = (w.drewN nq).setCell ⟨pb, 4, none⟩ (.int .i64 ((st.steps : Int) + 1)) := ⟨_, rfl⟩
 have hPW := HP.out nq
 have hIW := HI.out nq
 rw [← hW] at hPW hIW ⊢
 have hHW := HH.out.keep hIW (List.prefix_refl _)
 have hbW : W.heap[b]? = some _ := (hPW.b0.block b hbl).trans HT.out
 have X2 : W.cell? ⟨b, 2, none⟩ = some (.string (bs s)) := by rw [blk_cell hbW]; rfl
 have hblW := blk_lt hbW
 have HPW : Hid _ := hPW
 have HIW : Hid _ := hIW
 have HHW : Hid _ := hHW
 clear hPW hIW hHW hbW hW HP HI HH HT y3 y4 y6 f4 x0
 go_loopg [7] env.length (fun k v wr => ∃ (env' : REnv) (hp' : Option Addr) (m : Nat), env'.length ≤ k ∧ v = .pointer hp' ∧ wr = W.drewN m ∧ isH W obs env' hp' ∧ rlook env s = rlook env' s)
 case atStart => exact ⟨env, hp, 0, Nat.le_refl _, rfl, rfl, HHW.out, rfl⟩
 case round =>
  obtain ⟨env', hp', m, hle, rfl, rfl, hH', hlk⟩ := hrel
  have HL : Hid _ := hlk
  clear hlk
  cases env' with
  | nil =>
   simp only [isH] at hH'
   subst hH'
   have HZ : Hid _ := zeroV (HPW.out.drew m) 0 W.heap.size rfl
   go_wp2
   go_ret
   rw [HL.out]
   exact POut.pre (HIW.out.trans (Imm.below (below_drewP W m))) (List.prefix_refl _) HZ.out
  | cons a r =>
   simp only [isH] at hH'
   obtain ⟨hb, bv, more, rfl, hblk, hv, hH'⟩ := hH'
   have Z0 : W.cell? ⟨hb, 0, none⟩ = some (.string (bs a.1)) := by rw [blk_cell hblk]; rfl
   have Z1 : W.cell? ⟨hb, 1, none⟩ = some (.pointer (some ⟨bv, 0, none⟩)) := by rw [blk_cell hblk]; rfl
   have Z2 : W.cell? ⟨hb, 2, none⟩ = some (.pointer more) := by rw [blk_cell hblk]; rfl
   have hhl := blk_lt hblk
   have HV : Hid _ := hv
   have HR : Hid _ := hH'
   simp only [List.length_cons] at hle
   clear hblk hv hH'
   by_cases hs : a.1 = s
   ·have qs : ((bs a.1).toList == (bs s).toList) = true := by rw [bs_beq0, Lib.toList_data]; have : (a.1 == s) = true := (by simpa using hs); exact this
    have HE : Hid (rlook (a :: r) s = a.2) := by simp only [rlook]; rw [if_pos hs]; exact rfl
    clear hs
    go_wp2
    go_quiet (fail)
    go_wp2
    go_ret
    rw [HL.out, HE.out]
    exact ⟨bv, ov, wv, tv, obs, rfl, HV.out.keep (Imm.below (below_drewP W _)) (List.prefix_refl _), List.prefix_refl _, HIW.out.trans (Imm.below (below_drewP W _)), HPW.out.drew _⟩
   ·have hs' : (a.1 == s) = false := by simpa using hs
    have qs : ((bs a.1).toList == (bs s).toList) = false := by rw [bs_beq0, Lib.toList_data]; exact hs'
    have HE : Hid (rlook (a :: r) s = rlook r s) := by simp only [rlook]; rw [if_neg hs]; exact rfl
    clear hs hs'
    go_wp2
    go_quiet (fail)
    go_wp2
    go_roundg r.length
    case measure => omega
    case rel => exact ⟨r, more, _, Nat.le_refl _, rfl, rfl, HR.out, by rw [HL.out, HE.out]⟩
set_option maxRecDepth 100000 in
set_option maxHeartbeats 2000000 in
theorem pwork_if {w0 : World} (pb fuel : Nat) (p : Nat) (nm rg : List UInt8) (x y z : PT) (G : TEnv) (hwx : WT G x .n) (htx : x.tame) (hfx : x.wf) (ihx : PWork w0 pb fuel x G) (ihy : PWork w0 pb fuel y G) (ihz : PWork w0 pb fuel z G) : PGo w0 pb fuel (.node p .if_ nm rg [x, y, z]) G := by
 intro id site b F env hp st ov wv tv obs w hT hP hH henv hok he hq
 obtain ⟨gk, vc, bx, bb, bc, id1, site1, id2, site2, id3, site3, hka, hT1, hT2, hT3⟩ := kat3 hT
 have hne : b ≠ pb := by have := hP.hpb; have := hka.hb; omega
 have hgy : gk ≠ pb := by have := hP.hpb; have := hka.hg; omega
 simp only [PT.cnt, cntL] at hok
 have hev : rW fuel (.node p .if_ nm rg [x, y, z]) env st = if (rW fuel x env { st with steps := st.steps + 1 }).1.num ≠ 0 then rW fuel y env (rW fuel x env { st with steps := st.steps + 1 }).2 else rW fuel z env (rW fuel x env { st with steps := st.steps + 1 }).2 := by
  conv => lhs; unfold rW
  rw [if_neg (by simp), rbegun_go he hq]; simp only [reduceCtorEq, if_false, if_true, rIf]
 rw [hev]
 have hok1 := hok.step hq
 have hr1 := rW_res fuel hwx env { st with steps := st.steps + 1 } htx (fun _ => henv)
 have h1 := fun m => ihx id1 site1 bx F env hp { st with steps := st.steps + 1 } ov wv tv obs _ hT1 (hP.drew m).setS (hH.keep (hP.stepI m) (List.prefix_refl _)) (fun _ => henv) (fun _ => hok1.le (by omega))
 have hok2 := fun e => hok1.on x env hfx he (by omega) e
 generalize rW fuel x env { st with steps := st.steps + 1 } = r1 at *
 obtain ⟨k, hk, hk0, hk9⟩ := rres_num hr1
 obtain ⟨R, hR⟩ : ∃ R, R = if r1.1.num ≠ 0 then rW fuel y env r1.2 else rW fuel z env r1.2 := ⟨_, rfl⟩
 rw [← hR]
 have HRz : k = 0 → R = rW fuel z env r1.2 := fun h => by rw [hR, hk]; exact if_neg (fun g => g h)
 have HRy : k ≠ 0 → R = rW fuel y env r1.2 := fun h => by rw [hR, hk]; exact if_pos h
 have h2 := fun ov2 wv2 tv2 obs2 w2 (hP2 : PlIn w0 w2 pb ov2 wv2 tv2 obs2 fuel r1.2) (hH2 : isH w2 obs2 env hp) => ihy id2 site2 bb F env hp r1.2 ov2 wv2 tv2 obs2 w2 hT2 hP2 hH2 (fun _ => henv) (fun e => (hok2 e).le (by omega))
 have h3 := fun ov2 wv2 tv2 obs2 w2 (hP2 : PlIn w0 w2 pb ov2 wv2 tv2 obs2 fuel r1.2) (hH2 : isH w2 obs2 env hp) => ihz id3 site3 bc F env hp r1.2 ov2 wv2 tv2 obs2 w2 hT3 hP2 hH2 (fun _ => henv) (fun e => (hok2 e).le (by omega))
 have hkw := hka.on hP.b0
 have x0 := hkw.c0
 have x4 := hkw.c4
 have xk0 := hkw.ck 0 bx rfl
 have xl1 := hkw.hb
 have xl2 := hkw.hg
 have qn : ((bs Kw.if_.bytes).toList == [110, 101, 119]) = false := by rw [bs_beq0]; decide
 have q0 : ((bs Kw.if_.bytes).toList == [110, 117, 109, 98, 101, 114]) = false := by rw [bs_beq0]; decide
 have q1 : ((bs Kw.if_.bytes).toList == [110, 97, 109, 101]) = false := by rw [bs_beq0]; decide
 have q2 : ((bs Kw.if_.bytes).toList == [108, 101, 116]) = false := by rw [bs_beq0]; decide
 have q3 : ((bs Kw.if_.bytes).toList == [105, 102]) = true := by rw [bs_beq0]; decide
 have y3 := hP.c.1
 have y4 := hP.c.2.1
 have hpl := hP.c.2.2.2.2
 have y6 := hP.c6 he
 have f4 := blk_free hP.y 4
 have q9 : ((st.steps : Int) == (fuel : Int)) = false := by rw [beq_eq_false_iff_ne]; omega
 have hss := hok.s
 have hsf := hok.f
 have HK : Hid _ := hka
 have HH : Hid _ := hH
 have HI : Hid _ := fun m => hP.stepI m
 have HKR : Hid _ := hk
 unfold ptr at h1 h2 h3
 have H1 : Hid _ := h1
 have H2 : Hid _ := h2
 have H3 : Hid _ := h3
 clear hka hkw hT hP hH henv hok he hev hq hT1 hT2 hT3 ihx ihy ihz hok1 hok2 hr1 h1 h2 h3 hk hR
 by_cases hk0' : k = 0
 ·have qk : (k != 0) = false := by subst hk0'; rfl
  rw [HRz hk0']
  clear hk0' HRz HRy
  show Calls _ _ #[Value.pointer (some ⟨pb, 0, none⟩), Value.pointer (some ⟨b, 0, none⟩), _] w _
  go_enter Tryz.func43, Tryz.ntmps43
  go_wp2_with fail
  go_quiet (fail)
  go_wp2_with fail
  refine Calls.mono (H1.out _) ?_
  rintro _ w2 ⟨vb, ov2, wv2, tv2, obs2, rfl, hv2, ho2, hi2, hP2⟩
  have hiw := (HI.out _).trans hi2
  have hkw := HK.out.on hP2.b0
  have z4 := hkw.c4
  have zk1 := hkw.ck 1 bb rfl
  have zk2 := hkw.ck 2 bc rfl
  have zl1 := hkw.hb
  have zl2 := hkw.hg
  rw [HKR.out] at hv2
  simp only [isV] at hv2
  have v0' : w2.cell? ⟨vb, 0, none⟩ = some (.int .i64 k) := by rw [blk_cell hv2]; rfl
  have hvl := blk_lt hv2
  have hc := H3.out ov2 wv2 tv2 obs2 w2 hP2 (HH.out.keep hiw ho2)
  have HIW : Hid _ := hiw
  have HO2 : Hid _ := ho2
  clear hv2 ho2 hi2 hP2 hiw hkw HK H1 H2 H3 HI HH
  go_wp2_with fail
  refine Calls.mono hc (fun e w3 h => ?_)
  obtain ⟨vb3, rfl, HO⟩ := (h.pre HIW.out HO2.out).two
  clear h hc
  go_wp2
  go_ret
  exact HO.out
 ·have qk : (k != 0) = true := by simpa using hk0'
  rw [HRy hk0']
  clear hk0' HRz HRy
  show Calls _ _ #[Value.pointer (some ⟨pb, 0, none⟩), Value.pointer (some ⟨b, 0, none⟩), _] w _
  go_enter Tryz.func43, Tryz.ntmps43
  go_wp2_with fail
  go_quiet (fail)
  go_wp2_with fail
  refine Calls.mono (H1.out _) ?_
  rintro _ w2 ⟨vb, ov2, wv2, tv2, obs2, rfl, hv2, ho2, hi2, hP2⟩
  have hiw := (HI.out _).trans hi2
  have hkw := HK.out.on hP2.b0
  have z4 := hkw.c4
  have zk1 := hkw.ck 1 bb rfl
  have zk2 := hkw.ck 2 bc rfl
  have zl1 := hkw.hb
  have zl2 := hkw.hg
  rw [HKR.out] at hv2
  simp only [isV] at hv2
  have v0' : w2.cell? ⟨vb, 0, none⟩ = some (.int .i64 k) := by rw [blk_cell hv2]; rfl
  have hvl := blk_lt hv2
  have hc := H2.out ov2 wv2 tv2 obs2 w2 hP2 (HH.out.keep hiw ho2)
  have HIW : Hid _ := hiw
  have HO2 : Hid _ := ho2
  clear hv2 ho2 hi2 hP2 hiw hkw HK H1 H2 H3 HI HH
  go_wp2_with fail
  refine Calls.mono hc (fun e w3 h => ?_)
  obtain ⟨vb3, rfl, HO⟩ := (h.pre HIW.out HO2.out).two
  clear h hc
  go_wp2
  go_ret
  exact HO.out
set_option maxRecDepth 100000 in
set_option maxHeartbeats 2000000 in
theorem pwork_let {w0 : World} (pb fuel : Nat) (p : Nat) (nm rg : List UInt8) (x y : PT) (G : TEnv) (A : Ty) (hwx : WT G x A) (htx : x.tame) (hfx : x.wf) (ihx : PWork w0 pb fuel x G) (ihy : PWork w0 pb fuel y (G ++ [(nm, A)])) : PGo w0 pb fuel (.node p .let_ nm rg [x, y]) G := by
 intro id site b F env hp st ov wv tv obs w hT hP hH henv hok he hq
 obtain ⟨gk, vc, bx, bb, id1, site1, id2, site2, hka, hT1, hT2⟩ := kat2 hT
 have hne : b ≠ pb := by have := hP.hpb; have := hka.hb; omega
 have hgy : gk ≠ pb := by have := hP.hpb; have := hka.hg; omega
 simp only [PT.cnt, cntL] at hok
 have hev : rW fuel (.node p .let_ nm rg [x, y]) env st = rW fuel y ((nm, (rW fuel x env { st with steps := st.steps + 1 }).1) :: env) (rW fuel x env { st with steps := st.steps + 1 }).2 := by
  conv => lhs; unfold rW
  rw [if_neg (by simp), rbegun_go he hq]; simp only [if_true, rLet]
 rw [hev]
 have hok1 := hok.step hq
 have hr1 := rW_res fuel hwx env { st with steps := st.steps + 1 } htx (fun _ => henv)
 have h1 := fun m => ihx id1 site1 bx F env hp { st with steps := st.steps + 1 } ov wv tv obs _ hT1 (hP.drew m).setS (hH.keep (hP.stepI m) (List.prefix_refl _)) (fun _ => henv) (fun _ => hok1.le (by omega))
 have hok2 := fun e => hok1.on x env hfx he (by omega) e
 generalize rW fuel x env { st with steps := st.steps + 1 } = r1 at *
 have h2 := fun hp2 ov2 wv2 tv2 obs2 w2 (hP2 : PlIn w0 w2 pb ov2 wv2 tv2 obs2 fuel r1.2) (hH2 : isH w2 obs2 ((nm, r1.1) :: env) hp2) => ihy id2 site2 bb F ((nm, r1.1) :: env) hp2 r1.2 ov2 wv2 tv2 obs2 w2 hT2 hP2 hH2 (fun e => henv.snoc (hr1.1 e).2) (fun e => (hok2 e).le (by omega))
 have hkw := hka.on hP.b0
 have x0 := hkw.c0
 have x4 := hkw.c4
 have xk0 := hkw.ck 0 bx rfl
 have xl1 := hkw.hb
 have xl2 := hkw.hg
 have qn : ((bs Kw.let_.bytes).toList == [110, 101, 119]) = false := by rw [bs_beq0]; decide
 have q0 : ((bs Kw.let_.bytes).toList == [110, 117, 109, 98, 101, 114]) = false := by rw [bs_beq0]; decide
 have q1 : ((bs Kw.let_.bytes).toList == [110, 97, 109, 101]) = false := by rw [bs_beq0]; decide
 have q2 : ((bs Kw.let_.bytes).toList == [108, 101, 116]) = true := by rw [bs_beq0]; decide
 have y3 := hP.c.1
 have y4 := hP.c.2.1
 have hpl := hP.c.2.2.2.2
 have y6 := hP.c6 he
 have f4 := blk_free hP.y 4
 have q9 : ((st.steps : Int) == (fuel : Int)) = false := by rw [beq_eq_false_iff_ne]; omega
 have hss := hok.s
 have hsf := hok.f
 have HK : Hid _ := hka
 have HH : Hid _ := hH
 have HI : Hid _ := fun m => hP.stepI m
 unfold ptr at h1 h2
 have H1 : Hid _ := h1
 have H2 : Hid _ := h2
 generalize rW fuel y ((nm, r1.1) :: env) r1.2 = R at *
 clear hka hkw hT hP hH henv hok he hev hq hT1 hT2 ihx ihy hok1 hok2 hr1 h1 h2
 show Calls _ _ #[Value.pointer (some ⟨pb, 0, none⟩), Value.pointer (some ⟨b, 0, none⟩), _] w _
 go_enter Tryz.func43, Tryz.ntmps43
 go_wp2_with fail
 go_quiet (fail)
 go_wp2_with fail
 refine Calls.mono (H1.out _) ?_
 rintro _ w2 ⟨vb, ov2, wv2, tv2, obs2, rfl, hv2, ho2, hi2, hP2⟩
 have hiw := (HI.out _).trans hi2
 have hkw := HK.out.on hP2.b0
 have z2 := hkw.c2
 have z4 := hkw.c4
 have zk1 := hkw.ck 1 bb rfl
 have zl1 := hkw.hb
 have zl2 := hkw.hg
 have hun : ∀ W, Below w2.heap.size w2 W ∧ W.heap[w2.heap.size]? = some (.cells #[.string (bs nm), .pointer (some ⟨vb, 0, none⟩), .pointer hp] 134 (0, 0)) → Calls Tryz.prog 43 #[.pointer (some ⟨pb, 0, none⟩), .pointer (some ⟨bb, 0, none⟩), .pointer (some ⟨w2.heap.size, 0, none⟩)] W (POut w0 pb fuel w obs R) := by
  intro W hW
  refine (H2.out _ ov2 wv2 tv2 obs2 W (hP2.grow hW.1) (isH_cons (HH.out.keep hiw ho2) hv2 hW)).mono (fun e w' h => ?_)
  exact h.pre (hiw.trans (Imm.below hW.1)) ho2
 clear hv2 ho2 hi2 hP2 hiw hkw HK H1 H2 HI HH
 go_wp2
 go_region_with (go_at_call 43; refine (hun _ ?_).mono ?_; exact held_new rfl rfl rfl rfl; intro e w3 h3; obtain ⟨vb3, rfl, HO⟩ := h3.two; clear h3)
 all_goals (go_wp2_with fail; go_ret; exact HO.out)
end Go.Proofs.YtpicaknklgccoaaGreatDoor
