import Derived.Test.YtpicaknklgccoaaGreatDoorX30
import Derived.BigRegion
import Derived.Deep.RegionHeld3
import Derived.Test.YtpicaknklgccoaaGreatDoorX26
namespace Go.Proofs.YtpicaknklgccoaaGreatDoor
open Go.RowKit
open Go.Lib (decDigits)
theorem pt_tame {rg : List UInt8} : ∀ {vs : List Nat} {x : KE} {t : Nat}, KT vs x t → (x.pt rg).tame := by
 intro vs x t h
 have hb : ∀ k n, (bindN k n).length ≤ 9000 := fun k n => by unfold bindN; split <;> simp [nameL]
 induction h with
 | num h => simp only [KE.pt, PT.tame]; rw [value_dec]; omega
 | var _ => simp [KE.pt, PT.tame, nameL]
 | let_ _ _ _ _ ha hd => simp only [KE.pt, PT.tame, tameL]; exact ⟨hb _ _, ha, hd, trivial⟩
 | if_ _ _ _ ha hd hc => simp only [KE.pt, PT.tame, tameL]; exact ⟨hb _ _, ha, hd, hc, trivial⟩
 | loop _ _ _ _ ha hd hc => simp only [KE.pt, PT.tame, tameL]; exact ⟨hb _ _, ha, hd, hc, trivial⟩
 | pair _ _ _ _ ha hd => simp only [KE.pt, PT.tame, tameL]; exact ⟨hb _ _, ha, hd, trivial⟩
 | fst _ _ _ ha => simp only [KE.pt, PT.tame, tameL]; exact ⟨by simp, ha, trivial⟩
 | snd _ _ _ ha => simp only [KE.pt, PT.tame, tameL]; exact ⟨by simp, ha, trivial⟩
 | two _ _ _ ha hd => simp only [KE.pt, PT.tame, tameL]; exact ⟨hb _ _, ha, hd, trivial⟩
theorem pt_nonew {rg : List UInt8} : ∀ {vs : List Nat} {x : KE} {t : Nat}, KT vs x t → NoNew (x.pt rg) := by
 intro vs x t h
 induction h with
 | num _ => exact .num
 | var _ => exact .name
 | let_ _ _ _ _ ha hd => simp only [KE.pt]; exact .node (by decide) (by intro y hy; simp only [List.mem_cons, List.not_mem_nil, or_false] at hy; rcases hy with rfl | rfl; exact ha; exact hd)
 | if_ _ _ _ ha hd hc => simp only [KE.pt]; exact .node (by decide) (by intro y hy; simp only [List.mem_cons, List.not_mem_nil, or_false] at hy; rcases hy with rfl | rfl | rfl; exact ha; exact hd; exact hc)
 | loop _ _ _ _ ha hd hc => simp only [KE.pt]; exact .node (by decide) (by intro y hy; simp only [List.mem_cons, List.not_mem_nil, or_false] at hy; rcases hy with rfl | rfl | rfl; exact ha; exact hd; exact hc)
 | pair _ _ _ _ ha hd => simp only [KE.pt]; exact .node (by decide) (by intro y hy; simp only [List.mem_cons, List.not_mem_nil, or_false] at hy; rcases hy with rfl | rfl; exact ha; exact hd)
 | fst _ _ _ ha => simp only [KE.pt]; exact .node (by decide) (by intro y hy; simp only [List.mem_cons, List.not_mem_nil, or_false] at hy; subst hy; exact ha)
 | snd _ _ _ ha => simp only [KE.pt]; exact .node (by decide) (by intro y hy; simp only [List.mem_cons, List.not_mem_nil, or_false] at hy; subst hy; exact ha)
 | two hk _ _ ha hd => simp only [KE.pt]; exact .node (by rcases hk with rfl | rfl | rfl <;> decide) (by intro y hy; simp only [List.mem_cons, List.not_mem_nil, or_false] at hy; rcases hy with rfl | rfl; exact ha; exact hd)
theorem kev_res {fuel : Nat} {vs : List Nat} {x : KE} {t : Nat} (h : KT vs x t) (hl : vs.length ≤ 100) (vals : List Vl) (st : ESt) (henv : st.e = 0 → EnvHas (envV vals) (envT vs)) : Res (tyZ t) st (ev fuel (x.pt []) (envV vals) st) :=
 ev_res fuel (pt_WT h hl) (envV vals) st (pt_tame h) (pt_nonew h) henv
theorem res_numZ {st : ESt} {r : Vl × ESt} (h : Res .n st r) : ∃ k, r.1 = .n k ∧ k ≤ 9999 := by
 by_cases e : r.2.e = 0
 ·exact has_num (h.1 e).2
 ·exact ⟨0, h.2 e, by omega⟩
set_option maxRecDepth 100000 in
set_option maxHeartbeats 2000000 in
theorem kgo_let {w0 : World} (yb fuel : Nat) (vs : List Nat) (a d : KE) (v : Nat) (hta : KT vs a v) (hvl : vs.length < 100) (iha : KGo w0 yb fuel a vs) (ihd : KGo w0 yb fuel d (vs ++ [v])) : KGoN w0 yb fuel (.n2 .let_ vs.length a d) vs := by
 intro b vals ps st nv w hx hin henv hlen hs he hq
 obtain ⟨c, pa, pd, hka, hT1, hT2⟩ := katz2 hx
 have hne : b ≠ yb := by have := hin.ob.hyb; have := hka.hb; omega
 have hgy : c ≠ yb := by have := hin.ob.hyb; have := hka.hg; omega
 have hev : ev fuel ((KE.n2 .let_ vs.length a d).pt []) (envV vals) st = ev fuel (d.pt []) (envV (vals ++ [(ev fuel (a.pt []) (envV vals) { st with steps := st.steps + 1 }).1])) (ev fuel (a.pt []) (envV vals) { st with steps := st.steps + 1 }).2 := by
  rw [envV_snoc, hlen]
  simp only [KE.pt]
  conv => lhs; unfold ev
  rw [begun_goZ he hq]; simp only [if_pos, evLet]; rfl
 rw [hev]
 have hs' := hs.step hq
 have hr1 := kev_res (fuel := fuel) hta (by omega) vals { st with steps := st.steps + 1 } (fun _ => henv)
 have h1 := fun m => iha pa vals ps { st with steps := st.steps + 1 } nv _ hT1 (hin.begin m).1 (fun _ => henv) hlen hs'
 have hs2 := hs'.on (a.pt []) (envV vals)
 generalize ev fuel (a.pt []) (envV vals) { st with steps := st.steps + 1 } = r1 at *
 have h2 := fun q nv2 w2 (hin2 : WkIn w0 w2 yb vals ps fuel r1.2 nv2) (hq : KVal w2 r1.1 q) => in_of pd q vals ps r1.1 r1.2 nv2 w2 (ev fuel (d.pt []) (envV (vals ++ [r1.1])) r1.2) (fun nv' w' hin' => ihd pd (vals ++ [r1.1]) (ps ++ [q]) r1.2 nv' w' hT2 hin' (fun e => by rw [envV_snoc, envT_snoc, hlen]; exact henv.snoc (hr1.1 e).2) (by simp [hlen]) hs2) hin2 hq (by omega)
 generalize ev fuel (d.pt []) (envV (vals ++ [r1.1])) r1.2 = R at *
 have hkw := hka.on hin.ob.b0
 have x0 := hkw.c0
 have x2 := hkw.c2
 have xk0 := hkw.ck 0 pa rfl
 have xl1 := hkw.hb
 have xl2 := hkw.hg
 have q0 : ((bs Kw.let_.bytes).toList == []) = false := by rw [bs_beq0]; decide
 have q1 : ((bs Kw.let_.bytes).toList == [120]) = false := by rw [bs_beq0]; decide
 have q2 : ((bs Kw.let_.bytes).toList == [108, 101, 116]) = true := by rw [bs_beq0]; decide
 have y1 : w.cell? ⟨yb, 1, none⟩ = some (.int .i64 fuel) := by rw [blk_cell hin.ob.y]; rfl
 have y2 : w.cell? ⟨yb, 2, none⟩ = some (.int .i64 st.steps) := by rw [blk_cell hin.ob.y]; rfl
 have y4 : w.cell? ⟨yb, 4, none⟩ = some (.bool false) := by rw [blk_cell hin.ob.y]; simp [wkCells, he]
 have f2 : w.frozen? ⟨yb, 2, none⟩ = false := blk_free hin.ob.y 2
 have hyl := blk_lt hin.ob.y
 have q9 : ((st.steps : Int) == (fuel : Int)) = false := by rw [beq_eq_false_iff_ne]; omega
 have hss := hs.s
 have hsf := hs.f
 have HK : Hid _ := hka
 have HBG : Hid _ := fun m => (hin.begin m).2
 have H1 : Hid _ := h1
 have H2 : Hid _ := h2
 clear hka hkw hx hin henv hs he hev hq hT1 hT2 iha ihd hs' hs2 hr1 h1 h2 hlen
 go_enter Tryz.func51, Tryz.ntmps51
 go_wp2_with fail
 go_quiet (fail)
 go_wp2_with fail
 refine Calls.mono (H1.out _) ?_
 rintro _ w2 ⟨r, nv2, rfl, hfr2, hin2, hkv2⟩
 have hkw := HK.out.on hin2.ob.b0
 have z2 := hkw.c2
 have zk1 := hkw.ck 1 pd rfl
 have zl1 := hkw.hb
 have zl2 := hkw.hg
 have hc2 := H2.out r nv2 w2 hin2 hkv2
 have HF2 : Hid _ := (HBG.out _).trans hfr2
 have HC2 : Hid _ := hc2
 clear hfr2 hin2 hkv2 hkw hc2 HK H1 H2 HBG x0 x2 xk0 y1 y2 y4 f2
 go_wp2_with fail
 refine Calls.mono HC2.out ?_
 rintro _ w3 ⟨r3, nv3, rfl, hfr3, hin3, hkv3⟩
 have HF3 : Hid _ := HF2.out.trans hfr3
 have HI3 : Hid _ := hin3
 have HK3 : Hid _ := hkv3
 clear hfr3 hin3 hkv3 HC2 HF2
 go_wp2
 go_ret
 exact ⟨r3, nv3, rfl, HF3.out, HI3.out, HK3.out⟩
set_option maxRecDepth 100000 in
set_option maxHeartbeats 2000000 in
theorem kgo_if {w0 : World} (yb fuel : Nat) (vs : List Nat) (a d f : KE) (hta : KT vs a 0) (hvl : vs.length ≤ 100) (iha : KGo w0 yb fuel a vs) (ihd : KGo w0 yb fuel d vs) (ihf : KGo w0 yb fuel f vs) : KGoN w0 yb fuel (.n3 .if_ 0 a d f) vs := by
 intro b vals ps st nv w hx hin henv hlen hs he hq
 obtain ⟨c, pa, pd, pf, hka, hT1, hT2, hT3⟩ := katz3 hx
 have hne : b ≠ yb := by have := hin.ob.hyb; have := hka.hb; omega
 have hgy : c ≠ yb := by have := hin.ob.hyb; have := hka.hg; omega
 have hev : ev fuel ((KE.n3 .if_ 0 a d f).pt []) (envV vals) st = if (ev fuel (a.pt []) (envV vals) { st with steps := st.steps + 1 }).1.num ≠ 0 then ev fuel (d.pt []) (envV vals) (ev fuel (a.pt []) (envV vals) { st with steps := st.steps + 1 }).2 else ev fuel (f.pt []) (envV vals) (ev fuel (a.pt []) (envV vals) { st with steps := st.steps + 1 }).2 := by
  simp only [KE.pt]
  conv => lhs; unfold ev
  rw [begun_goZ he hq]; simp only [reduceCtorEq, if_false, if_true, evIf]
 rw [hev]
 have hs' := hs.step hq
 have hr1 := kev_res (fuel := fuel) hta hvl vals { st with steps := st.steps + 1 } (fun _ => henv)
 have h1 := fun m => iha pa vals ps { st with steps := st.steps + 1 } nv _ hT1 (hin.begin m).1 (fun _ => henv) hlen hs'
 have hs2 := hs'.on (a.pt []) (envV vals)
 generalize ev fuel (a.pt []) (envV vals) { st with steps := st.steps + 1 } = r1 at *
 have h2 := fun nv2 w2 (hin2 : WkIn w0 w2 yb vals ps fuel r1.2 nv2) => ihd pd vals ps r1.2 nv2 w2 hT2 hin2 (fun _ => henv) hlen hs2
 have h3 := fun nv2 w2 (hin2 : WkIn w0 w2 yb vals ps fuel r1.2 nv2) => ihf pf vals ps r1.2 nv2 w2 hT3 hin2 (fun _ => henv) hlen hs2
 obtain ⟨k, hk, hk9⟩ := res_numZ hr1
 obtain ⟨R, hR⟩ : ∃ R, R = if r1.1.num ≠ 0 then ev fuel (d.pt []) (envV vals) r1.2 else ev fuel (f.pt []) (envV vals) r1.2 := ⟨_, rfl⟩
 rw [← hR]
 have HRz : k = 0 → R = ev fuel (f.pt []) (envV vals) r1.2 := fun h => by rw [hR, hk]; exact if_neg (fun g => g h)
 have HRy : k ≠ 0 → R = ev fuel (d.pt []) (envV vals) r1.2 := fun h => by rw [hR, hk]; exact if_pos h
 have hnum : ∀ (w2 : World) (r : Nat), KVal w2 r1.1 r → r < w2.heap.size ∧ w2.cell? ⟨r, 0, none⟩ = some (.int .i64 k) := fun w2 r h => by
  have := h.num; rw [hk] at this; exact this
 have hkw := hka.on hin.ob.b0
 have x0 := hkw.c0
 have x2 := hkw.c2
 have xk0 := hkw.ck 0 pa rfl
 have xl1 := hkw.hb
 have xl2 := hkw.hg
 have q0 : ((bs Kw.if_.bytes).toList == []) = false := by rw [bs_beq0]; decide
 have q1 : ((bs Kw.if_.bytes).toList == [120]) = false := by rw [bs_beq0]; decide
 have q2 : ((bs Kw.if_.bytes).toList == [108, 101, 116]) = false := by rw [bs_beq0]; decide
 have q3 : ((bs Kw.if_.bytes).toList == [105, 102]) = true := by rw [bs_beq0]; decide
 have y1 : w.cell? ⟨yb, 1, none⟩ = some (.int .i64 fuel) := by rw [blk_cell hin.ob.y]; rfl
 have y2 : w.cell? ⟨yb, 2, none⟩ = some (.int .i64 st.steps) := by rw [blk_cell hin.ob.y]; rfl
 have y4 : w.cell? ⟨yb, 4, none⟩ = some (.bool false) := by rw [blk_cell hin.ob.y]; simp [wkCells, he]
 have f2 : w.frozen? ⟨yb, 2, none⟩ = false := blk_free hin.ob.y 2
 have hyl := blk_lt hin.ob.y
 have q9 : ((st.steps : Int) == (fuel : Int)) = false := by rw [beq_eq_false_iff_ne]; omega
 have hss := hs.s
 have hsf := hs.f
 have HK : Hid _ := hka
 have HBG : Hid _ := fun m => (hin.begin m).2
 have H1 : Hid _ := h1
 have H2 : Hid _ := h2
 have H3 : Hid _ := h3
 have HNUM : Hid _ := hnum
 clear hka hkw hx hin henv hs he hev hq hT1 hT2 hT3 iha ihd ihf hs' hs2 hr1 h1 h2 h3 hk hR hlen hnum
 go_enter Tryz.func51, Tryz.ntmps51
 go_wp2_with fail
 go_quiet (fail)
 go_wp2_with fail
 refine Calls.mono (H1.out _) ?_
 rintro _ w2 ⟨r, nv2, rfl, hfr2, hin2, hkv2⟩
 have hkw := HK.out.on hin2.ob.b0
 have z2 := hkw.c2
 have zk1 := hkw.ck 1 pd rfl
 have zk2 := hkw.ck 2 pf rfl
 have zl1 := hkw.hb
 have zl2 := hkw.hg
 obtain ⟨zr, zn⟩ := HNUM.out w2 r hkv2
 have HF2 : Hid _ := (HBG.out _).trans hfr2
 have HC2 : Hid _ := H2.out nv2 w2 hin2
 have HC3 : Hid _ := H3.out nv2 w2 hin2
 clear hfr2 hin2 hkv2 hkw HK H1 H2 H3 HBG HNUM x0 x2 xk0 y1 y2 y4 f2
 by_cases hk0 : k = 0
 ·have qk : ((k : Int) != 0) = false := by subst hk0; rfl
  have HR : Hid _ := HRz hk0
  clear hk0 HRz HRy HC2
  go_wp2_with fail
  refine Calls.mono HC3.out ?_
  rintro _ w3 ⟨r3, nv3, rfl, hfr3, hin3, hkv3⟩
  have HF3 : Hid _ := HF2.out.trans hfr3
  have HI3 : Hid _ := hin3
  have HK3 : Hid _ := hkv3
  clear hfr3 hin3 hkv3 HC3 HF2
  go_wp2
  go_ret
  rw [HR.out]
  exact ⟨r3, nv3, rfl, HF3.out, HI3.out, HK3.out⟩
 ·have qk : ((k : Int) != 0) = true := by simp; omega
  have HR : Hid _ := HRy hk0
  clear hk0 HRz HRy HC3
  go_wp2_with fail
  refine Calls.mono HC2.out ?_
  rintro _ w3 ⟨r3, nv3, rfl, hfr3, hin3, hkv3⟩
  have HF3 : Hid _ := HF2.out.trans hfr3
  have HI3 : Hid _ := hin3
  have HK3 : Hid _ := hkv3
  clear hfr3 hin3 hkv3 HC2 HF2
  go_wp2
  go_ret
  rw [HR.out]
  exact ⟨r3, nv3, rfl, HF3.out, HI3.out, HK3.out⟩
theorem turns_zeroZ (f : Vl → ESt → Vl × ESt) (v : Vl) (st : ESt) : turns f 0 v st = (v, st) := rfl
theorem turns_succZ (f : Vl → ESt → Vl × ESt) (k : Nat) (v : Vl) (st : ESt) (h : st.e = 0) : turns f (k + 1) v st = turns f k (f v st).1 (f v st).2 := by simp only [turns]; rw [if_neg (by simpa using h)]
theorem turns_errZ (f : Vl → ESt → Vl × ESt) (k : Nat) (v : Vl) (st : ESt) (h : st.e ≠ 0) : turns f k v st = (v, st) := by
 cases k with
 | zero => rfl
 | succ k => simp only [turns]; rw [if_pos h]
set_option maxRecDepth 100000 in
set_option maxHeartbeats 4000000 in
theorem kgo_loop {w0 : World} (yb fuel : Nat) (vs : List Nat) (a d f : KE) (t : Nat) (hta : KT vs a 0) (htd : KT vs d t) (htf : KT (vs ++ [t]) f t) (hvl : vs.length < 100) (iha : KGo w0 yb fuel a vs) (ihd : KGo w0 yb fuel d vs) (ihf : KGo w0 yb fuel f (vs ++ [t])) : KGoN w0 yb fuel (.n3 .loop vs.length a d f) vs := by
 intro b vals ps st nv w hx hin henv hlen hs he hq
 obtain ⟨c, pa, pd, pf, hka, hT1, hT2, hT3⟩ := katz3 hx
 have hne : b ≠ yb := by have := hin.ob.hyb; have := hka.hb; omega
 have hgy : c ≠ yb := by have := hin.ob.hyb; have := hka.hg; omega
 obtain ⟨F, hF⟩ : ∃ F : Vl → ESt → Vl × ESt, F = fun v st => ev fuel (f.pt []) (envV (vals ++ [v])) st := ⟨_, rfl⟩
 have hev : ev fuel ((KE.n3 .loop vs.length a d f).pt []) (envV vals) st = turns F (ev fuel (a.pt []) (envV vals) { st with steps := st.steps + 1 }).1.num (ev fuel (d.pt []) (envV vals) (ev fuel (a.pt []) (envV vals) { st with steps := st.steps + 1 }).2).1 (ev fuel (d.pt []) (envV vals) (ev fuel (a.pt []) (envV vals) { st with steps := st.steps + 1 }).2).2 := by
  rw [hF]
  simp only [envV_snoc, hlen]
  simp only [KE.pt]
  conv => lhs; unfold ev
  rw [begun_goZ he hq]; simp only [reduceCtorEq, if_false, if_true, evLoop]; rfl
 rw [hev]
 have hs' := hs.step hq
 have hr1 := kev_res (fuel := fuel) hta (by omega) vals { st with steps := st.steps + 1 } (fun _ => henv)
 have h1 := fun m => iha pa vals ps { st with steps := st.steps + 1 } nv _ hT1 (hin.begin m).1 (fun _ => henv) hlen hs'
 have hs2 := hs'.on (a.pt []) (envV vals)
 generalize ev fuel (a.pt []) (envV vals) { st with steps := st.steps + 1 } = r1 at *
 have hr2 := kev_res (fuel := fuel) htd (by omega) vals r1.2 (fun _ => henv)
 have h2 := fun nv2 w2 (hin2 : WkIn w0 w2 yb vals ps fuel r1.2 nv2) => ihd pd vals ps r1.2 nv2 w2 hT2 hin2 (fun _ => henv) hlen hs2
 have hs3 := hs2.on (d.pt []) (envV vals)
 generalize ev fuel (d.pt []) (envV vals) r1.2 = r2 at *
 obtain ⟨k, hk, hk9⟩ := res_numZ hr1
 have h3 : ∀ (v : Vl) (q : Nat) (st3 : ESt) (nv2 : Value) (w2 : World), (st3.e = 0 → v.has (tyZ t)) → SOkZ fuel st3 → WkIn w0 w2 yb vals ps fuel st3 nv2 → KVal w2 v q →
   Calls Tryz.prog 85 #[.pointer (some ⟨yb, 0, none⟩), .pointer (some ⟨q, 0, none⟩), .pointer (some ⟨pf, 0, none⟩)] w2 fun e w' => ∃ r nv', e = .returned (.pointer (some ⟨r, 0, none⟩)) ∧ FrO w2 w' yb nv2 nv' ∧ WkIn w0 w' yb vals ps fuel (F v st3).2 nv' ∧ KVal w' (F v st3).1 r := by
  intro v q st3 nv2 w2 hv hs4 hin2 hq2
  rw [hF]
  exact in_of pf q vals ps v st3 nv2 w2 _ (fun nv' w' hin' => ihf pf (vals ++ [v]) (ps ++ [q]) st3 nv' w' hT3 hin' (fun e => by rw [envV_snoc, envT_snoc, hlen]; exact henv.snoc (hv e)) (by simp [hlen]) hs4) hin2 hq2 (by omega)
 have h4 : ∀ (v : Vl) (st3 : ESt), (st3.e = 0 → v.has (tyZ t)) → SOkZ fuel st3 → ((F v st3).2.e = 0 → (F v st3).1.has (tyZ t)) ∧ SOkZ fuel (F v st3).2 := by
  intro v st3 hv hs4
  rw [hF]
  exact ⟨fun e => ((kev_res (fuel := fuel) htf (by simp; omega) (vals ++ [v]) st3 (fun e => by rw [envV_snoc, envT_snoc, hlen]; exact henv.snoc (hv e))).1 e).2, hs4.on _ _⟩
 have hnum : ∀ (w2 : World) (r : Nat), KVal w2 r1.1 r → r < w2.heap.size ∧ w2.cell? ⟨r, 0, none⟩ = some (.int .i64 k) := fun w2 r h => by
  have := h.num; rw [hk] at this; exact this
 have hkn : r1.1.num = k := by rw [hk]; rfl
 rw [hkn]
 have hkw := hka.on hin.ob.b0
 have x0 := hkw.c0
 have x2 := hkw.c2
 have xk0 := hkw.ck 0 pa rfl
 have xl1 := hkw.hb
 have xl2 := hkw.hg
 have q0 : ((bs Kw.loop.bytes).toList == []) = false := by rw [bs_beq0]; decide
 have q1 : ((bs Kw.loop.bytes).toList == [120]) = false := by rw [bs_beq0]; decide
 have q2 : ((bs Kw.loop.bytes).toList == [108, 101, 116]) = false := by rw [bs_beq0]; decide
 have q3 : ((bs Kw.loop.bytes).toList == [105, 102]) = false := by rw [bs_beq0]; decide
 have q4 : ((bs Kw.loop.bytes).toList == [108, 111, 111, 112]) = true := by rw [bs_beq0]; decide
 have y1 : w.cell? ⟨yb, 1, none⟩ = some (.int .i64 fuel) := by rw [blk_cell hin.ob.y]; rfl
 have y2 : w.cell? ⟨yb, 2, none⟩ = some (.int .i64 st.steps) := by rw [blk_cell hin.ob.y]; rfl
 have y4 : w.cell? ⟨yb, 4, none⟩ = some (.bool false) := by rw [blk_cell hin.ob.y]; simp [wkCells, he]
 have f2 : w.frozen? ⟨yb, 2, none⟩ = false := blk_free hin.ob.y 2
 have hyl := blk_lt hin.ob.y
 have q9 : ((st.steps : Int) == (fuel : Int)) = false := by rw [beq_eq_false_iff_ne]; omega
 have hss := hs.s
 have hsf := hs.f
 have HR2 : Hid (r2.2.e = 0 → r2.1.has (tyZ t)) := fun e => (hr2.1 e).2
 have HS3 : Hid _ := hs3
 have HK : Hid _ := hka
 have HBG : Hid _ := fun m => (hin.begin m).2
 have H1 : Hid _ := h1
 have H2 : Hid _ := h2
 have H3 : Hid _ := h3
 have H4 : Hid _ := h4
 have HNUM : Hid _ := hnum
 clear hka hkw hx hin henv hs he hev hq hT1 hT2 hT3 iha ihd ihf hs' hs2 hs3 hr1 hr2 h1 h2 h3 h4 hk hkn hlen hnum hF
 go_enter Tryz.func51, Tryz.ntmps51
 go_wp2_with fail
 go_quiet (fail)
 go_wp2_with fail
 refine Calls.mono (H1.out _) ?_
 rintro _ w2 ⟨rn, nv2, rfl, hfr2, hin2, hkv2⟩
 have hkw := HK.out.on hin2.ob.b0
 have z2 := hkw.c2
 have zk1 := hkw.ck 1 pd rfl
 have zl1 := hkw.hb
 have zl2 := hkw.hg
 have HF2 : Hid _ := (HBG.out _).trans hfr2
 have HC2 : Hid _ := H2.out nv2 w2 hin2
 have HI2 : Hid _ := hin2.ob
 have HKN : Hid _ := hkv2
 clear hfr2 hin2 hkv2 hkw H1 H2 HBG x0 x2 xk0 y1 y2 y4 f2
 go_wp2_with fail
 refine Calls.mono HC2.out ?_
 rintro _ w3 ⟨r3, nv3, rfl, hfr3, hin3, hkv3⟩
 have HKN3 : Hid _ := HKN.out.fr HI2.out hfr3
 have HF3 : Hid _ := HF2.out.trans hfr3
 have HI3 : Hid _ := hin3
 have HK3 : Hid _ := hkv3
 clear hfr3 hin3 hkv3 HC2 HF2 HI2 HKN z2 zk1
 go_wp2_with fail
 go_loopw [9, 10] (fun vv i wr => ∃ (j : Nat) (v : Vl) (r : Nat) (st4 : ESt) (nv4 : Value), j ≤ k ∧ i = .int .i64 j ∧ vv = .pointer (some ⟨r, 0, none⟩) ∧ KVal wr v r ∧ turns F k r2.1 r2.2 = turns F (k - j) v st4 ∧ (st4.e = 0 → v.has (tyZ t)) ∧ SOkZ fuel st4 ∧ FrO w wr yb nv nv4 ∧ WkIn w0 wr yb vals ps fuel st4 nv4 ∧ KVal wr r1.1 rn) (fun _ i _ => k - (intOf i).toNat)
 case atStart => exact ⟨0, r2.1, r3, r2.2, nv3, by omega, rfl, rfl, HK3.out, rfl, HR2.out, HS3.out, HF3.out, HI3.out, HKN3.out⟩
 case round =>
  obtain ⟨j, v, r, st4, nv4, hj, rfl, rfl, hkv, htu, hv, hs4, hfr4, hin4, hkn4⟩ := hrel
  have e4 : wr.cell? ⟨yb, 4, none⟩ = some (.bool (decide (st4.e ≠ 0))) := by rw [blk_cell hin4.ob.y]; rfl
  have hylr := blk_lt hin4.ob.y
  obtain ⟨zr, zn⟩ := HNUM.out wr rn hkn4
  have hkw := HK.out.on hin4.ob.b0
  have u2 := hkw.c2
  have uk2 := hkw.ck 2 pf rfl
  have ul1 := hkw.hb
  have ul2 := hkw.hg
  have HTU : Hid _ := htu
  have HF4 : Hid _ := hfr4
  have HI4 : Hid _ := hin4
  have HKV : Hid _ := hkv
  by_cases hj0 : j = k
  ·have HE : Hid _ := turns_zeroZ F v st4
   have hjk : ¬ j < k := by omega
   have HTU2 : Hid (turns F k r2.1 r2.2 = turns F 0 v st4) := by
    show _ = _
    rw [HTU.out, hj0, Nat.sub_self]
   subst hj0
   clear htu hfr4 hin4 hkw hv hs4 hkn4 hkv
   go_wp2
   go_ret
   rw [HTU2.out, HE.out]
   exact ⟨r, nv4, rfl, HF4.out, HI4.out, HKV.out⟩
  ·have hjlt : j < k := by omega
   by_cases he4 : st4.e = 0
   ·rw [show decide (st4.e ≠ 0) = false by simp [he4]] at e4
    obtain ⟨i, hi⟩ : ∃ i, k - j = i + 1 := ⟨k - j - 1, by omega⟩
    have h4 := H4.out v st4 hv hs4
    have HE : Hid (turns F (k - j) v st4 = turns F (k - (j + 1)) (F v st4).1 (F v st4).2) := by
     show _ = _
     rw [hi, turns_succZ F i v st4 he4, show k - (j + 1) = i by omega]
    have H5 : Hid _ := h4
    have HC : Hid _ := H3.out v r st4 nv4 wr hv hs4 hin4 hkv
    have HKNr : Hid _ := hkn4
    clear htu hfr4 hin4 hkw hv hs4 h4 he4 hkn4 hkv hi
    go_wp2_with fail
    refine Calls.mono HC.out ?_
    rintro _ w5 ⟨r5, nv5, rfl, hfr5, hin5, hkv5⟩
    have HF5 : Hid _ := HF4.out.trans hfr5
    have HI5 : Hid _ := hin5
    have HK5 : Hid _ := hkv5
    have HN5 : Hid _ := HKNr.out.fr HI4.out.ob hfr5
    clear hfr5 hin5 hkv5 HC
    go_wp2
    go_roundw
    case rel => exact ⟨j + 1, (F v st4).1, r5, (F v st4).2, nv5, by omega, by go_num, rfl, HK5.out, by rw [HTU.out, HE.out], H5.out.1, H5.out.2, HF5.out, HI5.out, HN5.out⟩
    case measure => simp [intOf]; omega
   ·rw [show decide (st4.e ≠ 0) = true by simp [he4]] at e4
    have HE : Hid _ := turns_errZ F (k - j) v st4 he4
    clear htu hfr4 hin4 hkw hv hs4 he4 hkn4 hkv
    go_wp2
    go_ret
    rw [HTU.out, HE.out]
    exact ⟨r, nv4, rfl, HF4.out, HI4.out, HKV.out⟩
def Made2 (w0 : World) (yb fuel : Nat) (k : Kw) (A B : Ty) : Prop :=
 ∀ (b c n : Nat) (ks : List Nat) (vals : List Vl) (ps : List Nat) (st : ESt) (nv : Value) (w : World) (x y : Vl) (px py : Nat), KAtZ w0 b c k n ks → WkIn w0 w yb vals ps fuel st nv → SOkZ fuel st → x.has A → y.has B → KVal w x px → KVal w y py →
  Calls Tryz.prog 86 #[.pointer (some ⟨yb, 0, none⟩), .pointer (some ⟨b, 0, none⟩), .pointer (some ⟨px, 0, none⟩), .pointer (some ⟨py, 0, none⟩)] w fun e w' => ∃ r, e = .returned (.pointer (some ⟨r, 0, none⟩)) ∧ FrO w w' yb nv nv ∧ WkIn w0 w' yb vals ps fuel (madeV k [x, y] st).2 nv ∧ KVal w' (madeV k [x, y] st).1 r
def Made1 (w0 : World) (yb fuel : Nat) (k : Kw) (A : Ty) : Prop :=
 ∀ (b c n : Nat) (ks : List Nat) (vals : List Vl) (ps : List Nat) (st : ESt) (nv : Value) (w : World) (x : Vl) (px : Nat), KAtZ w0 b c k n ks → WkIn w0 w yb vals ps fuel st nv → x.has A → KVal w x px →
  Calls Tryz.prog 86 #[.pointer (some ⟨yb, 0, none⟩), .pointer (some ⟨b, 0, none⟩), .pointer (some ⟨px, 0, none⟩), .pointer none] w fun e w' => ∃ r, e = .returned (.pointer (some ⟨r, 0, none⟩)) ∧ FrO w w' yb nv nv ∧ WkIn w0 w' yb vals ps fuel (madeV k [x] st).2 nv ∧ KVal w' (madeV k [x] st).1 r
theorem below_dZ {W w : World} {b : Nat} (h : Below b W w) : Below b W w.drew := h.trans ⟨rfl, rfl, rfl, Nat.le_refl _, fun _ _ => rfl⟩
set_option maxRecDepth 100000 in
set_option maxHeartbeats 1000000 in
theorem madeZ_pair {w0 : World} (yb fuel : Nat) (A B : Ty) : Made2 w0 yb fuel .pair A B := by
 intro b c n ks vals ps st nv w x y px py hka hin hs _ _ hkx hky
 have hne : b ≠ yb := by have := hin.ob.hyb; have := hka.hb; omega
 have hkw := hka.on hin.ob.b0
 have x0 := hkw.c0
 have xl1 := hkw.hb
 have y3 : w.cell? ⟨yb, 3, none⟩ = some (.int .i64 st.cells) := by rw [blk_cell hin.ob.y]; rfl
 have f3 : w.frozen? ⟨yb, 3, none⟩ = false := blk_free hin.ob.y 3
 have hyl := blk_lt hin.ob.y
 have q0 : ((bs Kw.pair.bytes).toList == [112, 97, 105, 114]) = true := by rw [bs_beq0]; decide
 have hcs := hs.c
 have hss := hs.s
 have hsf := hs.f
 have hset := hin.set 3 (.int .i64 ((st.cells : Int) + 1)) (st' := { st with cells := st.cells + 1 }) (by simp [wkCells])
 have hfr := FrO.set1 w yb nv 3 (.int .i64 ((st.cells : Int) + 1))
 have hkx2 := hkx.fr hin.ob hfr
 have hky2 := hky.fr hin.ob hfr
 have hsz : (w.setCell ⟨yb, 3, none⟩ (.int .i64 ((st.cells : Int) + 1))).heap.size = w.heap.size := by simp [World.setCell]
 have hm : madeV .pair [x, y] st = (.p x y, { st with cells := st.cells + 1 }) := rfl
 rw [hm]
 obtain ⟨W, hW⟩ : ∃ W, W = w.setCell ⟨yb, 3, none⟩ (.int .i64 ((st.cells : Int) + 1)) := ⟨_, rfl⟩
 rw [← hW] at hset hfr hkx2 hky2 hsz
 have HSET : Hid _ := hset
 have HFR : Hid _ := hfr
 have HX : Hid _ := hkx2
 have HY : Hid _ := hky2
 have HSZ : Hid _ := hsz
 have HW : Hid _ := hW
 clear hka hkw hin hs hkx hky hset hfr hkx2 hky2 hsz hm hW
 go_enter Tryz.func86, Tryz.ntmps86
 go_wp2
 go_ret
 rw [← HW.out]
 have hbn := below_alZ (Below.refl _ W) (.cells (kvV 0 (.pointer (some ⟨px, 0, none⟩)) (.pointer (some ⟨py, 0, none⟩))) 141 (0, 0))
 refine ⟨w.heap.size, rfl, HFR.out.trans (FrO.below hbn _ _), HSET.out.grow hbn, px, py, ?_, HX.out.below hbn, HY.out.below hbn⟩
 rw [← HSZ.out]; exact blk_new _ _
set_option maxRecDepth 100000 in
set_option maxHeartbeats 1000000 in
theorem madeZ_fst {w0 : World} (yb fuel : Nat) (r0 : Nat) (A B : Ty) : Made1 w0 yb fuel .fst (.p r0 A B) := by
 intro b c n ks vals ps st nv w x px hka hin hx hkx
 obtain ⟨u, v, rfl⟩ : ∃ u v, x = .p u v := by
  cases x with
  | n k => exact hx.elim
  | p u v => exact ⟨u, v, rfl⟩
 obtain ⟨pu, pv, h1, h2, h3⟩ := hkx
 have hkw := hka.on hin.ob.b0
 have x0 := hkw.c0
 have xl1 := hkw.hb
 have p1 : w.cell? ⟨px, 1, none⟩ = some (.pointer (some ⟨pu, 0, none⟩)) := by rw [blk_cell h1]; rfl
 have pl := blk_lt h1
 have q0 : ((bs Kw.fst.bytes).toList == [112, 97, 105, 114]) = false := by rw [bs_beq0]; decide
 have q1 : ((bs Kw.fst.bytes).toList == [102, 115, 116]) = true := by rw [bs_beq0]; decide
 have HIN : Hid _ := hin
 have HU : Hid _ := h2
 have hm : madeV .fst [.p u v] st = (u, st) := rfl
 rw [hm]
 clear hka hkw hin hx h1 h2 h3 hm
 go_enter Tryz.func86, Tryz.ntmps86
 go_wp2
 go_ret
 exact ⟨pu, rfl, FrO.refl _ _ _, HIN.out, HU.out⟩
set_option maxRecDepth 100000 in
set_option maxHeartbeats 1000000 in
theorem madeZ_snd {w0 : World} (yb fuel : Nat) (r0 : Nat) (A B : Ty) : Made1 w0 yb fuel .snd (.p r0 A B) := by
 intro b c n ks vals ps st nv w x px hka hin hx hkx
 obtain ⟨u, v, rfl⟩ : ∃ u v, x = .p u v := by
  cases x with
  | n k => exact hx.elim
  | p u v => exact ⟨u, v, rfl⟩
 obtain ⟨pu, pv, h1, h2, h3⟩ := hkx
 have hkw := hka.on hin.ob.b0
 have x0 := hkw.c0
 have xl1 := hkw.hb
 have p2 : w.cell? ⟨px, 2, none⟩ = some (.pointer (some ⟨pv, 0, none⟩)) := by rw [blk_cell h1]; rfl
 have pl := blk_lt h1
 have q0 : ((bs Kw.snd.bytes).toList == [112, 97, 105, 114]) = false := by rw [bs_beq0]; decide
 have q1 : ((bs Kw.snd.bytes).toList == [102, 115, 116]) = false := by rw [bs_beq0]; decide
 have q2 : ((bs Kw.snd.bytes).toList == [115, 110, 100]) = true := by rw [bs_beq0]; decide
 have HIN : Hid _ := hin
 have HU : Hid _ := h3
 have hm : madeV .snd [.p u v] st = (v, st) := rfl
 rw [hm]
 clear hka hkw hin hx h1 h2 h3 hm
 go_enter Tryz.func86, Tryz.ntmps86
 go_wp2
 go_ret
 exact ⟨pv, rfl, FrO.refl _ _ _, HIN.out, HU.out⟩
set_option maxRecDepth 100000 in
set_option maxHeartbeats 1000000 in
theorem madeZ_add {w0 : World} (yb fuel : Nat) : Made2 w0 yb fuel .add .n .n := by
 intro b c n ks vals ps st nv w x y px py hka hin _ hx hy hkx hky
 obtain ⟨i, rfl, hi⟩ := has_num hx
 obtain ⟨j, rfl, hj⟩ := has_num hy
 obtain ⟨pl, p0⟩ := hkx.num
 obtain ⟨pl', p0'⟩ := hky.num
 simp only [Vl.num] at p0 p0'
 have hkw := hka.on hin.ob.b0
 have x0 := hkw.c0
 have xl1 := hkw.hb
 have q0 : ((bs Kw.add.bytes).toList == [112, 97, 105, 114]) = false := by rw [bs_beq0]; decide
 have q1 : ((bs Kw.add.bytes).toList == [102, 115, 116]) = false := by rw [bs_beq0]; decide
 have q2 : ((bs Kw.add.bytes).toList == [115, 110, 100]) = false := by rw [bs_beq0]; decide
 have q3 : ((bs Kw.add.bytes).toList == [97, 100, 100]) = true := by rw [bs_beq0]; decide
 have em : ((i : Int) + (j : Int)) % 10000 = (((i + j) % 10000 : Nat) : Int) := by omega
 have hm : madeV .add [.n i, .n j] st = (.n ((i + j) % 10000), st) := rfl
 rw [hm]
 have HIN : Hid _ := hin
 clear hka hkw hin hx hy hkx hky hm
 generalize (i + j) % 10000 = s at *
 go_enter Tryz.func86, Tryz.ntmps86
 go_wp2
 go_region
 all_goals
  go_wp2
  go_ret
  have hbn := below_dZ (below_alZ (Below.refl _ w) (.cells (kvV s (.pointer none) (.pointer none)) 141 (0, 0)))
  exact ⟨w.heap.size, rfl, FrO.below hbn _ _, HIN.out.grow hbn, blk_new w _⟩
set_option maxRecDepth 100000 in
set_option maxHeartbeats 1000000 in
theorem madeZ_sub {w0 : World} (yb fuel : Nat) : Made2 w0 yb fuel .sub .n .n := by
 intro b c n ks vals ps st nv w x y px py hka hin _ hx hy hkx hky
 obtain ⟨i, rfl, hi⟩ := has_num hx
 obtain ⟨j, rfl, hj⟩ := has_num hy
 obtain ⟨pl, p0⟩ := hkx.num
 obtain ⟨pl', p0'⟩ := hky.num
 simp only [Vl.num] at p0 p0'
 have hkw := hka.on hin.ob.b0
 have x0 := hkw.c0
 have xl1 := hkw.hb
 have q0 : ((bs Kw.sub.bytes).toList == [112, 97, 105, 114]) = false := by rw [bs_beq0]; decide
 have q1 : ((bs Kw.sub.bytes).toList == [102, 115, 116]) = false := by rw [bs_beq0]; decide
 have q2 : ((bs Kw.sub.bytes).toList == [115, 110, 100]) = false := by rw [bs_beq0]; decide
 have q3 : ((bs Kw.sub.bytes).toList == [97, 100, 100]) = false := by rw [bs_beq0]; decide
 have q4 : ((bs Kw.sub.bytes).toList == [115, 117, 98]) = true := by rw [bs_beq0]; decide
 have em : ((i : Int) + 10000 - (j : Int)) % 10000 = (((i + 10000 - j) % 10000 : Nat) : Int) := by omega
 have hm : madeV .sub [.n i, .n j] st = (.n ((i + 10000 - j) % 10000), st) := rfl
 rw [hm]
 have HIN : Hid _ := hin
 clear hka hkw hin hx hy hkx hky hm
 generalize (i + 10000 - j) % 10000 = s at *
 go_enter Tryz.func86, Tryz.ntmps86
 go_wp2
 go_region
 all_goals
  go_wp2
  go_ret
  have hbn := below_dZ (below_alZ (Below.refl _ w) (.cells (kvV s (.pointer none) (.pointer none)) 141 (0, 0)))
  exact ⟨w.heap.size, rfl, FrO.below hbn _ _, HIN.out.grow hbn, blk_new w _⟩
set_option maxRecDepth 100000 in
set_option maxHeartbeats 1000000 in
theorem madeZ_less {w0 : World} (yb fuel : Nat) : Made2 w0 yb fuel .less .n .n := by
 intro b c n ks vals ps st nv w x y px py hka hin _ hx hy hkx hky
 obtain ⟨i, rfl, hi⟩ := has_num hx
 obtain ⟨j, rfl, hj⟩ := has_num hy
 obtain ⟨pl, p0⟩ := hkx.num
 obtain ⟨pl', p0'⟩ := hky.num
 simp only [Vl.num] at p0 p0'
 have hkw := hka.on hin.ob.b0
 have x0 := hkw.c0
 have xl1 := hkw.hb
 have q0 : ((bs Kw.less.bytes).toList == [112, 97, 105, 114]) = false := by rw [bs_beq0]; decide
 have q1 : ((bs Kw.less.bytes).toList == [102, 115, 116]) = false := by rw [bs_beq0]; decide
 have q2 : ((bs Kw.less.bytes).toList == [115, 110, 100]) = false := by rw [bs_beq0]; decide
 have q3 : ((bs Kw.less.bytes).toList == [97, 100, 100]) = false := by rw [bs_beq0]; decide
 have q4 : ((bs Kw.less.bytes).toList == [115, 117, 98]) = false := by rw [bs_beq0]; decide
 have hm : madeV .less [.n i, .n j] st = (.n (if i < j then 1 else 0), st) := rfl
 rw [hm]
 have HIN : Hid _ := hin
 clear hka hkw hin hx hy hkx hky hm
 by_cases hij : i < j
 ·rw [if_pos hij]
  go_enter Tryz.func86, Tryz.ntmps86
  go_wp2
  go_quiet (fail)
  go_wp2
  go_ret
  have hbn := below_alZ (below_drewO w nq) (.cells (kvV 1 (.pointer none) (.pointer none)) 141 (0, 0))
  exact ⟨w.heap.size, rfl, FrO.below hbn _ _, HIN.out.grow hbn, blk_new (w.drewN nq) _⟩
 ·rw [if_neg hij]
  go_enter Tryz.func86, Tryz.ntmps86
  go_wp2
  go_quiet (fail)
  go_wp2
  go_ret
  have hbn := below_alZ (below_drewO w nq) (.cells (kvV 0 (.pointer none) (.pointer none)) 141 (0, 0))
  exact ⟨w.heap.size, rfl, FrO.below hbn _ _, HIN.out.grow hbn, blk_new (w.drewN nq) _⟩
theorem FrO.setNew {w w' : World} {yb q o : Nat} {x nv nv' : Value} (h : FrO w w' yb nv nv') (hq : w.heap.size ≤ q) : FrO w (w'.setCell ⟨q, o, none⟩ x) yb nv nv' :=
 ⟨by have := h.size; simpa [World.setCell] using this, fun k hk hy hn => by rw [blk_other _ _ (by simp only; omega)]; exact h.blk k hk hy hn, h.n⟩
theorem KVal.setElse {w : World} {q o : Nat} {x : Value} {arr : Array Value} (hq : w.heap[q]? = some (.cells arr 142 (0, 0))) {v : Vl} {p : Nat} (h : KVal w v p) : KVal (w.setCell ⟨q, o, none⟩ x) v p :=
 h.keep (fun k arr' hk => by
  rw [blk_other _ _ (by
   simp only
   rintro rfl
   rw [hq] at hk
   simp only [Option.some.injEq, Obj.cells.injEq] at hk
   exact absurd hk.2.1 (by decide))]
  exact hk)
theorem WkIn.setElse {w0 w : World} {yb : Nat} {vals : List Vl} {ps : List Nat} {fuel : Nat} {st : ESt} {nv : Value} {q o : Nat} {x : Value} {arr : Array Value} (h : WkIn w0 w yb vals ps fuel st nv) (hq : w.heap[q]? = some (.cells arr 142 (0, 0))) (h0 : w0.heap.size ≤ q) : WkIn w0 (w.setCell ⟨q, o, none⟩ x) yb vals ps fuel st nv := by
 have hne : ∀ (k : Nat) (arr' : Array Value) (U : TypeId) (fz : Nat × Nat), U ≠ 142 → w.heap[k]? = some (.cells arr' U fz) → (w.setCell ⟨q, o, none⟩ x).heap[k]? = w.heap[k]? := by
  intro k arr' U fz hU hk
  refine blk_other _ _ ?_
  simp only
  rintro rfl
  rw [hq] at hk
  simp only [Option.some.injEq, Obj.cells.injEq] at hk
  exact hU hk.2.1.symm
 refine ⟨⟨h.ob.b0.setCell (p := ⟨q, o, none⟩) h0 _, h.ob.hyb, ?_, owns_blk h.ob.n (fun k hk => ?_), h.ob.ny⟩, h.len, fun i v p h1 h2 => (h.v i v p h1 h2).setElse hq⟩
 ·rw [hne yb _ _ _ (by decide) h.ob.y]; exact h.ob.y
 ·rcases h.ob.n.2 with ⟨hv, _⟩ | ⟨g, cap, cur, hv, _, hg, _⟩
  ·rw [hv] at hk; cases hk
  ·rw [hv] at hk
   simp only [Value.ownBlock, Option.some.injEq] at hk
   subst hk
   exact hne _ _ _ _ (by decide) hg
def two2 (a b : Value) : Obj := .cells #[a, b] 142 (0, 0)
set_option maxRecDepth 100000 in
set_option maxHeartbeats 4000000 in
theorem kgo_two {w0 : World} (yb fuel : Nat) (vs : List Nat) (k : Kw) (n : Nat) (a d : KE) (ta td : Nat) (hk1 : k ≠ .let_) (hk2 : k ≠ .if_) (hk3 : k ≠ .loop) (hta : KT vs a ta) (htd : KT vs d td) (hvl : vs.length ≤ 100) (iha : KGo w0 yb fuel a vs) (ihd : KGo w0 yb fuel d vs) (hmd : Made2 w0 yb fuel k (tyZ ta) (tyZ td)) : KGoN w0 yb fuel (.n2 k n a d) vs := by
 intro b vals ps st nv w hx hin henv hlen hs he hq
 obtain ⟨c, pa, pd, hka, hT1, hT2⟩ := katz2 hx
 have hne : b ≠ yb := by have := hin.ob.hyb; have := hka.hb; omega
 have hgy : c ≠ yb := by have := hin.ob.hyb; have := hka.hg; omega
 have hev : ev fuel ((KE.n2 k n a d).pt []) (envV vals) st = partsV fuel k [a.pt [], d.pt []] (envV vals) { st with steps := st.steps + 1 } := by
  simp only [KE.pt]
  rw [ev_parts fuel _ k _ _ _ (envV vals) st hk1 hk2 hk3, begun_goZ he hq]
 rw [hev, partsV2]
 have hs' := hs.step hq
 have hr1 := kev_res (fuel := fuel) hta hvl vals { st with steps := st.steps + 1 } (fun _ => henv)
 have h1 := fun nv2 w2 (hin2 : WkIn w0 w2 yb vals ps fuel { st with steps := st.steps + 1 } nv2) => iha pa vals ps { st with steps := st.steps + 1 } nv2 w2 hT1 hin2 (fun _ => henv) hlen hs'
 have hs2 := hs'.on (a.pt []) (envV vals)
 generalize ev fuel (a.pt []) (envV vals) { st with steps := st.steps + 1 } = r1 at *
 have hr2 := kev_res (fuel := fuel) htd hvl vals r1.2 (fun _ => henv)
 have h2 := fun nv2 w2 (hin2 : WkIn w0 w2 yb vals ps fuel r1.2 nv2) => ihd pd vals ps r1.2 nv2 w2 hT2 hin2 (fun _ => henv) hlen hs2
 have hs3 := hs2.on (d.pt []) (envV vals)
 generalize ev fuel (d.pt []) (envV vals) r1.2 = r2 at *
 obtain ⟨R, hR⟩ : ∃ R, R = if r2.2.e ≠ 0 then (Vl.n 0, r2.2) else madeV k [r1.1, r2.1] r2.2 := ⟨_, rfl⟩
 rw [← hR]
 have HRN : Hid (r2.2.e = 0 → R = madeV k [r1.1, r2.1] r2.2) := fun h => by rw [hR, if_neg (fun g => g h)]
 have HRE : Hid (r2.2.e ≠ 0 → R = (Vl.n 0, r2.2)) := fun h => by rw [hR, if_pos h]
 have hm : ∀ (nv2 : Value) (w2 : World) (p1 p2 : Nat), r2.2.e = 0 → WkIn w0 w2 yb vals ps fuel r2.2 nv2 → KVal w2 r1.1 p1 → KVal w2 r2.1 p2 →
   Calls Tryz.prog 86 #[.pointer (some ⟨yb, 0, none⟩), .pointer (some ⟨b, 0, none⟩), .pointer (some ⟨p1, 0, none⟩), .pointer (some ⟨p2, 0, none⟩)] w2 fun e w' => ∃ r, e = .returned (.pointer (some ⟨r, 0, none⟩)) ∧ FrO w2 w' yb nv2 nv2 ∧ WkIn w0 w' yb vals ps fuel (madeV k [r1.1, r2.1] r2.2).2 nv2 ∧ KVal w' (madeV k [r1.1, r2.1] r2.2).1 r := by
  intro nv2 w2 p1 p2 e hin2 hv1 hv2
  have a2 := hr2.1 e
  exact hmd b c n [pa, pd] vals ps r2.2 nv2 w2 r1.1 r2.1 p1 p2 hka hin2 hs3 (hr1.1 a2.1).2 a2.2 hv1 hv2
 have hkw := hka.on hin.ob.b0
 have x0 := hkw.c0
 have xl1 := hkw.hb
 have xl2 := hkw.hg
 have q0 : ((bs k.bytes).toList == []) = false := by rw [bs_beq0]; cases k <;> decide
 have q1 : ((bs k.bytes).toList == [120]) = false := by rw [bs_beq0]; cases k <;> decide
 have q2 : ((bs k.bytes).toList == [108, 101, 116]) = false := by rw [bs_beq0]; cases k <;> first | decide | exact absurd rfl hk1
 have q3 : ((bs k.bytes).toList == [105, 102]) = false := by rw [bs_beq0]; cases k <;> first | decide | exact absurd rfl hk2
 have q4 : ((bs k.bytes).toList == [108, 111, 111, 112]) = false := by rw [bs_beq0]; cases k <;> first | decide | exact absurd rfl hk3
 have y1 : w.cell? ⟨yb, 1, none⟩ = some (.int .i64 fuel) := by rw [blk_cell hin.ob.y]; rfl
 have y2 : w.cell? ⟨yb, 2, none⟩ = some (.int .i64 st.steps) := by rw [blk_cell hin.ob.y]; rfl
 have y4 : w.cell? ⟨yb, 4, none⟩ = some (.bool false) := by rw [blk_cell hin.ob.y]; simp [wkCells, he]
 have f2 : w.frozen? ⟨yb, 2, none⟩ = false := blk_free hin.ob.y 2
 have hyl := blk_lt hin.ob.y
 have q9 : ((st.steps : Int) == (fuel : Int)) = false := by rw [beq_eq_false_iff_ne]; omega
 have hss := hs.s
 have hsf := hs.f
 have HK : Hid _ := hka
 have HBG : Hid _ := fun m => hin.begin m
 have HW0 : Hid _ := hin.ob.b0.size
 have H1 : Hid _ := h1
 have H2 : Hid _ := h2
 have HM : Hid _ := hm
 clear hka hkw hx hin henv hs he hev hq hT1 hT2 iha ihd hs' hs2 hs3 hr1 hr2 h1 h2 hm hlen hmd hR hta htd
 go_enter Tryz.func51, Tryz.ntmps51
 go_wp2_with fail
 go_quiet (fail)
 go_wp2_with fail
 have HBQ : Hid _ := HBG.out nq
 have HNQ : Hid _ := blk_newS w nq ⟨yb, 2, none⟩ (.int .i64 ((st.steps : Int) + 1)) arr2
 clear HBG x0 y1 y2 y4 f2
 generalize hQ : w.heap.size = Q at *
 go_loopw [11] (fun i wr => ∃ (j : Nat) (nv4 : Value), i = .int .i64 j ∧ FrO w wr yb nv nv4 ∧ ((j = 0 ∧ WkIn w0 wr yb vals ps fuel { st with steps := st.steps + 1 } nv4 ∧ wr.heap[Q]? = some (two2 (.pointer none) (.pointer none))) ∨ (j = 1 ∧ ∃ p1 : Nat, WkIn w0 wr yb vals ps fuel r1.2 nv4 ∧ wr.heap[Q]? = some (two2 (.pointer (some ⟨p1, 0, none⟩)) (.pointer none)) ∧ KVal wr r1.1 p1) ∨ (j = 2 ∧ ∃ p1 p2 : Nat, WkIn w0 wr yb vals ps fuel r2.2 nv4 ∧ wr.heap[Q]? = some (two2 (.pointer (some ⟨p1, 0, none⟩)) (.pointer (some ⟨p2, 0, none⟩))) ∧ KVal wr r1.1 p1 ∧ KVal wr r2.1 p2))) (fun i _ => 2 - (intOf i).toNat)
 case atStart => exact ⟨0, nv, rfl, HBQ.out.2, Or.inl ⟨rfl, HBQ.out.1, HNQ.out⟩⟩
 case round =>
  obtain ⟨j, nv4, rfl, hfr, hP⟩ := hrel
  have HF : Hid _ := hfr
  rcases hP with ⟨rfl, hin4, hQb⟩ | ⟨rfl, p1, hin4, hQb, hv1⟩ | ⟨rfl, p1, p2, hin4, hQb, hv1, hv2⟩
  ·have hkw := HK.out.on hin4.ob.b0
   have u2 := hkw.c2
   have uk := hkw.ck 0 pa rfl
   have ul1 := hkw.hb
   have ul2 := hkw.hg
   have HI : Hid _ := hin4
   have HQB : Hid _ := hQb
   have HC : Hid _ := H1.out nv4 wr hin4
   clear hfr hin4 hQb hkw
   go_wp2_with fail
   refine Calls.mono HC.out ?_
   rintro _ w2 ⟨r, nv5, rfl, hf5, hi5, hv5⟩
   have hQ2 : w2.heap[Q]? = some (two2 (.pointer none) (.pointer none)) := HI.out.ob.other hf5 (by decide) (by decide) HQB.out
   have ql := blk_lt hQ2
   have qf : w2.frozen? ⟨Q, 0, none⟩ = false := blk_free hQ2 0
   have qc : w2.cell? ⟨Q, 0, none⟩ = some (.pointer none) := by rw [blk_cell hQ2]; rfl
   have hqw0 : w0.heap.size ≤ Q := by have := HW0.out; omega
   have HF5 : Hid _ := (HF.out.trans hf5).setNew (q := Q) (o := 0) (x := .pointer (some ⟨r, 0, none⟩)) (by omega)
   have HI5 : Hid _ := hi5.setElse (o := 0) (x := .pointer (some ⟨r, 0, none⟩)) hQ2 hqw0
   have HV5 : Hid _ := hv5.setElse (o := 0) (x := .pointer (some ⟨r, 0, none⟩)) hQ2
   have HQ5 : Hid ((w2.setCell ⟨Q, 0, none⟩ (.pointer (some ⟨r, 0, none⟩))).heap[Q]? = some (two2 (.pointer (some ⟨r, 0, none⟩)) (.pointer none))) := (blk_set hQ2 0 _).trans rfl
   clear hf5 hi5 hv5 hQ2 HC HI HQB
   go_wp2
   go_roundw
   case rel => exact ⟨1, nv5, by first | rfl | go_num, HF5.out, Or.inr (Or.inl ⟨rfl, r, HI5.out, HQ5.out, HV5.out⟩)⟩
   case measure => simp [intOf]
  ·have hkw := HK.out.on hin4.ob.b0
   have u2 := hkw.c2
   have uk := hkw.ck 1 pd rfl
   have ul1 := hkw.hb
   have ul2 := hkw.hg
   have HI : Hid _ := hin4
   have HQB : Hid _ := hQb
   have HV1 : Hid _ := hv1
   have HC : Hid _ := H2.out nv4 wr hin4
   clear hfr hin4 hQb hkw hv1
   go_wp2_with fail
   refine Calls.mono HC.out ?_
   rintro _ w2 ⟨r, nv5, rfl, hf5, hi5, hv5⟩
   have hQ2 : w2.heap[Q]? = some (two2 (.pointer (some ⟨p1, 0, none⟩)) (.pointer none)) := HI.out.ob.other hf5 (by decide) (by decide) HQB.out
   have ql := blk_lt hQ2
   have qf : w2.frozen? ⟨Q, 1, none⟩ = false := blk_free hQ2 1
   have qc : w2.cell? ⟨Q, 1, none⟩ = some (.pointer none) := by rw [blk_cell hQ2]; rfl
   have hqw0 : w0.heap.size ≤ Q := by have := HW0.out; omega
   have HF5 : Hid _ := (HF.out.trans hf5).setNew (q := Q) (o := 1) (x := .pointer (some ⟨r, 0, none⟩)) (by omega)
   have HI5 : Hid _ := hi5.setElse (o := 1) (x := .pointer (some ⟨r, 0, none⟩)) hQ2 hqw0
   have HV5 : Hid _ := hv5.setElse (o := 1) (x := .pointer (some ⟨r, 0, none⟩)) hQ2
   have HV6 : Hid _ := (HV1.out.fr HI.out.ob hf5).setElse (o := 1) (x := .pointer (some ⟨r, 0, none⟩)) hQ2
   have HQ5 : Hid ((w2.setCell ⟨Q, 1, none⟩ (.pointer (some ⟨r, 0, none⟩))).heap[Q]? = some (two2 (.pointer (some ⟨p1, 0, none⟩)) (.pointer (some ⟨r, 0, none⟩)))) := (blk_set hQ2 1 _).trans rfl
   clear hf5 hi5 hv5 hQ2 HC HI HQB HV1
   go_wp2
   go_roundw
   case rel => exact ⟨2, nv5, by first | rfl | go_num, HF5.out, Or.inr (Or.inr ⟨rfl, p1, r, HI5.out, HQ5.out, HV6.out, HV5.out⟩)⟩
   case measure => simp [intOf]
  ·have hkw := HK.out.on hin4.ob.b0
   have u2 := hkw.c2
   have ul1 := hkw.hb
   have ul2 := hkw.hg
   have e4 : wr.cell? ⟨yb, 4, none⟩ = some (.bool (decide (r2.2.e ≠ 0))) := by rw [blk_cell hin4.ob.y]; rfl
   have hylr := blk_lt hin4.ob.y
   have qa : wr.cell? ⟨Q, 0, none⟩ = some (.pointer (some ⟨p1, 0, none⟩)) := by rw [blk_cell hQb]; rfl
   have qb : wr.cell? ⟨Q, 1, none⟩ = some (.pointer (some ⟨p2, 0, none⟩)) := by rw [blk_cell hQb]; rfl
   have ql := blk_lt hQb
   have HI : Hid _ := hin4
   by_cases he2 : r2.2.e = 0
   ·rw [show decide (r2.2.e ≠ 0) = false by simp [he2]] at e4
    have HC : Hid _ := HM.out nv4 wr p1 p2 he2 hin4 hv1 hv2
    have HR : Hid _ := HRN.out he2
    clear hfr hin4 hQb hkw hv1 hv2 he2
    go_wp2_with fail
    refine Calls.mono HC.out ?_
    rintro _ w2 ⟨r, rfl, hf5, hi5, hv5⟩
    have HF5 : Hid _ := HF.out.trans hf5
    have HI5 : Hid _ := hi5
    have HV5 : Hid _ := hv5
    clear hf5 hi5 hv5 HC
    go_wp2
    go_ret
    rw [HR.out]
    exact ⟨r, nv4, rfl, HF5.out, HI5.out, HV5.out⟩
   ·rw [show decide (r2.2.e ≠ 0) = true by simp [he2]] at e4
    have HR : Hid _ := HRE.out he2
    clear hfr hin4 hQb hkw hv1 hv2 he2
    go_wp2
    go_ret
    rw [HR.out]
    have hbn := below_alZ (Below.refl _ wr) kn0
    exact ⟨wr.heap.size, nv4, rfl, HF.out.trans (FrO.below hbn _ _), HI.out.grow hbn, blk_new wr kn0⟩
set_option maxRecDepth 100000 in
set_option maxHeartbeats 4000000 in
theorem kgo_one {w0 : World} (yb fuel : Nat) (vs : List Nat) (k : Kw) (a : KE) (ta : Nat) (hk1 : k ≠ .let_) (hk2 : k ≠ .if_) (hk3 : k ≠ .loop) (hta : KT vs a ta) (hvl : vs.length ≤ 100) (iha : KGo w0 yb fuel a vs) (hmd : Made1 w0 yb fuel k (tyZ ta)) : KGoN w0 yb fuel (.n1 k a) vs := by
 intro b vals ps st nv w hx hin henv hlen hs he hq
 obtain ⟨c, pa, hka, hT1⟩ := katz1 hx
 have hne : b ≠ yb := by have := hin.ob.hyb; have := hka.hb; omega
 have hgy : c ≠ yb := by have := hin.ob.hyb; have := hka.hg; omega
 have hev : ev fuel ((KE.n1 k a).pt []) (envV vals) st = partsV fuel k [a.pt []] (envV vals) { st with steps := st.steps + 1 } := by
  simp only [KE.pt]
  rw [ev_parts fuel _ k _ _ _ (envV vals) st hk1 hk2 hk3, begun_goZ he hq]
 rw [hev, partsV1]
 have hs' := hs.step hq
 have hr1 := kev_res (fuel := fuel) hta hvl vals { st with steps := st.steps + 1 } (fun _ => henv)
 have h1 := fun nv2 w2 (hin2 : WkIn w0 w2 yb vals ps fuel { st with steps := st.steps + 1 } nv2) => iha pa vals ps { st with steps := st.steps + 1 } nv2 w2 hT1 hin2 (fun _ => henv) hlen hs'
 generalize ev fuel (a.pt []) (envV vals) { st with steps := st.steps + 1 } = r1 at *
 obtain ⟨R, hR⟩ : ∃ R, R = if r1.2.e ≠ 0 then (Vl.n 0, r1.2) else madeV k [r1.1] r1.2 := ⟨_, rfl⟩
 rw [← hR]
 have HRN : Hid (r1.2.e = 0 → R = madeV k [r1.1] r1.2) := fun h => by rw [hR, if_neg (fun g => g h)]
 have HRE : Hid (r1.2.e ≠ 0 → R = (Vl.n 0, r1.2)) := fun h => by rw [hR, if_pos h]
 have hm : ∀ (nv2 : Value) (w2 : World) (p1 : Nat), r1.2.e = 0 → WkIn w0 w2 yb vals ps fuel r1.2 nv2 → KVal w2 r1.1 p1 →
   Calls Tryz.prog 86 #[.pointer (some ⟨yb, 0, none⟩), .pointer (some ⟨b, 0, none⟩), .pointer (some ⟨p1, 0, none⟩), .pointer none] w2 fun e w' => ∃ r, e = .returned (.pointer (some ⟨r, 0, none⟩)) ∧ FrO w2 w' yb nv2 nv2 ∧ WkIn w0 w' yb vals ps fuel (madeV k [r1.1] r1.2).2 nv2 ∧ KVal w' (madeV k [r1.1] r1.2).1 r := by
  intro nv2 w2 p1 e hin2 hv1
  exact hmd b c 0 [pa] vals ps r1.2 nv2 w2 r1.1 p1 hka hin2 (hr1.1 e).2 hv1
 have hkw := hka.on hin.ob.b0
 have x0 := hkw.c0
 have xl1 := hkw.hb
 have xl2 := hkw.hg
 have q0 : ((bs k.bytes).toList == []) = false := by rw [bs_beq0]; cases k <;> decide
 have q1 : ((bs k.bytes).toList == [120]) = false := by rw [bs_beq0]; cases k <;> decide
 have q2 : ((bs k.bytes).toList == [108, 101, 116]) = false := by rw [bs_beq0]; cases k <;> first | decide | exact absurd rfl hk1
 have q3 : ((bs k.bytes).toList == [105, 102]) = false := by rw [bs_beq0]; cases k <;> first | decide | exact absurd rfl hk2
 have q4 : ((bs k.bytes).toList == [108, 111, 111, 112]) = false := by rw [bs_beq0]; cases k <;> first | decide | exact absurd rfl hk3
 have y1 : w.cell? ⟨yb, 1, none⟩ = some (.int .i64 fuel) := by rw [blk_cell hin.ob.y]; rfl
 have y2 : w.cell? ⟨yb, 2, none⟩ = some (.int .i64 st.steps) := by rw [blk_cell hin.ob.y]; rfl
 have y4 : w.cell? ⟨yb, 4, none⟩ = some (.bool false) := by rw [blk_cell hin.ob.y]; simp [wkCells, he]
 have f2 : w.frozen? ⟨yb, 2, none⟩ = false := blk_free hin.ob.y 2
 have hyl := blk_lt hin.ob.y
 have q9 : ((st.steps : Int) == (fuel : Int)) = false := by rw [beq_eq_false_iff_ne]; omega
 have hss := hs.s
 have hsf := hs.f
 have HK : Hid _ := hka
 have HBG : Hid _ := fun m => hin.begin m
 have HW0 : Hid _ := hin.ob.b0.size
 have H1 : Hid _ := h1
 have HM : Hid _ := hm
 clear hka hkw hx hin henv hs he hev hq hT1 iha hs' hr1 h1 hm hlen hmd hR hta
 go_enter Tryz.func51, Tryz.ntmps51
 go_wp2_with fail
 go_quiet (fail)
 go_wp2_with fail
 have HBQ : Hid _ := HBG.out nq
 have HNQ : Hid _ := blk_newS w nq ⟨yb, 2, none⟩ (.int .i64 ((st.steps : Int) + 1)) arr2
 clear HBG x0 y1 y2 y4 f2
 generalize hQ : w.heap.size = Q at *
 go_loopw [11] (fun i wr => ∃ (j : Nat) (nv4 : Value), i = .int .i64 j ∧ FrO w wr yb nv nv4 ∧ ((j = 0 ∧ WkIn w0 wr yb vals ps fuel { st with steps := st.steps + 1 } nv4 ∧ wr.heap[Q]? = some (two2 (.pointer none) (.pointer none))) ∨ (j = 1 ∧ ∃ p1 : Nat, WkIn w0 wr yb vals ps fuel r1.2 nv4 ∧ wr.heap[Q]? = some (two2 (.pointer (some ⟨p1, 0, none⟩)) (.pointer none)) ∧ KVal wr r1.1 p1))) (fun i _ => 1 - (intOf i).toNat)
 case atStart => exact ⟨0, nv, rfl, HBQ.out.2, Or.inl ⟨rfl, HBQ.out.1, HNQ.out⟩⟩
 case round =>
  obtain ⟨j, nv4, rfl, hfr, hP⟩ := hrel
  have HF : Hid _ := hfr
  rcases hP with ⟨rfl, hin4, hQb⟩ | ⟨rfl, p1, hin4, hQb, hv1⟩
  ·have hkw := HK.out.on hin4.ob.b0
   have u2 := hkw.c2
   have uk := hkw.ck 0 pa rfl
   have ul1 := hkw.hb
   have ul2 := hkw.hg
   have HI : Hid _ := hin4
   have HQB : Hid _ := hQb
   have HC : Hid _ := H1.out nv4 wr hin4
   clear hfr hin4 hQb hkw
   go_wp2_with fail
   refine Calls.mono HC.out ?_
   rintro _ w2 ⟨r, nv5, rfl, hf5, hi5, hv5⟩
   have hQ2 : w2.heap[Q]? = some (two2 (.pointer none) (.pointer none)) := HI.out.ob.other hf5 (by decide) (by decide) HQB.out
   have ql := blk_lt hQ2
   have qf : w2.frozen? ⟨Q, 0, none⟩ = false := blk_free hQ2 0
   have qc : w2.cell? ⟨Q, 0, none⟩ = some (.pointer none) := by rw [blk_cell hQ2]; rfl
   have hqw0 : w0.heap.size ≤ Q := by have := HW0.out; omega
   have HF5 : Hid _ := (HF.out.trans hf5).setNew (q := Q) (o := 0) (x := .pointer (some ⟨r, 0, none⟩)) (by omega)
   have HI5 : Hid _ := hi5.setElse (o := 0) (x := .pointer (some ⟨r, 0, none⟩)) hQ2 hqw0
   have HV5 : Hid _ := hv5.setElse (o := 0) (x := .pointer (some ⟨r, 0, none⟩)) hQ2
   have HQ5 : Hid ((w2.setCell ⟨Q, 0, none⟩ (.pointer (some ⟨r, 0, none⟩))).heap[Q]? = some (two2 (.pointer (some ⟨r, 0, none⟩)) (.pointer none))) := (blk_set hQ2 0 _).trans rfl
   clear hf5 hi5 hv5 hQ2 HC HI HQB
   go_wp2
   go_roundw
   case rel => exact ⟨1, nv5, by first | rfl | go_num, HF5.out, Or.inr ⟨rfl, r, HI5.out, HQ5.out, HV5.out⟩⟩
   case measure => simp [intOf]
  ·have hkw := HK.out.on hin4.ob.b0
   have u2 := hkw.c2
   have ul1 := hkw.hb
   have ul2 := hkw.hg
   have e4 : wr.cell? ⟨yb, 4, none⟩ = some (.bool (decide (r1.2.e ≠ 0))) := by rw [blk_cell hin4.ob.y]; rfl
   have hylr := blk_lt hin4.ob.y
   have qa : wr.cell? ⟨Q, 0, none⟩ = some (.pointer (some ⟨p1, 0, none⟩)) := by rw [blk_cell hQb]; rfl
   have qb : wr.cell? ⟨Q, 1, none⟩ = some (.pointer none) := by rw [blk_cell hQb]; rfl
   have ql := blk_lt hQb
   have HI : Hid _ := hin4
   by_cases he2 : r1.2.e = 0
   ·rw [show decide (r1.2.e ≠ 0) = false by simp [he2]] at e4
    have HC : Hid _ := HM.out nv4 wr p1 he2 hin4 hv1
    have HR : Hid _ := HRN.out he2
    clear hfr hin4 hQb hkw hv1 he2
    go_wp2_with fail
    refine Calls.mono HC.out ?_
    rintro _ w2 ⟨r, rfl, hf5, hi5, hv5⟩
    have HF5 : Hid _ := HF.out.trans hf5
    have HI5 : Hid _ := hi5
    have HV5 : Hid _ := hv5
    clear hf5 hi5 hv5 HC
    go_wp2
    go_ret
    rw [HR.out]
    exact ⟨r, nv4, rfl, HF5.out, HI5.out, HV5.out⟩
   ·rw [show decide (r1.2.e ≠ 0) = true by simp [he2]] at e4
    have HR : Hid _ := HRE.out he2
    clear hfr hin4 hQb hkw hv1 he2
    go_wp2
    go_ret
    rw [HR.out]
    have hbn := below_alZ (Below.refl _ wr) kn0
    exact ⟨wr.heap.size, nv4, rfl, HF.out.trans (FrO.below hbn _ _), HI.out.grow hbn, blk_new wr kn0⟩
theorem kgo_any {w0 : World} (yb fuel : Nat) : ∀ {vs : List Nat} {x : KE} {t : Nat}, KT vs x t → vs.length ≤ 100 → KGo w0 yb fuel x vs := by
 intro vs x t h
 induction h with
 | num _ => intro _; exact go1_of (kgo_num yb fuel _ _)
 | var h => intro hl; exact go1_of (kgo_var yb fuel _ _ (List.getElem?_eq_some_iff.1 h).1 (by omega))
 | let_ _ hl h1 _ ha hb => intro _; exact go1_of (kgo_let yb fuel _ _ _ _ h1 hl (ha (by omega)) (hb (by simp; omega)))
 | if_ h1 _ _ ha hb hc => intro hl; exact go1_of (kgo_if yb fuel _ _ _ _ h1 hl (ha hl) (hb hl) (hc hl))
 | loop hl h1 h2 h3 ha hb hc => intro _; exact go1_of (kgo_loop yb fuel _ _ _ _ _ h1 h2 h3 hl (ha (by omega)) (hb (by omega)) (hc (by simp; omega)))
 | pair _ _ h1 h2 ha hb => intro hl; exact go1_of (kgo_two yb fuel _ .pair 0 _ _ _ _ (by decide) (by decide) (by decide) h1 h2 hl (ha hl) (hb hl) (madeZ_pair yb fuel _ _))
 | fst h0 hp h1 ha => intro hl; exact go1_of (kgo_one yb fuel _ .fst _ _ (by decide) (by decide) (by decide) h1 hl (ha hl) (by rw [tyZ_pair hp h0]; exact madeZ_fst yb fuel _ _ _))
 | snd h0 hp h1 ha => intro hl; exact go1_of (kgo_one yb fuel _ .snd _ _ (by decide) (by decide) (by decide) h1 hl (ha hl) (by rw [tyZ_pair hp h0]; exact madeZ_snd yb fuel _ _ _))
 | two hk h1 h2 ha hb =>
  intro hl
  rcases hk with rfl | rfl | rfl
  ·exact go1_of (kgo_two yb fuel _ .add 0 _ _ _ _ (by decide) (by decide) (by decide) h1 h2 hl (ha hl) (hb hl) (madeZ_add yb fuel))
  ·exact go1_of (kgo_two yb fuel _ .sub 0 _ _ _ _ (by decide) (by decide) (by decide) h1 h2 hl (ha hl) (hb hl) (madeZ_sub yb fuel))
  ·exact go1_of (kgo_two yb fuel _ .less 0 _ _ _ _ (by decide) (by decide) (by decide) h1 h2 hl (ha hl) (hb hl) (madeZ_less yb fuel))
end Go.Proofs.YtpicaknklgccoaaGreatDoor
namespace Go.Proofs.YtpicaknklgccoaaGreatDoor
open Go.RowKit
theorem res_cells {w : World} {q : Nat} {S : ByteArray} {a b c d : Int} (h : w.heap[q]? = some (.cells #[.string S, .int .i64 a, .int .i64 b, .int .i64 c, .int .i64 d] 23)) :
  w.cell? ⟨q, 0, none⟩ = some (.string S) ∧ w.cell? ⟨q, 1, none⟩ = some (.int .i64 a) ∧ w.cell? ⟨q, 2, none⟩ = some (.int .i64 b) ∧ w.cell? ⟨q, 3, none⟩ = some (.int .i64 c) ∧ w.cell? ⟨q, 4, none⟩ = some (.int .i64 d) := by
 refine ⟨?_, ?_, ?_, ?_, ?_⟩ <;> (rw [blk_cell h]; rfl)
set_option maxRecDepth 100000 in
set_option maxHeartbeats 4000000 in
theorem run_ok (w : World) (x1 : Option Addr) (n1 c1 : Nat) (x2 : Option Addr) (n2 c2 : Nat) (fuel : Nat) (hf : fuel ≤ 20000) (S : ByteArray) (a b c d E : Int)
  (hrun : ∀ w', Below w.heap.size w w' → Calls Tryz.prog 59 #[treeV (.slice x1 n1 c1) (.slice x2 n2 c2), .int .i64 fuel] w' fun e w'' => e = .returned (.tuple #[.agg #[.string S, .int .i64 a, .int .i64 b, .int .i64 c, .int .i64 d], .int .i64 E]) ∧ Below w'.heap.size w' w'') :
  Calls Tryz.prog 32 #[treeV (.slice x1 n1 c1) (.slice x2 n2 c2), .int .i64 fuel] w fun e w' => e = .returned (.tuple #[.agg #[.string S, .int .i64 a, .int .i64 b, .int .i64 c, .int .i64 d], .int .i64 E]) ∧ Below w.heap.size w w' := by
 have HR : Hid _ := hrun
 clear hrun
 unfold treeV at HR
 unfold treeV
 go_enter Tryz.func32, Tryz.ntmps32
 go_wp2_with fail
 refine Calls.mono (HR.out _ (below_al (below_al (Below.refl _ _) _) _)) ?_
 rintro _ w2 ⟨rfl, hb2⟩
 have hq : w2.heap[w.heap.size + 1]? = some (.cells #[.string ⟨#[]⟩, .int .i64 0, .int .i64 0, .int .i64 0, .int .i64 0] 23) := by
  rw [hb2.block _ (by simp)]
  have := blk_new (w.alloc (.cells #[.slice x1 n1 c1, .slice x2 n2 c2] 59)) (.cells #[.string ⟨#[]⟩, .int .i64 0, .int .i64 0, .int .i64 0, .int .i64 0] 23)
  simpa using this
 have hB : Below w.heap.size w w2 := (below_al (below_al (Below.refl _ w) (.cells #[.slice x1 n1 c1, .slice x2 n2 c2] 59)) (.cells #[.string ⟨#[]⟩, .int .i64 0, .int .i64 0, .int .i64 0, .int .i64 0] 23)).trans (hb2.mono (by simp; omega))
 have HB : Hid _ := hB
 have hle : w.heap.size ≤ w.heap.size + 1 := by omega
 have HLE : Hid _ := hle
 clear hb2 hB hle HR
 generalize w.heap.size + 1 = q at *
 go_wp2_with (refine st_row rfl 23 (.tmp 4) (.tmp 16) rfl q #[.string S, .int .i64 a, .int .i64 b, .int .i64 c, .int .i64 d] rfl rfl 23 _ hq Tryz.infoRes rfl (by simp [Value.oneCell']) ?_; intro W hW hWs hWo hW1 hW2 hW3)
 obtain ⟨s0, s1, s2, s3, s4⟩ := res_cells hW
 have HBN : Hid _ := below_new HB.out HLE.out hWs hWo hW1 hW2 hW3
 clear hW hWs hWo hW1 hW2 hW3 HB hq
 go_wp2
 refine bodyPost_ret (v := .tuple #[.agg #[.string S, .int .i64 a, .int .i64 b, .int .i64 c, .int .i64 d], .int .i64 E]) (by simp [results, Tryz.results32, go_sem, s0, s1, s2, s3, s4]) rfl ⟨rfl, HBN.out⟩
set_option maxRecDepth 100000 in
set_option maxHeartbeats 4000000 in
theorem leaseEval_ok (s : ByteArray) (fuel : Int) (w : World) (e : PT) (y : Nat) (S : ByteArray) (a b c d E : Int) (hrd : ∀ w, Calls Tryz.prog 31 #[.string s] w fun v w' => ∃ x1 n1 c1 x2 n2 c2 ns, v = .returned (.tuple #[treeV (.slice x1 n1 c1) (.slice x2 n2 c2), .int .i64 0, .int .i64 y]) ∧ Below w.heap.size w w' ∧ TreeIn w' (.slice x1 n1 c1) (.slice x2 n2 c2) ns (opn e 0) ∧ NA [] e 0 ns)
  (hrn : ∀ (w' : World) (x1 : Option Addr) (n1 c1 : Nat) (x2 : Option Addr) (n2 c2 : Nat) (ns : List NR), Below w.heap.size w w' → TreeIn w' (.slice x1 n1 c1) (.slice x2 n2 c2) ns (opn e 0) → NA [] e 0 ns → Calls Tryz.prog 32 #[treeV (.slice x1 n1 c1) (.slice x2 n2 c2), .int .i64 fuel] w' fun v w'' => v = .returned (.tuple #[.agg #[.string S, .int .i64 a, .int .i64 b, .int .i64 c, .int .i64 d], .int .i64 E]) ∧ Below w'.heap.size w' w'') :
  Calls Tryz.prog 12 #[.string s, .int .i64 fuel] w fun v w' => v = .returned (.tuple #[.agg #[.string S, .int .i64 a, .int .i64 b, .int .i64 c, .int .i64 d], .int .i64 E]) ∧ Below w.heap.size w w' := by
 unfold treeV at hrd hrn
 have HR : Hid _ := hrd
 have HN : Hid _ := hrn
 clear hrd hrn
 go_enter Tryz.func12, Tryz.ntmps12
 go_wp2_with fail
 refine (HR.out _).mono ?_
 rintro _ w1 ⟨x1, n1, c1, x2, n2, c2, ns, rfl, hb, hT, hna⟩
 have hq : w1.heap[w.heap.size]? = some (.cells #[.string ⟨#[]⟩, .int .i64 0, .int .i64 0, .int .i64 0, .int .i64 0] 23) := kept1 hb
 have hB := below1 hb
 obtain ⟨W2, hE2⟩ : ∃ W2, W2 = w1.alloc (.cells #[.slice x1 n1 c1, .slice x2 n2 c2] 59) := ⟨_, rfl⟩
 have hb2 : Below w1.heap.size w1 W2 := by rw [hE2]; exact below_al (Below.refl _ _) _
 have hrn2 := HN.out W2 x1 n1 c1 x2 n2 c2 ns (hB.trans (hb2.mono hB.size)) (hT.below hb2) hna
 have HRN : Hid _ := hrn2
 have HB2 : Hid _ := hB.trans (hb2.mono hB.size)
 have HQ2 : Hid (W2.heap[w.heap.size]? = some (.cells #[.string ⟨#[]⟩, .int .i64 0, .int .i64 0, .int .i64 0, .int .i64 0] 23)) := by
  show W2.heap[w.heap.size]? = _
  rw [hb2.block _ (blk_lt hq)]; exact hq
 clear hb hT hna hq hB hb2 hrn2 HR HN
 go_wp2_with fail
 rw [← hE2]
 refine Calls.mono HRN.out ?_
 rintro _ w3 ⟨rfl, hb3⟩
 have hq3 : w3.heap[w.heap.size]? = some (.cells #[.string ⟨#[]⟩, .int .i64 0, .int .i64 0, .int .i64 0, .int .i64 0] 23) := by rw [hb3.block _ (blk_lt HQ2.out)]; exact HQ2.out
 have HB3 : Hid _ := HB2.out.trans (hb3.mono HB2.out.size)
 clear hb3 HRN HB2 HQ2 hE2
 go_wp2_with (refine st_row rfl 23 (.tmp 4) (.tmp 22) rfl w.heap.size #[.string S, .int .i64 a, .int .i64 b, .int .i64 c, .int .i64 d] rfl rfl 23 _ hq3 Tryz.infoRes rfl (by simp [Value.oneCell']) ?_; intro W hW hWs hWo hW1 hW2 hW3)
 obtain ⟨s0, s1, s2, s3, s4⟩ := res_cells hW
 have HBN : Hid _ := below_new HB3.out (Nat.le_refl _) hWs hWo hW1 hW2 hW3
 clear hW hWs hWo hW1 hW2 hW3 HB3 hq3
 go_wp2
 refine bodyPost_ret (v := .tuple #[.agg #[.string S, .int .i64 a, .int .i64 b, .int .i64 c, .int .i64 d], .int .i64 E]) (by simp [results, Tryz.results12, go_sem, s0, s1, s2, s3, s4]) rfl ⟨rfl, HBN.out⟩
end Go.Proofs.YtpicaknklgccoaaGreatDoor
