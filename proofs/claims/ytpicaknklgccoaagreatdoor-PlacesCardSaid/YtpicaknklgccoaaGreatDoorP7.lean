import Derived.Test.YtpicaknklgccoaaGreatDoorP6
namespace Go.Proofs.YtpicaknklgccoaaGreatDoor
open Go.RowKit
def loopF (cls : List Nat) (p : Nat) (nm : List UInt8) (kids : List PT) (id site : Nat) (env : TEnv) (st : TSt) : Ty × TSt :=
 if (tyLoop cls nm kids (id + 1) site env st).2.e ≠ 0 then (.n, (tyLoop cls nm kids (id + 1) site env st).2)
 else madeT cls .loop p site (tyLoop cls nm kids (id + 1) site env st).1 (tyLoop cls nm kids (id + 1) site env st).2
theorem step_store {w0 w wr w2 : World} {yb ab j : Nat} {cls : List Nat} {cv nv tv ov nv1 tv1 nv2 tv2 : Value} {env : TEnv} {st1 : TSt} {ks : List Ty} {ty : Ty}
  (hlc : ∀ g, cv.ownBlock = some g → g < ab) (hlo : ∀ g, ov.ownBlock = some g → g < ab) (hyb : yb < ab) (hwab : w.heap.size = ab) (hw0 : w0.heap.size ≤ ab) (hfr : Fr w wr yb nv tv ov nv1 tv1) (hab : ab < wr.heap.size) (hn1 : nv1.ownBlock ≠ some ab) (ht1 : tv1.ownBlock ≠ some ab)
  (hfr2 : Fr wr w2 yb nv1 tv1 ov nv2 tv2) (hin2 : TyIn w0 w2 yb cls cv nv2 tv2 ov env st1) (hka : wr.heap[ab]? = some (.cells (kArr ks) 139 (0, 0))) (hlk : ks.length = j) :
  nv2.ownBlock ≠ some ab ∧ tv2.ownBlock ≠ some ab ∧ w2.heap[ab]? = some (.cells (kArr ks) 139 (0, 0)) ∧ TyIn w0 (w2.setCell ⟨ab, j, none⟩ (.string (bs ty.txt))) yb cls cv nv2 tv2 ov env st1 ∧
  Fr w (w2.setCell ⟨ab, j, none⟩ (.string (bs ty.txt))) yb nv tv ov nv2 tv2 ∧ (w2.setCell ⟨ab, j, none⟩ (.string (bs ty.txt))).heap[ab]? = some (.cells (kArr (ks ++ [ty])) 139 (0, 0)) ∧ ab < w2.heap.size := by
 have hsz2 := hfr2.size
 have hn2 : nv2.ownBlock ≠ some ab := by
  intro e
  rcases hfr2.n _ e with e | e
  ·exact hn1 e
  ·omega
 have ht2 : tv2.ownBlock ≠ some ab := by
  intro e
  rcases hfr2.t _ e with e | e
  ·exact ht1 e
  ·omega
 have ho2 : ov.ownBlock ≠ some ab := fun e => by have := hlo _ e; omega
 have hc2 : cv.ownBlock ≠ some ab := fun e => by have := hlc _ e; omega
 have hka2 : w2.heap[ab]? = some (.cells (kArr ks) 139 (0, 0)) := by
  rw [hfr2.blk _ hab (by omega) hn1 ht1 ho2]; exact hka
 refine ⟨hn2, ht2, hka2, TyIn.other hin2 hw0 (by omega) hc2 hn2 ht2 ho2 rfl, ?_, ?_, by omega⟩
 ·have h := hfr.trans hfr2
  refine ⟨by have := h.size; simp [World.setCell]; exact this, ?_, h.n, h.t⟩
  intro q hq hy hn ht ho
  rw [blk_other _ _ (by simp only; omega)]
  exact h.blk q hq hy hn ht ho
 ·have h := blk_set hka2 j (.string (bs ty.txt))
  rw [← kArr_snoc, hlk]; exact h
set_option maxRecDepth 100000 in
set_option maxHeartbeats 8000000 in
theorem form_loop {w0 : World} {yb : Nat} {cls : List Nat} (p : Nat) (nm rg : List UInt8) (x1 x2 x3 : PT) (hit : ItFor w0 cls) (hcl : cls.length ≤ 9000)
  (hf1 : FindOk w0 yb cls x1) (hf2 : FindOk w0 yb cls x2) (hf3 : FindOk w0 yb cls x3) : FormOk w0 yb cls (.node p .loop nm rg [x1, x2, x3]) (fun id site env st => loopF cls p nm [x1, x2, x3] id site env st) := by
 intro id site b F env st cv nv tv ov w hT hin hid hsite hs1 hs2 henv
 simp only [IsT] at hT
 obtain ⟨hFb, kv, bl, hblk, hF, hkv, hts⟩ := hT
 have hb := blk_lt hblk
 have hw0 := hin.b0.size
 have hbw : b < w.heap.size := by omega
 have hne : b ≠ yb := by have := hin.hyb; omega
 obtain ⟨gk, kc, hvk⟩ : ∃ gk kc, kv = .slice (some ⟨gk, 0, none⟩) 3 kc := by
  rcases hkv.2 with ⟨_, h'⟩ | ⟨g, cap, cur, h, _⟩
  ·simp at h'
  ·exact ⟨_, _, h⟩
 subst hvk
 obtain ⟨b1, hb1, hT1⟩ := IsTs.at _ _ _ _ hts 0 x1 rfl
 obtain ⟨b2, hb2, hT2⟩ := IsTs.at _ _ _ _ hts 1 x2 rfl
 obtain ⟨b3, hb3, hT3⟩ := IsTs.at _ _ _ _ hts 2 x3 rfl
 have k1 : w0.cell? ⟨gk, 0, none⟩ = some (ptr b1) := by rw [hkv.cellAt 0 (by simp)]; simp [hb1]
 have k2 : w0.cell? ⟨gk, 1, none⟩ = some (ptr b2) := by rw [hkv.cellAt 1 (by simp)]; simp [hb2]
 have k3 : w0.cell? ⟨gk, 2, none⟩ = some (ptr b3) := by rw [hkv.cellAt 2 (by simp)]; simp [hb3]
 have hgkw : gk < w0.heap.size := World.block_lt_of_cell? _ _ k1
 have hgkw' : gk < w.heap.size := by omega
 have hbx : w.heap[b]? = some (.cells (exCells Kw.loop.bytes p nm (valueL rg) (.slice (some ⟨gk, 0, none⟩) 3 kc) id (id + cntL [x1, x2, x3]) site) 82 (0, 0)) := by rw [hin.b0.block b hb]; exact hblk
 have x0 : w.cell? ⟨b, 0, none⟩ = some (.string (bs Kw.loop.bytes)) := by rw [blk_cell hbx]; rfl
 have x4 : w.cell? ⟨b, 4, none⟩ = some (.slice (some ⟨gk, 0, none⟩) 3 kc) := by rw [blk_cell hbx]; rfl
 have k1w : w.cell? ⟨gk, 0, none⟩ = some (.pointer (some ⟨b1, 0, none⟩)) := (hin.b0.cell (p := ⟨gk, 0, none⟩) hgkw).trans k1
 have q0 : ((bs Kw.loop.bytes).toList == [110, 117, 109, 98, 101, 114]) = false := by rw [bs_beq0]; decide
 have q1 : ((bs Kw.loop.bytes).toList == [110, 97, 109, 101]) = false := by rw [bs_beq0]; decide
 have q2 : ((bs Kw.loop.bytes).toList == [108, 101, 116]) = false := by rw [bs_beq0]; decide
 have q3 : ((bs Kw.loop.bytes).toList == [108, 111, 111, 112]) = true := by rw [bs_beq0]; decide
 have hyb := hin.hyb
 simp only [PT.cnt, PT.prs, cntL, prsL] at hid hsite henv
 simp only [cntL, prsL, List.take_zero, List.take_succ_cons, Nat.add_zero] at hT1 hT2 hT3
 rw [if_neg (by decide)] at hsite hT1 hT2 hT3
 simp only [Nat.add_zero] at hT1 hT2 hT3
 rw [← Nat.add_assoc (id + 1), ← Nat.add_assoc site] at hT3
 have hlt1 : ∀ g, nv.ownBlock = some g → g < w.heap.size := fun g hg => (hin.n.lt g hg).2
 have hlt2 : ∀ g, tv.ownBlock = some g → g < w.heap.size := fun g hg => (hin.t.lt g hg).2
 have hlt3 : ∀ g, ov.ownBlock = some g → g < w.heap.size := fun g hg => (hin.o.lt g hg).2
 have hlt4 : ∀ g, cv.ownBlock = some g → g < w.heap.size := fun g hg => (hin.c.lt g hg).2
 have hyw := blk_lt hin.y
 have hinA : TyIn w0 (w.alloc (.cells (kArr []) 139)) yb cls cv nv tv ov env st := hin.grow ((Below.refl _ _).alloc (Nat.le_refl _) _)
 have hfrA : Fr w (w.alloc (.cells (kArr []) 139)) yb nv tv ov nv tv := Fr.below ((Below.refl _ _).alloc (Nat.le_refl _) _) _ _ _ _
 have hfo := hf1 (id + 1) site b1 F env st cv nv tv ov _ hT1 hinA (by omega) (by omega) hs1 hs2 (by omega)
 have heo : envOk env st := ⟨hs1, hs2⟩
 have hok1 := tyFind_ok cls hit.1 x1 (id + 1) site env st heo
 obtain ⟨R1, hR1⟩ : ∃ R, R = tyFind cls x1 (id + 1) site env st := ⟨_, rfl⟩
 rw [← hR1] at hfo hok1
 have heo2 : envOk env R1.2 := heo.on (fun h0 => (hok1.2.1 h0).1)
 have hok2 := tyFind_ok cls hit.1 x2 (id + 1 + x1.cnt) (site + x1.prs) env R1.2 heo2
 obtain ⟨R2, hR2⟩ : ∃ R, R = tyFind cls x2 (id + 1 + x1.cnt) (site + x1.prs) env R1.2 := ⟨_, rfl⟩
 rw [← hR2] at hok2
 have heo3 : envOk env R2.2 := heo2.on (fun h0 => (hok2.2.1 h0).1)
 have hok3 := tyFind_ok cls hit.1 x3 (id + 1 + x1.cnt + x2.cnt) (site + x1.prs + x2.prs) (env ++ [(nm, R2.1)]) R2.2 (heo2.snoc hok2)
 obtain ⟨R3, hR3⟩ : ∃ R, R = tyFind cls x3 (id + 1 + x1.cnt + x2.cnt) (site + x1.prs + x2.prs) (env ++ [(nm, R2.1)]) R2.2 := ⟨_, rfl⟩
 rw [← hR3] at hok3
 have hfin : loopF cls p nm [x1, x2, x3] id site env st = if R3.2.e ≠ 0 then (.n, R3.2) else madeT cls .loop p site [R1.1, R2.1, R3.1] R3.2 := by
  subst hR3; subst hR2; subst hR1; rfl
 have HFIN : Hid _ := hfin
 obtain ⟨FF, hFF⟩ : ∃ FF, FF = loopF cls p nm [x1, x2, x3] id site env st := ⟨_, rfl⟩
 show Calls _ _ #[Value.pointer (some ⟨yb, 0, none⟩), Value.pointer (some ⟨b, 0, none⟩)] w (fun v w' => v = .returned (.string (bs (loopF cls p nm [x1, x2, x3] id site env st).1.txt)) ∧ ∃ nv' tv', Fr w w' yb nv tv ov nv' tv' ∧ TyIn w0 w' yb cls cv nv' tv' ov env (loopF cls p nm [x1, x2, x3] id site env st).2)
 rw [← hFF] at HFIN ⊢
 unfold ptr at hfo
 have HBLK : Hid _ := hblk
 have HK2 : Hid _ := k2
 have HK3 : Hid _ := k3
 have HT2 : Hid _ := hT2
 have HT3 : Hid _ := hT3
 have HO1 : Hid (resOk st R1) := hok1
 have HO2 : Hid (resOk R1.2 R2) := hok2
 have HO3 : Hid (resOk R2.2 R3) := hok3
 have HE1 : Hid (envOk env st) := heo
 have HE2 : Hid (envOk env R1.2) := heo2
 have HE3 : Hid (envOk env R2.2) := heo3
 have HR2 : Hid _ := hR2
 have HR3 : Hid _ := hR3
 have HFA : Hid _ := hfrA
 clear hblk hin hkv hts hbx hFb hF hs1 hs2 k1 k2 k3 hT1 hT2 hT3 hR1 hR2 hR3 hfin hok1 hok2 hok3 hinA hb1 hb2 hb3 heo heo2 heo3 hFF hfrA
 go_enter Tryz.func113, Tryz.ntmps113
 go_wp2_with fail
 refine hfo.mono ?_
 rintro e w2 ⟨rfl, nv2, tv2, hfr2, hin2⟩
 obtain ⟨hn2, ht2, hka2, hWin, hWfr, hWka, hab2⟩ := step_store (ty := R1.1) (ks := []) (j := 0) hlt4 hlt3 hyw rfl hw0 HFA.out (by simp) (fun e => by have := hlt1 _ e; omega) (fun e => by have := hlt2 _ e; omega) hfr2 hin2 (blk_new _ _) rfl
 have z0 : w2.cell? ⟨w.heap.size, 0, none⟩ = some (.string (bs [])) := by rw [blk_cell hka2]; rfl
 have zf : w2.frozen? ⟨w.heap.size, 0, none⟩ = false := blk_free hka2 0
 have hb2' : w2.heap[b]? = some (.cells (exCells Kw.loop.bytes p nm (valueL rg) (.slice (some ⟨gk, 0, none⟩) 3 kc) id (id + cntL [x1, x2, x3]) site) 82 (0, 0)) := by rw [hin2.b0.block b hb]; exact HBLK.out
 have x42 : w2.cell? ⟨b, 4, none⟩ = some (.slice (some ⟨gk, 0, none⟩) 3 kc) := by rw [blk_cell hb2']; rfl
 have k22 : w2.cell? ⟨gk, 1, none⟩ = some (.pointer (some ⟨b2, 0, none⟩)) := (hin2.b0.cell (p := ⟨gk, 1, none⟩) hgkw).trans HK2.out
 have hfo2 := hf2 (id + 1 + x1.cnt) (site + x1.prs) b2 F env R1.2 cv nv2 tv2 ov _ HT2.out hWin (by have := HO1.out.2.2; omega) (by omega) HE2.out.1 HE2.out.2 (by omega)
 rw [← HR2.out] at hfo2
 unfold ptr at hfo2
 have HW2 : Hid _ := And.intro hWfr (And.intro hWka (And.intro hn2 ht2))
 have hbw2 : b < w2.heap.size := by omega
 clear hfo hfr2 hin2 hka2 hWin hWfr hWka hn2 ht2 hb2' x4 k1w x0 q0 q1 q2 q3
 go_wp2_with fail
 refine hfo2.mono ?_
 rintro e w3 ⟨rfl, nv3, tv3, hfr3, hin3⟩
 obtain ⟨hn3, ht3, hka3, hWin3, hWfr3, hWka3, hab3⟩ := step_store (ty := R2.1) (ks := [R1.1]) (j := 1) hlt4 hlt3 hyw rfl hw0 HW2.out.1 (by simp [World.setCell]; omega) HW2.out.2.2.1 HW2.out.2.2.2 hfr3 hin3 HW2.out.2.1 rfl
 have z1 : w3.cell? ⟨w.heap.size, 1, none⟩ = some (.string (bs [])) := by rw [blk_cell hka3]; rfl
 have zf1 : w3.frozen? ⟨w.heap.size, 1, none⟩ = false := blk_free hka3 1
 have z2 : w3.cell? ⟨w.heap.size, 2, none⟩ = some (.string (bs [])) := by rw [blk_cell hka3]; rfl
 have zf2 : w3.frozen? ⟨w.heap.size, 2, none⟩ = false := blk_free hka3 2
 have hb3' : w3.heap[b]? = some (.cells (exCells Kw.loop.bytes p nm (valueL rg) (.slice (some ⟨gk, 0, none⟩) 3 kc) id (id + cntL [x1, x2, x3]) site) 82 (0, 0)) := by rw [hin3.b0.block b hb]; exact HBLK.out
 have x23 : w3.cell? ⟨b, 2, none⟩ = some (.string (bs nm)) := by rw [blk_cell hb3']; rfl
 have x43 : w3.cell? ⟨b, 4, none⟩ = some (.slice (some ⟨gk, 0, none⟩) 3 kc) := by rw [blk_cell hb3']; rfl
 have k33 : w3.cell? ⟨gk, 2, none⟩ = some (.pointer (some ⟨b3, 0, none⟩)) := (hin3.b0.cell (p := ⟨gk, 2, none⟩) hgkw).trans HK3.out
 have hun : ∀ W, Below (w3.setCell ⟨w.heap.size, 1, none⟩ (.string (bs R2.1.txt))).heap.size (w3.setCell ⟨w.heap.size, 1, none⟩ (.string (bs R2.1.txt))) W → Calls Tryz.prog 143 #[.pointer (some ⟨yb, 0, none⟩), .string (bs nm), .string (bs R2.1.txt), .pointer (some ⟨b3, 0, none⟩)] W fun v w' => v = .returned (.string (bs R3.1.txt)) ∧
   ∃ nv' tv', nv'.ownBlock ≠ some w.heap.size ∧ tv'.ownBlock ≠ some w.heap.size ∧ w'.heap[w.heap.size]? = some (.cells (kArr [R1.1, R2.1]) 139 (0, 0)) ∧ TyIn w0 (w'.setCell ⟨w.heap.size, 2, none⟩ (.string (bs R3.1.txt))) yb cls cv nv' tv' ov env R3.2 ∧
    Fr w (w'.setCell ⟨w.heap.size, 2, none⟩ (.string (bs R3.1.txt))) yb nv tv ov nv' tv' ∧ (w'.setCell ⟨w.heap.size, 2, none⟩ (.string (bs R3.1.txt))).heap[w.heap.size]? = some (.cells (kArr [R1.1, R2.1, R3.1]) 139 (0, 0)) ∧ w.heap.size < w'.heap.size ∧ TyIn w0 w' yb cls cv nv' tv' ov env R3.2 := by
  intro W hW
  have hu := under_of hf3 (id + 1 + x1.cnt + x2.cnt) (site + x1.prs + x2.prs) b3 F env R2.2 cv nv3 tv3 ov W nm R2.1 HT3.out (hWin3.grow hW) (by have h1 := HO1.out.2.2; have h2 := HO2.out.2.2; omega) (by omega) HE3.out.1 HE3.out.2 HO2.out.1 (fun h0 => (HO2.out.2.1 h0).2) (by omega)
  rw [← HR3.out] at hu
  refine hu.mono ?_
  rintro e w' ⟨rfl, nv', tv', hfr', hin'⟩
  have hWab : w.heap.size < W.heap.size := by have h1 := hW.size; have h2 := blk_lt hWka3; omega
  obtain ⟨a1, a2, a3, a4, a5, a6, a7⟩ := step_store (ty := R3.1) (ks := [R1.1, R2.1]) (j := 2) hlt4 hlt3 hyw rfl hw0 (hWfr3.trans (Fr.below hW yb nv3 tv3 ov)) hWab hn3 ht3 hfr' hin' (by rw [hW.block _ (blk_lt hWka3)]; exact hWka3) rfl
  exact ⟨rfl, nv', tv', a1, a2, a3, a4, a5, a6, a7, hin'⟩
 have hbw3 : b < w3.heap.size := by omega
 have hgk3 : gk < w3.heap.size := by omega
 have hbab : b ≠ w.heap.size := by omega
 have hgab : gk ≠ w.heap.size := by omega
 clear hfo2 hfr3 hin3 hka3 hWin3 hWfr3 hWka3 hn3 ht3 hb3' x42 k22 z0 zf HW2 hlt1 hlt2 hlt3 hlt4
 go_wp2
 go_region_with (go_at_call 143; refine (hun _ ?_).mono ?_; exact ⟨rfl, rfl, rfl, Nat.le_refl _, fun _ _ => rfl⟩; rintro e w4 ⟨rfl, nv4, tv4, hn4, ht4, hka4, hWin4, hWfr4, hWka4, hab4, hin4⟩; have z24 : w4.cell? ⟨w.heap.size, 2, none⟩ = some (.string (bs [])) := (by rw [blk_cell hka4]; rfl); have zf24 : w4.frozen? ⟨w.heap.size, 2, none⟩ = false := blk_free hka4 2)
 all_goals
  have hbr4 : w4.heap[b]? = some (.cells (exCells Kw.loop.bytes p nm (valueL rg) (.slice (some ⟨gk, 0, none⟩) 3 kc) id (id + cntL [x1, x2, x3]) site) 82 (0, 0)) := by rw [hin4.b0.block b hb]; exact HBLK.out
  have y44 : w4.cell? ⟨yb, 4, none⟩ = some (.int .i64 (R3.2.e : Nat)) := by rw [blk_cell hin4.y]; rfl
  have a0 : w4.cell? ⟨w.heap.size, 0, none⟩ = some (.string (bs R1.1.txt)) := by rw [blk_cell hka4]; rfl
  have a1 : w4.cell? ⟨w.heap.size, 1, none⟩ = some (.string (bs R2.1.txt)) := by rw [blk_cell hka4]; rfl
  have hyab : yb ≠ w.heap.size := by omega
  have hmd : R3.2.e = 0 → ∀ W, Below (w4.setCell ⟨w.heap.size, 2, none⟩ (.string (bs R3.1.txt))).heap.size (w4.setCell ⟨w.heap.size, 2, none⟩ (.string (bs R3.1.txt))) W → Calls Tryz.prog 144 #[.pointer (some ⟨yb, 0, none⟩), .pointer (some ⟨b, 0, none⟩), .agg #[.string (bs R1.1.txt), .string (bs R2.1.txt), .string (bs R3.1.txt)]] W fun v w' =>
    v = .returned (.string (bs (madeT cls .loop p site [R1.1, R2.1, R3.1] R3.2).1.txt)) ∧ ∃ nv' tv', Fr w w' yb nv tv ov nv' tv' ∧ TyIn w0 w' yb cls cv nv' tv' ov env (madeT cls .loop p site [R1.1, R2.1, R3.1] R3.2).2 := by
   intro h0 W hW
   have hWi := hWin4.grow hW
   have hm := made_any W yb b cls cv nv4 tv4 ov _ R3.2 nm p (valueL rg) id (id + cntL [x1, x2, x3]) site w0.heap.size .loop [R1.1, R2.1, R3.1] hne h0 hWi.y (by rw [hWi.b0.block b hb]; exact HBLK.out) hWi.c hcl hit.1 (fun x hx w' hb => hit.2 x hx w' (hWi.b0.trans (hb.mono hWi.b0.size))) (by intro h; cases h) (by decide) rfl
    (by intro t ht; simp only [List.mem_cons, List.not_mem_nil, or_false] at ht; rcases ht with rfl | rfl | rfl; exact HO1.out.1; exact HO2.out.1; exact HO3.out.1)
   refine hm.mono ?_
   rintro e w' ⟨rfl, hg2, hy2⟩
   refine ⟨rfl, nv4, tv4, (hWfr4.trans (Fr.below hW _ _ _ _)).trans (Fr.grown hg2 _ _ _), ?_⟩
   have h := hWi.err hg2 hy2
   rw [← madeT_of cls .loop p site [R1.1, R2.1, R3.1] R3.2] at h
   exact h
  have HWF : Hid _ := And.intro hWfr4 hWin4
  clear hWin4 hWfr4 hWka4 hka4 hin4 hbr4 hn4 ht4
  by_cases h0 : R3.2.e = 0
  ·have hmd0 := hmd h0
   have y40 : w4.cell? ⟨yb, 4, none⟩ = some (.int .i64 0) := by rw [y44, h0]; rfl
   have HF2 : Hid (FF = madeT cls .loop p site [R1.1, R2.1, R3.1] R3.2) := by rw [HFIN.out, if_neg (by simpa using h0)]; rfl
   clear y44 h0 hmd
   go_wp2_with (go_at_call 144; refine (hmd0 _ ?_).mono ?_; exact ⟨rfl, rfl, rfl, Nat.le_refl _, fun _ _ => rfl⟩; rintro e w5 ⟨rfl, hw5⟩)
   go_ret
   rw [HF2.out]
   exact ⟨rfl, hw5⟩
  ·have h0' : ((R3.2.e : Int) != 0) = true := by rw [bne_iff_ne]; omega
   have HF2 : Hid (FF = (.n, R3.2)) := by rw [HFIN.out, if_pos h0]; rfl
   clear h0 hmd
   go_wp2_with fail
   go_ret
   rw [HF2.out]
   exact ⟨rfl, nv4, tv4, HWF.out.1.trans (Fr.below ⟨rfl, rfl, rfl, Nat.le_refl _, fun _ _ => rfl⟩ _ _ _ _), HWF.out.2.grow ⟨rfl, rfl, rfl, Nat.le_refl _, fun _ _ => rfl⟩⟩
theorem toks_mem : ∀ (f p : Nat) (l : List UInt8) (t : Tk), t ∈ toks f p l → ∃ l', l' ≠ [] ∧ t.s = l'.take (tokenOf l').1 ∧ t.c = (tokenOf l').2
 | 0, _, _, t, h => by simp [toks] at h
 | _ + 1, _, [], t, h => by simp [toks] at h
 | f + 1, p, c :: r, t, h => by
  simp only [toks] at h
  split at h
  ·exact toks_mem f _ r t h
  ·rcases List.mem_cons.1 h with h | h
   ·subst h; exact ⟨c :: r, by simp, rfl, rfl⟩
   ·exact toks_mem f _ _ t h
theorem tokenOf_num {l : List UInt8} (h : (tokenOf l).2 = .num) : (tokenOf l).1 ≤ 4 := by
 unfold tokenOf at h ⊢
 split at h
 ·rename_i h1
  simp only [wordCl] at h
  split at h
  ·cases h
  ·split at h <;> cases h
 ·rename_i h1
  split at h
  ·rename_i h2
   rw [if_neg h1, if_pos h2]
   simp only at h ⊢
   split at h
   ·rename_i h3
    unfold numeralB at h3
    simp only [Bool.and_eq_true, decide_eq_true_eq] at h3
    have := h3.1.2
    have hl := run_le 48 57 l
    simp only [List.length_take] at this
    omega
   ·cases h
  ·rename_i h2
   split at h
   ·cases h
   ·split at h
    ·simp only at h; split at h <;> cases h
    ·simp only at h; split at h
     ·cases h
     ·split at h <;> cases h
theorem tokenOf_reg {l : List UInt8} (h : (tokenOf l).2 = .reg) : (tokenOf l).1 ≤ 4 := by
 unfold tokenOf at h ⊢
 split at h
 ·rename_i h1
  simp only [wordCl] at h
  split at h
  ·cases h
  ·split at h <;> cases h
 ·rename_i h1
  rw [if_neg h1]
  split at h
  ·simp only at h; split at h <;> cases h
  ·rename_i h2
   rw [if_neg h2]
   split at h
   ·cases h
   ·rename_i c r
    split at h
    ·rename_i h3
     simp only at h
     rw [if_pos h3]
     simp only
     split at h
     ·rename_i h4
      unfold numeralB at h4
      simp only [Bool.and_eq_true, decide_eq_true_eq] at h4
      have := h4.1.2
      simp only [List.length_take] at this
      have hl := run_le 48 57 r
      omega
     ·cases h
    ·simp only at h; split at h
     ·cases h
     ·split at h <;> cases h
theorem tokenOf_kw {l : List UInt8} {k : Kw} (h : (tokenOf l).2 = .kw k) : l.take (tokenOf l).1 = k.bytes := by
 unfold tokenOf at h ⊢
 split at h
 ·rename_i h1
  rw [if_pos h1]
  simp only [wordCl] at h ⊢
  split at h
  ·rename_i k' hk
   simp only [Cl.kw.injEq] at h
   subst h
   exact kwOf_some hk
  ·split at h <;> cases h
 ·split at h
  ·simp only at h; split at h <;> cases h
  ·split at h
   ·cases h
   ·split at h
    ·simp only at h; split at h <;> cases h
    ·simp only at h; split at h
     ·cases h
     ·split at h <;> cases h
theorem toks_num {f p : Nat} {l : List UInt8} {t : Tk} (h : t ∈ toks f p l) (hc : t.c = .num) : t.s.length ≤ 5 := by
 obtain ⟨l', _, h1, h2⟩ := toks_mem f p l t h
 have := tokenOf_num (by rw [← h2]; exact hc)
 rw [h1]; simp; omega
theorem toks_reg {f p : Nat} {l : List UInt8} {t : Tk} (h : t ∈ toks f p l) (hc : t.c = .reg) : t.s.length ≤ 5 := by
 obtain ⟨l', _, h1, h2⟩ := toks_mem f p l t h
 have := tokenOf_reg (by rw [← h2]; exact hc)
 rw [h1]; simp; omega
theorem toks_ne {f p : Nat} {l : List UInt8} {t : Tk} (h : t ∈ toks f p l) : t.s ≠ [] := by
 obtain ⟨l', h0, h1, _⟩ := toks_mem f p l t h
 have hp := tokenOf_pos l'
 intro e
 rw [h1] at e
 rcases List.take_eq_nil_iff.1 e with e | e
 ·omega
 ·exact h0 e
theorem toks_kw {f p : Nat} {l : List UInt8} {t : Tk} {k : Kw} (h : t ∈ toks f p l) (hc : t.c = .kw k) : t.s = k.bytes := by
 obtain ⟨l', _, h1, h2⟩ := toks_mem f p l t h
 rw [h1]; exact tokenOf_kw (by rw [← h2]; exact hc)
theorem PW.kids_len {placed : Bool} : ∀ {ws : List Wt} {l : List Tk} {nm rg : List UInt8} {kids : List PT} {r : List Tk}, PW placed ws l nm rg kids r → kids.length = cntE ws
 | _, _, _, _, _, _, .nil => rfl
 | _, _, _, _, _, _, .close _ h1 => by have := PW.kids_len h1; simpa [cntE] using this
 | _, _, _, _, _, _, .name _ h1 => by have := PW.kids_len h1; simpa [cntE] using this
 | _, _, _, _, _, _, .region _ h1 => by have := PW.kids_len h1; simpa [cntE] using this
 | _, _, _, _, _, _, .e _ h1 => by have := PW.kids_len h1; simp [cntE] at this ⊢; exact this
theorem fin_len (id p : Nat) (x : Ty × TSt) : (fin id p x).2.of.length = x.2.of.length := by
 simp only [fin, List.length_set]
 split
 ·exact errS_len _ _ _
 ·rfl
theorem madeT_len (cls : List Nat) (k : Kw) (p site : Nat) (ks : List Ty) (st : TSt) : (madeT cls k p site ks st).2.of.length = st.of.length := by rw [madeT_of]
mutual
theorem tyFind_len (cls : List Nat) : ∀ (t : PT) (id site : Nat) (env : TEnv) (st : TSt), (tyFind cls t id site env st).2.of.length = st.of.length
 | .num p s, id, site, env, st => by simp only [tyFind]; rw [fin_len]
 | .name p s, id, site, env, st => by
  simp only [tyFind]; rw [fin_len]
  split
  ·rfl
  ·exact errS_len _ _ _
 | .node p k nm rg kids, id, site, env, st => by
  simp only [tyFind]; rw [fin_len]
  split
  ·exact tyLet_len cls nm kids _ _ _ _
  ·have hx : (if k = .loop then tyLoop cls nm kids (id + 1) site env st else tyKids cls kids (id + 1) (site + if k = .pair then 1 else 0) env st).2.of.length = st.of.length := by
    split
    ·exact tyLoop_len cls nm kids _ _ _ _
    ·exact tyKids_olen cls kids _ _ _ _
   generalize (if k = .loop then tyLoop cls nm kids (id + 1) site env st else tyKids cls kids (id + 1) (site + if k = .pair then 1 else 0) env st) = x at hx ⊢
   split
   ·exact hx
   ·rw [madeT_len]; exact hx
theorem tyKids_olen (cls : List Nat) : ∀ (ts : List PT) (id site : Nat) (env : TEnv) (st : TSt), (tyKids cls ts id site env st).2.of.length = st.of.length
 | [], _, _, _, _ => by simp only [tyKids]
 | a :: r, id, site, env, st => by simp only [tyKids]; rw [tyKids_olen cls r, tyFind_len cls a]
theorem tyLet_len (cls : List Nat) (nm : List UInt8) : ∀ (ts : List PT) (id site : Nat) (env : TEnv) (st : TSt), (tyLet cls nm ts id site env st).2.of.length = st.of.length
 | [a, b], id, site, env, st => by simp only [tyLet]; rw [tyFind_len cls b, tyFind_len cls a]
 | [], _, _, _, _ => by simp only [tyLet]
 | [_], _, _, _, _ => by simp only [tyLet]
 | _ :: _ :: _ :: _, _, _, _, _ => by simp only [tyLet]
theorem tyLoop_len (cls : List Nat) (nm : List UInt8) : ∀ (ts : List PT) (id site : Nat) (env : TEnv) (st : TSt), (tyLoop cls nm ts id site env st).2.of.length = st.of.length
 | [a, b, c], id, site, env, st => by simp only [tyLoop]; rw [tyFind_len cls c, tyFind_len cls b, tyFind_len cls a]
 | [], _, _, _, _ => by simp only [tyLoop]
 | [_], _, _, _, _ => by simp only [tyLoop]
 | [_, _], _, _, _, _ => by simp only [tyLoop]
 | _ :: _ :: _ :: _ :: _, _, _, _, _ => by simp only [tyLoop]
end
mutual
def PT.wf : PT → Prop
 | .num _ _ => True
 | .name _ _ => True
 | .node _ k _ _ kids => kids.length = arity k ∧ wfL kids
def wfL : List PT → Prop
 | [] => True
 | t :: r => t.wf ∧ wfL r
end
theorem wfL_mem : ∀ {ts : List PT}, wfL ts → ∀ t ∈ ts, t.wf
 | [], _, t, h => by simp at h
 | a :: r, hw, t, h => by
  simp only [wfL] at hw
  rcases List.mem_cons.1 h with h | h
  ·subst h; exact hw.1
  ·exact wfL_mem hw.2 t h
theorem find_all {w0 : World} {yb : Nat} {cls : List Nat} (hit : ItFor w0 cls) (hcl : cls.length ≤ 9000) (t : PT) : t.wf → FindOk w0 yb cls t := by
 induction t using PT.ind with
 | h1 p s =>
  intro _
  refine find_of (form_num w0 yb cls p s) (fun id site env st => by simp only [tyFind]; rfl) (fun _ _ _ _ => rfl) (fun _ _ _ _ _ _ => fit_n)
 | h2 p s =>
  intro _
  refine find_of (form_name w0 yb cls p s) (fun id site env st => by simp only [tyFind]; rfl) ?_ ?_
  ·intro id site env st
   unfold nameF
   split
   ·rfl
   ·exact errS_len _ _ _
  ·intro id site env st h1 h2
   simp only [nameF]
   split
   ·rename_i t ht
    obtain ⟨x, hx, rfl⟩ := look_mem ht
    exact h1 x hx
   ·exact fit_n
 | h3 p k nm rg kids ih =>
  intro hw
  simp only [PT.wf] at hw
  have hk : ∀ x ∈ kids, FindOk w0 yb cls x := fun x hx => ih x hx (wfL_mem hw.2 x hx)
  by_cases hl : k = .let_
  ·subst hl
   match kids, hw.1, hk with
   | [a, b], _, hk =>
    refine find_of (form_let p nm rg a b hit (hk a (by simp)) (hk b (by simp))) (fun id site env st => by simp only [tyFind]; rw [if_pos trivial]; rfl) (fun _ _ _ _ => tyLet_len _ _ _ _ _ _ _) ?_
    intro id site env st h1 h2
    exact (tyLet_ok cls hit.1 nm [a, b] _ _ env st ⟨h1, h2⟩).1
  ·by_cases hl2 : k = .loop
   ·subst hl2
    match kids, hw.1, hk with
    | [a, b, c], _, hk =>
     refine find_of (form_loop p nm rg a b c hit hcl (hk a (by simp)) (hk b (by simp)) (hk c (by simp))) (fun id site env st => by simp only [tyFind]; rw [if_neg (by decide), if_pos trivial]; rfl) ?_ ?_
     ·intro id site env st
      simp only [loopF]
      split
      ·exact tyLoop_len _ _ _ _ _ _ _
      ·rw [madeT_len]; exact tyLoop_len _ _ _ _ _ _ _
     ·intro id site env st h1 h2
      have hx := tyLoop_ok cls hit.1 nm [a, b, c] (id + 1) site env st ⟨h1, h2⟩
      simp only [loopF]
      split
      ·exact fit_n
      ·rename_i hne
       have h0 : (tyLoop cls nm [a, b, c] (id + 1) site env st).2.e = 0 := by simpa using hne
       exact (made_pre hit.1 (fun t ht => ⟨hx.1 t ht, (hx.2.1 h0).2 t ht⟩)).1
   ·refine find_of (form_kids p k nm rg kids hit hcl hl hl2 hw.1 hk) (fun id site env st => by simp only [tyFind]; rw [if_neg hl, if_neg hl2]; rfl) ?_ ?_
    ·intro id site env st
     simp only [kidsF]
     generalize (site + if k = .pair then 1 else 0) = s1
     split
     ·exact tyKids_olen _ _ _ _ _ _
     ·rw [madeT_len]; exact tyKids_olen _ _ _ _ _ _
    ·intro id site env st h1 h2
     have hx := tyKids_ok cls hit.1 kids (id + 1) (site + if k = .pair then 1 else 0) env st ⟨h1, h2⟩
     simp only [kidsF]
     generalize (site + if k = .pair then 1 else 0) = s1 at hx ⊢
     split
     ·exact fit_n
     ·rename_i hne
      have h0 : (tyKids cls kids (id + 1) s1 env st).2.e = 0 := by simpa using hne
      exact (made_pre hit.1 (fun t ht => ⟨hx.1 t ht, (hx.2.1 h0).2 t ht⟩)).1
open Go.Lib (decDigits)
inductive WT : TEnv → PT → Ty → Prop
 | num {G : TEnv} {p : Nat} {s : List UInt8} : WT G (.num p s) .n
 | name {G : TEnv} {p : Nat} {s : List UInt8} {T : Ty} (h : look G s = some T) : WT G (.name p s) T
 | let_ {G : TEnv} {p : Nat} {nm rg : List UInt8} {a b : PT} {A B : Ty} (ha : WT G a A) (hb : WT (G ++ [(nm, A)]) b B) : WT G (.node p .let_ nm rg [a, b]) B
 | pair {G : TEnv} {p : Nat} {nm rg : List UInt8} {a b : PT} {A B : Ty} (ha : WT G a A) (hb : WT G b B) (hs : (Ty.p 0 A B).size ≤ 63) : WT G (.node p .pair nm rg [a, b]) (.p 0 A B)
 | fst {G : TEnv} {p : Nat} {nm rg : List UInt8} {a : PT} {A B : Ty} (ha : WT G a (.p 0 A B)) : WT G (.node p .fst nm rg [a]) A
 | snd {G : TEnv} {p : Nat} {nm rg : List UInt8} {a : PT} {A B : Ty} (ha : WT G a (.p 0 A B)) : WT G (.node p .snd nm rg [a]) B
 | if_ {G : TEnv} {p : Nat} {nm rg : List UInt8} {a b c : PT} {T : Ty} (ha : WT G a .n) (hb : WT G b T) (hc : WT G c T) : WT G (.node p .if_ nm rg [a, b, c]) T
 | two {G : TEnv} {p : Nat} {k : Kw} {nm rg : List UInt8} {a b : PT} (hk : k = .add ∨ k = .sub ∨ k = .less) (ha : WT G a .n) (hb : WT G b .n) : WT G (.node p k nm rg [a, b]) .n
 | loop {G : TEnv} {p : Nat} {nm rg : List UInt8} {a b c : PT} {T : Ty} (ha : WT G a .n) (hb : WT G b T) (hc : WT (G ++ [(nm, T)]) c T) : WT G (.node p .loop nm rg [a, b, c]) T
 | new {G : TEnv} {p : Nat} {nm rg : List UInt8} {a : PT} {T : Ty} (ha : WT G a T) : WT G (.node p .new nm rg [a]) T
def bareE (env : TEnv) : TEnv := env.map (fun x => (x.1, x.2.bare))
theorem bare_sizeE (t : Ty) : t.bare.size = t.size := by induction t <;> simp [Ty.bare, Ty.size, *]
theorem look_bare (env : TEnv) (s : List UInt8) : look (bareE env) s = (look env s).map Ty.bare := by
 unfold look bareE
 rw [← List.map_reverse, List.find?_map]
 simp only [Function.comp_def, Option.map_map]
theorem bareE_snoc (env : TEnv) (nm : List UInt8) (T : Ty) : bareE (env ++ [(nm, T)]) = bareE env ++ [(nm, T.bare)] := by simp [bareE]
theorem errS_zero {st : TSt} {e p : Nat} (he : e ≠ 0) (h : (errS st e p).e = 0) : False := errS_e st e p he h
theorem fin_zero {id p : Nat} {x : Ty × TSt} (h : (fin id p x).2.e = 0) : x.2.e = 0 ∧ x.1.size ≤ 63 := by
 unfold fin at h
 simp only at h
 split at h
 ·exact (errS_zero (by decide) h).elim
 ·rename_i hn
  refine ⟨h, ?_⟩
  rcases Nat.lt_or_ge 63 x.1.size with h1 | h1
  ·exact absurd ⟨h, h1⟩ hn
  ·exact h1
theorem fin_ty (id p : Nat) (x : Ty × TSt) : (fin id p x).1 = x.1 := by unfold fin; rfl
def WTs (G : TEnv) : List PT → List Ty → Prop
 | [], [] => True
 | a :: r, T :: Ts => WT G a T ∧ WTs G r Ts
 | _, _ => False
theorem made_WT {cls : List Nat} {k : Kw} {p site : Nat} {ks : List Ty} {st : TSt} {G : TEnv} {nm rg : List UInt8} {kids : List PT} (hk1 : k ≠ .let_) (hk2 : k ≠ .loop) (hw : kids.length = arity k) (hks : WTs G kids (ks.map Ty.bare))
  (h0 : (madeT cls k p site ks st).2.e = 0) (hsz : (madeT cls k p site ks st).1.size ≤ 63) : WT G (.node p k nm rg kids) (madeT cls k p site ks st).1.bare := by
 unfold madeT at h0 hsz ⊢
 split at h0
 ·match kids, hw, hks with
  | [a], _, hks => simp only [List.map_cons, WTs] at hks; exact .new hks.1
 ·match kids, hw, hks with
  | [a, b], _, hks =>
   simp only [List.map_cons, List.map_nil, WTs] at hks
   simp only [Ty.size] at hsz
   exact .pair hks.1 hks.2.1 (by simp only [Ty.size, bare_sizeE]; omega)
 ·match kids, hw, hks with
  | [a], _, hks => simp only [List.map_cons, WTs, Ty.bare] at hks; exact .fst hks.1
 ·match kids, hw, hks with
  | [a], _, hks => simp only [List.map_cons, WTs, Ty.bare] at hks; exact .snd hks.1
 ·match kids, hw, hks with
  | [a, b, c], _, hks =>
   simp only [List.map_cons, List.map_nil, WTs] at hks
   split at h0
   ·rename_i hc
    simp only [if_pos hc]
    rw [hc.1] at hks
    exact .if_ hks.1 hks.2.1 (by rw [hc.2]; exact hks.2.2.1)
   ·exact (errS_zero (by decide) h0).elim
 ·exact absurd rfl hk2
 all_goals first
  | (exact (errS_zero (by decide) h0).elim)
  | (match kids, hw, hks with
     | [a, b], _, hks =>
      simp only [List.map_cons, List.map_nil, WTs] at hks
      split at h0
      ·rename_i hc
       simp only [if_pos hc]
       rw [hc.1, hc.2] at hks
       exact .two (by simp) hks.1 hks.2.1
      ·exact (errS_zero (by decide) h0).elim)
mutual
theorem tyFind_WT (cls : List Nat) : ∀ (t : PT) (id site : Nat) (env : TEnv) (st : TSt), t.wf → (tyFind cls t id site env st).2.e = 0 → st.e = 0 ∧ (tyFind cls t id site env st).1.size ≤ 63 ∧ WT (bareE env) t (tyFind cls t id site env st).1.bare
 | .num p s, id, site, env, st, _, h => by
  simp only [tyFind] at h ⊢
  have := fin_zero h
  rw [fin_ty]
  exact ⟨this.1, this.2, .num⟩
 | .name p s, id, site, env, st, _, h => by
  simp only [tyFind] at h ⊢
  have hz := fin_zero h
  rw [fin_ty]
  split at hz
  ·rename_i t ht
   exact ⟨hz.1, hz.2, .name (by rw [look_bare, ht]; rfl)⟩
  ·exact (errS_zero (by decide) hz.1).elim
 | .node p k nm rg kids, id, site, env, st, hw, h => by
  simp only [PT.wf] at hw
  simp only [tyFind] at h ⊢
  have hz := fin_zero h
  rw [fin_ty]
  by_cases hk : k = .let_
  ·subst hk
   simp only [if_pos] at hz ⊢
   have := tyLet_WT cls nm p rg kids (id + 1) site env st hw.1 hw.2 hz.1
   exact ⟨this.1, hz.2, this.2⟩
  ·simp only [if_neg hk] at hz ⊢
   by_cases hl : k = .loop
   ·subst hl
    simp only [if_pos] at hz ⊢
    split at hz
    ·rename_i hne; exact absurd hz.1 hne
    ·rename_i hne
     rw [if_neg hne]
     have h0 : (tyLoop cls nm kids (id + 1) site env st).2.e = 0 := by simpa using hne
     have := tyLoop_WT cls nm p rg kids (id + 1) site env st hw.1 hw.2 h0 p site hz.1
     exact ⟨this.1, hz.2, this.2⟩
   ·simp only [if_neg hl] at hz ⊢
    have hks := tyKids_WT cls kids (id + 1) (site + if k = .pair then 1 else 0) env st hw.2
    generalize tyKids cls kids (id + 1) (site + if k = .pair then 1 else 0) env st = x at hks hz ⊢
    by_cases hne : x.2.e ≠ 0
    ·rw [if_pos hne] at hz; exact absurd hz.1 hne
    ·rw [if_neg hne] at hz ⊢
     have hks := hks (by simpa using hne)
     exact ⟨hks.1, hz.2, made_WT hk hl hw.1 hks.2 hz.1 hz.2⟩
theorem tyKids_WT (cls : List Nat) : ∀ (ts : List PT) (id site : Nat) (env : TEnv) (st : TSt), wfL ts → (tyKids cls ts id site env st).2.e = 0 → st.e = 0 ∧ WTs (bareE env) ts ((tyKids cls ts id site env st).1.map Ty.bare)
 | [], _, _, _, st, _, h => by simp only [tyKids] at h ⊢; exact ⟨h, trivial⟩
 | a :: r, id, site, env, st, hw, h => by
  simp only [wfL] at hw
  simp only [tyKids] at h ⊢
  have h2 := tyKids_WT cls r (id + a.cnt) (site + a.prs) env _ hw.2 h
  have h1 := tyFind_WT cls a id site env st hw.1 h2.1
  exact ⟨h1.1, h1.2.2, h2.2⟩
theorem tyLet_WT (cls : List Nat) (nm : List UInt8) (p : Nat) (rg : List UInt8) : ∀ (ts : List PT) (id site : Nat) (env : TEnv) (st : TSt), ts.length = arity .let_ → wfL ts → (tyLet cls nm ts id site env st).2.e = 0 → st.e = 0 ∧ WT (bareE env) (.node p .let_ nm rg ts) (tyLet cls nm ts id site env st).1.bare
 | [a, b], id, site, env, st, _, hw, h => by
  simp only [wfL] at hw
  simp only [tyLet] at h ⊢
  have h2 := tyFind_WT cls b (id + a.cnt) (site + a.prs) _ _ hw.2.1 h
  have h1 := tyFind_WT cls a id site env st hw.1 h2.1
  rw [bareE_snoc] at h2
  exact ⟨h1.1, .let_ h1.2.2 h2.2.2⟩
 | [], _, _, _, _, hl, _, _ => by simp [arity] at hl
 | [_], _, _, _, _, hl, _, _ => by simp [arity] at hl
 | _ :: _ :: _ :: _, _, _, _, _, hl, _, _ => by simp [arity] at hl
theorem tyLoop_WT (cls : List Nat) (nm : List UInt8) (p : Nat) (rg : List UInt8) : ∀ (ts : List PT) (id site : Nat) (env : TEnv) (st : TSt), ts.length = arity .loop → wfL ts → (tyLoop cls nm ts id site env st).2.e = 0 →
  ∀ q s, (madeT cls .loop q s (tyLoop cls nm ts id site env st).1 (tyLoop cls nm ts id site env st).2).2.e = 0 → st.e = 0 ∧ WT (bareE env) (.node p .loop nm rg ts) (madeT cls .loop q s (tyLoop cls nm ts id site env st).1 (tyLoop cls nm ts id site env st).2).1.bare
 | [a, b, c], id, site, env, st, _, hw, h, q, s, hm => by
  simp only [wfL] at hw
  simp only [tyLoop] at h hm ⊢
  have h3 := tyFind_WT cls c (id + a.cnt + b.cnt) (site + a.prs + b.prs) _ _ hw.2.2.1 h
  have h2 := tyFind_WT cls b (id + a.cnt) (site + a.prs) env _ hw.2.1 h3.1
  have h1 := tyFind_WT cls a id site env st hw.1 h2.1
  rw [bareE_snoc] at h3
  simp only [madeT] at hm ⊢
  split at hm
  ·rename_i hc
   rw [if_pos hc]
   refine ⟨h1.1, ?_⟩
   have ha := h1.2.2
   rw [hc.1] at ha
   exact .loop ha h2.2.2 (by have := h3.2.2; rw [← hc.2] at this; exact this)
  ·exact (errS_zero (by decide) hm).elim
 | [], _, _, _, _, hl, _, _, _, _, _ => by simp [arity] at hl
 | [_], _, _, _, _, hl, _, _, _, _, _ => by simp [arity] at hl
 | [_, _], _, _, _, _, hl, _, _, _, _, _ => by simp [arity] at hl
 | _ :: _ :: _ :: _ :: _, _, _, _, _, hl, _, _, _, _, _ => by simp [arity] at hl
end
def numL (l : List UInt8) : Int := l.foldl (fun n c => 10 * n + (c.toNat : Int) - 48) 0
theorem numL_snoc (l : List UInt8) (c : UInt8) : numL (l ++ [c]) = 10 * numL l + (c.toNat : Int) - 48 := by
 unfold numL; rw [List.foldl_append]; rfl
theorem numL_dec (u : Nat) : numL (decDigits u) = u := by
 induction u using Nat.strongRecOn with
 | _ u ih =>
  have key : ∀ k, k < 10 → ((UInt8.ofNat (48 + k)).toNat : Int) = 48 + k := by
   intro k hk
   have : (UInt8.ofNat (48 + k)).toNat = 48 + k := by simp; omega
   omega
  rw [decDigits]
  split
  ·rename_i h
   show 10 * (0 : Int) + ((UInt8.ofNat (48 + u)).toNat : Int) - 48 = u
   rw [key u h]; omega
  ·rw [numL_snoc, ih (u / 10) (by omega), key _ (by omega)]; omega
theorem numL_bd : ∀ (l : List UInt8) (a b : Int), a ≤ 0 → 0 ≤ b → l.length ≤ 5 → ∀ k, k ≤ l.length → -(30 * 10 ^ k - 30) ≤ numL (l.take k) ∧ numL (l.take k) ≤ 30 * 10 ^ k - 30 := by
 intro l a b _ _ hl k
 induction k with
 | zero => intro _; simp [numL]
 | succ k ih =>
  intro hk
  have hlt : k < l.length := by omega
  have h := ih (by omega)
  rw [List.take_succ_eq_append_getElem hlt, numL_snoc]
  have hc : (l[k].toNat : Int) < 256 := by have := l[k].toNat_lt; omega
  have hp : (10 : Int) ^ (k + 1) = 10 * 10 ^ k := by rw [Int.pow_succ]; omega
  rw [hp]
  omega
def Ty.rgl : Ty → List Nat
 | .n => []
 | .p r a b => r :: (a.rgl ++ b.rgl)
def scanR : List UInt8 → List Nat
 | [] => []
 | c :: r => if c = 60 then (numL (r.takeWhile (fun c => c != 58))).toNat :: scanR r else scanR r
theorem scan_skip : ∀ (l r : List UInt8), (∀ c ∈ l, c ≠ 60) → scanR (l ++ r) = scanR r
 | [], r, _ => rfl
 | c :: l, r, h => by
  simp only [List.cons_append, scanR]
  rw [if_neg (h c (by simp))]
  exact scan_skip l r (fun x hx => h x (by simp [hx]))
theorem digit_60 {c : UInt8} (h : digitB c = true) : c ≠ 60 ∧ c ≠ 58 := by
 constructor <;> (intro e; subst e; revert h; decide)
theorem take_dec (u : Nat) (r : List UInt8) : (decDigits u ++ 58 :: r).takeWhile (fun c => c != 58) = decDigits u := by
 have hd := dec_digit u
 generalize decDigits u = l at *
 induction l with
 | nil => simp
 | cons c l ih =>
  have := (digit_60 (hd c (by simp))).2
  simp only [List.cons_append, List.takeWhile_cons]
  rw [if_pos (by simpa using this), ih (fun x hx => hd x (by simp [hx]))]
theorem scanR_txt : ∀ (T : Ty) (z : List UInt8), scanR (T.txt ++ z) = T.rgl ++ scanR z
 | .n, z => by simp only [Ty.txt, Ty.rgl, List.cons_append, List.nil_append, scanR]; rw [if_neg (by decide)]
 | .p r a b, z => by
  simp only [Ty.txt, Ty.rgl, List.cons_append, List.append_assoc, scanR]
  rw [if_pos trivial, take_dec, numL_dec, Int.toNat_natCast, scan_skip _ _ (fun c hc => (digit_60 (dec_digit r c hc)).1)]
  simp only [scanR]
  rw [if_neg (by decide), scanR_txt a, scanR_txt b]
  simp only [List.nil_append, scanR]
  rw [if_neg (by decide)]
theorem scan_rgl (T : Ty) : scanR T.txt = T.rgl := by
 have := scanR_txt T []
 simpa [scanR] using this
theorem txt_lt : ∀ (T : Ty), T.regs → ∀ (z : List UInt8) (k : Nat), k < T.txt.length → (T.txt ++ z)[k]? = some 60 → ∃ u rest, u < 1000 ∧ (T.txt ++ z).drop (k + 1) = decDigits u ++ 58 :: rest
 | .n, _, z, k, hk, h => by
  simp only [Ty.txt, List.length_singleton] at hk
  have : k = 0 := by omega
  subst this
  simp [Ty.txt] at h
 | .p r a b, hr, z, k, hk, h => by
  simp only [Ty.regs] at hr
  simp only [Ty.txt, List.length_cons, List.length_append, List.length_nil] at hk
  have ex : (Ty.p r a b).txt ++ z = 60 :: (decDigits r ++ 58 :: (a.txt ++ (b.txt ++ 62 :: z))) := by simp [Ty.txt]
  rw [ex] at h ⊢
  cases k with
  | zero => exact ⟨r, a.txt ++ (b.txt ++ 62 :: z), hr.1, by simp⟩
  | succ k =>
   simp only [List.getElem?_cons_succ] at h
   by_cases h1 : k < (decDigits r).length
   ·rw [List.getElem?_append_left h1] at h
    exact absurd rfl (digit_60 (dec_digit r 60 (List.mem_of_getElem? h))).1
   ·rw [List.getElem?_append_right (by omega)] at h
    obtain ⟨j, hj⟩ : ∃ j, k = (decDigits r).length + j := ⟨k - (decDigits r).length, by omega⟩
    subst hj
    rw [Nat.add_sub_cancel_left] at h
    cases j with
    | zero => simp at h
    | succ j =>
     simp only [List.getElem?_cons_succ] at h
     have hd : (60 :: (decDigits r ++ 58 :: (a.txt ++ (b.txt ++ 62 :: z)))).drop ((decDigits r).length + (j + 1) + 1 + 1) = (a.txt ++ (b.txt ++ 62 :: z)).drop (j + 1) := by
      rw [List.drop_succ_cons, List.drop_append]
      rw [List.drop_eq_nil_of_le (by omega), List.nil_append, show (decDigits r).length + (j + 1) + 1 - (decDigits r).length = (j + 1) + 1 by omega, List.drop_succ_cons]
     rw [hd]
     by_cases h2 : j < a.txt.length
     ·exact txt_lt a hr.2.1 (b.txt ++ 62 :: z) j h2 h
     ·rw [List.getElem?_append_right (by omega)] at h
      obtain ⟨i, hi⟩ : ∃ i, j = a.txt.length + i := ⟨j - a.txt.length, by omega⟩
      subst hi
      rw [Nat.add_sub_cancel_left] at h
      have hd2 : (a.txt ++ (b.txt ++ 62 :: z)).drop (a.txt.length + i + 1) = (b.txt ++ 62 :: z).drop (i + 1) := by
       rw [List.drop_append, List.drop_eq_nil_of_le (by omega), List.nil_append, show a.txt.length + i + 1 - a.txt.length = i + 1 by omega]
      rw [hd2]
      by_cases h3 : i < b.txt.length
      ·exact txt_lt b hr.2.2 (62 :: z) i h3 h
      ·have hi : i = b.txt.length := by omega
       subst hi
       rw [List.getElem?_append_right (Nat.le_refl _), Nat.sub_self] at h
       simp at h
theorem Tryz.infoIntU : (Tryz.prog.info? 3).map (fun i => (i.zero, i.size, i.bytes)) = some (some (.int .i64 0), 1, 8) := by kernel_rfl
theorem Tryz.undIntsU : Tryz.prog.underlying 42 = some (.slice 3) := by kernel_rfl
set_option maxRecDepth 100000 in
set_option maxHeartbeats 4000000 in
theorem regions_any (T : Ty) (hT : T.fit) (w : World) : Calls Tryz.prog 112 #[.string (bs T.txt)] w fun e w' => ∃ v, e = .returned v ∧ w'.ownsRow w.heap.size 3 1 v T.rgl.length (T.rgl.map fun (x : Nat) => Value.int .i64 x) ∧ Below w.heap.size w w' := by
 obtain ⟨i0, hi, hz0, hz1, hz2⟩ := info_parts Tryz.infoIntU
 have HI : Hid _ := hi
 have HZ0 : Hid _ := hz0
 have HZ1 : Hid _ := hz1
 have HZ2 : Hid _ := hz2
 clear hi hz0 hz1 hz2
 have hlen := fit_len hT
 have hlt := txt_lt T hT.2 []
 rw [List.append_nil] at hlt
 obtain ⟨S, hS⟩ : ∃ S, S = bs T.txt := ⟨_, rfl⟩
 have hSs : S.size ≤ 1000 := by rw [hS, bs_size]; exact hlen
 have hSl : S.data.toList = T.txt := by rw [hS]; simp [bs]
 have HSL : Hid _ := hSl
 have HLT : Hid (∀ k, (hk : k < S.size) → S[k] = 60 → ∃ u rest, u < 1000 ∧ S.data.toList.drop (k + 1) = decDigits u ++ 58 :: rest) := by
  intro k hk h60
  rw [hSl]
  refine hlt k (by rw [hS, bs_size] at hk; exact hk) ?_
  subst hS
  rw [List.getElem?_eq_getElem (by rw [bs_size] at hk; exact hk)]
  rw [← h60]; rfl
 rw [← hS, ← scan_rgl T, ← hSl]
 clear hS hlen hlt hSl hT
 go_enter Tryz.func112, Tryz.ntmps112
 go_wp2
 go_loopw [3, 4] (fun l i wr => ∃ (k : Nat) (L : List Nat), k ≤ S.size ∧ i = .int .i64 k ∧ L.length ≤ k ∧ wr.ownsRow w.heap.size 3 1 l L.length (L.map fun (x : Nat) => Value.int .i64 x) ∧ Below w.heap.size w wr ∧ L ++ scanR (S.data.toList.drop k) = scanR S.data.toList) (fun _ i _ => S.size - (intOf i).toNat)
 case atStart => exact ⟨0, [], Nat.zero_le _, rfl, Nat.le_refl _, World.ownsRow_nil _ _ _ _, Below.refl _ _, rfl⟩
 case round =>
  obtain ⟨k, L, hk, rfl, hLl, hown, hbel, hsc⟩ := hrel
  have HOWN : Hid _ := hown
  have HB : Hid _ := hbel
  have HSC : Hid _ := hsc
  have hsz := hbel.size
  clear hown hbel hsc
  by_cases hlt : k < S.size
  ·have hdk : S.data.toList.drop k = S[k] :: S.data.toList.drop (k + 1) := by
    rw [List.drop_eq_getElem_cons (by simpa using hlt)]; rfl
   by_cases h60 : S[k] = 60
   ·have q60 : ((S[k].toNat : Int) != 60) = false := by rw [h60]; rfl
    obtain ⟨u, rest, hu, hdr⟩ := HLT.out k hlt h60
    have hD := dec_len u hu
    have hdig := dec_digit u
    have hnum := numL_dec u
    have htk := take_dec u rest
    obtain ⟨dg, hdg⟩ : ∃ dg, dg = decDigits u := ⟨_, rfl⟩
    rw [← hdg] at hdr hD hdig hnum htk
    clear hdg
    have hscan : scanR (S.data.toList.drop k) = u :: scanR (S.data.toList.drop (k + 1)) := by
     rw [hdk]; simp only [scanR]; rw [if_pos h60, hdr, htk, hnum, Int.toNat_natCast]
    have hlen2 : S.size = k + 1 + dg.length + 1 + rest.length := by
     have := congrArg List.length hdr
     simp only [List.length_drop, List.length_append, List.length_cons, Array.length_toList] at this
     have e : S.data.size = S.size := rfl
     omega
    have hat : ∀ j, (hj : j < dg.length) → (hl : k + 1 + j < S.size) → S[k + 1 + j] = dg[j] := by
     intro j hj hl
     have h1 : S.data.toList[k + 1 + j]? = some dg[j] := by
      rw [← List.getElem?_drop, hdr, List.getElem?_append_left hj, List.getElem?_eq_getElem hj]
     rw [List.getElem?_eq_getElem (by simp; show k + 1 + j < S.size; omega)] at h1
     exact Option.some.inj h1
    have hcol : ∀ hl : k + 1 + dg.length < S.size, S[k + 1 + dg.length] = 58 := by
     intro hl
     have h1 : S.data.toList[k + 1 + dg.length]? = some 58 := by
      rw [← List.getElem?_drop, hdr, List.getElem?_append_right (Nat.le_refl _), Nat.sub_self]; rfl
     rw [List.getElem?_eq_getElem (by simp; show k + 1 + dg.length < S.size; omega)] at h1
     exact Option.some.inj h1
    have hlt2 : k + 1 + dg.length < S.size := by omega
    have HSN : Hid _ := hscan
    have HAT : Hid _ := hat
    have HCOL : Hid _ := hcol
    have HDIG : Hid _ := hdig
    have HNUM : Hid _ := hnum
    clear hdk h60 hdr hscan hat hcol hdig hnum htk hlen2
    obtain ⟨w5, rfl⟩ : ∃ w5, wr = w5 := ⟨_, rfl⟩
    go_wp2
    go_loopw [5, 6] (fun n kk wi => ∃ j p : Nat, wr = wi ∧ j ≤ dg.length ∧ p = k + 1 + j ∧ kk = .int .i64 p ∧ n = .int .i64 (numL (dg.take j))) (fun _ kk _ => k + 1 + dg.length - (intOf kk).toNat)
    case atStart => exact ⟨0, k + 1, rfl, Nat.zero_le _, rfl, by go_num, rfl⟩
    case round =>
     obtain ⟨j, p, rfl, hj, hpe, rfl, rfl⟩ := hrel
     have hb := numL_bd dg 0 0 (by omega) (by omega) (by omega) j hj
     have hp := pow5 j (by omega)
     obtain ⟨m, hm⟩ : ∃ m, m = numL (dg.take j) := ⟨_, rfl⟩
     rw [← hm] at hb
     obtain ⟨hb1, hb2⟩ : -3000000 ≤ m ∧ m ≤ 3000000 := by omega
     rw [← hm]
     have HM : Hid _ := hm
     have HPE : Hid _ := hpe
     have hpl : p < S.size := by omega
     clear hp hb hm
     by_cases hjl : j < dg.length
     ·have hsp : S[p] = dg[j] := by subst hpe; exact HAT.out j hjl hpl
      have hne := (digit_60 (HDIG.out dg[j] (List.getElem_mem hjl))).2
      rw [← hsp] at hne
      have q58 : ((S[p].toNat : Int) != 58) = true := by rw [show ((S[p].toNat : Int) != 58) = (S[p] != 58) from byte_ne _ 58]; simpa using hne
      have hsn : numL (dg.take (j + 1)) = 10 * m + (S[p].toNat : Int) - 48 := by rw [List.take_succ_eq_append_getElem hjl, numL_snoc, HM.out, hsp]
      have HS : Hid _ := hsn
      have hcb : S[p].toNat < 256 := S[p].toNat_lt
      have HC : Hid _ := hcb
      clear hsp hne hsn hcb hpe
      go_wp2
      go_roundw
      case rel =>
       refine ⟨j + 1, p + 1, by first | rfl | trivial, by omega, by have := HPE.out; omega, by go_num, ?_⟩
       have := HC.out
       rw [HS.out]
       rw [IntWalk.wrap64_in (S[p].toNat : Int) (by omega), IntWalk.wrap64_in (10 * m + (S[p].toNat : Int)) (by omega), IntWalk.wrap64_in _ (by omega)]
      case measure => have := HPE.out; simp [intOf]; omega
     ·have hje : j = dg.length := by omega
      have hsp : S[p] = 58 := by subst hpe; subst hje; exact HCOL.out hpl
      have q58 : ((S[p].toNat : Int) != 58) = false := by rw [hsp]; rfl
      have hmu : m = u := by rw [HM.out, hje, List.take_of_length_le (Nat.le_refl _)]; exact HNUM.out
      subst hmu
      clear hsp hpe
      go_wp2_with (at_builtin; go_must (refine wpList_append_own _ rfl (.tmp 33) (.tmp 35) 42 rfl w.heap.size 3 i0 _ 1 8 Tryz.undIntsU HI.out HZ0.out HZ1.out HZ2.out rfl (by decide) _ L.length (L.map fun (x : Nat) => Value.int .i64 x) rfl (World.ownsRow.alloc HOWN.out _) ⟨wr.heap.size, 0, none⟩ 1 1 [.int .i64 u] rfl rfl ?c1 ?c2 ?c3 ?c4 ?c5 ?_))
      case c1 =>
       intro j u hj
       rw [← hj]
       exact alloc_cell_at _ _ _ _
      case c2 => intro u hu; simp at hu; subst hu; rfl
      case c3 => unfold maxLen; omega
      case c4 => first | omega | (simp; omega)
      case c5 => first | omega | (simp; omega)
      intro v' w4 hown' hgrow hnil
      have HB2 : Hid (Below w.heap.size w w4) := (HB.out.alloc hsz _).grown hgrow (by simp; omega) (fun b hb => (World.ownsRow.lt HOWN.out b hb).1)
      have HO3 : Hid _ := hown'
      clear hown' hgrow hnil
      go_wp2
      go_roundw
      case rel =>
       refine ⟨k + 1, L ++ [u], by omega, by go_num, by simp; omega, ?_, HB2.out, ?_⟩
       ·have := HO3.out
        rw [List.length_append, List.map_append]
        exact this
       ·rw [List.append_assoc, List.singleton_append, ← HSN.out]; exact HSC.out
      case measure => simp [intOf]; omega
   ·have q60 : ((S[k].toNat : Int) != 60) = true := by rw [show ((S[k].toNat : Int) != 60) = (S[k] != 60) from byte_ne _ 60]; simpa using h60
    have hscan : scanR (S.data.toList.drop k) = scanR (S.data.toList.drop (k + 1)) := by
     rw [hdk]; simp only [scanR]; rw [if_neg h60]
    have HSN : Hid _ := hscan
    clear hdk h60 hscan
    go_wp2
    go_roundw
    case rel => exact ⟨k + 1, L, by omega, by go_num, by omega, HOWN.out, HB.out, by rw [← HSN.out]; exact HSC.out⟩
    case measure => simp [intOf]; omega
  ·have hL : L = scanR S.data.toList := by
    have h := HSC.out
    rw [List.drop_eq_nil_of_le (by simp; show S.size ≤ k; omega)] at h
    simpa [scanR] using h
   have HL : Hid _ := hL
   clear hL
   go_wp2
   go_ret
   rw [← HL.out]
   exact ⟨_, rfl, HOWN.out, HB.out⟩
end Go.Proofs.YtpicaknklgccoaaGreatDoor
