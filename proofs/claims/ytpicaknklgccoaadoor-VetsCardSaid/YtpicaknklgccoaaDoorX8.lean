import Derived.Test.YtpicaknklgccoaaDoorX7
import Derived.Test.YtpicaknklgccoaaDoorX5
import Derived.Test.YtpicaknklgccoaaDoorX3
import Derived.Shelf.Lay
import Derived.Shelf.LaysM
import Derived.Shelf.Strconv.Itoa3
import Derived.Lib.AppendIntMem
import Derived.Test.YtpicaknklgccoaaDoorX2
import Derived.Deep.LoopGhost
import Derived.Deep.DeepCutAuto
namespace Go.Proofs.YtpicaknklgccoaaDoor
open Go.RowKit
def loopF (cls : List Nat) (p : Nat) (nm : List UInt8) (kids : List PT) (id site : Nat) (env : TEnv) (st : TSt) : Ty × TSt :=
 if (tyLoop cls nm kids (id + 1) site env st).2.e ≠ 0 then (.n, (tyLoop cls nm kids (id + 1) site env st).2)
 else madeT cls .loop p site (tyLoop cls nm kids (id + 1) site env st).1 (tyLoop cls nm kids (id + 1) site env st).2
theorem step_store {w0 w wr w2 : World} {yb ab j : Nat} {cls : List Nat} {cv nv tv ov nv1 tv1 nv2 tv2 : Value} {env : TEnv} {st1 : TSt} {ks : List Ty} {ty : Ty}
  (hlc : ∀ g, cv.ownBlock = some g → g < ab) (hlo : ∀ g, ov.ownBlock = some g → g < ab) (hyb : yb < ab) (hwab : w.heap.size = ab) (hw0 : w0.heap.size ≤ ab) (hfr : Fr w wr yb nv tv ov nv1 tv1) (hab : ab < wr.heap.size) (hn1 : nv1.ownBlock ≠ some ab) (ht1 : tv1.ownBlock ≠ some ab)
  (hfr2 : Fr wr w2 yb nv1 tv1 ov nv2 tv2) (hin2 : TyIn w0 w2 yb cls cv nv2 tv2 ov env st1) (hka : wr.heap[ab]? = some (.cells (kArr ks) 128 (0, 0))) (hlk : ks.length = j) :
  nv2.ownBlock ≠ some ab ∧ tv2.ownBlock ≠ some ab ∧ w2.heap[ab]? = some (.cells (kArr ks) 128 (0, 0)) ∧ TyIn w0 (w2.setCell ⟨ab, j, none⟩ (.string (bs ty.txt))) yb cls cv nv2 tv2 ov env st1 ∧
  Fr w (w2.setCell ⟨ab, j, none⟩ (.string (bs ty.txt))) yb nv tv ov nv2 tv2 ∧ (w2.setCell ⟨ab, j, none⟩ (.string (bs ty.txt))).heap[ab]? = some (.cells (kArr (ks ++ [ty])) 128 (0, 0)) ∧ ab < w2.heap.size := by
 have hsz2 := hfr2.size
 have hn2 : nv2.ownBlock ≠ some ab := by
  intro e
  rcases hfr2.n _ e with e | e
  ·exact hn1 e
  ·omega
 have ht2 : tv2.ownBlock ≠ some ab := by
  intro e
  rcases hfr2.t _ e with e | e
  ·exact ht1 e
  ·omega
 have ho2 : ov.ownBlock ≠ some ab := fun e => by have := hlo _ e; omega
 have hc2 : cv.ownBlock ≠ some ab := fun e => by have := hlc _ e; omega
 have hka2 : w2.heap[ab]? = some (.cells (kArr ks) 128 (0, 0)) := by
  rw [hfr2.blk _ hab (by omega) hn1 ht1 ho2]; exact hka
 refine ⟨hn2, ht2, hka2, TyIn.other hin2 hw0 (by omega) hc2 hn2 ht2 ho2 rfl, ?_, ?_, by omega⟩
 ·have h := hfr.trans hfr2
  refine ⟨by have := h.size; simp [World.setCell]; exact this, ?_, h.n, h.t⟩
  intro q hq hy hn ht ho
  rw [blk_other _ _ (by simp only; omega)]
  exact h.blk q hq hy hn ht ho
 ·have h := blk_set hka2 j (.string (bs ty.txt))
  rw [← kArr_snoc, hlk]; exact h
set_option maxRecDepth 100000 in
set_option maxHeartbeats 8000000 in
theorem form_loop {w0 : World} {yb : Nat} {cls : List Nat} (p : Nat) (nm rg : List UInt8) (x1 x2 x3 : PT) (hit : ItFor w0 cls) (hcl : cls.length ≤ 9000)
  (hf1 : FindOk w0 yb cls x1) (hf2 : FindOk w0 yb cls x2) (hf3 : FindOk w0 yb cls x3) : FormOk w0 yb cls (.node p .loop nm rg [x1, x2, x3]) (fun id site env st => loopF cls p nm [x1, x2, x3] id site env st) := by
 intro id site b F env st cv nv tv ov w hT hin hid hsite hs1 hs2 henv
 simp only [IsT] at hT
 obtain ⟨hFb, kv, bl, hblk, hF, hkv, hts⟩ := hT
 have hb := blk_lt hblk
 have hw0 := hin.b0.size
 have hbw : b < w.heap.size := by omega
 have hne : b ≠ yb := by have := hin.hyb; omega
 obtain ⟨gk, kc, hvk⟩ : ∃ gk kc, kv = .slice (some ⟨gk, 0, none⟩) 3 kc := by
  rcases hkv.2 with ⟨_, h'⟩ | ⟨g, cap, cur, h, _⟩
  ·simp at h'
  ·exact ⟨_, _, h⟩
 subst hvk
 obtain ⟨b1, hb1, hT1⟩ := IsTs.at _ _ _ _ hts 0 x1 rfl
 obtain ⟨b2, hb2, hT2⟩ := IsTs.at _ _ _ _ hts 1 x2 rfl
 obtain ⟨b3, hb3, hT3⟩ := IsTs.at _ _ _ _ hts 2 x3 rfl
 have k1 : w0.cell? ⟨gk, 0, none⟩ = some (ptr b1) := by rw [hkv.cellAt 0 (by simp)]; simp [hb1]
 have k2 : w0.cell? ⟨gk, 1, none⟩ = some (ptr b2) := by rw [hkv.cellAt 1 (by simp)]; simp [hb2]
 have k3 : w0.cell? ⟨gk, 2, none⟩ = some (ptr b3) := by rw [hkv.cellAt 2 (by simp)]; simp [hb3]
 have hgkw : gk < w0.heap.size := World.block_lt_of_cell? _ _ k1
 have hgkw' : gk < w.heap.size := by omega
 have hbx : w.heap[b]? = some (.cells (exCells Kw.loop.bytes p nm (valueL rg) (.slice (some ⟨gk, 0, none⟩) 3 kc) id (id + cntL [x1, x2, x3]) site) 52 (0, 0)) := by rw [hin.b0.block b hb]; exact hblk
 have x0 : w.cell? ⟨b, 0, none⟩ = some (.string (bs Kw.loop.bytes)) := by rw [blk_cell hbx]; rfl
 have x4 : w.cell? ⟨b, 4, none⟩ = some (.slice (some ⟨gk, 0, none⟩) 3 kc) := by rw [blk_cell hbx]; rfl
 have k1w : w.cell? ⟨gk, 0, none⟩ = some (.pointer (some ⟨b1, 0, none⟩)) := (hin.b0.cell (p := ⟨gk, 0, none⟩) hgkw).trans k1
 have q0 : ((bs Kw.loop.bytes).toList == [110, 117, 109, 98, 101, 114]) = false := by rw [bs_beq0]; decide
 have q1 : ((bs Kw.loop.bytes).toList == [110, 97, 109, 101]) = false := by rw [bs_beq0]; decide
 have q2 : ((bs Kw.loop.bytes).toList == [108, 101, 116]) = false := by rw [bs_beq0]; decide
 have q3 : ((bs Kw.loop.bytes).toList == [108, 111, 111, 112]) = true := by rw [bs_beq0]; decide
 have hyb := hin.hyb
 simp only [PT.cnt, PT.prs, cntL, prsL] at hid hsite henv
 simp only [cntL, prsL, List.take_zero, List.take_succ_cons, Nat.add_zero] at hT1 hT2 hT3
 rw [if_neg (by decide)] at hsite hT1 hT2 hT3
 simp only [Nat.add_zero] at hT1 hT2 hT3
 rw [← Nat.add_assoc (id + 1), ← Nat.add_assoc site] at hT3
 have hlt1 : ∀ g, nv.ownBlock = some g → g < w.heap.size := fun g hg => (hin.n.lt g hg).2
 have hlt2 : ∀ g, tv.ownBlock = some g → g < w.heap.size := fun g hg => (hin.t.lt g hg).2
 have hlt3 : ∀ g, ov.ownBlock = some g → g < w.heap.size := fun g hg => (hin.o.lt g hg).2
 have hlt4 : ∀ g, cv.ownBlock = some g → g < w.heap.size := fun g hg => (hin.c.lt g hg).2
 have hyw := blk_lt hin.y
 have hinA : TyIn w0 (w.alloc (.cells (kArr []) 128)) yb cls cv nv tv ov env st := hin.grow ((Below.refl _ _).alloc (Nat.le_refl _) _)
 have hfrA : Fr w (w.alloc (.cells (kArr []) 128)) yb nv tv ov nv tv := Fr.below ((Below.refl _ _).alloc (Nat.le_refl _) _) _ _ _ _
 have hfo := hf1 (id + 1) site b1 F env st cv nv tv ov _ hT1 hinA (by omega) (by omega) hs1 hs2 (by omega)
 have heo : envOk env st := ⟨hs1, hs2⟩
 have hok1 := tyFind_ok cls hit.1 x1 (id + 1) site env st heo
 obtain ⟨R1, hR1⟩ : ∃ R, R = tyFind cls x1 (id + 1) site env st := ⟨_, rfl⟩
 rw [← hR1] at hfo hok1
 have heo2 : envOk env R1.2 := heo.on (fun h0 => (hok1.2.1 h0).1)
 have hok2 := tyFind_ok cls hit.1 x2 (id + 1 + x1.cnt) (site + x1.prs) env R1.2 heo2
 obtain ⟨R2, hR2⟩ : ∃ R, R = tyFind cls x2 (id + 1 + x1.cnt) (site + x1.prs) env R1.2 := ⟨_, rfl⟩
 rw [← hR2] at hok2
 have heo3 : envOk env R2.2 := heo2.on (fun h0 => (hok2.2.1 h0).1)
 have hok3 := tyFind_ok cls hit.1 x3 (id + 1 + x1.cnt + x2.cnt) (site + x1.prs + x2.prs) (env ++ [(nm, R2.1)]) R2.2 (heo2.snoc hok2)
 obtain ⟨R3, hR3⟩ : ∃ R, R = tyFind cls x3 (id + 1 + x1.cnt + x2.cnt) (site + x1.prs + x2.prs) (env ++ [(nm, R2.1)]) R2.2 := ⟨_, rfl⟩
 rw [← hR3] at hok3
 have hfin : loopF cls p nm [x1, x2, x3] id site env st = if R3.2.e ≠ 0 then (.n, R3.2) else madeT cls .loop p site [R1.1, R2.1, R3.1] R3.2 := by
  subst hR3; subst hR2; subst hR1; rfl
 have HFIN : Hid _ := hfin
 obtain ⟨FF, hFF⟩ : ∃ FF, FF = loopF cls p nm [x1, x2, x3] id site env st := ⟨_, rfl⟩
 show Calls _ _ #[Value.pointer (some ⟨yb, 0, none⟩), Value.pointer (some ⟨b, 0, none⟩)] w (fun v w' => v = .returned (.string (bs (loopF cls p nm [x1, x2, x3] id site env st).1.txt)) ∧ ∃ nv' tv', Fr w w' yb nv tv ov nv' tv' ∧ TyIn w0 w' yb cls cv nv' tv' ov env (loopF cls p nm [x1, x2, x3] id site env st).2)
 rw [← hFF] at HFIN ⊢
 unfold ptr at hfo
 have HBLK : Hid _ := hblk
 have HK2 : Hid _ := k2
 have HK3 : Hid _ := k3
 have HT2 : Hid _ := hT2
 have HT3 : Hid _ := hT3
 have HO1 : Hid (resOk st R1) := hok1
 have HO2 : Hid (resOk R1.2 R2) := hok2
 have HO3 : Hid (resOk R2.2 R3) := hok3
 have HE1 : Hid (envOk env st) := heo
 have HE2 : Hid (envOk env R1.2) := heo2
 have HE3 : Hid (envOk env R2.2) := heo3
 have HR2 : Hid _ := hR2
 have HR3 : Hid _ := hR3
 have HFA : Hid _ := hfrA
 clear hblk hin hkv hts hbx hFb hF hs1 hs2 k1 k2 k3 hT1 hT2 hT3 hR1 hR2 hR3 hfin hok1 hok2 hok3 hinA hb1 hb2 hb3 heo heo2 heo3 hFF hfrA
 go_enter Tryd.func63, Tryd.ntmps63
 go_wp2_with fail
 refine hfo.mono ?_
 rintro e w2 ⟨rfl, nv2, tv2, hfr2, hin2⟩
 obtain ⟨hn2, ht2, hka2, hWin, hWfr, hWka, hab2⟩ := step_store (ty := R1.1) (ks := []) (j := 0) hlt4 hlt3 hyw rfl hw0 HFA.out (by simp) (fun e => by have := hlt1 _ e; omega) (fun e => by have := hlt2 _ e; omega) hfr2 hin2 (blk_new _ _) rfl
 have z0 : w2.cell? ⟨w.heap.size, 0, none⟩ = some (.string (bs [])) := by rw [blk_cell hka2]; rfl
 have zf : w2.frozen? ⟨w.heap.size, 0, none⟩ = false := blk_free hka2 0
 have hb2' : w2.heap[b]? = some (.cells (exCells Kw.loop.bytes p nm (valueL rg) (.slice (some ⟨gk, 0, none⟩) 3 kc) id (id + cntL [x1, x2, x3]) site) 52 (0, 0)) := by rw [hin2.b0.block b hb]; exact HBLK.out
 have x42 : w2.cell? ⟨b, 4, none⟩ = some (.slice (some ⟨gk, 0, none⟩) 3 kc) := by rw [blk_cell hb2']; rfl
 have k22 : w2.cell? ⟨gk, 1, none⟩ = some (.pointer (some ⟨b2, 0, none⟩)) := (hin2.b0.cell (p := ⟨gk, 1, none⟩) hgkw).trans HK2.out
 have hfo2 := hf2 (id + 1 + x1.cnt) (site + x1.prs) b2 F env R1.2 cv nv2 tv2 ov _ HT2.out hWin (by have := HO1.out.2.2; omega) (by omega) HE2.out.1 HE2.out.2 (by omega)
 rw [← HR2.out] at hfo2
 unfold ptr at hfo2
 have HW2 : Hid _ := And.intro hWfr (And.intro hWka (And.intro hn2 ht2))
 have hbw2 : b < w2.heap.size := by omega
 clear hfo hfr2 hin2 hka2 hWin hWfr hWka hn2 ht2 hb2' x4 k1w x0 q0 q1 q2 q3
 go_wp2_with fail
 refine hfo2.mono ?_
 rintro e w3 ⟨rfl, nv3, tv3, hfr3, hin3⟩
 obtain ⟨hn3, ht3, hka3, hWin3, hWfr3, hWka3, hab3⟩ := step_store (ty := R2.1) (ks := [R1.1]) (j := 1) hlt4 hlt3 hyw rfl hw0 HW2.out.1 (by simp [World.setCell]; omega) HW2.out.2.2.1 HW2.out.2.2.2 hfr3 hin3 HW2.out.2.1 rfl
 have z1 : w3.cell? ⟨w.heap.size, 1, none⟩ = some (.string (bs [])) := by rw [blk_cell hka3]; rfl
 have zf1 : w3.frozen? ⟨w.heap.size, 1, none⟩ = false := blk_free hka3 1
 have z2 : w3.cell? ⟨w.heap.size, 2, none⟩ = some (.string (bs [])) := by rw [blk_cell hka3]; rfl
 have zf2 : w3.frozen? ⟨w.heap.size, 2, none⟩ = false := blk_free hka3 2
 have hb3' : w3.heap[b]? = some (.cells (exCells Kw.loop.bytes p nm (valueL rg) (.slice (some ⟨gk, 0, none⟩) 3 kc) id (id + cntL [x1, x2, x3]) site) 52 (0, 0)) := by rw [hin3.b0.block b hb]; exact HBLK.out
 have x23 : w3.cell? ⟨b, 2, none⟩ = some (.string (bs nm)) := by rw [blk_cell hb3']; rfl
 have x43 : w3.cell? ⟨b, 4, none⟩ = some (.slice (some ⟨gk, 0, none⟩) 3 kc) := by rw [blk_cell hb3']; rfl
 have k33 : w3.cell? ⟨gk, 2, none⟩ = some (.pointer (some ⟨b3, 0, none⟩)) := (hin3.b0.cell (p := ⟨gk, 2, none⟩) hgkw).trans HK3.out
 have hun : ∀ W, Below (w3.setCell ⟨w.heap.size, 1, none⟩ (.string (bs R2.1.txt))).heap.size (w3.setCell ⟨w.heap.size, 1, none⟩ (.string (bs R2.1.txt))) W → Calls Tryd.prog 77 #[.pointer (some ⟨yb, 0, none⟩), .string (bs nm), .string (bs R2.1.txt), .pointer (some ⟨b3, 0, none⟩)] W fun v w' => v = .returned (.string (bs R3.1.txt)) ∧
   ∃ nv' tv', nv'.ownBlock ≠ some w.heap.size ∧ tv'.ownBlock ≠ some w.heap.size ∧ w'.heap[w.heap.size]? = some (.cells (kArr [R1.1, R2.1]) 128 (0, 0)) ∧ TyIn w0 (w'.setCell ⟨w.heap.size, 2, none⟩ (.string (bs R3.1.txt))) yb cls cv nv' tv' ov env R3.2 ∧
    Fr w (w'.setCell ⟨w.heap.size, 2, none⟩ (.string (bs R3.1.txt))) yb nv tv ov nv' tv' ∧ (w'.setCell ⟨w.heap.size, 2, none⟩ (.string (bs R3.1.txt))).heap[w.heap.size]? = some (.cells (kArr [R1.1, R2.1, R3.1]) 128 (0, 0)) ∧ w.heap.size < w'.heap.size ∧ TyIn w0 w' yb cls cv nv' tv' ov env R3.2 := by
  intro W hW
  have hu := under_of hf3 (id + 1 + x1.cnt + x2.cnt) (site + x1.prs + x2.prs) b3 F env R2.2 cv nv3 tv3 ov W nm R2.1 HT3.out (hWin3.grow hW) (by have h1 := HO1.out.2.2; have h2 := HO2.out.2.2; omega) (by omega) HE3.out.1 HE3.out.2 HO2.out.1 (fun h0 => (HO2.out.2.1 h0).2) (by omega)
  rw [← HR3.out] at hu
  refine hu.mono ?_
  rintro e w' ⟨rfl, nv', tv', hfr', hin'⟩
  have hWab : w.heap.size < W.heap.size := by have h1 := hW.size; have h2 := blk_lt hWka3; omega
  obtain ⟨a1, a2, a3, a4, a5, a6, a7⟩ := step_store (ty := R3.1) (ks := [R1.1, R2.1]) (j := 2) hlt4 hlt3 hyw rfl hw0 (hWfr3.trans (Fr.below hW yb nv3 tv3 ov)) hWab hn3 ht3 hfr' hin' (by rw [hW.block _ (blk_lt hWka3)]; exact hWka3) rfl
  exact ⟨rfl, nv', tv', a1, a2, a3, a4, a5, a6, a7, hin'⟩
 have hbw3 : b < w3.heap.size := by omega
 have hgk3 : gk < w3.heap.size := by omega
 have hbab : b ≠ w.heap.size := by omega
 have hgab : gk ≠ w.heap.size := by omega
 clear hfo2 hfr3 hin3 hka3 hWin3 hWfr3 hWka3 hn3 ht3 hb3' x42 k22 z0 zf HW2 hlt1 hlt2 hlt3 hlt4
 go_wp2
 go_region_with (go_at_call 77; refine (hun _ ?_).mono ?_; exact ⟨rfl, rfl, rfl, Nat.le_refl _, fun _ _ => rfl⟩; rintro e w4 ⟨rfl, nv4, tv4, hn4, ht4, hka4, hWin4, hWfr4, hWka4, hab4, hin4⟩; have z24 : w4.cell? ⟨w.heap.size, 2, none⟩ = some (.string (bs [])) := (by rw [blk_cell hka4]; rfl); have zf24 : w4.frozen? ⟨w.heap.size, 2, none⟩ = false := blk_free hka4 2)
 all_goals
  have hbr4 : w4.heap[b]? = some (.cells (exCells Kw.loop.bytes p nm (valueL rg) (.slice (some ⟨gk, 0, none⟩) 3 kc) id (id + cntL [x1, x2, x3]) site) 52 (0, 0)) := by rw [hin4.b0.block b hb]; exact HBLK.out
  have y44 : w4.cell? ⟨yb, 4, none⟩ = some (.int .i64 (R3.2.e : Nat)) := by rw [blk_cell hin4.y]; rfl
  have a0 : w4.cell? ⟨w.heap.size, 0, none⟩ = some (.string (bs R1.1.txt)) := by rw [blk_cell hka4]; rfl
  have a1 : w4.cell? ⟨w.heap.size, 1, none⟩ = some (.string (bs R2.1.txt)) := by rw [blk_cell hka4]; rfl
  have hyab : yb ≠ w.heap.size := by omega
  have hmd : R3.2.e = 0 → ∀ W, Below (w4.setCell ⟨w.heap.size, 2, none⟩ (.string (bs R3.1.txt))).heap.size (w4.setCell ⟨w.heap.size, 2, none⟩ (.string (bs R3.1.txt))) W → Calls Tryd.prog 78 #[.pointer (some ⟨yb, 0, none⟩), .pointer (some ⟨b, 0, none⟩), .agg #[.string (bs R1.1.txt), .string (bs R2.1.txt), .string (bs R3.1.txt)]] W fun v w' =>
    v = .returned (.string (bs (madeT cls .loop p site [R1.1, R2.1, R3.1] R3.2).1.txt)) ∧ ∃ nv' tv', Fr w w' yb nv tv ov nv' tv' ∧ TyIn w0 w' yb cls cv nv' tv' ov env (madeT cls .loop p site [R1.1, R2.1, R3.1] R3.2).2 := by
   intro h0 W hW
   have hWi := hWin4.grow hW
   have hm := made_any W yb b cls cv nv4 tv4 ov _ R3.2 nm p (valueL rg) id (id + cntL [x1, x2, x3]) site w0.heap.size .loop [R1.1, R2.1, R3.1] hne h0 hWi.y (by rw [hWi.b0.block b hb]; exact HBLK.out) hWi.c hcl hit.1 (fun x hx w' hb => hit.2 x hx w' (hWi.b0.trans (hb.mono hWi.b0.size))) (by intro h; cases h) (by decide) rfl
    (by intro t ht; simp only [List.mem_cons, List.not_mem_nil, or_false] at ht; rcases ht with rfl | rfl | rfl; exact HO1.out.1; exact HO2.out.1; exact HO3.out.1)
   refine hm.mono ?_
   rintro e w' ⟨rfl, hg2, hy2⟩
   refine ⟨rfl, nv4, tv4, (hWfr4.trans (Fr.below hW _ _ _ _)).trans (Fr.grown hg2 _ _ _), ?_⟩
   have h := hWi.err hg2 hy2
   rw [← madeT_of cls .loop p site [R1.1, R2.1, R3.1] R3.2] at h
   exact h
  have HWF : Hid _ := And.intro hWfr4 hWin4
  clear hWin4 hWfr4 hWka4 hka4 hin4 hbr4 hn4 ht4
  by_cases h0 : R3.2.e = 0
  ·have hmd0 := hmd h0
   have y40 : w4.cell? ⟨yb, 4, none⟩ = some (.int .i64 0) := by rw [y44, h0]; rfl
   have HF2 : Hid (FF = madeT cls .loop p site [R1.1, R2.1, R3.1] R3.2) := by rw [HFIN.out, if_neg (by simpa using h0)]; rfl
   clear y44 h0 hmd
   go_wp2_with (go_at_call 78; refine (hmd0 _ ?_).mono ?_; exact ⟨rfl, rfl, rfl, Nat.le_refl _, fun _ _ => rfl⟩; rintro e w5 ⟨rfl, hw5⟩)
   go_ret
   rw [HF2.out]
   exact ⟨rfl, hw5⟩
  ·have h0' : ((R3.2.e : Int) != 0) = true := by rw [bne_iff_ne]; omega
   have HF2 : Hid (FF = (.n, R3.2)) := by rw [HFIN.out, if_pos h0]; rfl
   clear h0 hmd
   go_wp2_with fail
   go_ret
   rw [HF2.out]
   exact ⟨rfl, nv4, tv4, HWF.out.1.trans (Fr.below ⟨rfl, rfl, rfl, Nat.le_refl _, fun _ _ => rfl⟩ _ _ _ _), HWF.out.2.grow ⟨rfl, rfl, rfl, Nat.le_refl _, fun _ _ => rfl⟩⟩
end Go.Proofs.YtpicaknklgccoaaDoor
namespace Go.Proofs.YtpicaknklgccoaaDoor
theorem toks_mem : ∀ (f p : Nat) (l : List UInt8) (t : Tk), t ∈ toks f p l → ∃ l', l' ≠ [] ∧ t.s = l'.take (tokenOf l').1 ∧ t.c = (tokenOf l').2
 | 0, _, _, t, h => by simp [toks] at h
 | _ + 1, _, [], t, h => by simp [toks] at h
 | f + 1, p, c :: r, t, h => by
  simp only [toks] at h
  split at h
  ·exact toks_mem f _ r t h
  ·rcases List.mem_cons.1 h with h | h
   ·subst h; exact ⟨c :: r, by simp, rfl, rfl⟩
   ·exact toks_mem f _ _ t h
theorem tokenOf_num {l : List UInt8} (h : (tokenOf l).2 = .num) : (tokenOf l).1 ≤ 4 := by
 unfold tokenOf at h ⊢
 split at h
 ·rename_i h1
  simp only [wordCl] at h
  split at h
  ·cases h
  ·split at h <;> cases h
 ·rename_i h1
  split at h
  ·rename_i h2
   rw [if_neg h1, if_pos h2]
   simp only at h ⊢
   split at h
   ·rename_i h3
    unfold numeralB at h3
    simp only [Bool.and_eq_true, decide_eq_true_eq] at h3
    have := h3.1.2
    have hl := run_le 48 57 l
    simp only [List.length_take] at this
    omega
   ·cases h
  ·rename_i h2
   split at h
   ·cases h
   ·split at h
    ·simp only at h; split at h <;> cases h
    ·simp only at h; split at h
     ·cases h
     ·split at h <;> cases h
theorem tokenOf_reg {l : List UInt8} (h : (tokenOf l).2 = .reg) : (tokenOf l).1 ≤ 4 := by
 unfold tokenOf at h ⊢
 split at h
 ·rename_i h1
  simp only [wordCl] at h
  split at h
  ·cases h
  ·split at h <;> cases h
 ·rename_i h1
  rw [if_neg h1]
  split at h
  ·simp only at h; split at h <;> cases h
  ·rename_i h2
   rw [if_neg h2]
   split at h
   ·cases h
   ·rename_i c r
    split at h
    ·rename_i h3
     simp only at h
     rw [if_pos h3]
     simp only
     split at h
     ·rename_i h4
      unfold numeralB at h4
      simp only [Bool.and_eq_true, decide_eq_true_eq] at h4
      have := h4.1.2
      simp only [List.length_take] at this
      have hl := run_le 48 57 r
      omega
     ·cases h
    ·simp only at h; split at h
     ·cases h
     ·split at h <;> cases h
theorem tokenOf_kw {l : List UInt8} {k : Kw} (h : (tokenOf l).2 = .kw k) : l.take (tokenOf l).1 = k.bytes := by
 unfold tokenOf at h ⊢
 split at h
 ·rename_i h1
  rw [if_pos h1]
  simp only [wordCl] at h ⊢
  split at h
  ·rename_i k' hk
   simp only [Cl.kw.injEq] at h
   subst h
   exact kwOf_some hk
  ·split at h <;> cases h
 ·split at h
  ·simp only at h; split at h <;> cases h
  ·split at h
   ·cases h
   ·split at h
    ·simp only at h; split at h <;> cases h
    ·simp only at h; split at h
     ·cases h
     ·split at h <;> cases h
theorem toks_num {f p : Nat} {l : List UInt8} {t : Tk} (h : t ∈ toks f p l) (hc : t.c = .num) : t.s.length ≤ 5 := by
 obtain ⟨l', _, h1, h2⟩ := toks_mem f p l t h
 have := tokenOf_num (by rw [← h2]; exact hc)
 rw [h1]; simp; omega
theorem toks_reg {f p : Nat} {l : List UInt8} {t : Tk} (h : t ∈ toks f p l) (hc : t.c = .reg) : t.s.length ≤ 5 := by
 obtain ⟨l', _, h1, h2⟩ := toks_mem f p l t h
 have := tokenOf_reg (by rw [← h2]; exact hc)
 rw [h1]; simp; omega
theorem toks_ne {f p : Nat} {l : List UInt8} {t : Tk} (h : t ∈ toks f p l) : t.s ≠ [] := by
 obtain ⟨l', h0, h1, _⟩ := toks_mem f p l t h
 have hp := tokenOf_pos l'
 intro e
 rw [h1] at e
 rcases List.take_eq_nil_iff.1 e with e | e
 ·omega
 ·exact h0 e
theorem toks_kw {f p : Nat} {l : List UInt8} {t : Tk} {k : Kw} (h : t ∈ toks f p l) (hc : t.c = .kw k) : t.s = k.bytes := by
 obtain ⟨l', _, h1, h2⟩ := toks_mem f p l t h
 rw [h1]; exact tokenOf_kw (by rw [← h2]; exact hc)
theorem PW.kids_len {placed : Bool} : ∀ {ws : List Wt} {l : List Tk} {nm rg : List UInt8} {kids : List PT} {r : List Tk}, PW placed ws l nm rg kids r → kids.length = cntE ws
 | _, _, _, _, _, _, .nil => rfl
 | _, _, _, _, _, _, .close _ h1 => by have := PW.kids_len h1; simpa [cntE] using this
 | _, _, _, _, _, _, .name _ h1 => by have := PW.kids_len h1; simpa [cntE] using this
 | _, _, _, _, _, _, .region _ h1 => by have := PW.kids_len h1; simpa [cntE] using this
 | _, _, _, _, _, _, .e _ h1 => by have := PW.kids_len h1; simp [cntE] at this ⊢; exact this
end Go.Proofs.YtpicaknklgccoaaDoor
namespace Go.Proofs.YtpicaknklgccoaaDoor
open Go.RowKit
theorem fin_len (id p : Nat) (x : Ty × TSt) : (fin id p x).2.of.length = x.2.of.length := by
 simp only [fin, List.length_set]
 split
 ·exact errS_len _ _ _
 ·rfl
theorem madeT_len (cls : List Nat) (k : Kw) (p site : Nat) (ks : List Ty) (st : TSt) : (madeT cls k p site ks st).2.of.length = st.of.length := by rw [madeT_of]
mutual
theorem tyFind_len (cls : List Nat) : ∀ (t : PT) (id site : Nat) (env : TEnv) (st : TSt), (tyFind cls t id site env st).2.of.length = st.of.length
 | .num p s, id, site, env, st => by simp only [tyFind]; rw [fin_len]
 | .name p s, id, site, env, st => by
  simp only [tyFind]; rw [fin_len]
  split
  ·rfl
  ·exact errS_len _ _ _
 | .node p k nm rg kids, id, site, env, st => by
  simp only [tyFind]; rw [fin_len]
  split
  ·exact tyLet_len cls nm kids _ _ _ _
  ·have hx : (if k = .loop then tyLoop cls nm kids (id + 1) site env st else tyKids cls kids (id + 1) (site + if k = .pair then 1 else 0) env st).2.of.length = st.of.length := by
    split
    ·exact tyLoop_len cls nm kids _ _ _ _
    ·exact tyKids_olen cls kids _ _ _ _
   generalize (if k = .loop then tyLoop cls nm kids (id + 1) site env st else tyKids cls kids (id + 1) (site + if k = .pair then 1 else 0) env st) = x at hx ⊢
   split
   ·exact hx
   ·rw [madeT_len]; exact hx
theorem tyKids_olen (cls : List Nat) : ∀ (ts : List PT) (id site : Nat) (env : TEnv) (st : TSt), (tyKids cls ts id site env st).2.of.length = st.of.length
 | [], _, _, _, _ => by simp only [tyKids]
 | a :: r, id, site, env, st => by simp only [tyKids]; rw [tyKids_olen cls r, tyFind_len cls a]
theorem tyLet_len (cls : List Nat) (nm : List UInt8) : ∀ (ts : List PT) (id site : Nat) (env : TEnv) (st : TSt), (tyLet cls nm ts id site env st).2.of.length = st.of.length
 | [a, b], id, site, env, st => by simp only [tyLet]; rw [tyFind_len cls b, tyFind_len cls a]
 | [], _, _, _, _ => by simp only [tyLet]
 | [_], _, _, _, _ => by simp only [tyLet]
 | _ :: _ :: _ :: _, _, _, _, _ => by simp only [tyLet]
theorem tyLoop_len (cls : List Nat) (nm : List UInt8) : ∀ (ts : List PT) (id site : Nat) (env : TEnv) (st : TSt), (tyLoop cls nm ts id site env st).2.of.length = st.of.length
 | [a, b, c], id, site, env, st => by simp only [tyLoop]; rw [tyFind_len cls c, tyFind_len cls b, tyFind_len cls a]
 | [], _, _, _, _ => by simp only [tyLoop]
 | [_], _, _, _, _ => by simp only [tyLoop]
 | [_, _], _, _, _, _ => by simp only [tyLoop]
 | _ :: _ :: _ :: _ :: _, _, _, _, _ => by simp only [tyLoop]
end
mutual
def PT.wf : PT → Prop
 | .num _ _ => True
 | .name _ _ => True
 | .node _ k _ _ kids => kids.length = arity k ∧ wfL kids
def wfL : List PT → Prop
 | [] => True
 | t :: r => t.wf ∧ wfL r
end
theorem wfL_mem : ∀ {ts : List PT}, wfL ts → ∀ t ∈ ts, t.wf
 | [], _, t, h => by simp at h
 | a :: r, hw, t, h => by
  simp only [wfL] at hw
  rcases List.mem_cons.1 h with h | h
  ·subst h; exact hw.1
  ·exact wfL_mem hw.2 t h
theorem find_all {w0 : World} {yb : Nat} {cls : List Nat} (hit : ItFor w0 cls) (hcl : cls.length ≤ 9000) (t : PT) : t.wf → FindOk w0 yb cls t := by
 induction t using PT.ind with
 | h1 p s =>
  intro _
  refine find_of (form_num w0 yb cls p s) (fun id site env st => by simp only [tyFind]; rfl) (fun _ _ _ _ => rfl) (fun _ _ _ _ _ _ => fit_n)
 | h2 p s =>
  intro _
  refine find_of (form_name w0 yb cls p s) (fun id site env st => by simp only [tyFind]; rfl) ?_ ?_
  ·intro id site env st
   unfold nameF
   split
   ·rfl
   ·exact errS_len _ _ _
  ·intro id site env st h1 h2
   simp only [nameF]
   split
   ·rename_i t ht
    obtain ⟨x, hx, rfl⟩ := look_mem ht
    exact h1 x hx
   ·exact fit_n
 | h3 p k nm rg kids ih =>
  intro hw
  simp only [PT.wf] at hw
  have hk : ∀ x ∈ kids, FindOk w0 yb cls x := fun x hx => ih x hx (wfL_mem hw.2 x hx)
  by_cases hl : k = .let_
  ·subst hl
   match kids, hw.1, hk with
   | [a, b], _, hk =>
    refine find_of (form_let p nm rg a b hit (hk a (by simp)) (hk b (by simp))) (fun id site env st => by simp only [tyFind]; rw [if_pos trivial]; rfl) (fun _ _ _ _ => tyLet_len _ _ _ _ _ _ _) ?_
    intro id site env st h1 h2
    exact (tyLet_ok cls hit.1 nm [a, b] _ _ env st ⟨h1, h2⟩).1
  ·by_cases hl2 : k = .loop
   ·subst hl2
    match kids, hw.1, hk with
    | [a, b, c], _, hk =>
     refine find_of (form_loop p nm rg a b c hit hcl (hk a (by simp)) (hk b (by simp)) (hk c (by simp))) (fun id site env st => by simp only [tyFind]; rw [if_neg (by decide), if_pos trivial]; rfl) ?_ ?_
     ·intro id site env st
      simp only [loopF]
      split
      ·exact tyLoop_len _ _ _ _ _ _ _
      ·rw [madeT_len]; exact tyLoop_len _ _ _ _ _ _ _
     ·intro id site env st h1 h2
      have hx := tyLoop_ok cls hit.1 nm [a, b, c] (id + 1) site env st ⟨h1, h2⟩
      simp only [loopF]
      split
      ·exact fit_n
      ·rename_i hne
       have h0 : (tyLoop cls nm [a, b, c] (id + 1) site env st).2.e = 0 := by simpa using hne
       exact (made_pre hit.1 (fun t ht => ⟨hx.1 t ht, (hx.2.1 h0).2 t ht⟩)).1
   ·refine find_of (form_kids p k nm rg kids hit hcl hl hl2 hw.1 hk) (fun id site env st => by simp only [tyFind]; rw [if_neg hl, if_neg hl2]; rfl) ?_ ?_
    ·intro id site env st
     simp only [kidsF]
     generalize (site + if k = .pair then 1 else 0) = s1
     split
     ·exact tyKids_olen _ _ _ _ _ _
     ·rw [madeT_len]; exact tyKids_olen _ _ _ _ _ _
    ·intro id site env st h1 h2
     have hx := tyKids_ok cls hit.1 kids (id + 1) (site + if k = .pair then 1 else 0) env st ⟨h1, h2⟩
     simp only [kidsF]
     generalize (site + if k = .pair then 1 else 0) = s1 at hx ⊢
     split
     ·exact fit_n
     ·rename_i hne
      have h0 : (tyKids cls kids (id + 1) s1 env st).2.e = 0 := by simpa using hne
      exact (made_pre hit.1 (fun t ht => ⟨hx.1 t ht, (hx.2.1 h0).2 t ht⟩)).1
end Go.Proofs.YtpicaknklgccoaaDoor
namespace Go.Proofs.YtpicaknklgccoaaDoor
open Go.RowKit
open Go.Lib (decDigits)
theorem run_memT (lo hi : Int) : ∀ (l : List UInt8) (c : UInt8), c ∈ l.take (run lo hi l) → inB lo hi c = true
 | [], c, h => by simp at h
 | d :: r, c, h => by
  simp only [run] at h
  split at h
  ·rename_i hd
   rw [List.take_succ_cons, List.mem_cons] at h
   rcases h with h | h
   ·rw [h]; exact hd
   ·exact run_memT lo hi r c h
  ·simp at h
theorem dig_fold : ∀ (l : List UInt8) (a : Int), (∀ c ∈ l, inB 48 57 c = true) → 0 ≤ a →
  0 ≤ l.foldl (fun n c => if c = 35 then n else 10 * n + (c.toNat : Int) - 48) a ∧ l.foldl (fun n c => if c = 35 then n else 10 * n + (c.toNat : Int) - 48) a ≤ (a + 1) * ((10 ^ l.length : Nat) : Int) - 1
 | [], a, _, h => by simp; omega
 | c :: r, a, hd, h => by
  have hc := hd c (by simp)
  simp only [inB, Bool.and_eq_true, decide_eq_true_eq] at hc
  have h35 : c ≠ 35 := by intro e; subst e; simp at hc
  have ih := dig_fold r (10 * a + (c.toNat : Int) - 48) (fun x hx => hd x (by simp [hx])) (by omega)
  simp only [List.foldl_cons, if_neg h35, List.length_cons]
  refine ⟨ih.1, Int.le_trans ih.2 ?_⟩
  have e : ((10 ^ (r.length + 1) : Nat) : Int) = 10 * ((10 ^ r.length : Nat) : Int) := by rw [Nat.pow_succ]; omega
  rw [e]
  have hp : (0 : Int) ≤ ((10 ^ r.length : Nat) : Int) := Int.natCast_nonneg _
  have h2 : (10 * a + (c.toNat : Int) - 48 + 1) ≤ (a + 1) * 10 := by omega
  have h3 := Int.mul_le_mul_of_nonneg_right h2 hp
  rw [Int.mul_assoc] at h3
  omega
end Go.Proofs.YtpicaknklgccoaaDoor
namespace Go.Proofs.YtpicaknklgccoaaDoor
open Go.RowKit Go.Shelf Go.Sort
open Go.Lib (decDigits)
def ItoaOk (w0 : World) : Prop := ∀ (n : Nat) (w : World), n ≤ 9999 → Below w0.heap.size w0 w → Calls Tryd.prog 34 #[.int .i64 n] w fun e w' => e = .returned (.string (bs (decDigits n))) ∧ Below w.heap.size w w'
shelf_lay LaysM.n171 Nm 171 at Tryd as Tryd.laysM171
theorem itoa_ok (w0 : World) (htab : Lib.TabIs Tryd.prog w0 "internal/strconv.uint64pow10" .u64 Lib.pow10Tab) : ItoaOk w0 := by
 intro n w hn hb
 refine (Any.strconv_Itoa Tryd.laysM171 (n : Int) (by omega) (by omega) w (Lib.tabBelow_of_tabIs htab w hb)).mono ?_
 rintro e w' ⟨rfl, k, os, rfl⟩
 refine ⟨?_, Lib.below_grow _ _ (Nat.le_refl _) k os⟩
 have e1 : Lib.itoa (n : Int) = decDigits n := by
  unfold Lib.itoa; rw [if_neg (by omega)]; rfl
 rw [e1]; rfl
end Go.Proofs.YtpicaknklgccoaaDoor
namespace Go.Proofs.YtpicaknklgccoaaDoor
open Go.RowKit
def GoodE (ts : List Tk) (l : List Tk) (e : PT) (r : List Tk) : Prop :=
 e.cnt + r.length ≤ l.length ∧ e.prs + r.length + 1 ≤ l.length ∧ (∃ t r', l = t :: r' ∧ (t.c = .num ∨ t.c = .nam ∨ t.c = .opn)) ∧ (∃ n, r = l.drop n ∧ n ≤ l.length) ∧
 ∀ (gt tc cb p ids sites : Nat) (w : World), ts.drop p = l → ids ≤ p → sites ≤ p → BIn ts gt tc cb p ids sites w →
  Calls Tryd.prog 33 #[ptr cb] w (BOut ts gt tc cb p ids sites w e (l.length - r.length))
def LInv (ts : List Tk) (placed : Bool) (gt tc cb ids sites d : Nat) (k : Kw) (p0 : Nat) (nm rg : List UInt8) (kids : List PT) (r : List Tk) (w : World) (xb tb : Nat) (pp : Nat) (n : Nat) (wr : World) : Prop :=
 ∃ (done ws : List Wt) (q : Nat) (nm' rg' nmx rgx : List UInt8) (kids' dk : List PT) (kv : Value) (bl : List Nat) (T0 T1 T2 : Value),
  n = ws.length ∧ pp ≤ q ∧ ws ≠ [] ∧ wantsK k placed = done ++ ws ∧ PWx (GoodE ts) ws (ts.drop q) nm' rg' kids' r ∧ nm = nmx ++ nm' ∧ rg = rgx ++ rg' ∧ kids = dk ++ kids' ∧
  dk.length = cntE done ∧ (Wt.name ∈ done → nmx ≠ []) ∧ (Wt.name ∉ done → nmx = []) ∧ (Wt.region ∉ done → rgx = []) ∧ ids + 1 + cntL dk ≤ q ∧ sites + d + prsL dk ≤ q ∧
  wr.heap[cb]? = some (.cells (cntCells (.slice (some ⟨gt, 0, none⟩) ts.length tc) q (ids + 1 + cntL dk) (sites + d + prsL dk)) 70 (0, 0)) ∧
  wr.heap[xb]? = some (.cells (exCells k.bytes p0 nmx (valueL rgx) kv ids 0 sites) 52 (0, 0)) ∧
  wr.heap[tb]? = some (.cells #[T0, T1, T2] 66 (0, 0)) ∧
  w.grownBy wr (some cb) ∧ wr.ownsRow 0 39 1 kv dk.length (bl.map ptr) ∧ (∀ g, kv.ownBlock = some g → w.heap.size + 2 ≤ g) ∧
  IsTs wr (fun b => w.heap.size + 2 ≤ b ∧ b < wr.heap.size ∧ kv.ownBlock ≠ some b) dk (ids + 1) (sites + d) bl
theorem gr_owns {w wr : World} {cb : Nat} {ts : List Tk} {gt tc : Nat} (h : w.ownsRow 0 66 3 (.slice (some ⟨gt, 0, none⟩) ts.length tc) ts.length (ts.flatMap tkCells)) (hg : w.grownBy wr (some cb)) (hne : gt ≠ cb) :
  wr.ownsRow 0 66 3 (.slice (some ⟨gt, 0, none⟩) ts.length tc) ts.length (ts.flatMap tkCells) := by
 refine owns_blk h (fun k hk => hg.block k (h.lt k hk).2 ?_)
 simp only [Value.ownBlock, Option.some.injEq] at hk
 intro e; cases e; omega
theorem one_new (w : World) (v : Value) (e : TypeId) : ∀ (j : Nat) (u : Value), [v][j]? = some u → (w.alloc (.cells #[v] e)).cell? (Addr.add ⟨w.heap.size, 0, none⟩ j) = some u := by
 intro j u hj
 match j, hj with
 | 0, hj => simp at hj; subst hj; simp [Addr.add]
 | j + 1, hj => simp at hj
theorem one_ptr (b : Nat) : ∀ (u : Value), u ∈ [ptr b] → u.oneCell' = true := by
 intro u hu; simp at hu; subst hu; rfl
theorem drop_at {ts : List Tk} {q : Nat} {t : Tk} {rr : List Tk} (h : ts.drop q = t :: rr) : ts[q]? = some t ∧ q < ts.length ∧ rr = ts.drop (q + 1) := by
 have hq : q < ts.length := by
  rcases Nat.lt_or_ge q ts.length with h1 | h1
  ·exact h1
  ·rw [List.drop_eq_nil_of_le h1] at h; cases h
 rw [List.drop_eq_getElem_cons hq] at h
 simp only [List.cons.injEq] at h
 exact ⟨by rw [List.getElem?_eq_getElem hq, h.1], hq, h.2.symm⟩
theorem pre_end {w w0 W : World} {cb : Nat} {cc : Obj} (X T : Obj) (hc : w0.heap[cb]? = some cc) (hg : w.grownBy w0 (some cb)) (hs : w0.heap.size = w.heap.size) (hW : W.heap = ((w0.alloc X).alloc T).heap) (h1 : W.os = w0.os) (h2 : W.tape = w0.tape) (h3 : W.output = w0.output) :
  W.heap[cb]? = some cc ∧ W.heap[w.heap.size]? = some X ∧ W.heap[w.heap.size + 1]? = some T ∧ w.grownBy W (some cb) ∧ W.heap.size = w.heap.size + 2 := by
 refine ⟨?_, ?_, ?_, ?_, ?_⟩
 ·rw [hW]; exact blk_alloc _ (blk_alloc _ hc)
 ·rw [hW, ← hs]; exact blk_alloc _ (blk_new _ _)
 ·rw [hW, ← hs]
  have := blk_new (w0.alloc X) T
  simpa using this
 ·refine gr_trans hg ⟨h1, h2, h3, by rw [hW]; simp; omega, fun k hk _ => ?_⟩
  rw [hW, Below.heap_alloc _ _ _ (by simp; omega), Below.heap_alloc _ _ _ hk]
 ·rw [hW]; simp [hs]
theorem pre0 {w : World} {cb : Nat} {tv : Value} {p ids sites : Nat} (hc : w.heap[cb]? = some (.cells (cntCells tv p ids sites) 70 (0, 0))) :
  (((w.setCell ⟨cb, 2, none⟩ (.int .i64 ((ids : Int) + 1))).setCell ⟨cb, 1, none⟩ (.int .i64 ((p : Int) + 1))).setCell ⟨cb, 1, none⟩ (.int .i64 ((p : Int) + 1 + 1))).heap[cb]? = some (.cells (cntCells tv (p + 2) (ids + 1) sites) 70 (0, 0)) ∧
  w.grownBy (((w.setCell ⟨cb, 2, none⟩ (.int .i64 ((ids : Int) + 1))).setCell ⟨cb, 1, none⟩ (.int .i64 ((p : Int) + 1))).setCell ⟨cb, 1, none⟩ (.int .i64 ((p : Int) + 1 + 1))) (some cb) ∧
  (((w.setCell ⟨cb, 2, none⟩ (.int .i64 ((ids : Int) + 1))).setCell ⟨cb, 1, none⟩ (.int .i64 ((p : Int) + 1))).setCell ⟨cb, 1, none⟩ (.int .i64 ((p : Int) + 1 + 1))).heap.size = w.heap.size := by
 refine ⟨blk_set (blk_set (blk_set hc 2 _) 1 _) 1 _, gr_trans (gr_trans (gr_set w ⟨cb, 2, none⟩ _) (gr_set _ ⟨cb, 1, none⟩ _)) (gr_set _ ⟨cb, 1, none⟩ _), by simp [World.setCell]⟩
theorem pre1 {w : World} {cb : Nat} {tv : Value} {p ids sites : Nat} (hc : w.heap[cb]? = some (.cells (cntCells tv p ids sites) 70 (0, 0))) :
  ((((w.setCell ⟨cb, 2, none⟩ (.int .i64 ((ids : Int) + 1))).setCell ⟨cb, 1, none⟩ (.int .i64 ((p : Int) + 1))).setCell ⟨cb, 1, none⟩ (.int .i64 ((p : Int) + 1 + 1))).setCell ⟨cb, 3, none⟩ (.int .i64 ((sites : Int) + 1))).heap[cb]? = some (.cells (cntCells tv (p + 2) (ids + 1) (sites + 1)) 70 (0, 0)) ∧
  w.grownBy ((((w.setCell ⟨cb, 2, none⟩ (.int .i64 ((ids : Int) + 1))).setCell ⟨cb, 1, none⟩ (.int .i64 ((p : Int) + 1))).setCell ⟨cb, 1, none⟩ (.int .i64 ((p : Int) + 1 + 1))).setCell ⟨cb, 3, none⟩ (.int .i64 ((sites : Int) + 1))) (some cb) ∧
  ((((w.setCell ⟨cb, 2, none⟩ (.int .i64 ((ids : Int) + 1))).setCell ⟨cb, 1, none⟩ (.int .i64 ((p : Int) + 1))).setCell ⟨cb, 1, none⟩ (.int .i64 ((p : Int) + 1 + 1))).setCell ⟨cb, 3, none⟩ (.int .i64 ((sites : Int) + 1))).heap.size = w.heap.size := by
 obtain ⟨h1, h2, h3⟩ := pre0 hc
 exact ⟨blk_set h1 3 _, gr_trans h2 (gr_set _ ⟨cb, 3, none⟩ _), by rw [← h3]; simp [World.setCell]⟩
theorem node_end {ts : List Tk} {placed : Bool} {gt tc cb p ids sites d : Nat} {k : Kw} {p0 q : Nat} {nm rg nmx rgx nm' rg' : List UInt8} {kids dk kids' : List PT} {r rr : List Tk} {w wr W : World} {kv : Value} {bl : List Nat} {done ws ws' : List Wt}
  (hcb : cb < w.heap.size)
  (hcc : wr.heap[cb]? = some (.cells (cntCells (.slice (some ⟨gt, 0, none⟩) ts.length tc) q (ids + 1 + cntL dk) (sites + d + prsL dk)) 70 (0, 0)))
  (hxx : wr.heap[w.heap.size]? = some (.cells (exCells k.bytes p0 nmx (valueL rgx) kv ids 0 sites) 52 (0, 0)))
  (hgr : w.grownBy wr (some cb)) (hkv : wr.ownsRow 0 39 1 kv dk.length (bl.map ptr)) (hkb : ∀ g, kv.ownBlock = some g → w.heap.size + 2 ≤ g)
  (hkt : IsTs wr (fun b => w.heap.size + 2 ≤ b ∧ b < wr.heap.size ∧ kv.ownBlock ≠ some b) dk (ids + 1) (sites + d) bl)
  (hall : nm = nmx ++ nm' ∧ rg = rgx ++ rg' ∧ kids = dk ++ kids' ∧ (Wt.name ∈ done → nmx ≠ []) ∧ (Wt.name ∉ done → nmx = []) ∧ (Wt.region ∉ done → rgx = []) ∧ dk.length = cntE done ∧ wantsK k placed = done ++ ws)
  (hwz : Wt.close :: ws' = ws) (hr : PWx (GoodE ts) ws' rr nm' rg' kids' r) (hrr : rr = ts.drop (q + 1)) (hd : d = if k = .pair then 1 else 0) (hpq : p ≤ q) (hq : q < ts.length)
  (hW : W.heap = ((wr.setCell ⟨cb, 1, none⟩ (.int .i64 ((q : Int) + 1))).setCell ⟨w.heap.size, 6, none⟩ (.int .i64 (((ids + 1 + cntL dk : Nat) : Int) - 1))).heap) (h1 : W.os = wr.os) (h2 : W.tape = wr.tape) (h3 : W.output = wr.output) :
  BOut ts gt tc cb p ids sites w (.node p0 k nm rg kids) ((ts.drop p).length - r.length) (.returned (.pointer (some ⟨w.heap.size, 0, none⟩))) W := by
 obtain ⟨e1, e2, e3, _, _, _, _, e8⟩ := hall
 rw [← hwz] at e8
 have e9 := wants_close e8
 subst e9
 cases hr
 simp only [List.append_nil] at e1 e2 e3
 subst e1 e2 e3 hrr hd
 have hsz : W.heap.size = wr.heap.size := by rw [hW]; simp [World.setCell]
 have hxs := blk_lt hxx
 have hother : ∀ b, b ≠ cb → b ≠ w.heap.size → W.heap[b]? = wr.heap[b]? := by
  intro b hb1 hb2
  rw [hW, blk_other _ _ (by simpa using hb2), blk_other _ _ (by simpa using hb1)]
 refine ⟨w.heap.size, rfl, ?_, ?_, ?_⟩
 ·rw [hW, blk_other _ _ (by simp; omega), blk_set hcc 1 _]
  have eu : p + ((ts.drop p).length - (ts.drop (q + 1)).length) = q + 1 := by simp; omega
  rw [eu]
  simp only [PT.cnt, PT.prs]
  rw [show ids + (1 + cntL kids) = ids + 1 + cntL kids from by omega, ← Nat.add_assoc sites]
  rfl
 ·refine ⟨h1.trans hgr.os, h2.trans hgr.tape, h3.trans hgr.output, by have := hgr.size; omega, fun b hb hb' => ?_⟩
  rw [hother b (fun e => hb' (by rw [e])) (by omega)]
  exact hgr.block b hb hb'
 ·simp only [IsT]
  refine ⟨⟨Nat.le_refl _, by omega⟩, kv, bl, ?_, ?_, ?_, ?_⟩
  ·rw [hW, blk_set (by rw [blk_other _ _ (by simp; omega)]; exact hxx) 6 _]
   have : (((ids + 1 + cntL kids : Nat) : Int) - 1) = ((ids + cntL kids : Nat) : Int) := by omega
   rw [this]; rfl
  ·intro g hg
   have := hkb g hg
   have := (hkv.lt g hg).2
   exact ⟨by omega, by omega⟩
  ·refine owns_blk hkv (fun g hg => ?_)
   have := hkb g hg
   exact hother g (by omega) (by omega)
  ·exact IsTs.keep (fun b hb => ⟨by omega, by omega⟩) (fun b hb => hother b (by omega) (by omega)) _ _ _ _ hkt
theorem name_step {ts : List Tk} {placed : Bool} {gt tc cb ids sites d : Nat} {k : Kw} {p0 q pp : Nat} {nm rg nmx rgx nm' rg' : List UInt8} {kids dk kids' : List PT} {r rr : List Tk} {w wr W : World} {kv T0 T1 T2 : Value} {bl : List Nat} {done ws ws' : List Wt} {t : Tk}
  (hcb : cb < w.heap.size) (hxc : cb ≠ w.heap.size) (htc : cb ≠ w.heap.size + 1)
  (hcc : wr.heap[cb]? = some (.cells (cntCells (.slice (some ⟨gt, 0, none⟩) ts.length tc) q (ids + 1 + cntL dk) (sites + d + prsL dk)) 70 (0, 0)))
  (hxx : wr.heap[w.heap.size]? = some (.cells (exCells k.bytes p0 nmx (valueL rgx) kv ids 0 sites) 52 (0, 0)))
  (htt : wr.heap[w.heap.size + 1]? = some (.cells #[T0, T1, T2] 66 (0, 0)))
  (hgr : w.grownBy wr (some cb)) (hkv : wr.ownsRow 0 39 1 kv dk.length (bl.map ptr)) (hkb : ∀ g, kv.ownBlock = some g → w.heap.size + 2 ≤ g)
  (hkt : IsTs wr (fun b => w.heap.size + 2 ≤ b ∧ b < wr.heap.size ∧ kv.ownBlock ≠ some b) dk (ids + 1) (sites + d) bl)
  (hall : nm = nmx ++ t.s ∧ rg = rgx ++ rg' ∧ kids = dk ++ kids' ∧ (Wt.name ∈ done → nmx ≠ []) ∧ (Wt.name ∉ done → nmx = []) ∧ (Wt.region ∉ done → rgx = []) ∧ dk.length = cntE done ∧ wantsK k placed = done ++ ws)
  (hwz : Wt.name :: ws' = ws) (hr : PWx (GoodE ts) ws' rr nm' rg' kids' r) (hrr : rr = ts.drop (q + 1)) (hts0 : t.s ≠ [])
  (hb1 : ids + 1 + cntL dk ≤ q) (hb2 : sites + d + prsL dk ≤ q) (hpq : pp ≤ q)
  (hW : W.heap = (((((wr.setCell ⟨w.heap.size + 1, 0, none⟩ (.string (bs t.s))).setCell ⟨w.heap.size + 1, 1, none⟩ (.int .i64 t.at_)).setCell ⟨w.heap.size + 1, 2, none⟩ (.string (bs t.c.bytes))).setCell ⟨w.heap.size, 2, none⟩ (.string (bs t.s))).setCell ⟨cb, 1, none⟩ (.int .i64 ((q : Int) + 1))).heap)
  (h1 : W.os = wr.os) (h2 : W.tape = wr.tape) (h3 : W.output = wr.output) :
  LInv ts placed gt tc cb ids sites d k p0 nm rg kids r w w.heap.size (w.heap.size + 1) pp ws'.length W := by
 have hxs := blk_lt hxx
 have hts := blk_lt htt
 have hother : ∀ b, b ≠ cb → b ≠ w.heap.size → b ≠ w.heap.size + 1 → W.heap[b]? = wr.heap[b]? := by
  intro b hb1 hb2 hb3
  rw [hW, blk_other _ _ (by simpa using hb1), blk_other _ _ (by simpa using hb2), blk_other _ _ (by simpa using hb3), blk_other _ _ (by simpa using hb3), blk_other _ _ (by simpa using hb3)]
 have hsz : W.heap.size = wr.heap.size := by rw [hW]; simp [World.setCell]
 have hc' : W.heap[cb]? = some (.cells (cntCells (.slice (some ⟨gt, 0, none⟩) ts.length tc) (q + 1) (ids + 1 + cntL dk) (sites + d + prsL dk)) 70 (0, 0)) := by
  rw [hW]
  refine (blk_set (arr := cntCells (.slice (some ⟨gt, 0, none⟩) ts.length tc) q (ids + 1 + cntL dk) (sites + d + prsL dk)) ?_ 1 _).trans rfl
  rw [blk_other _ _ (by simpa using hxc), blk_other _ _ (by simpa using htc), blk_other _ _ (by simpa using htc), blk_other _ _ (by simpa using htc)]; exact hcc
 have ht' : W.heap[w.heap.size + 1]? = some (.cells #[.string (bs t.s), .int .i64 t.at_, .string (bs t.c.bytes)] 66 (0, 0)) := by
  rw [hW, blk_other _ _ (by simp; omega), blk_other _ _ (by simp)]
  exact blk_set (blk_set (blk_set htt 0 _) 1 _) 2 _
 have hg' : w.grownBy W (some cb) := by
  refine ⟨h1.trans hgr.os, h2.trans hgr.tape, h3.trans hgr.output, by have := hgr.size; omega, fun b hb hb' => ?_⟩
  rw [hother b (fun e => hb' (by rw [e])) (by omega) (by omega)]
  exact hgr.block b hb hb'
 have hkv' : W.ownsRow 0 39 1 kv dk.length (bl.map ptr) := owns_blk hkv (fun g hg => by have := hkb g hg; exact hother g (by omega) (by omega) (by omega))
 have hkt' : IsTs W (fun b => w.heap.size + 2 ≤ b ∧ b < W.heap.size ∧ kv.ownBlock ≠ some b) dk (ids + 1) (sites + d) bl :=
  IsTs.keep (fun b hb => ⟨hb.1, by omega, hb.2.2⟩) (fun b hb => hother b (by omega) (by omega) (by omega)) _ _ _ _ hkt
 obtain ⟨e1, e2, e3, e4, e5, e6, e7, e8⟩ := hall
 rw [← hwz] at e8
 have wn := wants_name e8
 have en := hr.noname wn.2.2
 subst en
 have ex := e5 wn.2.1
 subst ex
 have hx' : W.heap[w.heap.size]? = some (.cells (exCells k.bytes p0 t.s (valueL rgx) kv ids 0 sites) 52 (0, 0)) := by
  rw [hW, blk_other _ _ (by simp; omega)]
  refine (blk_set (arr := exCells k.bytes p0 [] (valueL rgx) kv ids 0 sites) ?_ 2 _).trans rfl
  rw [blk_other _ _ (by simp), blk_other _ _ (by simp), blk_other _ _ (by simp)]; exact hxx
 subst hrr
 refine ⟨done ++ [.name], ws', q + 1, [], rg', t.s, rgx, kids', dk, kv, bl, _, _, _, rfl, by omega, wants_more e8 (by decide), by rw [e8]; simp, hr, by rw [e1]; simp, e2, e3, by rw [e7]; simp [cntE], fun _ => hts0, fun h => absurd (by simp) h, fun h => e6 (fun h' => h (by simp [h'])), by omega, by omega, hc', hx', ht', hg', hkv', hkb, hkt'⟩
theorem region_step {ts : List Tk} {placed : Bool} {gt tc cb ids sites d : Nat} {k : Kw} {p0 q pp : Nat} {nm rg nmx rgx nm' rg' : List UInt8} {kids dk kids' : List PT} {r rr : List Tk} {w wr W : World} {kv T0 T1 T2 : Value} {bl : List Nat} {done ws ws' : List Wt} {t : Tk}
  (hcb : cb < w.heap.size) (hxc : cb ≠ w.heap.size) (htc : cb ≠ w.heap.size + 1)
  (hcc : wr.heap[cb]? = some (.cells (cntCells (.slice (some ⟨gt, 0, none⟩) ts.length tc) q (ids + 1 + cntL dk) (sites + d + prsL dk)) 70 (0, 0)))
  (hxx : wr.heap[w.heap.size]? = some (.cells (exCells k.bytes p0 nmx (valueL rgx) kv ids 0 sites) 52 (0, 0)))
  (htt : wr.heap[w.heap.size + 1]? = some (.cells #[T0, T1, T2] 66 (0, 0)))
  (hgr : w.grownBy wr (some cb)) (hkv : wr.ownsRow 0 39 1 kv dk.length (bl.map ptr)) (hkb : ∀ g, kv.ownBlock = some g → w.heap.size + 2 ≤ g)
  (hkt : IsTs wr (fun b => w.heap.size + 2 ≤ b ∧ b < wr.heap.size ∧ kv.ownBlock ≠ some b) dk (ids + 1) (sites + d) bl)
  (hall : nm = nmx ++ nm' ∧ rg = rgx ++ t.s ∧ kids = dk ++ kids' ∧ (Wt.name ∈ done → nmx ≠ []) ∧ (Wt.name ∉ done → nmx = []) ∧ (Wt.region ∉ done → rgx = []) ∧ dk.length = cntE done ∧ wantsK k placed = done ++ ws)
  (hwz : Wt.region :: ws' = ws) (hr : PWx (GoodE ts) ws' rr nm' rg' kids' r) (hrr : rr = ts.drop (q + 1))
  (hb1 : ids + 1 + cntL dk ≤ q) (hb2 : sites + d + prsL dk ≤ q) (hpq : pp ≤ q)
  (hW : W.heap = (((((wr.setCell ⟨w.heap.size + 1, 0, none⟩ (.string (bs t.s))).setCell ⟨w.heap.size + 1, 1, none⟩ (.int .i64 t.at_)).setCell ⟨w.heap.size + 1, 2, none⟩ (.string (bs t.c.bytes))).setCell ⟨w.heap.size, 3, none⟩ (.int .i64 (valueL t.s))).setCell ⟨cb, 1, none⟩ (.int .i64 ((q : Int) + 1))).heap)
  (h1 : W.os = wr.os) (h2 : W.tape = wr.tape) (h3 : W.output = wr.output) :
  LInv ts placed gt tc cb ids sites d k p0 nm rg kids r w w.heap.size (w.heap.size + 1) pp ws'.length W := by
 have hxs := blk_lt hxx
 have hts := blk_lt htt
 have hother : ∀ b, b ≠ cb → b ≠ w.heap.size → b ≠ w.heap.size + 1 → W.heap[b]? = wr.heap[b]? := by
  intro b hb1 hb2 hb3
  rw [hW, blk_other _ _ (by simpa using hb1), blk_other _ _ (by simpa using hb2), blk_other _ _ (by simpa using hb3), blk_other _ _ (by simpa using hb3), blk_other _ _ (by simpa using hb3)]
 have hsz : W.heap.size = wr.heap.size := by rw [hW]; simp [World.setCell]
 have hc' : W.heap[cb]? = some (.cells (cntCells (.slice (some ⟨gt, 0, none⟩) ts.length tc) (q + 1) (ids + 1 + cntL dk) (sites + d + prsL dk)) 70 (0, 0)) := by
  rw [hW]
  refine (blk_set (arr := cntCells (.slice (some ⟨gt, 0, none⟩) ts.length tc) q (ids + 1 + cntL dk) (sites + d + prsL dk)) ?_ 1 _).trans rfl
  rw [blk_other _ _ (by simpa using hxc), blk_other _ _ (by simpa using htc), blk_other _ _ (by simpa using htc), blk_other _ _ (by simpa using htc)]; exact hcc
 have ht' : W.heap[w.heap.size + 1]? = some (.cells #[.string (bs t.s), .int .i64 t.at_, .string (bs t.c.bytes)] 66 (0, 0)) := by
  rw [hW, blk_other _ _ (by simp; omega), blk_other _ _ (by simp)]
  exact blk_set (blk_set (blk_set htt 0 _) 1 _) 2 _
 have hg' : w.grownBy W (some cb) := by
  refine ⟨h1.trans hgr.os, h2.trans hgr.tape, h3.trans hgr.output, by have := hgr.size; omega, fun b hb hb' => ?_⟩
  rw [hother b (fun e => hb' (by rw [e])) (by omega) (by omega)]
  exact hgr.block b hb hb'
 have hkv' : W.ownsRow 0 39 1 kv dk.length (bl.map ptr) := owns_blk hkv (fun g hg => by have := hkb g hg; exact hother g (by omega) (by omega) (by omega))
 have hkt' : IsTs W (fun b => w.heap.size + 2 ≤ b ∧ b < W.heap.size ∧ kv.ownBlock ≠ some b) dk (ids + 1) (sites + d) bl :=
  IsTs.keep (fun b hb => ⟨hb.1, by omega, hb.2.2⟩) (fun b hb => hother b (by omega) (by omega) (by omega)) _ _ _ _ hkt
 obtain ⟨e1, e2, e3, e4, e5, e6, e7, e8⟩ := hall
 rw [← hwz] at e8
 have wn := wants_region e8
 have en := hr.noregion wn.2
 subst en
 have ex := e6 wn.1
 subst ex
 have hx' : W.heap[w.heap.size]? = some (.cells (exCells k.bytes p0 nmx (valueL t.s) kv ids 0 sites) 52 (0, 0)) := by
  rw [hW, blk_other _ _ (by simp; omega)]
  refine (blk_set (arr := exCells k.bytes p0 nmx (valueL []) kv ids 0 sites) ?_ 3 _).trans rfl
  rw [blk_other _ _ (by simp), blk_other _ _ (by simp), blk_other _ _ (by simp)]; exact hxx
 subst hrr
 refine ⟨done ++ [.region], ws', q + 1, nm', [], nmx, t.s, kids', dk, kv, bl, _, _, _, rfl, by omega, wants_more e8 (by decide), by rw [e8]; simp, hr, e1, by rw [e2]; simp, e3, by rw [e7]; simp [cntE], fun h => e4 (by simpa using h), fun h => e5 (fun h' => h (by simp [h'])), fun h => absurd (by simp) h, by omega, by omega, hc', hx', ht', hg', hkv', hkb, hkt'⟩
structure EMid (ts : List Tk) (gt tc cb ids sites d : Nat) (k : Kw) (p0 q : Nat) (nmx rgx : List UInt8) (dk : List PT) (kv : Value) (bl : List Nat) (t : Tk) (w wr W1 : World) : Prop where
 inn : BIn ts gt tc cb q (ids + 1 + cntL dk) (sites + d + prsL dk) W1
 x : W1.heap[w.heap.size]? = some (.cells (exCells k.bytes p0 nmx (valueL rgx) kv ids 0 sites) 52 (0, 0))
 tt : W1.heap[w.heap.size + 1]? = some (.cells #[.string (bs t.s), .int .i64 t.at_, .string (bs t.c.bytes)] 66 (0, 0))
 gr : w.grownBy W1 (some cb)
 ow : W1.ownsRow 0 39 1 kv dk.length (bl.map ptr)
 kt : IsTs W1 (fun b => w.heap.size + 2 ≤ b ∧ b < W1.heap.size ∧ kv.ownBlock ≠ some b) dk (ids + 1) (sites + d) bl
theorem e_in {ts : List Tk} {gt tc cb ids sites d : Nat} {k : Kw} {p0 q : Nat} {nmx rgx : List UInt8} {dk : List PT} {w wr W1 : World} {kv T0 T1 T2 : Value} {bl : List Nat} {t : Tk}
  (htc : cb ≠ w.heap.size + 1)
  (hcc : wr.heap[cb]? = some (.cells (cntCells (.slice (some ⟨gt, 0, none⟩) ts.length tc) q (ids + 1 + cntL dk) (sites + d + prsL dk)) 70 (0, 0)))
  (hxx : wr.heap[w.heap.size]? = some (.cells (exCells k.bytes p0 nmx (valueL rgx) kv ids 0 sites) 52 (0, 0)))
  (htt : wr.heap[w.heap.size + 1]? = some (.cells #[T0, T1, T2] 66 (0, 0)))
  (hgr : w.grownBy wr (some cb)) (hkv : wr.ownsRow 0 39 1 kv dk.length (bl.map ptr)) (hkb : ∀ g, kv.ownBlock = some g → w.heap.size + 2 ≤ g)
  (hkt : IsTs wr (fun b => w.heap.size + 2 ≤ b ∧ b < wr.heap.size ∧ kv.ownBlock ≠ some b) dk (ids + 1) (sites + d) bl)
  (htk : wr.ownsRow 0 66 3 (.slice (some ⟨gt, 0, none⟩) ts.length tc) ts.length (ts.flatMap tkCells)) (hne : gt ≠ cb) (hgtt : gt ≠ w.heap.size + 1)
  (hW1 : W1.heap = (((wr.setCell ⟨w.heap.size + 1, 0, none⟩ (.string (bs t.s))).setCell ⟨w.heap.size + 1, 1, none⟩ (.int .i64 t.at_)).setCell ⟨w.heap.size + 1, 2, none⟩ (.string (bs t.c.bytes))).heap)
  (h1 : W1.os = wr.os) (h2 : W1.tape = wr.tape) (h3 : W1.output = wr.output) : EMid ts gt tc cb ids sites d k p0 q nmx rgx dk kv bl t w wr W1 := by
 have hxs := blk_lt hxx
 have hother : ∀ b, b ≠ w.heap.size + 1 → W1.heap[b]? = wr.heap[b]? := by
  intro b hb3
  rw [hW1, blk_other _ _ (by simpa using hb3), blk_other _ _ (by simpa using hb3), blk_other _ _ (by simpa using hb3)]
 have hsz : W1.heap.size = wr.heap.size := by rw [hW1]; simp [World.setCell]
 refine ⟨⟨hne, by rw [hother cb htc]; exact hcc, owns_blk htk (fun b hb => ?_)⟩, by rw [hother _ (by omega)]; exact hxx, ?_, ?_, ?_, ?_⟩
 ·simp only [Value.ownBlock, Option.some.injEq] at hb
  subst hb
  exact hother _ hgtt
 ·rw [hW1]; exact blk_set (blk_set (blk_set htt 0 _) 1 _) 2 _
 ·refine ⟨h1.trans hgr.os, h2.trans hgr.tape, h3.trans hgr.output, by have := hgr.size; omega, fun b hb hb' => ?_⟩
  rw [hother b (by omega)]
  exact hgr.block b hb hb'
 ·exact owns_blk hkv (fun g hg => by have := hkb g hg; exact hother g (by omega))
 ·exact IsTs.keep (fun b hb => ⟨hb.1, by omega, hb.2.2⟩) (fun b hb => hother b (by omega)) _ _ _ _ hkt
theorem e_out {ts : List Tk} {placed : Bool} {gt tc cb ids sites d : Nat} {k : Kw} {p0 q pp : Nat} {nm rg nmx rgx nm' rg' : List UInt8} {kids dk kids' : List PT} {r rr : List Tk} {w wr W1 w2 w3 W : World} {kv T0 : Value} {bl : List Nat} {done ws ws' : List Wt} {t : Tk} {e' : PT} {b' g cap used : Nat}
  (hcb : cb < w.heap.size) (hm : EMid ts gt tc cb ids sites d k p0 q nmx rgx dk kv bl t w wr W1) (hkb : ∀ g, kv.ownBlock = some g → w.heap.size + 2 ≤ g)
  (hall : nm = nmx ++ nm' ∧ rg = rgx ++ rg' ∧ kids = dk ++ (e' :: kids') ∧ (Wt.name ∈ done → nmx ≠ []) ∧ (Wt.name ∉ done → nmx = []) ∧ (Wt.region ∉ done → rgx = []) ∧ dk.length = cntE done ∧ wantsK k placed = done ++ ws)
  (hwz : Wt.e :: ws' = ws) (hr : PWx (GoodE ts) ws' rr nm' rg' kids' r) (hrr : rr = ts.drop (q + used)) (hb1 : ids + 1 + cntL dk + e'.cnt ≤ q + used) (hb2 : sites + d + prsL dk + e'.prs ≤ q + used) (hpq : pp ≤ q)
  (hc2 : w2.heap[cb]? = some (.cells (cntCells (.slice (some ⟨gt, 0, none⟩) ts.length tc) (q + used) (ids + 1 + cntL dk + e'.cnt) (sites + d + prsL dk + e'.prs)) 70 (0, 0)))
  (hg2 : W1.grownBy w2 (some cb)) (hT2 : IsT w2 (fun k => W1.heap.size ≤ k ∧ k < w2.heap.size) e' (ids + 1 + cntL dk) (sites + d + prsL dk) b')
  (hg3 : (w2.alloc (.cells #[T0] 39)).grownBy w3 kv.ownBlock) (ho3 : w3.ownsRow 0 39 1 (.slice (some ⟨g, 0, none⟩) (dk.length + 1) cap) (dk.length + 1) (bl.map ptr ++ [ptr b']))
  (hgg : kv.ownBlock = some g ∨ (w2.alloc (.cells #[T0] 39)).heap.size ≤ g)
  (hW : W.heap = (w3.setCell ⟨w.heap.size, 4, none⟩ (.slice (some ⟨g, 0, none⟩) (dk.length + 1) cap)).heap) (h1 : W.os = w3.os) (h2 : W.tape = w3.tape) (h3 : W.output = w3.output) :
  LInv ts placed gt tc cb ids sites d k p0 nm rg kids r w w.heap.size (w.heap.size + 1) pp ws'.length W := by
 obtain ⟨e1, e2, e3, e4, e5, e6, e7, e8⟩ := hall
 rw [← hwz] at e8
 have hxs := blk_lt hm.x
 have hts := blk_lt hm.tt
 have s12 := hg2.size
 have s23 := hg3.size
 have ea : (w2.alloc (.cells #[T0] 39)).heap.size = w2.heap.size + 1 := by simp
 rw [ea] at hgg s23
 have hsW : W.heap.size = w3.heap.size := by rw [hW]; simp [World.setCell]
 have hkvlt : ∀ g, kv.ownBlock = some g → g < W1.heap.size := fun g hg => (hm.ow.lt g hg).2
 -- a block that is not x's nor the row's holds in W what it held in w2
 have o2 : ∀ b, b < w2.heap.size → b ≠ w.heap.size → kv.ownBlock ≠ some b → W.heap[b]? = w2.heap[b]? := by
  intro b hb hbx hbk
  rw [hW, blk_other _ _ (by simpa using hbx), hg3.block b (by rw [ea]; omega) (fun e => hbk e.symm), Below.heap_alloc _ _ _ hb]
 have o1 : ∀ b, b < W1.heap.size → b ≠ cb → b ≠ w.heap.size → kv.ownBlock ≠ some b → W.heap[b]? = W1.heap[b]? := by
  intro b hb hbc hbx hbk
  rw [o2 b (by omega) hbx hbk, hg2.block b hb (by intro e; cases e; exact hbc rfl)]
 have nk : ∀ b, b < w.heap.size + 2 → kv.ownBlock ≠ some b := fun b hb e => by have := hkb b e; omega
 have hcW : W.heap[cb]? = some (.cells (cntCells (.slice (some ⟨gt, 0, none⟩) ts.length tc) (q + used) (ids + 1 + cntL (dk ++ [e'])) (sites + d + prsL (dk ++ [e']))) 70 (0, 0)) := by
  rw [o2 cb (blk_lt hc2) (by omega) (nk cb (by omega)), hc2, cntL_snoc, prsL_snoc, Nat.add_assoc (ids + 1), Nat.add_assoc (sites + d)]
 have hxW : W.heap[w.heap.size]? = some (.cells (exCells k.bytes p0 nmx (valueL rgx) (.slice (some ⟨g, 0, none⟩) (dk.length + 1) cap) ids 0 sites) 52 (0, 0)) := by
  rw [hW]
  refine (blk_set (arr := exCells k.bytes p0 nmx (valueL rgx) kv ids 0 sites) ?_ 4 _).trans rfl
  rw [hg3.block _ (by rw [ea]; omega) (fun e => nk _ (by omega) e.symm), Below.heap_alloc _ _ _ (by omega), hg2.block _ hxs (by intro e; cases e; omega)]
  exact hm.x
 have htW : W.heap[w.heap.size + 1]? = some (.cells #[.string (bs t.s), .int .i64 t.at_, .string (bs t.c.bytes)] 66 (0, 0)) := by
  rw [o1 _ hts (by omega) (by omega) (nk _ (by omega))]; exact hm.tt
 have hgW : w.grownBy W (some cb) := by
  refine ⟨h1.trans (hg3.os.trans (hg2.os.trans hm.gr.os)), h2.trans (hg3.tape.trans (hg2.tape.trans hm.gr.tape)), h3.trans (hg3.output.trans (hg2.output.trans hm.gr.output)), by have := hm.gr.size; omega, fun b hb hb' => ?_⟩
  rw [o1 b (by omega) (fun e => hb' (by rw [e])) (by omega) (nk b (by omega))]
  exact hm.gr.block b hb hb'
 have hge : ∀ g', (Value.slice (some ⟨g, 0, none⟩) (dk.length + 1) cap).ownBlock = some g' → g' = g := by
  intro g' h; simp only [Value.ownBlock, Option.some.injEq] at h; exact h.symm
 have hgx : w.heap.size + 2 ≤ g := by
  rcases hgg with h | h
  ·exact hkb g h
  ·omega
 have hoW : W.ownsRow 0 39 1 (.slice (some ⟨g, 0, none⟩) (dk.length + 1) cap) (dk ++ [e']).length ((bl ++ [b']).map ptr) := by
  have e1' : (dk ++ [e']).length = dk.length + 1 := by simp
  have e2' : (bl ++ [b']).map ptr = bl.map ptr ++ [ptr b'] := by simp
  rw [e1', e2']
  refine owns_blk ho3 (fun g' hg' => ?_)
  rw [hge g' hg', hW, blk_other _ _ (by simp; omega)]
 have hgne : ∀ b, (b < W1.heap.size ∧ kv.ownBlock ≠ some b) ∨ (W1.heap.size ≤ b ∧ b < w2.heap.size) → b ≠ g := by
  intro b hb e
  subst e
  rcases hgg with h | h
  ·rcases hb with ⟨_, hb⟩ | ⟨hb, _⟩
   ·exact hb h
   ·have := hkvlt _ h; omega
  ·omega
 refine ⟨done ++ [.e], ws', q + used, nm', rg', nmx, rgx, kids', dk ++ [e'], _, bl ++ [b'], _, _, _, rfl, by omega, wants_more e8 (by decide), by rw [e8]; simp, by rw [← hrr]; exact hr, e1, e2, by rw [e3]; simp, by simp [e7, cntE],
  fun h => e4 (by simpa using h), fun h => e5 (fun h' => h (by simp [h'])), fun h => e6 (fun h' => h (by simp [h'])), by rw [cntL_snoc]; omega, by rw [prsL_snoc]; omega, hcW, hxW, htW, hgW, hoW, fun g' hg' => by rw [hge g' hg']; exact hgx, ?_⟩
 refine IsTs.snoc _ _ _ _ _ _ ?_ ?_
 ·refine IsTs.keep (fun b hb => ⟨hb.1, by omega, ?_⟩) (fun b hb => o1 b hb.2.1 (by omega) (by omega) hb.2.2) _ _ _ _ hm.kt
  intro e
  exact hgne b (Or.inl ⟨hb.2.1, hb.2.2⟩) (hge b e)
 ·have : ∀ b, W1.heap.size ≤ b ∧ b < w2.heap.size → kv.ownBlock ≠ some b := fun b hb e => by have := hkvlt b e; omega
  refine IsT.keep (fun b hb => ⟨by omega, by omega, ?_⟩) (fun b hb => o2 b hb.2 (by omega) (this b hb)) _ _ _ _ hT2
  intro e
  exact hgne b (Or.inr hb) (hge b e)
end Go.Proofs.YtpicaknklgccoaaDoor
