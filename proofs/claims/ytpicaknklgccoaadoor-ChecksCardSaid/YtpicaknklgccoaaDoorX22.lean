import Derived.Test.YtpicaknklgccoaaDoorX9
import Derived.Test.YtpicaknklgccoaaDoorX7
import Derived.Test.YtpicaknklgccoaaDoorX14
import Derived.Test.YtpicaknklgccoaaDoorX21
import Derived.Test.YtpicaknklgccoaaDoorX13
import Derived.Test.YtpicaknklgccoaaDoorX19
namespace Go.Proofs.YtpicaknklgccoaaDoor
open Go.RowKit

def loopF (cls : List Nat) (p : Nat) (nm : List UInt8) (kids : List PT) (id site : Nat) (env : TEnv) (st : TSt) : Ty × TSt :=
  if (tyLoop cls nm kids (id + 1) site env st).2.e ≠ 0 then (.n, (tyLoop cls nm kids (id + 1) site env st).2)
  else madeT cls .loop p site (tyLoop cls nm kids (id + 1) site env st).1 (tyLoop cls nm kids (id + 1) site env st).2

/-- behind a find whose type is stored into the array k (block ab): all as before -/
theorem step_store {w0 w wr w2 : World} {yb ab j : Nat} {cls : List Nat} {cv nv tv ov nv1 tv1 nv2 tv2 : Value} {env : TEnv} {st1 : TSt} {ks : List Ty} {ty : Ty}
    (hlc : ∀ g, cv.ownBlock = some g → g < ab) (hlo : ∀ g, ov.ownBlock = some g → g < ab) (hyb : yb < ab) (hwab : w.heap.size = ab) (hw0 : w0.heap.size ≤ ab) (hfr : Fr w wr yb nv tv ov nv1 tv1) (hab : ab < wr.heap.size) (hn1 : nv1.ownBlock ≠ some ab) (ht1 : tv1.ownBlock ≠ some ab)
    (hfr2 : Fr wr w2 yb nv1 tv1 ov nv2 tv2) (hin2 : TyIn w0 w2 yb cls cv nv2 tv2 ov env st1) (hka : wr.heap[ab]? = some (.cells (kArr ks) 128 (0, 0))) (hlk : ks.length = j) :
    nv2.ownBlock ≠ some ab ∧ tv2.ownBlock ≠ some ab ∧ w2.heap[ab]? = some (.cells (kArr ks) 128 (0, 0)) ∧ TyIn w0 (w2.setCell ⟨ab, j, none⟩ (.string (bs ty.txt))) yb cls cv nv2 tv2 ov env st1 ∧
    Fr w (w2.setCell ⟨ab, j, none⟩ (.string (bs ty.txt))) yb nv tv ov nv2 tv2 ∧ (w2.setCell ⟨ab, j, none⟩ (.string (bs ty.txt))).heap[ab]? = some (.cells (kArr (ks ++ [ty])) 128 (0, 0)) ∧ ab < w2.heap.size := by
  have hsz2 := hfr2.size
  have hn2 : nv2.ownBlock ≠ some ab := by
    intro e
    rcases hfr2.n _ e with e | e
    · exact hn1 e
    · omega
  have ht2 : tv2.ownBlock ≠ some ab := by
    intro e
    rcases hfr2.t _ e with e | e
    · exact ht1 e
    · omega
  have ho2 : ov.ownBlock ≠ some ab := fun e => by have := hlo _ e; omega
  have hc2 : cv.ownBlock ≠ some ab := fun e => by have := hlc _ e; omega
  have hka2 : w2.heap[ab]? = some (.cells (kArr ks) 128 (0, 0)) := by
    rw [hfr2.blk _ hab (by omega) hn1 ht1 ho2]; exact hka
  refine ⟨hn2, ht2, hka2, TyIn.other hin2 hw0 (by omega) hc2 hn2 ht2 ho2 rfl, ?_, ?_, by omega⟩
  · have h := hfr.trans hfr2
    refine ⟨by have := h.size; simp [World.setCell]; exact this, ?_, h.n, h.t⟩
    intro q hq hy hn ht ho
    rw [blk_other _ _ (by simp only; omega)]
    exact h.blk q hq hy hn ht ho
  · have h := blk_set hka2 j (.string (bs ty.txt))
    rw [← kArr_snoc, hlk]; exact h

set_option maxRecDepth 100000 in
set_option maxHeartbeats 8000000 in
theorem form_loop {w0 : World} {yb : Nat} {cls : List Nat} (p : Nat) (nm rg : List UInt8) (x1 x2 x3 : PT) (hc100 : ∀ x ∈ cls, x < 100) (hcl : cls.length ≤ 9000)
    (hf1 : FindOk w0 yb cls x1) (hf2 : FindOk w0 yb cls x2) (hf3 : FindOk w0 yb cls x3) : FormOk w0 yb cls (.node p .loop nm rg [x1, x2, x3]) (fun id site env st => loopF cls p nm [x1, x2, x3] id site env st) := by
  intro id site b F env st cv nv tv ov w hT hin hid hsite hs1 hs2 henv
  simp only [IsT] at hT
  obtain ⟨hFb, kv, bl, hblk, hF, hkv, hts⟩ := hT
  have hb := blk_lt hblk
  have hw0 := hin.b0.size
  have hbw : b < w.heap.size := by omega
  have hne : b ≠ yb := by have := hin.hyb; omega
  obtain ⟨gk, kc, hvk⟩ : ∃ gk kc, kv = .slice (some ⟨gk, 0, none⟩) 3 kc := by
    rcases hkv.2 with ⟨_, h'⟩ | ⟨g, cap, cur, h, _⟩
    · simp at h'
    · exact ⟨_, _, h⟩
  subst hvk
  obtain ⟨b1, hb1, hT1⟩ := IsTs.at _ _ _ _ hts 0 x1 rfl
  obtain ⟨b2, hb2, hT2⟩ := IsTs.at _ _ _ _ hts 1 x2 rfl
  obtain ⟨b3, hb3, hT3⟩ := IsTs.at _ _ _ _ hts 2 x3 rfl
  have k1 : w0.cell? ⟨gk, 0, none⟩ = some (ptr b1) := by rw [hkv.cellAt 0 (by simp)]; simp [hb1]
  have k2 : w0.cell? ⟨gk, 1, none⟩ = some (ptr b2) := by rw [hkv.cellAt 1 (by simp)]; simp [hb2]
  have k3 : w0.cell? ⟨gk, 2, none⟩ = some (ptr b3) := by rw [hkv.cellAt 2 (by simp)]; simp [hb3]
  have hgkw : gk < w0.heap.size := World.block_lt_of_cell? _ _ k1
  have hgkw' : gk < w.heap.size := by omega
  have hbx : w.heap[b]? = some (.cells (exCells Kw.loop.bytes p nm (valueL rg) (.slice (some ⟨gk, 0, none⟩) 3 kc) id (id + cntL [x1, x2, x3]) site) 52 (0, 0)) := by rw [hin.b0.block b hb]; exact hblk
  have x0 : w.cell? ⟨b, 0, none⟩ = some (.string (bs Kw.loop.bytes)) := by rw [blk_cell hbx]; rfl
  have x4 : w.cell? ⟨b, 4, none⟩ = some (.slice (some ⟨gk, 0, none⟩) 3 kc) := by rw [blk_cell hbx]; rfl
  have k1w : w.cell? ⟨gk, 0, none⟩ = some (.pointer (some ⟨b1, 0, none⟩)) := (hin.b0.cell (p := ⟨gk, 0, none⟩) hgkw).trans k1
  have q0 : ((bs Kw.loop.bytes).toList == [110, 117, 109, 98, 101, 114]) = false := by rw [bs_beq0]; decide
  have q1 : ((bs Kw.loop.bytes).toList == [110, 97, 109, 101]) = false := by rw [bs_beq0]; decide
  have q2 : ((bs Kw.loop.bytes).toList == [108, 101, 116]) = false := by rw [bs_beq0]; decide
  have q3 : ((bs Kw.loop.bytes).toList == [108, 111, 111, 112]) = true := by rw [bs_beq0]; decide
  have hyb := hin.hyb
  simp only [PT.cnt, PT.prs, cntL, prsL] at hid hsite henv
  simp only [cntL, prsL, List.take_zero, List.take_succ_cons, Nat.add_zero] at hT1 hT2 hT3
  rw [if_neg (by decide)] at hsite hT1 hT2 hT3
  simp only [Nat.add_zero] at hT1 hT2 hT3
  rw [← Nat.add_assoc (id + 1), ← Nat.add_assoc site] at hT3
  have hlt1 : ∀ g, nv.ownBlock = some g → g < w.heap.size := fun g hg => (hin.n.lt g hg).2
  have hlt2 : ∀ g, tv.ownBlock = some g → g < w.heap.size := fun g hg => (hin.t.lt g hg).2
  have hlt3 : ∀ g, ov.ownBlock = some g → g < w.heap.size := fun g hg => (hin.o.lt g hg).2
  have hlt4 : ∀ g, cv.ownBlock = some g → g < w.heap.size := fun g hg => (hin.c.lt g hg).2
  have hyw := blk_lt hin.y
  have hinA : TyIn w0 (w.alloc (.cells (kArr []) 128)) yb cls cv nv tv ov env st := hin.grow ((Below.refl _ _).alloc (Nat.le_refl _) _)
  have hfrA : Fr w (w.alloc (.cells (kArr []) 128)) yb nv tv ov nv tv := Fr.below ((Below.refl _ _).alloc (Nat.le_refl _) _) _ _ _ _
  have hfo := hf1 (id + 1) site b1 F env st cv nv tv ov _ hT1 hinA (by omega) (by omega) hs1 hs2 (by omega)
  have heo : envOk env st := ⟨hs1, hs2⟩
  have hok1 := tyFind_ok cls hc100 x1 (id + 1) site env st heo
  obtain ⟨R1, hR1⟩ : ∃ R, R = tyFind cls x1 (id + 1) site env st := ⟨_, rfl⟩
  rw [← hR1] at hfo hok1
  have heo2 : envOk env R1.2 := heo.on (fun h0 => (hok1.2.1 h0).1)
  have hok2 := tyFind_ok cls hc100 x2 (id + 1 + x1.cnt) (site + x1.prs) env R1.2 heo2
  obtain ⟨R2, hR2⟩ : ∃ R, R = tyFind cls x2 (id + 1 + x1.cnt) (site + x1.prs) env R1.2 := ⟨_, rfl⟩
  rw [← hR2] at hok2
  have heo3 : envOk env R2.2 := heo2.on (fun h0 => (hok2.2.1 h0).1)
  have hok3 := tyFind_ok cls hc100 x3 (id + 1 + x1.cnt + x2.cnt) (site + x1.prs + x2.prs) (env ++ [(nm, R2.1)]) R2.2 (heo2.snoc hok2)
  obtain ⟨R3, hR3⟩ : ∃ R, R = tyFind cls x3 (id + 1 + x1.cnt + x2.cnt) (site + x1.prs + x2.prs) (env ++ [(nm, R2.1)]) R2.2 := ⟨_, rfl⟩
  rw [← hR3] at hok3
  have hfin : loopF cls p nm [x1, x2, x3] id site env st = if R3.2.e ≠ 0 then (.n, R3.2) else madeT cls .loop p site [R1.1, R2.1, R3.1] R3.2 := by
    subst hR3; subst hR2; subst hR1; rfl
  have HFIN : Hid _ := hfin
  obtain ⟨FF, hFF⟩ : ∃ FF, FF = loopF cls p nm [x1, x2, x3] id site env st := ⟨_, rfl⟩
  show Calls _ _ #[Value.pointer (some ⟨yb, 0, none⟩), Value.pointer (some ⟨b, 0, none⟩)] w (fun v w' => v = .returned (.string (bs (loopF cls p nm [x1, x2, x3] id site env st).1.txt)) ∧ ∃ nv' tv', Fr w w' yb nv tv ov nv' tv' ∧ TyIn w0 w' yb cls cv nv' tv' ov env (loopF cls p nm [x1, x2, x3] id site env st).2)
  rw [← hFF] at HFIN ⊢
  unfold ptr at hfo
  have HBLK : Hid _ := hblk
  have HK2 : Hid _ := k2
  have HK3 : Hid _ := k3
  have HT2 : Hid _ := hT2
  have HT3 : Hid _ := hT3
  have HO1 : Hid (resOk st R1) := hok1
  have HO2 : Hid (resOk R1.2 R2) := hok2
  have HO3 : Hid (resOk R2.2 R3) := hok3
  have HE1 : Hid (envOk env st) := heo
  have HE2 : Hid (envOk env R1.2) := heo2
  have HE3 : Hid (envOk env R2.2) := heo3
  have HR2 : Hid _ := hR2
  have HR3 : Hid _ := hR3
  have HFA : Hid _ := hfrA
  clear hblk hin hkv hts hbx hFb hF hs1 hs2 k1 k2 k3 hT1 hT2 hT3 hR1 hR2 hR3 hfin hok1 hok2 hok3 hinA hb1 hb2 hb3 heo heo2 heo3 hFF hfrA
  go_enter Tryd.func63, Tryd.ntmps63
  go_wp2_with fail
  refine hfo.mono ?_
  rintro e w2 ⟨rfl, nv2, tv2, hfr2, hin2⟩
  obtain ⟨hn2, ht2, hka2, hWin, hWfr, hWka, hab2⟩ := step_store (ty := R1.1) (ks := []) (j := 0) hlt4 hlt3 hyw rfl hw0 HFA.out (by simp) (fun e => by have := hlt1 _ e; omega) (fun e => by have := hlt2 _ e; omega) hfr2 hin2 (blk_new _ _) rfl
  have z0 : w2.cell? ⟨w.heap.size, 0, none⟩ = some (.string (bs [])) := by rw [blk_cell hka2]; rfl
  have zf : w2.frozen? ⟨w.heap.size, 0, none⟩ = false := blk_free hka2 0
  have hb2' : w2.heap[b]? = some (.cells (exCells Kw.loop.bytes p nm (valueL rg) (.slice (some ⟨gk, 0, none⟩) 3 kc) id (id + cntL [x1, x2, x3]) site) 52 (0, 0)) := by rw [hin2.b0.block b hb]; exact HBLK.out
  have x42 : w2.cell? ⟨b, 4, none⟩ = some (.slice (some ⟨gk, 0, none⟩) 3 kc) := by rw [blk_cell hb2']; rfl
  have k22 : w2.cell? ⟨gk, 1, none⟩ = some (.pointer (some ⟨b2, 0, none⟩)) := (hin2.b0.cell (p := ⟨gk, 1, none⟩) hgkw).trans HK2.out
  have hfo2 := hf2 (id + 1 + x1.cnt) (site + x1.prs) b2 F env R1.2 cv nv2 tv2 ov _ HT2.out hWin (by have := HO1.out.2.2; omega) (by omega) HE2.out.1 HE2.out.2 (by omega)
  rw [← HR2.out] at hfo2
  unfold ptr at hfo2
  have HW2 : Hid _ := And.intro hWfr (And.intro hWka (And.intro hn2 ht2))
  have hbw2 : b < w2.heap.size := by omega
  clear hfo hfr2 hin2 hka2 hWin hWfr hWka hn2 ht2 hb2' x4 k1w x0 q0 q1 q2 q3
  go_wp2_with fail
  refine hfo2.mono ?_
  rintro e w3 ⟨rfl, nv3, tv3, hfr3, hin3⟩
  obtain ⟨hn3, ht3, hka3, hWin3, hWfr3, hWka3, hab3⟩ := step_store (ty := R2.1) (ks := [R1.1]) (j := 1) hlt4 hlt3 hyw rfl hw0 HW2.out.1 (by simp [World.setCell]; omega) HW2.out.2.2.1 HW2.out.2.2.2 hfr3 hin3 HW2.out.2.1 rfl
  have z1 : w3.cell? ⟨w.heap.size, 1, none⟩ = some (.string (bs [])) := by rw [blk_cell hka3]; rfl
  have zf1 : w3.frozen? ⟨w.heap.size, 1, none⟩ = false := blk_free hka3 1
  have z2 : w3.cell? ⟨w.heap.size, 2, none⟩ = some (.string (bs [])) := by rw [blk_cell hka3]; rfl
  have zf2 : w3.frozen? ⟨w.heap.size, 2, none⟩ = false := blk_free hka3 2
  have hb3' : w3.heap[b]? = some (.cells (exCells Kw.loop.bytes p nm (valueL rg) (.slice (some ⟨gk, 0, none⟩) 3 kc) id (id + cntL [x1, x2, x3]) site) 52 (0, 0)) := by rw [hin3.b0.block b hb]; exact HBLK.out
  have x23 : w3.cell? ⟨b, 2, none⟩ = some (.string (bs nm)) := by rw [blk_cell hb3']; rfl
  have x43 : w3.cell? ⟨b, 4, none⟩ = some (.slice (some ⟨gk, 0, none⟩) 3 kc) := by rw [blk_cell hb3']; rfl
  have k33 : w3.cell? ⟨gk, 2, none⟩ = some (.pointer (some ⟨b3, 0, none⟩)) := (hin3.b0.cell (p := ⟨gk, 2, none⟩) hgkw).trans HK3.out
  have hun : ∀ W, Below (w3.setCell ⟨w.heap.size, 1, none⟩ (.string (bs R2.1.txt))).heap.size (w3.setCell ⟨w.heap.size, 1, none⟩ (.string (bs R2.1.txt))) W → Calls Tryd.prog 77 #[.pointer (some ⟨yb, 0, none⟩), .string (bs nm), .string (bs R2.1.txt), .pointer (some ⟨b3, 0, none⟩)] W fun v w' => v = .returned (.string (bs R3.1.txt)) ∧
      ∃ nv' tv', nv'.ownBlock ≠ some w.heap.size ∧ tv'.ownBlock ≠ some w.heap.size ∧ w'.heap[w.heap.size]? = some (.cells (kArr [R1.1, R2.1]) 128 (0, 0)) ∧ TyIn w0 (w'.setCell ⟨w.heap.size, 2, none⟩ (.string (bs R3.1.txt))) yb cls cv nv' tv' ov env R3.2 ∧
        Fr w (w'.setCell ⟨w.heap.size, 2, none⟩ (.string (bs R3.1.txt))) yb nv tv ov nv' tv' ∧ (w'.setCell ⟨w.heap.size, 2, none⟩ (.string (bs R3.1.txt))).heap[w.heap.size]? = some (.cells (kArr [R1.1, R2.1, R3.1]) 128 (0, 0)) ∧ w.heap.size < w'.heap.size ∧ TyIn w0 w' yb cls cv nv' tv' ov env R3.2 := by
    intro W hW
    have hu := under_of hf3 (id + 1 + x1.cnt + x2.cnt) (site + x1.prs + x2.prs) b3 F env R2.2 cv nv3 tv3 ov W nm R2.1 HT3.out (hWin3.grow hW) (by have h1 := HO1.out.2.2; have h2 := HO2.out.2.2; omega) (by omega) HE3.out.1 HE3.out.2 HO2.out.1 (fun h0 => (HO2.out.2.1 h0).2) (by omega)
    rw [← HR3.out] at hu
    refine hu.mono ?_
    rintro e w' ⟨rfl, nv', tv', hfr', hin'⟩
    have hWab : w.heap.size < W.heap.size := by have h1 := hW.size; have h2 := blk_lt hWka3; omega
    obtain ⟨a1, a2, a3, a4, a5, a6, a7⟩ := step_store (ty := R3.1) (ks := [R1.1, R2.1]) (j := 2) hlt4 hlt3 hyw rfl hw0 (hWfr3.trans (Fr.below hW yb nv3 tv3 ov)) hWab hn3 ht3 hfr' hin' (by rw [hW.block _ (blk_lt hWka3)]; exact hWka3) rfl
    exact ⟨rfl, nv', tv', a1, a2, a3, a4, a5, a6, a7, hin'⟩
  have hbw3 : b < w3.heap.size := by omega
  have hgk3 : gk < w3.heap.size := by omega
  have hbab : b ≠ w.heap.size := by omega
  have hgab : gk ≠ w.heap.size := by omega
  clear hfo2 hfr3 hin3 hka3 hWin3 hWfr3 hWka3 hn3 ht3 hb3' x42 k22 z0 zf HW2 hlt1 hlt2 hlt3 hlt4
  go_wp2
  go_region_with (go_at_call 77; refine (hun _ ?_).mono ?_; exact ⟨rfl, rfl, rfl, Nat.le_refl _, fun _ _ => rfl⟩; rintro e w4 ⟨rfl, nv4, tv4, hn4, ht4, hka4, hWin4, hWfr4, hWka4, hab4, hin4⟩; have z24 : w4.cell? ⟨w.heap.size, 2, none⟩ = some (.string (bs [])) := (by rw [blk_cell hka4]; rfl); have zf24 : w4.frozen? ⟨w.heap.size, 2, none⟩ = false := blk_free hka4 2)
  all_goals
    have hbr4 : w4.heap[b]? = some (.cells (exCells Kw.loop.bytes p nm (valueL rg) (.slice (some ⟨gk, 0, none⟩) 3 kc) id (id + cntL [x1, x2, x3]) site) 52 (0, 0)) := by rw [hin4.b0.block b hb]; exact HBLK.out
    have y44 : w4.cell? ⟨yb, 4, none⟩ = some (.int .i64 (R3.2.e : Nat)) := by rw [blk_cell hin4.y]; rfl
    have a0 : w4.cell? ⟨w.heap.size, 0, none⟩ = some (.string (bs R1.1.txt)) := by rw [blk_cell hka4]; rfl
    have a1 : w4.cell? ⟨w.heap.size, 1, none⟩ = some (.string (bs R2.1.txt)) := by rw [blk_cell hka4]; rfl
    have hyab : yb ≠ w.heap.size := by omega
    have hmd : R3.2.e = 0 → ∀ W, Below (w4.setCell ⟨w.heap.size, 2, none⟩ (.string (bs R3.1.txt))).heap.size (w4.setCell ⟨w.heap.size, 2, none⟩ (.string (bs R3.1.txt))) W → Calls Tryd.prog 78 #[.pointer (some ⟨yb, 0, none⟩), .pointer (some ⟨b, 0, none⟩), .agg #[.string (bs R1.1.txt), .string (bs R2.1.txt), .string (bs R3.1.txt)]] W fun v w' =>
        v = .returned (.string (bs (madeT cls .loop p site [R1.1, R2.1, R3.1] R3.2).1.txt)) ∧ ∃ nv' tv', Fr w w' yb nv tv ov nv' tv' ∧ TyIn w0 w' yb cls cv nv' tv' ov env (madeT cls .loop p site [R1.1, R2.1, R3.1] R3.2).2 := by
      intro h0 W hW
      have hWi := hWin4.grow hW
      have hm := made_any W yb b cls cv nv4 tv4 ov _ R3.2 nm p (valueL rg) id (id + cntL [x1, x2, x3]) site w0.heap.size .loop [R1.1, R2.1, R3.1] hne h0 hWi.y (by rw [hWi.b0.block b hb]; exact HBLK.out) hWi.c hcl hc100 (by intro h; cases h) (by decide) rfl
        (by intro t ht; simp only [List.mem_cons, List.not_mem_nil, or_false] at ht; rcases ht with rfl | rfl | rfl; exact HO1.out.1; exact HO2.out.1; exact HO3.out.1)
      refine hm.mono ?_
      rintro e w' ⟨rfl, hg2, hy2⟩
      refine ⟨rfl, nv4, tv4, (hWfr4.trans (Fr.below hW _ _ _ _)).trans (Fr.grown hg2 _ _ _), ?_⟩
      have h := hWi.err hg2 hy2
      rw [← madeT_of cls .loop p site [R1.1, R2.1, R3.1] R3.2] at h
      exact h
    have HWF : Hid _ := And.intro hWfr4 hWin4
    clear hWin4 hWfr4 hWka4 hka4 hin4 hbr4 hn4 ht4
    by_cases h0 : R3.2.e = 0
    · have hmd0 := hmd h0
      have y40 : w4.cell? ⟨yb, 4, none⟩ = some (.int .i64 0) := by rw [y44, h0]; rfl
      have HF2 : Hid (FF = madeT cls .loop p site [R1.1, R2.1, R3.1] R3.2) := by rw [HFIN.out, if_neg (by simpa using h0)]; rfl
      clear y44 h0 hmd
      go_wp2_with (go_at_call 78; refine (hmd0 _ ?_).mono ?_; exact ⟨rfl, rfl, rfl, Nat.le_refl _, fun _ _ => rfl⟩; rintro e w5 ⟨rfl, hw5⟩)
      go_ret
      rw [HF2.out]
      exact ⟨rfl, hw5⟩
    · have h0' : ((R3.2.e : Int) != 0) = true := by rw [bne_iff_ne]; omega
      have HF2 : Hid (FF = (.n, R3.2)) := by rw [HFIN.out, if_pos h0]; rfl
      clear h0 hmd
      go_wp2_with fail
      go_ret
      rw [HF2.out]
      exact ⟨rfl, nv4, tv4, HWF.out.1.trans (Fr.below ⟨rfl, rfl, rfl, Nat.le_refl _, fun _ _ => rfl⟩ _ _ _ _), HWF.out.2.grow ⟨rfl, rfl, rfl, Nat.le_refl _, fun _ _ => rfl⟩⟩
end Go.Proofs.YtpicaknklgccoaaDoor

/- Plain mathematics: what the tokens of a text are like; how many parts a tree's words have. -/
namespace Go.Proofs.YtpicaknklgccoaaDoor

theorem toks_mem : ∀ (f p : Nat) (l : List UInt8) (t : Tk), t ∈ toks f p l → ∃ l', l' ≠ [] ∧ t.s = l'.take (tokenOf l').1 ∧ t.c = (tokenOf l').2
  | 0, _, _, t, h => by simp [toks] at h
  | _ + 1, _, [], t, h => by simp [toks] at h
  | f + 1, p, c :: r, t, h => by
    simp only [toks] at h
    split at h
    · exact toks_mem f _ r t h
    · rcases List.mem_cons.1 h with h | h
      · subst h; exact ⟨c :: r, by simp, rfl, rfl⟩
      · exact toks_mem f _ _ t h

theorem tokenOf_num {l : List UInt8} (h : (tokenOf l).2 = .num) : (tokenOf l).1 ≤ 4 := by
  unfold tokenOf at h ⊢
  split at h
  · rename_i h1
    simp only [wordCl] at h
    split at h
    · cases h
    · split at h <;> cases h
  · rename_i h1
    split at h
    · rename_i h2
      rw [if_neg h1, if_pos h2]
      simp only at h ⊢
      split at h
      · rename_i h3
        unfold numeralB at h3
        simp only [Bool.and_eq_true, decide_eq_true_eq] at h3
        have := h3.1.2
        have hl := run_le 48 57 l
        simp only [List.length_take] at this
        omega
      · cases h
    · rename_i h2
      split at h
      · cases h
      · split at h
        · simp only at h; split at h <;> cases h
        · simp only at h; split at h
          · cases h
          · split at h <;> cases h

theorem tokenOf_reg {l : List UInt8} (h : (tokenOf l).2 = .reg) : (tokenOf l).1 ≤ 4 := by
  unfold tokenOf at h ⊢
  split at h
  · rename_i h1
    simp only [wordCl] at h
    split at h
    · cases h
    · split at h <;> cases h
  · rename_i h1
    rw [if_neg h1]
    split at h
    · simp only at h; split at h <;> cases h
    · rename_i h2
      rw [if_neg h2]
      split at h
      · cases h
      · rename_i c r
        split at h
        · rename_i h3
          simp only at h
          rw [if_pos h3]
          simp only
          split at h
          · rename_i h4
            unfold numeralB at h4
            simp only [Bool.and_eq_true, decide_eq_true_eq] at h4
            have := h4.1.2
            simp only [List.length_take] at this
            have hl := run_le 48 57 r
            omega
          · cases h
        · simp only at h; split at h
          · cases h
          · split at h <;> cases h

theorem tokenOf_kw {l : List UInt8} {k : Kw} (h : (tokenOf l).2 = .kw k) : l.take (tokenOf l).1 = k.bytes := by
  unfold tokenOf at h ⊢
  split at h
  · rename_i h1
    rw [if_pos h1]
    simp only [wordCl] at h ⊢
    split at h
    · rename_i k' hk
      simp only [Cl.kw.injEq] at h
      subst h
      exact kwOf_some hk
    · split at h <;> cases h
  · split at h
    · simp only at h; split at h <;> cases h
    · split at h
      · cases h
      · split at h
        · simp only at h; split at h <;> cases h
        · simp only at h; split at h
          · cases h
          · split at h <;> cases h

theorem toks_num {f p : Nat} {l : List UInt8} {t : Tk} (h : t ∈ toks f p l) (hc : t.c = .num) : t.s.length ≤ 5 := by
  obtain ⟨l', _, h1, h2⟩ := toks_mem f p l t h
  have := tokenOf_num (by rw [← h2]; exact hc)
  rw [h1]; simp; omega
theorem toks_reg {f p : Nat} {l : List UInt8} {t : Tk} (h : t ∈ toks f p l) (hc : t.c = .reg) : t.s.length ≤ 5 := by
  obtain ⟨l', _, h1, h2⟩ := toks_mem f p l t h
  have := tokenOf_reg (by rw [← h2]; exact hc)
  rw [h1]; simp; omega
theorem toks_ne {f p : Nat} {l : List UInt8} {t : Tk} (h : t ∈ toks f p l) : t.s ≠ [] := by
  obtain ⟨l', h0, h1, _⟩ := toks_mem f p l t h
  have hp := tokenOf_pos l'
  intro e
  rw [h1] at e
  rcases List.take_eq_nil_iff.1 e with e | e
  · omega
  · exact h0 e
theorem toks_kw {f p : Nat} {l : List UInt8} {t : Tk} {k : Kw} (h : t ∈ toks f p l) (hc : t.c = .kw k) : t.s = k.bytes := by
  obtain ⟨l', _, h1, h2⟩ := toks_mem f p l t h
  rw [h1]; exact tokenOf_kw (by rw [← h2]; exact hc)

theorem PW.kids_len {placed : Bool} : ∀ {ws : List Wt} {l : List Tk} {nm rg : List UInt8} {kids : List PT} {r : List Tk}, PW placed ws l nm rg kids r → kids.length = cntE ws
  | _, _, _, _, _, _, .nil => rfl
  | _, _, _, _, _, _, .close _ h1 => by have := PW.kids_len h1; simpa [cntE] using this
  | _, _, _, _, _, _, .name _ h1 => by have := PW.kids_len h1; simpa [cntE] using this
  | _, _, _, _, _, _, .region _ h1 => by have := PW.kids_len h1; simpa [cntE] using this
  | _, _, _, _, _, _, .e _ h1 => by have := PW.kids_len h1; simp [cntE] at this ⊢; exact this
end Go.Proofs.YtpicaknklgccoaaDoor

namespace Go.Proofs.YtpicaknklgccoaaDoor
open Go.RowKit

theorem fin_len (id p : Nat) (x : Ty × TSt) : (fin id p x).2.of.length = x.2.of.length := by
  simp only [fin, List.length_set]
  split
  · exact errS_len _ _ _
  · rfl
theorem madeT_len (cls : List Nat) (k : Kw) (p site : Nat) (ks : List Ty) (st : TSt) : (madeT cls k p site ks st).2.of.length = st.of.length := by rw [madeT_of]

mutual
theorem tyFind_len (cls : List Nat) : ∀ (t : PT) (id site : Nat) (env : TEnv) (st : TSt), (tyFind cls t id site env st).2.of.length = st.of.length
  | .num p s, id, site, env, st => by simp only [tyFind]; rw [fin_len]
  | .name p s, id, site, env, st => by
    simp only [tyFind]; rw [fin_len]
    split
    · rfl
    · exact errS_len _ _ _
  | .node p k nm rg kids, id, site, env, st => by
    simp only [tyFind]; rw [fin_len]
    split
    · exact tyLet_len cls nm kids _ _ _ _
    · have hx : (if k = .loop then tyLoop cls nm kids (id + 1) site env st else tyKids cls kids (id + 1) (site + if k = .pair then 1 else 0) env st).2.of.length = st.of.length := by
        split
        · exact tyLoop_len cls nm kids _ _ _ _
        · exact tyKids_olen cls kids _ _ _ _
      generalize (if k = .loop then tyLoop cls nm kids (id + 1) site env st else tyKids cls kids (id + 1) (site + if k = .pair then 1 else 0) env st) = x at hx ⊢
      split
      · exact hx
      · rw [madeT_len]; exact hx
theorem tyKids_olen (cls : List Nat) : ∀ (ts : List PT) (id site : Nat) (env : TEnv) (st : TSt), (tyKids cls ts id site env st).2.of.length = st.of.length
  | [], _, _, _, _ => by simp only [tyKids]
  | a :: r, id, site, env, st => by simp only [tyKids]; rw [tyKids_olen cls r, tyFind_len cls a]
theorem tyLet_len (cls : List Nat) (nm : List UInt8) : ∀ (ts : List PT) (id site : Nat) (env : TEnv) (st : TSt), (tyLet cls nm ts id site env st).2.of.length = st.of.length
  | [a, b], id, site, env, st => by simp only [tyLet]; rw [tyFind_len cls b, tyFind_len cls a]
  | [], _, _, _, _ => by simp only [tyLet]
  | [_], _, _, _, _ => by simp only [tyLet]
  | _ :: _ :: _ :: _, _, _, _, _ => by simp only [tyLet]
theorem tyLoop_len (cls : List Nat) (nm : List UInt8) : ∀ (ts : List PT) (id site : Nat) (env : TEnv) (st : TSt), (tyLoop cls nm ts id site env st).2.of.length = st.of.length
  | [a, b, c], id, site, env, st => by simp only [tyLoop]; rw [tyFind_len cls c, tyFind_len cls b, tyFind_len cls a]
  | [], _, _, _, _ => by simp only [tyLoop]
  | [_], _, _, _, _ => by simp only [tyLoop]
  | [_, _], _, _, _, _ => by simp only [tyLoop]
  | _ :: _ :: _ :: _ :: _, _, _, _, _ => by simp only [tyLoop]
end

mutual
/-- each word has as many parts as it must -/
def PT.wf : PT → Prop
  | .num _ _ => True
  | .name _ _ => True
  | .node _ k _ _ kids => kids.length = arity k ∧ wfL kids
def wfL : List PT → Prop
  | [] => True
  | t :: r => t.wf ∧ wfL r
end
theorem wfL_mem : ∀ {ts : List PT}, wfL ts → ∀ t ∈ ts, t.wf
  | [], _, t, h => by simp at h
  | a :: r, hw, t, h => by
    simp only [wfL] at hw
    rcases List.mem_cons.1 h with h | h
    · subst h; exact hw.1
    · exact wfL_mem hw.2 t h

theorem find_all {w0 : World} {yb : Nat} {cls : List Nat} (hc100 : ∀ x ∈ cls, x < 100) (hcl : cls.length ≤ 9000) (t : PT) : t.wf → FindOk w0 yb cls t := by
  induction t using PT.ind with
  | h1 p s =>
    intro _
    refine find_of (form_num w0 yb cls p s) (fun id site env st => by simp only [tyFind]; rfl) (fun _ _ _ _ => rfl) (fun _ _ _ _ _ _ => fit_n)
  | h2 p s =>
    intro _
    refine find_of (form_name w0 yb cls p s) (fun id site env st => by simp only [tyFind]; rfl) ?_ ?_
    · intro id site env st
      unfold nameF
      split
      · rfl
      · exact errS_len _ _ _
    · intro id site env st h1 h2
      simp only [nameF]
      split
      · rename_i t ht
        obtain ⟨x, hx, rfl⟩ := look_mem ht
        exact h1 x hx
      · exact fit_n
  | h3 p k nm rg kids ih =>
    intro hw
    simp only [PT.wf] at hw
    have hk : ∀ x ∈ kids, FindOk w0 yb cls x := fun x hx => ih x hx (wfL_mem hw.2 x hx)
    by_cases hl : k = .let_
    · subst hl
      match kids, hw.1, hk with
      | [a, b], _, hk =>
        refine find_of (form_let p nm rg a b hc100 (hk a (by simp)) (hk b (by simp))) (fun id site env st => by simp only [tyFind]; rw [if_pos trivial]; rfl) (fun _ _ _ _ => tyLet_len _ _ _ _ _ _ _) ?_
        intro id site env st h1 h2
        exact (tyLet_ok cls hc100 nm [a, b] _ _ env st ⟨h1, h2⟩).1
    · by_cases hl2 : k = .loop
      · subst hl2
        match kids, hw.1, hk with
        | [a, b, c], _, hk =>
          refine find_of (form_loop p nm rg a b c hc100 hcl (hk a (by simp)) (hk b (by simp)) (hk c (by simp))) (fun id site env st => by simp only [tyFind]; rw [if_neg (by decide), if_pos trivial]; rfl) ?_ ?_
          · intro id site env st
            simp only [loopF]
            split
            · exact tyLoop_len _ _ _ _ _ _ _
            · rw [madeT_len]; exact tyLoop_len _ _ _ _ _ _ _
          · intro id site env st h1 h2
            have hx := tyLoop_ok cls hc100 nm [a, b, c] (id + 1) site env st ⟨h1, h2⟩
            simp only [loopF]
            split
            · exact fit_n
            · rename_i hne
              have h0 : (tyLoop cls nm [a, b, c] (id + 1) site env st).2.e = 0 := by simpa using hne
              exact (made_pre hc100 (fun t ht => ⟨hx.1 t ht, (hx.2.1 h0).2 t ht⟩)).1
      · refine find_of (form_kids p k nm rg kids hc100 hcl hl hl2 hw.1 hk) (fun id site env st => by simp only [tyFind]; rw [if_neg hl, if_neg hl2]; rfl) ?_ ?_
        · intro id site env st
          simp only [kidsF]
          generalize (site + if k = .pair then 1 else 0) = s1
          split
          · exact tyKids_olen _ _ _ _ _ _
          · rw [madeT_len]; exact tyKids_olen _ _ _ _ _ _
        · intro id site env st h1 h2
          have hx := tyKids_ok cls hc100 kids (id + 1) (site + if k = .pair then 1 else 0) env st ⟨h1, h2⟩
          simp only [kidsF]
          generalize (site + if k = .pair then 1 else 0) = s1 at hx ⊢
          split
          · exact fit_n
          · rename_i hne
            have h0 : (tyKids cls kids (id + 1) s1 env st).2.e = 0 := by simpa using hne
            exact (made_pre hc100 (fun t ht => ⟨hx.1 t ht, (hx.2.1 h0).2 t ht⟩)).1
end Go.Proofs.YtpicaknklgccoaaDoor

namespace Go.Proofs.YtpicaknklgccoaaDoor
open Go.RowKit

theorem isT_last {w : World} {F : Nat → Prop} {t : PT} {id site b : Nat} (h : IsT w F t id site b) : ∃ op nm n kv, w.heap[b]? = some (.cells (exCells op t.pl nm n kv id (id + (t.cnt - 1)) site) 52 (0, 0)) := by
  cases t with
  | num p s => simp only [IsT] at h; exact ⟨_, _, _, _, h.2⟩
  | name p s => simp only [IsT] at h; exact ⟨_, _, _, _, h.2⟩
  | node p k nm rg kids =>
    simp only [IsT] at h
    obtain ⟨_, kv, bl, h1, _⟩ := h
    have e : id + ((PT.node p k nm rg kids).cnt - 1) = id + cntL kids := by simp only [PT.cnt]; omega
    rw [e]; exact ⟨_, _, _, _, h1⟩

theorem made_strs (n : Nat) : (madeCells #[Value.string ⟨#[]⟩] n).toList = (List.replicate n ([] : List UInt8)).map strV := by
  apply List.ext_getElem
  · simp [madeCells]
  · intro i h1 h2
    simp [madeCells, Nat.mod_one, strV, bs]

def st0 (t : PT) : TSt := ⟨0, 0, List.replicate t.cnt []⟩

set_option maxRecDepth 100000 in
set_option maxHeartbeats 2000000 in
theorem Types_any {w0 : World} {cls : List Nat} (hc100 : ∀ x ∈ cls, x < 100) (hcl : cls.length ≤ 9000) (t : PT) (hwf : t.wf) (b : Nat) (F : Nat → Prop) (cv : Value) (w : World) (hT : IsT w0 F t 0 0 b) (hcnt : t.cnt ≤ 9000) (hb0 : Below w0.heap.size w0 w)
    (hc : w.ownsRow w0.heap.size 3 1 cv cls.length (cls.map fun (k : Nat) => Value.int .i64 k)) (hprs : t.prs ≤ cls.length) (hcs : ∃ a n c, cv = .slice a n c) :
    Calls Tryd.prog 28 #[ptr b, cv] w fun v w' => ∃ yb nv tv ov, v = .returned (ptr yb) ∧ w.heap.size ≤ w'.heap.size ∧ Below w.heap.size w w' ∧ TyIn w0 w' yb cls cv nv tv ov [] (tyFind cls t 0 0 [] (st0 t)).2 := by
  obtain ⟨i0, hi, hz0, hz1, hz2⟩ := info_parts Tryd.infoStr
  have HI : Hid _ := hi
  have HZ0 : Hid _ := hz0
  have HZ1 : Hid _ := hz1
  have HZ2 : Hid _ := hz2
  clear hi hz0 hz1 hz2
  obtain ⟨ca, cn, cc, rfl⟩ := hcs
  obtain ⟨op, nm, n, kv, hblk⟩ := isT_last hT
  have hcp := cnt_pos t
  have hb := blk_lt hblk
  have hw0 := hb0.size
  have hbw : b < w.heap.size := by omega
  have x6 : w.cell? ⟨b, 6, none⟩ = some (.int .i64 (t.cnt - 1 : Nat)) := by rw [hb0.cell (p := ⟨b, 6, none⟩) hb, blk_cell hblk, Nat.zero_add]; rfl
  have hcg : ∀ g, (Value.slice ca cn cc).ownBlock = some g → w0.heap.size ≤ g ∧ g < w.heap.size := fun g hg => hc.lt g hg
  have HC : Hid (w.ownsRow w0.heap.size 3 1 (.slice ca cn cc) cls.length (cls.map fun (k : Nat) => Value.int .i64 k)) := hc
  have HT : Hid _ := hT
  have HB0 : Hid _ := hb0
  clear hblk hc hT hb0
  show Calls _ _ #[Value.pointer (some ⟨b, 0, none⟩), _] w _
  go_enter Tryd.func28, Tryd.ntmps28
  go_wp2_with (at_make; go_must (refine wpList_make_full _ rfl (.tmp 11) (.tmp 11) 53 rfl w.heap.size 9 i0 _ 1 Tryd.undStrs HI.out HZ0.out HZ1.out .i64 .i64 _ _ t.cnt rfl rfl ?l1 ?l2 ?m1 ?m2 ?m3 ?_))
  case l1 => omega
  case l2 => omega
  case m1 => rw [HZ2.out]; omega
  case m2 => unfold maxLen; omega
  case m3 => omega
  intro w2 ho2 hg2
  rw [made_strs] at ho2
  have hb2 : Below w.heap.size w w2 := ⟨hg2.os, hg2.tape, hg2.output, hg2.size, fun k hk => hg2.block k hk (by simp)⟩
  have hl2 : w.heap.size < w2.heap.size := (ho2.lt w.heap.size rfl).2
  have hin : TyIn w0 (w2.alloc (.cells (tyCells (.slice ca cn cc) (.slice none 0 0) (.slice none 0 0) (.slice (some ⟨w.heap.size, 0, none⟩) t.cnt t.cnt) 0 0) 55)) w2.heap.size cls (.slice ca cn cc) (.slice none 0 0) (.slice none 0 0) (.slice (some ⟨w.heap.size, 0, none⟩) t.cnt t.cnt) [] (st0 t) := by
    have hbA : Below w2.heap.size w2 (w2.alloc (.cells (tyCells (.slice ca cn cc) (.slice none 0 0) (.slice none 0 0) (.slice (some ⟨w.heap.size, 0, none⟩) t.cnt t.cnt) 0 0) 55)) := (Below.refl _ _).alloc (Nat.le_refl _) _
    refine ⟨(HB0.out.trans (hb2.mono hw0)).trans (hbA.mono (by omega)), by omega, blk_new _ _, owns_below (owns_below HC.out hb2) hbA, World.ownsRow_nil _ _ _ _, World.ownsRow_nil _ _ _ _, ?_, ?_, by simp [Value.ownBlock], by simp [Value.ownBlock], ?_, fun g hg h => by simp [Value.ownBlock] at h, fun g hg h => by simp [Value.ownBlock] at h, ?_, fun g hg => by simp [Value.ownBlock] at hg, fun g hg => by simp [Value.ownBlock] at hg, fun g hg => by simp [Value.ownBlock] at hg⟩
    · have h := owns_base (base' := w0.heap.size) (owns_below ho2 hbA) (fun k hk => by simp only [Value.ownBlock, Option.some.injEq] at hk; omega)
      simp only [st0, List.length_replicate]; exact h
    · intro e; have := (hcg _ e).2; omega
    · simp only [Value.ownBlock, ne_eq, Option.some.injEq]; omega
    · intro g hg h
      simp only [Value.ownBlock, Option.some.injEq] at h
      have := (hcg g hg).2; omega
  have hfo := find_all (w0 := w0) (yb := w2.heap.size) hc100 hcl t hwf 0 0 b F [] (st0 t) _ _ _ _ _ HT.out hin (by simp [st0]) (by omega) (by simp) (by simp) (by simp; omega)
  unfold ptr at hfo
  have HB2 : Hid _ := hb2
  clear ho2 hg2 hin hb2
  go_wp2_with fail
  refine hfo.mono ?_
  rintro e w3 ⟨rfl, nv, tv, hfr, hin3⟩
  have hs3 : w.heap.size ≤ w3.heap.size := by have := hfr.size; simp at this; omega
  have hbel : Below w.heap.size w w3 := by
    refine ⟨hin3.b0.os.trans HB0.out.os.symm, hin3.b0.tape.trans HB0.out.tape.symm, hin3.b0.output.trans HB0.out.output.symm, hs3, fun k hk => ?_⟩
    rw [hfr.blk k (by simp; omega) (by omega) (by simp [Value.ownBlock]) (by simp [Value.ownBlock]) (by simp only [Value.ownBlock, ne_eq, Option.some.injEq]; omega), Below.heap_alloc _ _ _ (by omega), HB2.out.block k hk]
  have HIN3 : Hid _ := hin3
  have HBEL : Hid _ := hbel
  clear hfr hin3 hbel hfo
  go_wp2
  go_ret
  exact ⟨w2.heap.size, nv, tv, _, rfl, hs3, HBEL.out, HIN3.out⟩
end Go.Proofs.YtpicaknklgccoaaDoor

namespace Go.Proofs.YtpicaknklgccoaaDoor
open Go.RowKit

mutual
theorem PE.good {placed : Bool} {ts : List Tk} (hok : TokOk ts) (hkw : ∀ t ∈ ts, ∀ k, t.c = .kw k → t.s = k.bytes) (hl : ts.length ≤ 9000) : ∀ {l : List Tk} {e : PT} {r : List Tk}, PE placed l e r → GoodE ts l e r
  | _, _, _, .num (t := t) (r := r) h => by
    refine ⟨(PE.used (.num (placed := placed) h)).1, (PE.used (.num (placed := placed) h)).2, ⟨t, r, rfl, Or.inl h⟩, ⟨1, rfl, by simp⟩, ?_⟩
    intro gt tc cb p ids sites w hd hi hs hin
    obtain ⟨h1, h2, _⟩ := drop_at hd
    have e : (t :: r).length - r.length = 1 := by simp
    rw [e]
    exact build_num ts hok hl gt tc cb p ids sites t w hin h1 h2 (by omega) h
  | _, _, _, .name (t := t) (r := r) h => by
    refine ⟨(PE.used (.name (placed := placed) h)).1, (PE.used (.name (placed := placed) h)).2, ⟨t, r, rfl, Or.inr (Or.inl h)⟩, ⟨1, rfl, by simp⟩, ?_⟩
    intro gt tc cb p ids sites w hd hi hs hin
    obtain ⟨h1, h2, _⟩ := drop_at hd
    have e : (t :: r).length - r.length = 1 := by simp
    rw [e]
    exact build_name ts hl gt tc cb p ids sites t w hin h1 h2 (by omega) h
  | _, _, _, .node (t := t) (u := u) (k := k) (r := r0) (r' := r') (nm := nm) (rg := rg) (kids := kids) h1 h2 h3 h4 => by
    have hp := PW.good hok hkw hl h4
    have hpe : PE placed (t :: u :: r0) (.node t.at_ k nm rg kids) r' := .node h1 h2 h3 h4
    refine ⟨hpe.used.1, hpe.used.2, ⟨t, _, rfl, Or.inr (Or.inr h1)⟩, hpe.drop, ?_⟩
    intro gt tc cb p ids sites w hd hi hs hin
    obtain ⟨a1, a2, a3⟩ := drop_at hd
    obtain ⟨b1, b2, b3⟩ := drop_at a3.symm
    have hn := build_node ts hok hl placed gt tc cb p ids sites t u k w hin a1 b1 b2 hi hs h3 h1 (hkw u (List.mem_of_getElem? b1) k h2) nm rg kids r' (by rw [← b3]; exact hp)
    rw [hd] at hn
    exact hn
theorem PW.good {placed : Bool} {ts : List Tk} (hok : TokOk ts) (hkw : ∀ t ∈ ts, ∀ k, t.c = .kw k → t.s = k.bytes) (hl : ts.length ≤ 9000) : ∀ {ws : List Wt} {l : List Tk} {nm rg : List UInt8} {kids : List PT} {r : List Tk}, PW placed ws l nm rg kids r → PWx (GoodE ts) ws l nm rg kids r
  | _, _, _, _, _, _, .nil => .nil
  | _, _, _, _, _, _, .close h h1 => .close h (PW.good hok hkw hl h1)
  | _, _, _, _, _, _, .name h h1 => .name h (PW.good hok hkw hl h1)
  | _, _, _, _, _, _, .region h h1 => .region h (PW.good hok hkw hl h1)
  | _, _, _, _, _, _, .e h h1 => .e (PE.good hok hkw hl h) (PW.good hok hkw hl h1)
end

theorem tokens_ok (l : List UInt8) : TokOk (tokens l) := ⟨fun _ h hc => toks_num h hc, fun _ h hc => toks_reg h hc, fun _ h _ => toks_ne h⟩
theorem tokens_kw (l : List UInt8) : ∀ t ∈ tokens l, ∀ k, t.c = .kw k → t.s = k.bytes := fun _ h _ hc => toks_kw h hc

mutual
theorem PE.wf {placed : Bool} : ∀ {l : List Tk} {e : PT} {r : List Tk}, PE placed l e r → e.wf
  | _, _, _, .num _ => by simp [PT.wf]
  | _, _, _, .name _ => by simp [PT.wf]
  | _, _, _, .node (k := k) _ _ h3 h4 => by
    simp only [PT.wf]
    refine ⟨?_, PW.wfl h4⟩
    rw [PW.kids_len h4]
    cases k <;> cases placed <;> first | decide | exact absurd rfl h3
theorem PW.wfl {placed : Bool} : ∀ {ws : List Wt} {l : List Tk} {nm rg : List UInt8} {kids : List PT} {r : List Tk}, PW placed ws l nm rg kids r → wfL kids
  | _, _, _, _, _, _, .nil => by simp [wfL]
  | _, _, _, _, _, _, .close _ h1 => PW.wfl h1
  | _, _, _, _, _, _, .name _ h1 => PW.wfl h1
  | _, _, _, _, _, _, .region _ h1 => PW.wfl h1
  | _, _, _, _, _, _, .e h h1 => by simp only [wfL]; exact ⟨PE.wf h, PW.wfl h1⟩
end

set_option maxRecDepth 100000 in
set_option maxHeartbeats 1000000 in
theorem Build_any (s : ByteArray) (placed : Bool) (e : PT) (w : World) (hs : s.size ≤ 9000) (hp : PE placed (tokens s.data.toList) e []) :
    Calls Tryd.prog 18 #[.string s] w fun v w' => ∃ b, v = .returned (ptr b) ∧ Below w.heap.size w w' ∧ IsT w' (fun k => k < w'.heap.size) e 0 0 b := by
  have htl : (tokens s.data.toList).length ≤ 9000 := by
    have := toks_len s.data.toList.length 0 s.data.toList
    rw [size_list] at this
    unfold tokens; rw [size_list]; omega
  have hg := (PE.good (tokens_ok _) (tokens_kw _) htl hp).2.2.2.2
  have htk := Tokens_any s
  obtain ⟨ts, hts⟩ : ∃ ts, ts = tokens s.data.toList := ⟨_, rfl⟩
  rw [← hts] at hg htk
  have hne : 0 < ts.length := by
    obtain ⟨t, r', h, _⟩ := hp.suffix
    rw [hts, h]; simp
  clear hts hp htl
  go_enter Tryd.func18, Tryd.ntmps18
  go_wp2_with fail
  refine (htk _ hs).mono ?_
  rintro e' w1 ⟨tv, rfl, htown, htb⟩
  obtain ⟨gt, tc, htv⟩ : ∃ gt tc, tv = .slice (some ⟨gt, 0, none⟩) ts.length tc := by
    rcases htown.2 with ⟨_, h⟩ | ⟨g, cap, cur, h, _⟩
    · omega
    · exact ⟨_, _, h⟩
  subst htv
  have hgt := htown.lt gt rfl
  have hin : BIn ts gt tc w1.heap.size 0 0 0 (w1.alloc (.cells (cntCells (.slice (some ⟨gt, 0, none⟩) ts.length tc) 0 0 0) 70)) :=
    ⟨by omega, blk_new _ _, (owns_base htown (fun _ _ => Nat.zero_le _)).alloc _⟩
  have hca := hg gt tc w1.heap.size 0 0 0 _ (by simp) (Nat.le_refl _) (Nat.le_refl _) hin
  have HTB : Hid (Below w.heap.size w w1) := htb
  have hw1 := htb.size
  unfold ptr at hca
  clear htown hin htb hg htk
  go_wp2_with fail
  refine hca.mono ?_
  rintro e' w2 ⟨b, rfl, hc2, hg2, hT2⟩
  unfold ptr
  go_wp2
  go_ret
  have hsz := hg2.size
  refine ⟨b, rfl, ?_, ?_⟩
  · refine HTB.out.trans ⟨hg2.os, hg2.tape, hg2.output, by simp at hsz; omega, fun k hk => ?_⟩
    rw [hg2.block k (by simp; omega) (fun e => by cases e; omega), Below.heap_alloc _ _ _ (by omega)]
  · exact IsT.keep (fun k hk => hk.2) (fun _ _ => rfl) _ _ _ _ hT2
end Go.Proofs.YtpicaknklgccoaaDoor

namespace Go.Proofs.YtpicaknklgccoaaDoor
open Go.RowKit


set_option maxHeartbeats 400000 in
theorem Study_long (s : ByteArray) (w : World) (hs : 3000 < s.size) (hm : s.size ≤ maxLen) :
    Calls Tryd.prog 14 #[.string s, .bool false] w fun v w' => v = .returned (.tuple #[.pointer none, .pointer none, .int .i64 1, .int .i64 0]) ∧ Below w.heap.size w w' := by
  unfold maxLen at hm
  go_enter Tryd.func14, Tryd.ntmps14
  go_wp2
  refine bodyPost_ret (v := .tuple #[.pointer none, .pointer none, .int .i64 1, .int .i64 0]) (by simp [results, Tryd.results14, go_sem]) rfl ⟨rfl, Below.refl _ _⟩

set_option maxHeartbeats 400000 in
theorem Study_form (s : ByteArray) (w : World) (hs : s.size ≤ 3000) (q : Nat) (hq : formOf false s.data.toList = some q) :
    Calls Tryd.prog 14 #[.string s, .bool false] w fun v w' => v = .returned (.tuple #[.pointer none, .pointer none, .int .i64 2, .int .i64 q]) ∧ Below w.heap.size w w' := by
  have hf := fun w => Form_any s false w (by omega)
  rw [hq] at hf
  simp only [formInt] at hf
  go_enter Tryd.func14, Tryd.ntmps14
  go_wp2_with (go_at_call 17; refine (hf _).mono ?_; rintro e w1 ⟨rfl, hb1⟩)
  refine bodyPost_ret (v := .tuple #[.pointer none, .pointer none, .int .i64 2, .int .i64 q]) (by simp [results, Tryd.results14, go_sem]) rfl ⟨rfl, hb1⟩

theorem isRec_cells {w : World} {b : Nat} {r : Rec} (h : isRec w b r) : w.cell? ⟨b, 1, none⟩ = some (.int .i64 r.p) := by
  obtain ⟨kv, h⟩ := h
  rw [blk_cell h]; rfl

theorem prl_at (e : PT) (r : Rec) (j : Nat) (hr : r ∈ e.recs 0 0) (hp : r.isPair = true) (hs : r.site = j) : (e.prl[j]?).map (·.1) = some r.p := by
  obtain ⟨_, _, rg, h, _⟩ := (recs_pairs e 0 0).2.1 r hr hp
  rw [hs, Nat.sub_zero] at h
  rw [h]; rfl

theorem Study_len {s : ByteArray} {placed : Bool} {e : PT} (hp : PE placed (tokens s.data.toList) e []) : e.cnt ≤ s.size := by
  have h1 := hp.used.1
  have h2 := toks_len s.data.toList.length 0 s.data.toList
  rw [size_list] at h2
  unfold tokens at h1
  rw [size_list] at h1
  simp at h1
  omega

set_option maxRecDepth 100000 in
set_option maxHeartbeats 1000000 in
theorem Study_many (s : ByteArray) (w : World) (hs : s.size ≤ 3000) (e : PT) (hp : PE false (tokens s.data.toList) e []) (hn : formOf false s.data.toList = none) (hm : 100 < e.prs) :
    Calls Tryd.prog 14 #[.string s, .bool false] w fun v w' => ∃ q : Nat, v = .returned (.tuple #[.pointer none, .pointer none, .int .i64 3, .int .i64 q]) ∧ (e.prl[100]?).map (·.1) = some q ∧ Below w.heap.size w w' := by
  have hf := fun w => Form_any s false w (by omega)
  rw [hn] at hf
  simp only [formInt] at hf
  have hbu := fun w => Build_any s false e w (by omega) hp
  have hcnt := Study_len hp
  have hpa := fun b F w h => pairs_any e b F w (by omega) h
  have hpc := prs_cnt e
  unfold ptr at hbu hpa
  clear hp hn
  go_enter Tryd.func14, Tryd.ntmps14
  go_wp2_with (first
    | (go_at_call 17; refine (hf _).mono ?_; rintro _ w1 ⟨rfl, hb1⟩)
    | (go_at_call 18; refine (hbu _).mono ?_; rintro _ w2 ⟨b, rfl, hb2, hT2⟩))
  refine (hpa b _ w2 hT2).mono ?_
  rintro _ w3 ⟨g, cap, vs, rfl, hb3, ho3, hvs⟩
  obtain ⟨b', r, hv, hrec, hip, hsite, hmem⟩ := hvs 100 hm
  have hpr := prl_at e r 100 hmem hip hsite
  have hbw := blk_lt hrec.choose_spec
  have c1 : w3.cell? ⟨g, 100, none⟩ = some (.pointer (some ⟨b', 0, none⟩)) := by rw [ho3.cellAt 100 (by omega)]; exact hv
  have c2 : w3.cell? ⟨b', 1, none⟩ = some (.int .i64 r.p) := by rw [hb3.cell (p := ⟨b', 1, none⟩) hbw]; exact isRec_cells hrec
  have HB : Hid (Below w.heap.size w w3) := hb1.trans ((hb2.mono hb1.size).trans (hb3.mono (Nat.le_trans hb1.size hb2.size)))
  have HPR : Hid _ := hpr
  have hgw := World.block_lt_of_cell? _ _ c1
  clear hvs ho3 hv hrec hpr hmem hb1 hb2 hb3 hT2 hip hsite
  go_wp2
  go_quiet (fail)
  go_wp2
  refine bodyPost_ret (v := .tuple #[.pointer none, .pointer none, .int .i64 3, .int .i64 r.p]) (by simp [results, Tryd.results14, go_sem]) rfl ⟨r.p, rfl, HPR.out, HB.out.trans ⟨rfl, rfl, rfl, Nat.le_refl _, fun _ _ => rfl⟩⟩

theorem isT_drew {w : World} {n : Nat} {t : PT} {id site b : Nat} (h : IsT w (fun k => k < w.heap.size) t id site b) : IsT (w.drewN n) (fun k => k < (w.drewN n).heap.size) t id site b :=
  IsT.keep (w := w) (w' := w.drewN n) (F := fun k => k < w.heap.size) (F' := fun k => k < (w.drewN n).heap.size) (fun _ h => h) (fun _ _ => rfl) _ _ _ _ h

set_option maxRecDepth 100000 in
set_option maxHeartbeats 2000000 in
theorem Study_ok (s : ByteArray) (w : World) (hs : s.size ≤ 3000) (e : PT) (hp : PE false (tokens s.data.toList) e []) (hn : formOf false s.data.toList = none) (hm : e.prs ≤ 100) :
    Calls Tryd.prog 14 #[.string s, .bool false] w fun v w' => ∃ b yb : Nat, v = .returned (.tuple #[ptr b, ptr yb, .int .i64 (tyFind (List.range e.prs) e 0 0 [] (st0 e)).2.e, .int .i64 (tyFind (List.range e.prs) e 0 0 [] (st0 e)).2.at_]) ∧
      Below w.heap.size w w' ∧ IsT w' (fun k => k < w'.heap.size) e 0 0 b := by
  obtain ⟨i0, hi, hz0, hz1, hz2⟩ := info_parts Tryd.infoInt
  have HI : Hid _ := hi
  have HZ0 : Hid _ := hz0
  have HZ1 : Hid _ := hz1
  have HZ2 : Hid _ := hz2
  clear hi hz0 hz1 hz2
  have hf := fun w => Form_any s false w (by omega)
  rw [hn] at hf
  simp only [formInt] at hf
  have hbu := fun w => Build_any s false e w (by omega) hp
  have hcnt := Study_len hp
  have hpa := fun b F w h => pairs_any e b F w (by omega) h
  have hwf := hp.wf
  unfold ptr at hbu hpa
  have HWF : Hid _ := hwf
  clear hp hn hwf
  go_enter Tryd.func14, Tryd.ntmps14
  go_wp2_with (first
    | (go_at_call 17; refine (hf _).mono ?_; rintro _ w1 ⟨rfl, hb1⟩)
    | (go_at_call 18; refine (hbu _).mono ?_; rintro _ w2 ⟨b, rfl, hb2, hT2⟩))
  refine (hpa b _ w2 hT2).mono ?_
  rintro _ w3 ⟨g, cap, vs, rfl, hb3, ho3, hvs⟩
  have hT3 : IsT w3 (fun k => k < w3.heap.size) e 0 0 b := IsT.keep (fun k hk => Nat.lt_of_lt_of_le hk hb3.size) (fun k hk => hb3.block k hk) _ _ _ _ hT2
  have HT3 : Hid _ := hT3
  have HB : Hid (Below w.heap.size w w3) := hb1.trans ((hb2.mono hb1.size).trans (hb3.mono (Nat.le_trans hb1.size hb2.size)))
  have hw3 : w.heap.size ≤ w3.heap.size := HB.out.size
  obtain ⟨n, hnn⟩ : ∃ n, n = e.prs := ⟨_, rfl⟩
  rw [← hnn] at hm ⊢
  have HNN : Hid _ := hnn
  clear hvs ho3 hb1 hb2 hb3 hT2 hT3 hbu hpa hf hnn
  go_wp2
  go_loopw [12, 13] (fun v i wr => ∃ k : Nat, k ≤ n ∧ i = .int .i64 k ∧ wr.ownsRow w3.heap.size 3 1 v k ((List.range k).map fun (x : Nat) => Value.int .i64 x) ∧ Below w3.heap.size w3 wr) (fun _ i _ => n - (intOf i).toNat)
  case atStart => exact ⟨0, by omega, rfl, World.ownsRow_nil _ _ _ _, Below.refl _ _⟩
  case round =>
    obtain ⟨k, hk, rfl, hown, hbel⟩ := hrel
    have HOWN : Hid (wr.ownsRow w3.heap.size 3 1 _ k ((List.range k).map fun (x : Nat) => Value.int .i64 x)) := hown
    have hsz := hbel.size
    clear hown
    by_cases hlt : k < n
    · go_wp2_with (at_builtin; go_must (refine wpList_append_own _ rfl (.tmp 56) (.tmp 58) 34 rfl w3.heap.size 3 i0 _ 1 8 Tryd.undInts HI.out HZ0.out HZ1.out HZ2.out rfl (by decide) _ k ((List.range k).map fun (x : Nat) => Value.int .i64 x) rfl (HOWN.out.alloc _) ⟨wr.heap.size, 0, none⟩ 1 1 [.int .i64 k] rfl rfl ?c1 ?c2 ?c3 ?c4 ?c5 ?_))
      case c1 =>
        intro j u hj
        rw [← hj]
        exact alloc_cell_at _ _ _ _
      case c2 => intro u hu; simp at hu; subst hu; rfl
      case c3 => unfold maxLen; omega
      case c4 => first | omega | (simp; omega)
      case c5 => first | omega | (simp; omega)
      intro v' w4 hown' hgrow hnil
      have HB2 : Hid (Below w3.heap.size w3 w4) := (hbel.alloc hsz _).grown hgrow (by simp; omega) (fun b hb => (World.ownsRow.lt HOWN.out b hb).1)
      have HO3 : Hid _ := hown'
      clear hown' hgrow hnil
      go_wp2
      go_roundw
      case rel =>
        refine ⟨k + 1, by omega, by go_num, ?_, HB2.out⟩
        have := HO3.out
        rw [List.range_succ, List.map_append]
        exact this
      case measure => simp [intOf]; omega
    · have hkn : k = n := by omega
      have HKN : Hid _ := hkn
      have hcs := HOWN.out.2
      have hcl : (List.range n).length = n := List.length_range
      have hty := Types_any (w0 := w3) (cls := List.range n) (fun x hx => by rw [List.mem_range] at hx; omega) (by omega) e HWF.out b _ _ wr HT3.out (by omega) hbel (by have h := HOWN.out; rw [hkn] at h; rw [hcl]; exact h) (by rw [hcl, HNN.out]; exact Nat.le_refl _) (by
        rcases hcs with ⟨h, _⟩ | ⟨g', cap', cur, h, _⟩
        · exact ⟨_, _, _, h⟩
        · exact ⟨_, _, _, h⟩)
      unfold ptr at hty
      have HBEL : Hid _ := hbel
      clear hcs hkn hcl hbel
      go_wp2_with fail
      refine hty.mono ?_
      rintro _ w5 ⟨yb, nv, tv, ov, rfl, hsz5, hb5, hin5⟩
      have c4 : w5.cell? ⟨yb, 4, none⟩ = some (.int .i64 (tyFind (List.range n) e 0 0 [] (st0 e)).2.e) := by rw [blk_cell hin5.y]; rfl
      have c5 : w5.cell? ⟨yb, 5, none⟩ = some (.int .i64 (tyFind (List.range n) e 0 0 [] (st0 e)).2.at_) := by rw [blk_cell hin5.y]; rfl
      have HB5 : Hid (Below w.heap.size w w5) := HB.out.trans ((HBEL.out.mono hw3).trans (hb5.mono (by omega)))
      have HT5 : Hid (IsT w5 (fun k => k < w5.heap.size) e 0 0 b) := IsT.keep (fun k hk => by omega) (fun k hk => hin5.b0.block k hk) _ _ _ _ HT3.out
      clear hin5 hb5 hty
      obtain ⟨R, hR⟩ : ∃ R, R = (tyFind (List.range n) e 0 0 [] (st0 e)).2 := ⟨_, rfl⟩
      rw [← hR] at c4 c5
      have HRR : Hid (R = (tyFind (List.range e.prs) e 0 0 [] (st0 e)).2) := by rw [← HNN.out]; exact hR
      clear hR
      go_wp2
      go_quiet (fail)
      go_wp2
      refine bodyPost_ret (v := .tuple #[ptr b, ptr yb, .int .i64 R.e, .int .i64 R.at_]) (by simp [results, Tryd.results14, go_sem, ptr]) rfl ⟨b, yb, by rw [HRR.out], HB5.out.trans ⟨rfl, rfl, rfl, Nat.le_refl _, fun _ _ => rfl⟩, isT_drew HT5.out⟩

/-- what Check tells, by the tree -/
def chkAns (e : PT) : Nat × Nat :=
  if 100 < e.prs then (3, ((e.prl[100]?).map (·.1)).getD 0)
  else ((tyFind (List.range e.prs) e 0 0 [] (st0 e)).2.e, (tyFind (List.range e.prs) e 0 0 [] (st0 e)).2.at_)
end Go.Proofs.YtpicaknklgccoaaDoor

namespace Go.Proofs.YtpicaknklgccoaaDoor

theorem errS_at (st : TSt) (e p : Nat) (he : e ≠ 0) : (errS st e p).e = 0 → (errS st e p).at_ = st.at_ := by
  intro h; exact absurd h (errS_e st e p he)
theorem fin_at (id p : Nat) (x : Ty × TSt) : (fin id p x).2.e = 0 → x.2.e = 0 ∧ (fin id p x).2.at_ = x.2.at_ := by
  unfold fin
  simp only
  split
  · intro h; exact absurd h (errS_e _ _ _ (by decide))
  · intro h; exact ⟨h, rfl⟩
theorem madeT_at (cls : List Nat) (k : Kw) (p site : Nat) (ks : List Ty) (st : TSt) : (madeT cls k p site ks st).2.e = 0 → (madeT cls k p site ks st).2.at_ = st.at_ := by
  have err : (errS st 5 p).e = 0 → (errS st 5 p).at_ = st.at_ := errS_at st 5 p (by decide)
  unfold madeT
  split <;> (first | (intro _; rfl) | exact err | (split <;> first | (intro _; rfl) | exact err))
theorem stay0 {a b : TSt} (h : a.e ≠ 0 → b.e = a.e ∧ b.at_ = a.at_) (hb : b.e = 0) : a.e = 0 := by
  by_cases e : a.e = 0
  · exact e
  · exact absurd ((h e).1.symm.trans hb) e
mutual
theorem tyFind_at (cls : List Nat) : ∀ (t : PT) (id site : Nat) (env : TEnv) (st : TSt), (tyFind cls t id site env st).2.e = 0 → (tyFind cls t id site env st).2.at_ = st.at_
  | .num p s, id, site, env, st => by
    simp only [tyFind]; intro h; exact (fin_at id p _ h).2
  | .name p s, id, site, env, st => by
    simp only [tyFind]
    intro h
    obtain ⟨h1, h2⟩ := fin_at id p _ h
    rw [h2]
    revert h1
    split
    · intro _; rfl
    · exact errS_at st 4 p (by decide)
  | .node p k nm rg kids, id, site, env, st => by
    simp only [tyFind]
    intro h
    obtain ⟨h1, h2⟩ := fin_at id p _ h
    rw [h2]
    revert h1
    split
    · exact tyLet_at cls nm kids (id + 1) site env st
    · have hx : (if k = .loop then tyLoop cls nm kids (id + 1) site env st else tyKids cls kids (id + 1) (site + if k = .pair then 1 else 0) env st).2.e = 0 → (if k = .loop then tyLoop cls nm kids (id + 1) site env st else tyKids cls kids (id + 1) (site + if k = .pair then 1 else 0) env st).2.at_ = st.at_ := by
        by_cases hk : k = .loop
        · simp only [if_pos hk]; exact tyLoop_at cls nm kids _ _ env st
        · simp only [if_neg hk]; exact tyKids_at cls kids _ _ env st
      generalize (if k = .loop then tyLoop cls nm kids (id + 1) site env st else tyKids cls kids (id + 1) (site + if k = .pair then 1 else 0) env st) = x at hx
      split
      · rename_i hne; intro h0; exact absurd h0 hne
      · rename_i hne
        have h0 : x.2.e = 0 := by simpa using hne
        intro h1
        rw [madeT_at cls k p site x.1 x.2 h1, hx h0]
theorem tyKids_at (cls : List Nat) : ∀ (ts : List PT) (id site : Nat) (env : TEnv) (st : TSt), (tyKids cls ts id site env st).2.e = 0 → (tyKids cls ts id site env st).2.at_ = st.at_
  | [], _, _, _, st => by simp [tyKids]
  | a :: r, id, site, env, st => by
    simp only [tyKids]
    intro h
    have h2 := tyKids_at cls r (id + a.cnt) (site + a.prs) env (tyFind cls a id site env st).2 h
    have h0 := stay0 (fun e => tyKids_stay cls r (id + a.cnt) (site + a.prs) env _ e) h
    rw [h2, tyFind_at cls a id site env st h0]
theorem tyLet_at (cls : List Nat) (nm : List UInt8) : ∀ (ts : List PT) (id site : Nat) (env : TEnv) (st : TSt), (tyLet cls nm ts id site env st).2.e = 0 → (tyLet cls nm ts id site env st).2.at_ = st.at_
  | [a, b], id, site, env, st => by
    simp only [tyLet]
    intro h
    have h2 := tyFind_at cls b (id + a.cnt) (site + a.prs) (env ++ [(nm, (tyFind cls a id site env st).1)]) (tyFind cls a id site env st).2 h
    have h0 := stay0 (fun e => tyFind_stay cls b (id + a.cnt) (site + a.prs) _ _ e) h
    rw [h2, tyFind_at cls a id site env st h0]
  | [], _, _, _, st => by simp [tyLet]
  | [_], _, _, _, st => by simp [tyLet]
  | _ :: _ :: _ :: _, _, _, _, st => by simp [tyLet]
theorem tyLoop_at (cls : List Nat) (nm : List UInt8) : ∀ (ts : List PT) (id site : Nat) (env : TEnv) (st : TSt), (tyLoop cls nm ts id site env st).2.e = 0 → (tyLoop cls nm ts id site env st).2.at_ = st.at_
  | [a, b, c], id, site, env, st => by
    simp only [tyLoop]
    intro h
    have h3 := tyFind_at cls c _ _ _ _ h
    have h0 := stay0 (fun e => tyFind_stay cls c _ _ _ _ e) h
    have h2 := tyFind_at cls b _ _ _ _ h0
    have h00 := stay0 (fun e => tyFind_stay cls b _ _ _ _ e) h0
    rw [h3, h2, tyFind_at cls a id site env st h00]
  | [], _, _, _, st => by simp [tyLoop]
  | [_], _, _, _, st => by simp [tyLoop]
  | [_, _], _, _, _, st => by simp [tyLoop]
  | _ :: _ :: _ :: _ :: _, _, _, _, st => by simp [tyLoop]
end

theorem prog_ans {e : PT} {ns : List NR} (hna : NA [] e 0 ns) : progAns ns (opn e 0) = chkAns e := by
  have hpr : (opn e 0).filterMap (pairAt ns) = e.prl.map (·.1) := opn_pairs ns e [] 0 ns hna (fun j _ => by rw [Nat.zero_add])
  have hlen : ((opn e 0).filterMap (pairAt ns)).length = e.prs := by rw [hpr, List.length_map, prl_len]
  unfold progAns chkAns manyAns
  rw [hlen]
  by_cases hm : 100 < e.prs
  · simp only [if_pos hm]
    rw [if_pos (by decide), hpr, List.getElem?_map]
  · simp only [if_neg hm]
    rw [if_neg (by decide), ckK_eq ns rel0]
    have hA := tyck (List.range e.prs) (fun x hx => by rw [List.mem_range] at hx; omega) e [] ns [] (st0 e) [] 0 0 hna trivial rfl ⟨by simp, by simp⟩
    have hat := tyFind_at (List.range e.prs) e 0 0 [] (st0 e)
    rcases hA with ⟨h0, h1, _⟩ | ⟨_, h1⟩
    · rw [h1, h0, hat h0]; rfl
    · exact h1

theorem op_ok {e : PT} {ns : List NR} (hna : NA [] e 0 ns) : OpOk ns (opn e 0) := by
  have hl := hna.len
  refine ⟨by rw [opn_len, hl], fun x hx => ?_⟩
  have := opn_in e 0 x hx
  simp only [Nat.zero_add] at this
  omega
end Go.Proofs.YtpicaknklgccoaaDoor
