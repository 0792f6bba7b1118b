import Derived.Test.YtpicaknklgccoaaDoorX7
import Derived.Test.YtpicaknklgccoaaDoorX5
import Derived.Test.YtpicaknklgccoaaDoorX3
import Derived.Shelf.Lay
import Derived.Shelf.LaysM
import Derived.Shelf.Strconv.Itoa3
import Derived.Lib.AppendIntMem
namespace Go.Proofs.YtpicaknklgccoaaDoor
open Go.RowKit

def loopF (cls : List Nat) (p : Nat) (nm : List UInt8) (kids : List PT) (id site : Nat) (env : TEnv) (st : TSt) : Ty × TSt :=
  if (tyLoop cls nm kids (id + 1) site env st).2.e ≠ 0 then (.n, (tyLoop cls nm kids (id + 1) site env st).2)
  else madeT cls .loop p site (tyLoop cls nm kids (id + 1) site env st).1 (tyLoop cls nm kids (id + 1) site env st).2

/-- behind a find whose type is stored into the array k (block ab): all as before -/
theorem step_store {w0 w wr w2 : World} {yb ab j : Nat} {cls : List Nat} {cv nv tv ov nv1 tv1 nv2 tv2 : Value} {env : TEnv} {st1 : TSt} {ks : List Ty} {ty : Ty}
    (hlc : ∀ g, cv.ownBlock = some g → g < ab) (hlo : ∀ g, ov.ownBlock = some g → g < ab) (hyb : yb < ab) (hwab : w.heap.size = ab) (hw0 : w0.heap.size ≤ ab) (hfr : Fr w wr yb nv tv ov nv1 tv1) (hab : ab < wr.heap.size) (hn1 : nv1.ownBlock ≠ some ab) (ht1 : tv1.ownBlock ≠ some ab)
    (hfr2 : Fr wr w2 yb nv1 tv1 ov nv2 tv2) (hin2 : TyIn w0 w2 yb cls cv nv2 tv2 ov env st1) (hka : wr.heap[ab]? = some (.cells (kArr ks) 128 (0, 0))) (hlk : ks.length = j) :
    nv2.ownBlock ≠ some ab ∧ tv2.ownBlock ≠ some ab ∧ w2.heap[ab]? = some (.cells (kArr ks) 128 (0, 0)) ∧ TyIn w0 (w2.setCell ⟨ab, j, none⟩ (.string (bs ty.txt))) yb cls cv nv2 tv2 ov env st1 ∧
    Fr w (w2.setCell ⟨ab, j, none⟩ (.string (bs ty.txt))) yb nv tv ov nv2 tv2 ∧ (w2.setCell ⟨ab, j, none⟩ (.string (bs ty.txt))).heap[ab]? = some (.cells (kArr (ks ++ [ty])) 128 (0, 0)) ∧ ab < w2.heap.size := by
  have hsz2 := hfr2.size
  have hn2 : nv2.ownBlock ≠ some ab := by
    intro e
    rcases hfr2.n _ e with e | e
    · exact hn1 e
    · omega
  have ht2 : tv2.ownBlock ≠ some ab := by
    intro e
    rcases hfr2.t _ e with e | e
    · exact ht1 e
    · omega
  have ho2 : ov.ownBlock ≠ some ab := fun e => by have := hlo _ e; omega
  have hc2 : cv.ownBlock ≠ some ab := fun e => by have := hlc _ e; omega
  have hka2 : w2.heap[ab]? = some (.cells (kArr ks) 128 (0, 0)) := by
    rw [hfr2.blk _ hab (by omega) hn1 ht1 ho2]; exact hka
  refine ⟨hn2, ht2, hka2, TyIn.other hin2 hw0 (by omega) hc2 hn2 ht2 ho2 rfl, ?_, ?_, by omega⟩
  · have h := hfr.trans hfr2
    refine ⟨by have := h.size; simp [World.setCell]; exact this, ?_, h.n, h.t⟩
    intro q hq hy hn ht ho
    rw [blk_other _ _ (by simp only; omega)]
    exact h.blk q hq hy hn ht ho
  · have h := blk_set hka2 j (.string (bs ty.txt))
    rw [← kArr_snoc, hlk]; exact h

set_option maxRecDepth 100000 in
set_option maxHeartbeats 8000000 in
theorem form_loop {w0 : World} {yb : Nat} {cls : List Nat} (p : Nat) (nm rg : List UInt8) (x1 x2 x3 : PT) (hc100 : ∀ x ∈ cls, x < 100) (hcl : cls.length ≤ 9000)
    (hf1 : FindOk w0 yb cls x1) (hf2 : FindOk w0 yb cls x2) (hf3 : FindOk w0 yb cls x3) : FormOk w0 yb cls (.node p .loop nm rg [x1, x2, x3]) (fun id site env st => loopF cls p nm [x1, x2, x3] id site env st) := by
  intro id site b F env st cv nv tv ov w hT hin hid hsite hs1 hs2 henv
  simp only [IsT] at hT
  obtain ⟨hFb, kv, bl, hblk, hF, hkv, hts⟩ := hT
  have hb := blk_lt hblk
  have hw0 := hin.b0.size
  have hbw : b < w.heap.size := by omega
  have hne : b ≠ yb := by have := hin.hyb; omega
  obtain ⟨gk, kc, hvk⟩ : ∃ gk kc, kv = .slice (some ⟨gk, 0, none⟩) 3 kc := by
    rcases hkv.2 with ⟨_, h'⟩ | ⟨g, cap, cur, h, _⟩
    · simp at h'
    · exact ⟨_, _, h⟩
  subst hvk
  obtain ⟨b1, hb1, hT1⟩ := IsTs.at _ _ _ _ hts 0 x1 rfl
  obtain ⟨b2, hb2, hT2⟩ := IsTs.at _ _ _ _ hts 1 x2 rfl
  obtain ⟨b3, hb3, hT3⟩ := IsTs.at _ _ _ _ hts 2 x3 rfl
  have k1 : w0.cell? ⟨gk, 0, none⟩ = some (ptr b1) := by rw [hkv.cellAt 0 (by simp)]; simp [hb1]
  have k2 : w0.cell? ⟨gk, 1, none⟩ = some (ptr b2) := by rw [hkv.cellAt 1 (by simp)]; simp [hb2]
  have k3 : w0.cell? ⟨gk, 2, none⟩ = some (ptr b3) := by rw [hkv.cellAt 2 (by simp)]; simp [hb3]
  have hgkw : gk < w0.heap.size := World.block_lt_of_cell? _ _ k1
  have hgkw' : gk < w.heap.size := by omega
  have hbx : w.heap[b]? = some (.cells (exCells Kw.loop.bytes p nm (valueL rg) (.slice (some ⟨gk, 0, none⟩) 3 kc) id (id + cntL [x1, x2, x3]) site) 52 (0, 0)) := by rw [hin.b0.block b hb]; exact hblk
  have x0 : w.cell? ⟨b, 0, none⟩ = some (.string (bs Kw.loop.bytes)) := by rw [blk_cell hbx]; rfl
  have x4 : w.cell? ⟨b, 4, none⟩ = some (.slice (some ⟨gk, 0, none⟩) 3 kc) := by rw [blk_cell hbx]; rfl
  have k1w : w.cell? ⟨gk, 0, none⟩ = some (.pointer (some ⟨b1, 0, none⟩)) := (hin.b0.cell (p := ⟨gk, 0, none⟩) hgkw).trans k1
  have q0 : ((bs Kw.loop.bytes).toList == [110, 117, 109, 98, 101, 114]) = false := by rw [bs_beq0]; decide
  have q1 : ((bs Kw.loop.bytes).toList == [110, 97, 109, 101]) = false := by rw [bs_beq0]; decide
  have q2 : ((bs Kw.loop.bytes).toList == [108, 101, 116]) = false := by rw [bs_beq0]; decide
  have q3 : ((bs Kw.loop.bytes).toList == [108, 111, 111, 112]) = true := by rw [bs_beq0]; decide
  have hyb := hin.hyb
  simp only [PT.cnt, PT.prs, cntL, prsL] at hid hsite henv
  simp only [cntL, prsL, List.take_zero, List.take_succ_cons, Nat.add_zero] at hT1 hT2 hT3
  rw [if_neg (by decide)] at hsite hT1 hT2 hT3
  simp only [Nat.add_zero] at hT1 hT2 hT3
  rw [← Nat.add_assoc (id + 1), ← Nat.add_assoc site] at hT3
  have hlt1 : ∀ g, nv.ownBlock = some g → g < w.heap.size := fun g hg => (hin.n.lt g hg).2
  have hlt2 : ∀ g, tv.ownBlock = some g → g < w.heap.size := fun g hg => (hin.t.lt g hg).2
  have hlt3 : ∀ g, ov.ownBlock = some g → g < w.heap.size := fun g hg => (hin.o.lt g hg).2
  have hlt4 : ∀ g, cv.ownBlock = some g → g < w.heap.size := fun g hg => (hin.c.lt g hg).2
  have hyw := blk_lt hin.y
  have hinA : TyIn w0 (w.alloc (.cells (kArr []) 128)) yb cls cv nv tv ov env st := hin.grow ((Below.refl _ _).alloc (Nat.le_refl _) _)
  have hfrA : Fr w (w.alloc (.cells (kArr []) 128)) yb nv tv ov nv tv := Fr.below ((Below.refl _ _).alloc (Nat.le_refl _) _) _ _ _ _
  have hfo := hf1 (id + 1) site b1 F env st cv nv tv ov _ hT1 hinA (by omega) (by omega) hs1 hs2 (by omega)
  have heo : envOk env st := ⟨hs1, hs2⟩
  have hok1 := tyFind_ok cls hc100 x1 (id + 1) site env st heo
  obtain ⟨R1, hR1⟩ : ∃ R, R = tyFind cls x1 (id + 1) site env st := ⟨_, rfl⟩
  rw [← hR1] at hfo hok1
  have heo2 : envOk env R1.2 := heo.on (fun h0 => (hok1.2.1 h0).1)
  have hok2 := tyFind_ok cls hc100 x2 (id + 1 + x1.cnt) (site + x1.prs) env R1.2 heo2
  obtain ⟨R2, hR2⟩ : ∃ R, R = tyFind cls x2 (id + 1 + x1.cnt) (site + x1.prs) env R1.2 := ⟨_, rfl⟩
  rw [← hR2] at hok2
  have heo3 : envOk env R2.2 := heo2.on (fun h0 => (hok2.2.1 h0).1)
  have hok3 := tyFind_ok cls hc100 x3 (id + 1 + x1.cnt + x2.cnt) (site + x1.prs + x2.prs) (env ++ [(nm, R2.1)]) R2.2 (heo2.snoc hok2)
  obtain ⟨R3, hR3⟩ : ∃ R, R = tyFind cls x3 (id + 1 + x1.cnt + x2.cnt) (site + x1.prs + x2.prs) (env ++ [(nm, R2.1)]) R2.2 := ⟨_, rfl⟩
  rw [← hR3] at hok3
  have hfin : loopF cls p nm [x1, x2, x3] id site env st = if R3.2.e ≠ 0 then (.n, R3.2) else madeT cls .loop p site [R1.1, R2.1, R3.1] R3.2 := by
    subst hR3; subst hR2; subst hR1; rfl
  have HFIN : Hid _ := hfin
  obtain ⟨FF, hFF⟩ : ∃ FF, FF = loopF cls p nm [x1, x2, x3] id site env st := ⟨_, rfl⟩
  show Calls _ _ #[Value.pointer (some ⟨yb, 0, none⟩), Value.pointer (some ⟨b, 0, none⟩)] w (fun v w' => v = .returned (.string (bs (loopF cls p nm [x1, x2, x3] id site env st).1.txt)) ∧ ∃ nv' tv', Fr w w' yb nv tv ov nv' tv' ∧ TyIn w0 w' yb cls cv nv' tv' ov env (loopF cls p nm [x1, x2, x3] id site env st).2)
  rw [← hFF] at HFIN ⊢
  unfold ptr at hfo
  have HBLK : Hid _ := hblk
  have HK2 : Hid _ := k2
  have HK3 : Hid _ := k3
  have HT2 : Hid _ := hT2
  have HT3 : Hid _ := hT3
  have HO1 : Hid (resOk st R1) := hok1
  have HO2 : Hid (resOk R1.2 R2) := hok2
  have HO3 : Hid (resOk R2.2 R3) := hok3
  have HE1 : Hid (envOk env st) := heo
  have HE2 : Hid (envOk env R1.2) := heo2
  have HE3 : Hid (envOk env R2.2) := heo3
  have HR2 : Hid _ := hR2
  have HR3 : Hid _ := hR3
  have HFA : Hid _ := hfrA
  clear hblk hin hkv hts hbx hFb hF hs1 hs2 k1 k2 k3 hT1 hT2 hT3 hR1 hR2 hR3 hfin hok1 hok2 hok3 hinA hb1 hb2 hb3 heo heo2 heo3 hFF hfrA
  go_enter Tryd.func63, Tryd.ntmps63
  go_wp2_with fail
  refine hfo.mono ?_
  rintro e w2 ⟨rfl, nv2, tv2, hfr2, hin2⟩
  obtain ⟨hn2, ht2, hka2, hWin, hWfr, hWka, hab2⟩ := step_store (ty := R1.1) (ks := []) (j := 0) hlt4 hlt3 hyw rfl hw0 HFA.out (by simp) (fun e => by have := hlt1 _ e; omega) (fun e => by have := hlt2 _ e; omega) hfr2 hin2 (blk_new _ _) rfl
  have z0 : w2.cell? ⟨w.heap.size, 0, none⟩ = some (.string (bs [])) := by rw [blk_cell hka2]; rfl
  have zf : w2.frozen? ⟨w.heap.size, 0, none⟩ = false := blk_free hka2 0
  have hb2' : w2.heap[b]? = some (.cells (exCells Kw.loop.bytes p nm (valueL rg) (.slice (some ⟨gk, 0, none⟩) 3 kc) id (id + cntL [x1, x2, x3]) site) 52 (0, 0)) := by rw [hin2.b0.block b hb]; exact HBLK.out
  have x42 : w2.cell? ⟨b, 4, none⟩ = some (.slice (some ⟨gk, 0, none⟩) 3 kc) := by rw [blk_cell hb2']; rfl
  have k22 : w2.cell? ⟨gk, 1, none⟩ = some (.pointer (some ⟨b2, 0, none⟩)) := (hin2.b0.cell (p := ⟨gk, 1, none⟩) hgkw).trans HK2.out
  have hfo2 := hf2 (id + 1 + x1.cnt) (site + x1.prs) b2 F env R1.2 cv nv2 tv2 ov _ HT2.out hWin (by have := HO1.out.2.2; omega) (by omega) HE2.out.1 HE2.out.2 (by omega)
  rw [← HR2.out] at hfo2
  unfold ptr at hfo2
  have HW2 : Hid _ := And.intro hWfr (And.intro hWka (And.intro hn2 ht2))
  have hbw2 : b < w2.heap.size := by omega
  clear hfo hfr2 hin2 hka2 hWin hWfr hWka hn2 ht2 hb2' x4 k1w x0 q0 q1 q2 q3
  go_wp2_with fail
  refine hfo2.mono ?_
  rintro e w3 ⟨rfl, nv3, tv3, hfr3, hin3⟩
  obtain ⟨hn3, ht3, hka3, hWin3, hWfr3, hWka3, hab3⟩ := step_store (ty := R2.1) (ks := [R1.1]) (j := 1) hlt4 hlt3 hyw rfl hw0 HW2.out.1 (by simp [World.setCell]; omega) HW2.out.2.2.1 HW2.out.2.2.2 hfr3 hin3 HW2.out.2.1 rfl
  have z1 : w3.cell? ⟨w.heap.size, 1, none⟩ = some (.string (bs [])) := by rw [blk_cell hka3]; rfl
  have zf1 : w3.frozen? ⟨w.heap.size, 1, none⟩ = false := blk_free hka3 1
  have z2 : w3.cell? ⟨w.heap.size, 2, none⟩ = some (.string (bs [])) := by rw [blk_cell hka3]; rfl
  have zf2 : w3.frozen? ⟨w.heap.size, 2, none⟩ = false := blk_free hka3 2
  have hb3' : w3.heap[b]? = some (.cells (exCells Kw.loop.bytes p nm (valueL rg) (.slice (some ⟨gk, 0, none⟩) 3 kc) id (id + cntL [x1, x2, x3]) site) 52 (0, 0)) := by rw [hin3.b0.block b hb]; exact HBLK.out
  have x23 : w3.cell? ⟨b, 2, none⟩ = some (.string (bs nm)) := by rw [blk_cell hb3']; rfl
  have x43 : w3.cell? ⟨b, 4, none⟩ = some (.slice (some ⟨gk, 0, none⟩) 3 kc) := by rw [blk_cell hb3']; rfl
  have k33 : w3.cell? ⟨gk, 2, none⟩ = some (.pointer (some ⟨b3, 0, none⟩)) := (hin3.b0.cell (p := ⟨gk, 2, none⟩) hgkw).trans HK3.out
  have hun : ∀ W, Below (w3.setCell ⟨w.heap.size, 1, none⟩ (.string (bs R2.1.txt))).heap.size (w3.setCell ⟨w.heap.size, 1, none⟩ (.string (bs R2.1.txt))) W → Calls Tryd.prog 77 #[.pointer (some ⟨yb, 0, none⟩), .string (bs nm), .string (bs R2.1.txt), .pointer (some ⟨b3, 0, none⟩)] W fun v w' => v = .returned (.string (bs R3.1.txt)) ∧
      ∃ nv' tv', nv'.ownBlock ≠ some w.heap.size ∧ tv'.ownBlock ≠ some w.heap.size ∧ w'.heap[w.heap.size]? = some (.cells (kArr [R1.1, R2.1]) 128 (0, 0)) ∧ TyIn w0 (w'.setCell ⟨w.heap.size, 2, none⟩ (.string (bs R3.1.txt))) yb cls cv nv' tv' ov env R3.2 ∧
        Fr w (w'.setCell ⟨w.heap.size, 2, none⟩ (.string (bs R3.1.txt))) yb nv tv ov nv' tv' ∧ (w'.setCell ⟨w.heap.size, 2, none⟩ (.string (bs R3.1.txt))).heap[w.heap.size]? = some (.cells (kArr [R1.1, R2.1, R3.1]) 128 (0, 0)) ∧ w.heap.size < w'.heap.size ∧ TyIn w0 w' yb cls cv nv' tv' ov env R3.2 := by
    intro W hW
    have hu := under_of hf3 (id + 1 + x1.cnt + x2.cnt) (site + x1.prs + x2.prs) b3 F env R2.2 cv nv3 tv3 ov W nm R2.1 HT3.out (hWin3.grow hW) (by have h1 := HO1.out.2.2; have h2 := HO2.out.2.2; omega) (by omega) HE3.out.1 HE3.out.2 HO2.out.1 (fun h0 => (HO2.out.2.1 h0).2) (by omega)
    rw [← HR3.out] at hu
    refine hu.mono ?_
    rintro e w' ⟨rfl, nv', tv', hfr', hin'⟩
    have hWab : w.heap.size < W.heap.size := by have h1 := hW.size; have h2 := blk_lt hWka3; omega
    obtain ⟨a1, a2, a3, a4, a5, a6, a7⟩ := step_store (ty := R3.1) (ks := [R1.1, R2.1]) (j := 2) hlt4 hlt3 hyw rfl hw0 (hWfr3.trans (Fr.below hW yb nv3 tv3 ov)) hWab hn3 ht3 hfr' hin' (by rw [hW.block _ (blk_lt hWka3)]; exact hWka3) rfl
    exact ⟨rfl, nv', tv', a1, a2, a3, a4, a5, a6, a7, hin'⟩
  have hbw3 : b < w3.heap.size := by omega
  have hgk3 : gk < w3.heap.size := by omega
  have hbab : b ≠ w.heap.size := by omega
  have hgab : gk ≠ w.heap.size := by omega
  clear hfo2 hfr3 hin3 hka3 hWin3 hWfr3 hWka3 hn3 ht3 hb3' x42 k22 z0 zf HW2 hlt1 hlt2 hlt3 hlt4
  go_wp2
  go_region_with (go_at_call 77; refine (hun _ ?_).mono ?_; exact ⟨rfl, rfl, rfl, Nat.le_refl _, fun _ _ => rfl⟩; rintro e w4 ⟨rfl, nv4, tv4, hn4, ht4, hka4, hWin4, hWfr4, hWka4, hab4, hin4⟩; have z24 : w4.cell? ⟨w.heap.size, 2, none⟩ = some (.string (bs [])) := (by rw [blk_cell hka4]; rfl); have zf24 : w4.frozen? ⟨w.heap.size, 2, none⟩ = false := blk_free hka4 2)
  all_goals
    have hbr4 : w4.heap[b]? = some (.cells (exCells Kw.loop.bytes p nm (valueL rg) (.slice (some ⟨gk, 0, none⟩) 3 kc) id (id + cntL [x1, x2, x3]) site) 52 (0, 0)) := by rw [hin4.b0.block b hb]; exact HBLK.out
    have y44 : w4.cell? ⟨yb, 4, none⟩ = some (.int .i64 (R3.2.e : Nat)) := by rw [blk_cell hin4.y]; rfl
    have a0 : w4.cell? ⟨w.heap.size, 0, none⟩ = some (.string (bs R1.1.txt)) := by rw [blk_cell hka4]; rfl
    have a1 : w4.cell? ⟨w.heap.size, 1, none⟩ = some (.string (bs R2.1.txt)) := by rw [blk_cell hka4]; rfl
    have hyab : yb ≠ w.heap.size := by omega
    have hmd : R3.2.e = 0 → ∀ W, Below (w4.setCell ⟨w.heap.size, 2, none⟩ (.string (bs R3.1.txt))).heap.size (w4.setCell ⟨w.heap.size, 2, none⟩ (.string (bs R3.1.txt))) W → Calls Tryd.prog 78 #[.pointer (some ⟨yb, 0, none⟩), .pointer (some ⟨b, 0, none⟩), .agg #[.string (bs R1.1.txt), .string (bs R2.1.txt), .string (bs R3.1.txt)]] W fun v w' =>
        v = .returned (.string (bs (madeT cls .loop p site [R1.1, R2.1, R3.1] R3.2).1.txt)) ∧ ∃ nv' tv', Fr w w' yb nv tv ov nv' tv' ∧ TyIn w0 w' yb cls cv nv' tv' ov env (madeT cls .loop p site [R1.1, R2.1, R3.1] R3.2).2 := by
      intro h0 W hW
      have hWi := hWin4.grow hW
      have hm := made_any W yb b cls cv nv4 tv4 ov _ R3.2 nm p (valueL rg) id (id + cntL [x1, x2, x3]) site w0.heap.size .loop [R1.1, R2.1, R3.1] hne h0 hWi.y (by rw [hWi.b0.block b hb]; exact HBLK.out) hWi.c hcl hc100 (by intro h; cases h) (by decide) rfl
        (by intro t ht; simp only [List.mem_cons, List.not_mem_nil, or_false] at ht; rcases ht with rfl | rfl | rfl; exact HO1.out.1; exact HO2.out.1; exact HO3.out.1)
      refine hm.mono ?_
      rintro e w' ⟨rfl, hg2, hy2⟩
      refine ⟨rfl, nv4, tv4, (hWfr4.trans (Fr.below hW _ _ _ _)).trans (Fr.grown hg2 _ _ _), ?_⟩
      have h := hWi.err hg2 hy2
      rw [← madeT_of cls .loop p site [R1.1, R2.1, R3.1] R3.2] at h
      exact h
    have HWF : Hid _ := And.intro hWfr4 hWin4
    clear hWin4 hWfr4 hWka4 hka4 hin4 hbr4 hn4 ht4
    by_cases h0 : R3.2.e = 0
    · have hmd0 := hmd h0
      have y40 : w4.cell? ⟨yb, 4, none⟩ = some (.int .i64 0) := by rw [y44, h0]; rfl
      have HF2 : Hid (FF = madeT cls .loop p site [R1.1, R2.1, R3.1] R3.2) := by rw [HFIN.out, if_neg (by simpa using h0)]; rfl
      clear y44 h0 hmd
      go_wp2_with (go_at_call 78; refine (hmd0 _ ?_).mono ?_; exact ⟨rfl, rfl, rfl, Nat.le_refl _, fun _ _ => rfl⟩; rintro e w5 ⟨rfl, hw5⟩)
      go_ret
      rw [HF2.out]
      exact ⟨rfl, hw5⟩
    · have h0' : ((R3.2.e : Int) != 0) = true := by rw [bne_iff_ne]; omega
      have HF2 : Hid (FF = (.n, R3.2)) := by rw [HFIN.out, if_pos h0]; rfl
      clear h0 hmd
      go_wp2_with fail
      go_ret
      rw [HF2.out]
      exact ⟨rfl, nv4, tv4, HWF.out.1.trans (Fr.below ⟨rfl, rfl, rfl, Nat.le_refl _, fun _ _ => rfl⟩ _ _ _ _), HWF.out.2.grow ⟨rfl, rfl, rfl, Nat.le_refl _, fun _ _ => rfl⟩⟩
end Go.Proofs.YtpicaknklgccoaaDoor

/- Plain mathematics: what the tokens of a text are like; how many parts a tree's words have. -/
namespace Go.Proofs.YtpicaknklgccoaaDoor

theorem toks_mem : ∀ (f p : Nat) (l : List UInt8) (t : Tk), t ∈ toks f p l → ∃ l', l' ≠ [] ∧ t.s = l'.take (tokenOf l').1 ∧ t.c = (tokenOf l').2
  | 0, _, _, t, h => by simp [toks] at h
  | _ + 1, _, [], t, h => by simp [toks] at h
  | f + 1, p, c :: r, t, h => by
    simp only [toks] at h
    split at h
    · exact toks_mem f _ r t h
    · rcases List.mem_cons.1 h with h | h
      · subst h; exact ⟨c :: r, by simp, rfl, rfl⟩
      · exact toks_mem f _ _ t h

theorem tokenOf_num {l : List UInt8} (h : (tokenOf l).2 = .num) : (tokenOf l).1 ≤ 4 := by
  unfold tokenOf at h ⊢
  split at h
  · rename_i h1
    simp only [wordCl] at h
    split at h
    · cases h
    · split at h <;> cases h
  · rename_i h1
    split at h
    · rename_i h2
      rw [if_neg h1, if_pos h2]
      simp only at h ⊢
      split at h
      · rename_i h3
        unfold numeralB at h3
        simp only [Bool.and_eq_true, decide_eq_true_eq] at h3
        have := h3.1.2
        have hl := run_le 48 57 l
        simp only [List.length_take] at this
        omega
      · cases h
    · rename_i h2
      split at h
      · cases h
      · split at h
        · simp only at h; split at h <;> cases h
        · simp only at h; split at h
          · cases h
          · split at h <;> cases h

theorem tokenOf_reg {l : List UInt8} (h : (tokenOf l).2 = .reg) : (tokenOf l).1 ≤ 4 := by
  unfold tokenOf at h ⊢
  split at h
  · rename_i h1
    simp only [wordCl] at h
    split at h
    · cases h
    · split at h <;> cases h
  · rename_i h1
    rw [if_neg h1]
    split at h
    · simp only at h; split at h <;> cases h
    · rename_i h2
      rw [if_neg h2]
      split at h
      · cases h
      · rename_i c r
        split at h
        · rename_i h3
          simp only at h
          rw [if_pos h3]
          simp only
          split at h
          · rename_i h4
            unfold numeralB at h4
            simp only [Bool.and_eq_true, decide_eq_true_eq] at h4
            have := h4.1.2
            simp only [List.length_take] at this
            have hl := run_le 48 57 r
            omega
          · cases h
        · simp only at h; split at h
          · cases h
          · split at h <;> cases h

theorem tokenOf_kw {l : List UInt8} {k : Kw} (h : (tokenOf l).2 = .kw k) : l.take (tokenOf l).1 = k.bytes := by
  unfold tokenOf at h ⊢
  split at h
  · rename_i h1
    rw [if_pos h1]
    simp only [wordCl] at h ⊢
    split at h
    · rename_i k' hk
      simp only [Cl.kw.injEq] at h
      subst h
      exact kwOf_some hk
    · split at h <;> cases h
  · split at h
    · simp only at h; split at h <;> cases h
    · split at h
      · cases h
      · split at h
        · simp only at h; split at h <;> cases h
        · simp only at h; split at h
          · cases h
          · split at h <;> cases h

theorem toks_num {f p : Nat} {l : List UInt8} {t : Tk} (h : t ∈ toks f p l) (hc : t.c = .num) : t.s.length ≤ 5 := by
  obtain ⟨l', _, h1, h2⟩ := toks_mem f p l t h
  have := tokenOf_num (by rw [← h2]; exact hc)
  rw [h1]; simp; omega
theorem toks_reg {f p : Nat} {l : List UInt8} {t : Tk} (h : t ∈ toks f p l) (hc : t.c = .reg) : t.s.length ≤ 5 := by
  obtain ⟨l', _, h1, h2⟩ := toks_mem f p l t h
  have := tokenOf_reg (by rw [← h2]; exact hc)
  rw [h1]; simp; omega
theorem toks_ne {f p : Nat} {l : List UInt8} {t : Tk} (h : t ∈ toks f p l) : t.s ≠ [] := by
  obtain ⟨l', h0, h1, _⟩ := toks_mem f p l t h
  have hp := tokenOf_pos l'
  intro e
  rw [h1] at e
  rcases List.take_eq_nil_iff.1 e with e | e
  · omega
  · exact h0 e
theorem toks_kw {f p : Nat} {l : List UInt8} {t : Tk} {k : Kw} (h : t ∈ toks f p l) (hc : t.c = .kw k) : t.s = k.bytes := by
  obtain ⟨l', _, h1, h2⟩ := toks_mem f p l t h
  rw [h1]; exact tokenOf_kw (by rw [← h2]; exact hc)

theorem PW.kids_len {placed : Bool} : ∀ {ws : List Wt} {l : List Tk} {nm rg : List UInt8} {kids : List PT} {r : List Tk}, PW placed ws l nm rg kids r → kids.length = cntE ws
  | _, _, _, _, _, _, .nil => rfl
  | _, _, _, _, _, _, .close _ h1 => by have := PW.kids_len h1; simpa [cntE] using this
  | _, _, _, _, _, _, .name _ h1 => by have := PW.kids_len h1; simpa [cntE] using this
  | _, _, _, _, _, _, .region _ h1 => by have := PW.kids_len h1; simpa [cntE] using this
  | _, _, _, _, _, _, .e _ h1 => by have := PW.kids_len h1; simp [cntE] at this ⊢; exact this
end Go.Proofs.YtpicaknklgccoaaDoor

namespace Go.Proofs.YtpicaknklgccoaaDoor
open Go.RowKit

theorem fin_len (id p : Nat) (x : Ty × TSt) : (fin id p x).2.of.length = x.2.of.length := by
  simp only [fin, List.length_set]
  split
  · exact errS_len _ _ _
  · rfl
theorem madeT_len (cls : List Nat) (k : Kw) (p site : Nat) (ks : List Ty) (st : TSt) : (madeT cls k p site ks st).2.of.length = st.of.length := by rw [madeT_of]

mutual
theorem tyFind_len (cls : List Nat) : ∀ (t : PT) (id site : Nat) (env : TEnv) (st : TSt), (tyFind cls t id site env st).2.of.length = st.of.length
  | .num p s, id, site, env, st => by simp only [tyFind]; rw [fin_len]
  | .name p s, id, site, env, st => by
    simp only [tyFind]; rw [fin_len]
    split
    · rfl
    · exact errS_len _ _ _
  | .node p k nm rg kids, id, site, env, st => by
    simp only [tyFind]; rw [fin_len]
    split
    · exact tyLet_len cls nm kids _ _ _ _
    · have hx : (if k = .loop then tyLoop cls nm kids (id + 1) site env st else tyKids cls kids (id + 1) (site + if k = .pair then 1 else 0) env st).2.of.length = st.of.length := by
        split
        · exact tyLoop_len cls nm kids _ _ _ _
        · exact tyKids_olen cls kids _ _ _ _
      generalize (if k = .loop then tyLoop cls nm kids (id + 1) site env st else tyKids cls kids (id + 1) (site + if k = .pair then 1 else 0) env st) = x at hx ⊢
      split
      · exact hx
      · rw [madeT_len]; exact hx
theorem tyKids_olen (cls : List Nat) : ∀ (ts : List PT) (id site : Nat) (env : TEnv) (st : TSt), (tyKids cls ts id site env st).2.of.length = st.of.length
  | [], _, _, _, _ => by simp only [tyKids]
  | a :: r, id, site, env, st => by simp only [tyKids]; rw [tyKids_olen cls r, tyFind_len cls a]
theorem tyLet_len (cls : List Nat) (nm : List UInt8) : ∀ (ts : List PT) (id site : Nat) (env : TEnv) (st : TSt), (tyLet cls nm ts id site env st).2.of.length = st.of.length
  | [a, b], id, site, env, st => by simp only [tyLet]; rw [tyFind_len cls b, tyFind_len cls a]
  | [], _, _, _, _ => by simp only [tyLet]
  | [_], _, _, _, _ => by simp only [tyLet]
  | _ :: _ :: _ :: _, _, _, _, _ => by simp only [tyLet]
theorem tyLoop_len (cls : List Nat) (nm : List UInt8) : ∀ (ts : List PT) (id site : Nat) (env : TEnv) (st : TSt), (tyLoop cls nm ts id site env st).2.of.length = st.of.length
  | [a, b, c], id, site, env, st => by simp only [tyLoop]; rw [tyFind_len cls c, tyFind_len cls b, tyFind_len cls a]
  | [], _, _, _, _ => by simp only [tyLoop]
  | [_], _, _, _, _ => by simp only [tyLoop]
  | [_, _], _, _, _, _ => by simp only [tyLoop]
  | _ :: _ :: _ :: _ :: _, _, _, _, _ => by simp only [tyLoop]
end

mutual
/-- each word has as many parts as it must -/
def PT.wf : PT → Prop
  | .num _ _ => True
  | .name _ _ => True
  | .node _ k _ _ kids => kids.length = arity k ∧ wfL kids
def wfL : List PT → Prop
  | [] => True
  | t :: r => t.wf ∧ wfL r
end
theorem wfL_mem : ∀ {ts : List PT}, wfL ts → ∀ t ∈ ts, t.wf
  | [], _, t, h => by simp at h
  | a :: r, hw, t, h => by
    simp only [wfL] at hw
    rcases List.mem_cons.1 h with h | h
    · subst h; exact hw.1
    · exact wfL_mem hw.2 t h

theorem find_all {w0 : World} {yb : Nat} {cls : List Nat} (hc100 : ∀ x ∈ cls, x < 100) (hcl : cls.length ≤ 9000) (t : PT) : t.wf → FindOk w0 yb cls t := by
  induction t using PT.ind with
  | h1 p s =>
    intro _
    refine find_of (form_num w0 yb cls p s) (fun id site env st => by simp only [tyFind]; rfl) (fun _ _ _ _ => rfl) (fun _ _ _ _ _ _ => fit_n)
  | h2 p s =>
    intro _
    refine find_of (form_name w0 yb cls p s) (fun id site env st => by simp only [tyFind]; rfl) ?_ ?_
    · intro id site env st
      unfold nameF
      split
      · rfl
      · exact errS_len _ _ _
    · intro id site env st h1 h2
      simp only [nameF]
      split
      · rename_i t ht
        obtain ⟨x, hx, rfl⟩ := look_mem ht
        exact h1 x hx
      · exact fit_n
  | h3 p k nm rg kids ih =>
    intro hw
    simp only [PT.wf] at hw
    have hk : ∀ x ∈ kids, FindOk w0 yb cls x := fun x hx => ih x hx (wfL_mem hw.2 x hx)
    by_cases hl : k = .let_
    · subst hl
      match kids, hw.1, hk with
      | [a, b], _, hk =>
        refine find_of (form_let p nm rg a b hc100 (hk a (by simp)) (hk b (by simp))) (fun id site env st => by simp only [tyFind]; rw [if_pos trivial]; rfl) (fun _ _ _ _ => tyLet_len _ _ _ _ _ _ _) ?_
        intro id site env st h1 h2
        exact (tyLet_ok cls hc100 nm [a, b] _ _ env st ⟨h1, h2⟩).1
    · by_cases hl2 : k = .loop
      · subst hl2
        match kids, hw.1, hk with
        | [a, b, c], _, hk =>
          refine find_of (form_loop p nm rg a b c hc100 hcl (hk a (by simp)) (hk b (by simp)) (hk c (by simp))) (fun id site env st => by simp only [tyFind]; rw [if_neg (by decide), if_pos trivial]; rfl) ?_ ?_
          · intro id site env st
            simp only [loopF]
            split
            · exact tyLoop_len _ _ _ _ _ _ _
            · rw [madeT_len]; exact tyLoop_len _ _ _ _ _ _ _
          · intro id site env st h1 h2
            have hx := tyLoop_ok cls hc100 nm [a, b, c] (id + 1) site env st ⟨h1, h2⟩
            simp only [loopF]
            split
            · exact fit_n
            · rename_i hne
              have h0 : (tyLoop cls nm [a, b, c] (id + 1) site env st).2.e = 0 := by simpa using hne
              exact (made_pre hc100 (fun t ht => ⟨hx.1 t ht, (hx.2.1 h0).2 t ht⟩)).1
      · refine find_of (form_kids p k nm rg kids hc100 hcl hl hl2 hw.1 hk) (fun id site env st => by simp only [tyFind]; rw [if_neg hl, if_neg hl2]; rfl) ?_ ?_
        · intro id site env st
          simp only [kidsF]
          generalize (site + if k = .pair then 1 else 0) = s1
          split
          · exact tyKids_olen _ _ _ _ _ _
          · rw [madeT_len]; exact tyKids_olen _ _ _ _ _ _
        · intro id site env st h1 h2
          have hx := tyKids_ok cls hc100 kids (id + 1) (site + if k = .pair then 1 else 0) env st ⟨h1, h2⟩
          simp only [kidsF]
          generalize (site + if k = .pair then 1 else 0) = s1 at hx ⊢
          split
          · exact fit_n
          · rename_i hne
            have h0 : (tyKids cls kids (id + 1) s1 env st).2.e = 0 := by simpa using hne
            exact (made_pre hc100 (fun t ht => ⟨hx.1 t ht, (hx.2.1 h0).2 t ht⟩)).1
end Go.Proofs.YtpicaknklgccoaaDoor

/- The plain text of a tree (the document's P6), and leaseref's Text without regions and news. -/
namespace Go.Proofs.YtpicaknklgccoaaDoor
open Go.RowKit
open Go.Lib (decDigits)

def pieceT (k : Kw) (nm : List UInt8) (i : Nat) (x : List UInt8) : List UInt8 := (if (k = .let_ ∧ i = 0) ∨ (k = .loop ∧ i = 1) then 32 :: nm else []) ++ (32 :: x)
def joinT (k : Kw) (nm : List UInt8) : Nat → List (List UInt8) → List UInt8
  | _, [] => []
  | i, x :: r => pieceT k nm i x ++ joinT k nm (i + 1) r
theorem joinT_snoc (k : Kw) (nm : List UInt8) (x : List UInt8) : ∀ (l : List (List UInt8)) (i : Nat), joinT k nm i (l ++ [x]) = joinT k nm i l ++ pieceT k nm (i + l.length) x
  | [], i => by simp [joinT]
  | y :: r, i => by
    simp only [List.cons_append, joinT, joinT_snoc k nm x r (i + 1), List.append_assoc, List.length_cons]
    rw [show i + 1 + r.length = i + (r.length + 1) from by omega]
mutual
def PT.ptx : PT → List UInt8
  | .num _ s => decDigits (valueL s).toNat
  | .name _ s => s
  | .node _ k nm _ kids => if k = .new then (ptxL kids).headD [] else 40 :: (k.bytes ++ (joinT k nm 0 (ptxL kids) ++ [41]))
def ptxL : List PT → List (List UInt8)
  | [] => []
  | t :: r => t.ptx :: ptxL r
end
theorem ptxL_len : ∀ ts : List PT, (ptxL ts).length = ts.length
  | [] => rfl
  | _ :: r => by simp [ptxL, ptxL_len r]
theorem ptxL_get : ∀ (ts : List PT) (i : Nat), (ptxL ts)[i]? = (ts[i]?).map PT.ptx
  | [], i => by simp [ptxL]
  | t :: r, 0 => by simp [ptxL]
  | t :: r, i + 1 => by simp [ptxL, ptxL_get r i]

mutual
/-- names and numbers as tokens have them -/
def PT.tame : PT → Prop
  | .num _ s => 0 ≤ valueL s ∧ valueL s ≤ 9999
  | .name _ s => s.length ≤ 9000
  | .node _ _ nm _ kids => nm.length ≤ 9000 ∧ tameL kids
def tameL : List PT → Prop
  | [] => True
  | t :: r => t.tame ∧ tameL r
end
theorem dec_len4 (u : Nat) (h : u ≤ 9999) : (decDigits u).length ≤ 4 := by
  rw [Go.Lib.decDigits]; split
  · simp
  · rw [Go.Lib.decDigits]; split
    · simp
    · rw [Go.Lib.decDigits]; split
      · simp
      · rw [Go.Lib.decDigits]; split
        · simp
        · omega
theorem pieceT_len (k : Kw) (nm : List UInt8) (i : Nat) (x : List UInt8) (h : nm.length ≤ 9000) : (pieceT k nm i x).length ≤ 9002 + x.length := by
  unfold pieceT; split <;> simp <;> omega
mutual
theorem ptx_len : ∀ t : PT, t.tame → t.ptx.length + 9002 ≤ 20000 * t.cnt
  | .num _ s, h => by
    simp only [PT.tame] at h
    simp only [PT.ptx, PT.cnt]
    have := dec_len4 (valueL s).toNat (by omega)
    omega
  | .name _ s, h => by simp only [PT.tame] at h; simp only [PT.ptx, PT.cnt]; omega
  | .node _ k nm _ kids, h => by
    simp only [PT.tame] at h
    have h1 := joinT_len k nm kids 0 h.1 h.2
    have h2 := ptxL_head kids h.2
    have h3 : k.bytes.length ≤ 4 := by cases k <;> decide
    simp only [PT.ptx, PT.cnt]
    split
    · omega
    · simp only [List.length_cons, List.length_append, List.length_nil]; omega
theorem joinT_len (k : Kw) (nm : List UInt8) : ∀ (ts : List PT) (i : Nat), nm.length ≤ 9000 → tameL ts → (joinT k nm i (ptxL ts)).length ≤ 20000 * cntL ts
  | [], _, _, _ => by simp [ptxL, joinT]
  | t :: r, i, h, ht => by
    simp only [tameL] at ht
    have h1 := ptx_len t ht.1
    have h2 := joinT_len k nm r (i + 1) h ht.2
    have h3 := pieceT_len k nm i t.ptx h
    simp only [ptxL, joinT, List.length_append, cntL]
    omega
theorem ptxL_head : ∀ ts : List PT, tameL ts → ((ptxL ts).headD []).length ≤ 20000 * cntL ts
  | [], _ => by simp [ptxL]
  | t :: r, ht => by
    simp only [tameL] at ht
    have h1 := ptx_len t ht.1
    simp only [ptxL, List.headD_cons, cntL]; omega
end
end Go.Proofs.YtpicaknklgccoaaDoor

/- what tokens the tree of a text holds; leaseref's Erase. -/
namespace Go.Proofs.YtpicaknklgccoaaDoor
open Go.RowKit
open Go.Lib (decDigits)

theorem run_memT (lo hi : Int) : ∀ (l : List UInt8) (c : UInt8), c ∈ l.take (run lo hi l) → inB lo hi c = true
  | [], c, h => by simp at h
  | d :: r, c, h => by
    simp only [run] at h
    split at h
    · rename_i hd
      rw [List.take_succ_cons, List.mem_cons] at h
      rcases h with h | h
      · rw [h]; exact hd
      · exact run_memT lo hi r c h
    · simp at h
theorem dig_fold : ∀ (l : List UInt8) (a : Int), (∀ c ∈ l, inB 48 57 c = true) → 0 ≤ a →
    0 ≤ l.foldl (fun n c => if c = 35 then n else 10 * n + (c.toNat : Int) - 48) a ∧ l.foldl (fun n c => if c = 35 then n else 10 * n + (c.toNat : Int) - 48) a ≤ (a + 1) * ((10 ^ l.length : Nat) : Int) - 1
  | [], a, _, h => by simp; omega
  | c :: r, a, hd, h => by
    have hc := hd c (by simp)
    simp only [inB, Bool.and_eq_true, decide_eq_true_eq] at hc
    have h35 : c ≠ 35 := by intro e; subst e; simp at hc
    have ih := dig_fold r (10 * a + (c.toNat : Int) - 48) (fun x hx => hd x (by simp [hx])) (by omega)
    simp only [List.foldl_cons, if_neg h35, List.length_cons]
    refine ⟨ih.1, Int.le_trans ih.2 ?_⟩
    have e : ((10 ^ (r.length + 1) : Nat) : Int) = 10 * ((10 ^ r.length : Nat) : Int) := by rw [Nat.pow_succ]; omega
    rw [e]
    have hp : (0 : Int) ≤ ((10 ^ r.length : Nat) : Int) := Int.natCast_nonneg _
    have h2 : (10 * a + (c.toNat : Int) - 48 + 1) ≤ (a + 1) * 10 := by omega
    have h3 := Int.mul_le_mul_of_nonneg_right h2 hp
    rw [Int.mul_assoc] at h3
    omega

def TkTame (t : Tk) : Prop := (t.c = .num → 0 ≤ valueL t.s ∧ valueL t.s ≤ 9999) ∧ (t.c = .nam → t.s.length ≤ 9000)
theorem tok_tame (l : List UInt8) : ((tokenOf l).2 = .num → 0 ≤ valueL (l.take (tokenOf l).1) ∧ valueL (l.take (tokenOf l).1) ≤ 9999) ∧ ((tokenOf l).2 = .nam → (tokenOf l).1 ≤ 9000) := by
  unfold tokenOf
  split
  · refine ⟨fun h => ?_, fun h => ?_⟩
    · simp only [wordCl] at h
      split at h
      · simp at h
      · split at h <;> simp at h
    · simp only [wordCl] at h
      split at h
      · simp at h
      · split at h
        · simp only; omega
        · simp at h
  · split
    · refine ⟨fun h => ?_, fun h => ?_⟩
      · simp only at h
        split at h
        · rename_i hn
          simp only [numeralB, Bool.and_eq_true, decide_eq_true_eq] at hn
          have hf := dig_fold (l.take (run 48 57 l)) 0 (fun c hc => run_memT 48 57 l c hc) (by omega)
          have hp : 10 ^ (l.take (run 48 57 l)).length ≤ 10 ^ 4 := Nat.pow_le_pow_right (by omega) hn.1.2
          unfold valueL
          simp only
          omega
        · simp at h
      · simp only at h
        split at h <;> simp at h
    · split
      · simp
      · split
        · refine ⟨fun h => ?_, fun h => ?_⟩ <;> (simp only at h; split at h <;> simp at h)
        · refine ⟨fun h => ?_, fun _ => by simp⟩
          simp only at h
          split at h
          · simp at h
          · split at h <;> simp at h
theorem tokens_tame (l : List UInt8) : ∀ t ∈ tokens l, TkTame t := by
  intro t ht
  obtain ⟨l', _, hs, hc⟩ := toks_mem _ _ _ t ht
  have h := tok_tame l'
  unfold TkTame
  rw [hs, hc]
  exact ⟨h.1, fun e => by have := h.2 e; simp; omega⟩

mutual
theorem PE.tame {placed : Bool} : ∀ {l : List Tk} {e : PT} {r : List Tk}, PE placed l e r → (∀ t ∈ l, TkTame t) → e.tame ∧ ∀ t ∈ r, TkTame t
  | _, _, _, .num (t := t) h, ha => ⟨by simp only [PT.tame]; exact (ha t (by simp)).1 h, fun x hx => ha x (by simp [hx])⟩
  | _, _, _, .name (t := t) h, ha => ⟨by simp only [PT.tame]; exact (ha t (by simp)).2 h, fun x hx => ha x (by simp [hx])⟩
  | _, _, _, .node _ _ _ h4, ha => by
    have h := PW.tame h4 (fun x hx => ha x (by simp [hx]))
    exact ⟨by simp only [PT.tame]; exact ⟨h.1, h.2.1⟩, h.2.2⟩
theorem PW.tame {placed : Bool} : ∀ {ws : List Wt} {l : List Tk} {nm rg : List UInt8} {kids : List PT} {r : List Tk}, PW placed ws l nm rg kids r → (∀ t ∈ l, TkTame t) → nm.length ≤ 9000 ∧ tameL kids ∧ ∀ t ∈ r, TkTame t
  | _, _, _, _, _, _, .nil, ha => ⟨by simp, by simp [tameL], ha⟩
  | _, _, _, _, _, _, .close _ h1, ha => PW.tame h1 (fun x hx => ha x (by simp [hx]))
  | _, _, _, _, _, _, .name (t := t) h h1, ha => by
    have h' := PW.tame h1 (fun x hx => ha x (by simp [hx]))
    exact ⟨(ha t (by simp)).2 h, h'.2⟩
  | _, _, _, _, _, _, .region _ h1, ha => PW.tame h1 (fun x hx => ha x (by simp [hx]))
  | _, _, _, _, _, _, .e h0 h1, ha => by
    have a := PE.tame h0 ha
    have b := PW.tame h1 a.2
    exact ⟨b.1, by simp only [tameL]; exact ⟨a.1, b.2.1⟩, b.2.2⟩
end
end Go.Proofs.YtpicaknklgccoaaDoor

/- strconv.Itoa, off the shelf: in every world that came out of one where the table reads as it is laid. -/
namespace Go.Proofs.YtpicaknklgccoaaDoor
open Go.RowKit Go.Shelf Go.Sort
open Go.Lib (decDigits)
/-- strconv.Itoa below 10000, in worlds that came out of w0 -/
def ItoaOk (w0 : World) : Prop := ∀ (n : Nat) (w : World), n ≤ 9999 → Below w0.heap.size w0 w → Calls Tryd.prog 34 #[.int .i64 n] w fun e w' => e = .returned (.string (bs (decDigits n))) ∧ Below w.heap.size w w'

shelf_lay LaysM.n171 Nm 171 at Tryd as Tryd.laysM171

theorem itoa_ok (w0 : World) (htab : Lib.TabIs Tryd.prog w0 "internal/strconv.uint64pow10" .u64 Lib.pow10Tab) : ItoaOk w0 := by
  intro n w hn hb
  refine (Any.strconv_Itoa Tryd.laysM171 (n : Int) (by omega) (by omega) w (Lib.tabBelow_of_tabIs htab w hb)).mono ?_
  rintro e w' ⟨rfl, k, os, rfl⟩
  refine ⟨?_, Lib.below_grow _ _ (Nat.le_refl _) k os⟩
  have e1 : Lib.itoa (n : Int) = decDigits n := by
    unfold Lib.itoa; rw [if_neg (by omega)]; rfl
  rw [e1]; rfl
end Go.Proofs.YtpicaknklgccoaaDoor

/- leaseref's Text without regions and news: a tree's plain text. -/
namespace Go.Proofs.YtpicaknklgccoaaDoor
open Go.RowKit
open Go.Lib (decDigits)

def TextOk (w0 : World) (t : PT) : Prop := ∀ (id site b : Nat) (F : Nat → Prop), t.cnt ≤ 9000 → t.tame → t.wf → IsT w0 F t id site b → ∀ w : World, Below w0.heap.size w0 w →
  Calls Tryd.prog 19 #[ptr b, .slice none 0 0, .slice none 0 0] w fun e w' => e = .returned (.string (bs t.ptx)) ∧ Below w.heap.size w w'

set_option maxRecDepth 100000 in
set_option maxHeartbeats 1000000 in
theorem Text_num (w0 : World) (hit : ItoaOk w0) (p : Nat) (s : List UInt8) : TextOk w0 (.num p s) := by
  intro id site b F hcnt ht hwf hT w hw0
  simp only [IsT] at hT
  simp only [PT.tame] at ht
  have hb := hT.2
  have hbw := blk_lt hb
  have x0 : w.cell? ⟨b, 0, none⟩ = some (.string (bs numB)) := (hw0.cell (p := ⟨b, 0, none⟩) hbw).trans (by rw [blk_cell hb]; rfl)
  obtain ⟨n, hn⟩ : ∃ n : Nat, valueL s = n := ⟨(valueL s).toNat, by omega⟩
  have x3 : w.cell? ⟨b, 3, none⟩ = some (.int .i64 n) := (hw0.cell (p := ⟨b, 3, none⟩) hbw).trans (by rw [blk_cell hb, ← hn]; rfl)
  have hse : ((bs numB).toList == [110, 117, 109, 98, 101, 114]) = true := by rw [bs_beq0]; decide
  have hi := hit n w (by omega) hw0
  simp only [PT.ptx]
  rw [hn] at ht ⊢
  clear hb hT hit hn hw0
  show Calls _ _ #[Value.pointer (some ⟨b, 0, none⟩), _, _] w _
  go_enter Tryd.func19, Tryd.ntmps19
  go_wp2_with (go_at_call 34; refine hi.mono ?_; rintro e w1 ⟨rfl, hb1⟩)
  go_ret
  exact ⟨by simp, hb1⟩

set_option maxRecDepth 100000 in
set_option maxHeartbeats 1000000 in
theorem Text_name (w0 : World) (p : Nat) (s : List UInt8) : TextOk w0 (.name p s) := by
  intro id site b F hcnt ht hwf hT w hw0
  simp only [IsT] at hT
  have hb := hT.2
  have hbw := blk_lt hb
  have x0 : w.cell? ⟨b, 0, none⟩ = some (.string (bs nameB)) := (hw0.cell (p := ⟨b, 0, none⟩) hbw).trans (by rw [blk_cell hb]; rfl)
  have x2 : w.cell? ⟨b, 2, none⟩ = some (.string (bs s)) := (hw0.cell (p := ⟨b, 2, none⟩) hbw).trans (by rw [blk_cell hb]; rfl)
  have hse : ((bs nameB).toList == [110, 117, 109, 98, 101, 114]) = false := by rw [bs_beq0]; decide
  have hse2 : ((bs nameB).toList == [110, 97, 109, 101]) = true := by rw [bs_beq0]; decide
  simp only [PT.ptx]
  clear hb hT hw0 ht hwf hcnt
  show Calls _ _ #[Value.pointer (some ⟨b, 0, none⟩), _, _] w _
  go_enter Tryd.func19, Tryd.ntmps19
  go_wp2_with fail
  go_ret
  exact ⟨rfl, Below.refl _ _⟩

/-- a node's row of parts -/
theorem node_kid {w0 : World} {F : Nat → Prop} {p : Nat} {k : Kw} {nm rg : List UInt8} {kids : List PT} {id site b : Nat} (hT : IsT w0 F (.node p k nm rg kids) id site b) :
    ∃ va vc, (w0.cell? ⟨b, 0, none⟩ = some (.string (bs k.bytes)) ∧ w0.cell? ⟨b, 2, none⟩ = some (.string (bs nm)) ∧ w0.cell? ⟨b, 4, none⟩ = some (.slice va kids.length vc)) ∧ b < w0.heap.size ∧
      ∀ j x, kids[j]? = some x → ∃ gk bx id' site', va = some ⟨gk, 0, none⟩ ∧ gk < w0.heap.size ∧ w0.cell? ⟨gk, j, none⟩ = some (ptr bx) ∧ IsT w0 F x id' site' bx := by
  simp only [IsT] at hT
  obtain ⟨hFb, kv, bl, hb, hF, hkv, hts⟩ := hT
  obtain ⟨va, vc, hvk⟩ : ∃ va vc, kv = .slice va kids.length vc := by
    rcases hkv.2 with ⟨h, h'⟩ | ⟨g, cap, cur, h, _⟩
    · exact ⟨none, 0, by rw [h, h']⟩
    · exact ⟨_, _, h⟩
  have hbw := blk_lt hb
  refine ⟨va, vc, ⟨by rw [blk_cell hb]; rfl, by rw [blk_cell hb]; rfl, by rw [blk_cell hb, ← hvk]; rfl⟩, hbw, ?_⟩
  intro j x hx
  obtain ⟨bx, hbx, hTx⟩ := IsTs.at _ _ _ _ hts j x hx
  have hlt : j < kids.length := (List.getElem?_eq_some_iff.1 hx).1
  obtain ⟨gk, hgk⟩ : ∃ gk, va = some ⟨gk, 0, none⟩ := by
    have h := hkv.2
    rw [hvk] at h
    rcases h with ⟨h, h'⟩ | ⟨g, cap, cur, h, _⟩
    · omega
    · simp only [Value.slice.injEq] at h; exact ⟨_, h.1⟩
  have hkc : w0.cell? ⟨gk, j, none⟩ = some (ptr bx) := by
    have h : w0.ownsRow 0 39 1 (.slice (some ⟨gk, 0, none⟩) kids.length vc) kids.length (bl.map ptr) := by rw [← hgk, ← hvk]; exact hkv
    rw [h.cellAt j (by omega)]; simp [hbx]
  exact ⟨gk, bx, _, _, hgk, World.block_lt_of_cell? _ _ hkc, hkc, hTx⟩

set_option maxRecDepth 100000 in
set_option maxHeartbeats 1000000 in
theorem Text_new (w0 : World) (p : Nat) (nm rg : List UInt8) (x : PT) (ih : TextOk w0 x) : TextOk w0 (.node p .new nm rg [x]) := by
  intro id site b F hcnt ht hwf hT w hw0
  obtain ⟨va, vc, ⟨y0, _, y4⟩, hbw, hk⟩ := node_kid hT
  obtain ⟨gk, bx, id', site', rfl, hg, hc, hTx⟩ := hk 0 x rfl
  have x0 : w.cell? ⟨b, 0, none⟩ = some (.string (bs Kw.new.bytes)) := (hw0.cell (p := ⟨b, 0, none⟩) hbw).trans y0
  have x4 : w.cell? ⟨b, 4, none⟩ = some (.slice (some ⟨gk, 0, none⟩) 1 vc) := (hw0.cell (p := ⟨b, 4, none⟩) hbw).trans y4
  have xc : w.cell? ⟨gk, 0, none⟩ = some (.pointer (some ⟨bx, 0, none⟩)) := (hw0.cell (p := ⟨gk, 0, none⟩) hg).trans hc
  have h1 : ((bs Kw.new.bytes).toList == [110, 117, 109, 98, 101, 114]) = false := by rw [bs_beq0]; decide
  have h2 : ((bs Kw.new.bytes).toList == [110, 97, 109, 101]) = false := by rw [bs_beq0]; decide
  have h3 : ((bs Kw.new.bytes).toList == [110, 101, 119]) = true := by rw [bs_beq0]; decide
  simp only [PT.cnt, cntL] at hcnt
  simp only [PT.tame, tameL] at ht
  simp only [PT.wf, wfL] at hwf
  have hi := ih id' site' bx F (by omega) ht.2.1 hwf.2.1 hTx w hw0
  unfold ptr at hi
  simp only [PT.ptx, ptxL, if_pos, List.headD_cons]
  clear hT hk hw0 ht hwf hcnt y0 y4 hc hTx ih
  show Calls _ _ #[Value.pointer (some ⟨b, 0, none⟩), _, _] w _
  go_enter Tryd.func19, Tryd.ntmps19
  go_wp2_with (go_at_call 19; refine hi.mono ?_; rintro e w1 ⟨rfl, hb1⟩)
  go_ret
  exact ⟨rfl, hb1⟩
end Go.Proofs.YtpicaknklgccoaaDoor
