import Derived.Test.YtpicaknklgccoaaGreatDoorX7
import Derived.Test.YtpicaknklgccoaaGreatDoorX1
import Derived.Test.YtpicaknklgccoaaGreatDoorX3
namespace Go.Proofs.YtpicaknklgccoaaGreatDoor
open Go.RowKit

def loopF (cls : List Nat) (p : Nat) (nm : List UInt8) (kids : List PT) (id site : Nat) (env : TEnv) (st : TSt) : Ty × TSt :=
  if (tyLoop cls nm kids (id + 1) site env st).2.e ≠ 0 then (.n, (tyLoop cls nm kids (id + 1) site env st).2)
  else madeT cls .loop p site (tyLoop cls nm kids (id + 1) site env st).1 (tyLoop cls nm kids (id + 1) site env st).2

/-- behind a find whose type is stored into the array k (block ab): all as before -/
theorem step_store {w0 w wr w2 : World} {yb ab j : Nat} {cls : List Nat} {cv nv tv ov nv1 tv1 nv2 tv2 : Value} {env : TEnv} {st1 : TSt} {ks : List Ty} {ty : Ty}
    (hlc : ∀ g, cv.ownBlock = some g → g < ab) (hlo : ∀ g, ov.ownBlock = some g → g < ab) (hyb : yb < ab) (hwab : w.heap.size = ab) (hw0 : w0.heap.size ≤ ab) (hfr : Fr w wr yb nv tv ov nv1 tv1) (hab : ab < wr.heap.size) (hn1 : nv1.ownBlock ≠ some ab) (ht1 : tv1.ownBlock ≠ some ab)
    (hfr2 : Fr wr w2 yb nv1 tv1 ov nv2 tv2) (hin2 : TyIn w0 w2 yb cls cv nv2 tv2 ov env st1) (hka : wr.heap[ab]? = some (.cells (kArr ks) 139 (0, 0))) (hlk : ks.length = j) :
    nv2.ownBlock ≠ some ab ∧ tv2.ownBlock ≠ some ab ∧ w2.heap[ab]? = some (.cells (kArr ks) 139 (0, 0)) ∧ TyIn w0 (w2.setCell ⟨ab, j, none⟩ (.string (bs ty.txt))) yb cls cv nv2 tv2 ov env st1 ∧
    Fr w (w2.setCell ⟨ab, j, none⟩ (.string (bs ty.txt))) yb nv tv ov nv2 tv2 ∧ (w2.setCell ⟨ab, j, none⟩ (.string (bs ty.txt))).heap[ab]? = some (.cells (kArr (ks ++ [ty])) 139 (0, 0)) ∧ ab < w2.heap.size := by
  have hsz2 := hfr2.size
  have hn2 : nv2.ownBlock ≠ some ab := by
    intro e
    rcases hfr2.n _ e with e | e
    · exact hn1 e
    · omega
  have ht2 : tv2.ownBlock ≠ some ab := by
    intro e
    rcases hfr2.t _ e with e | e
    · exact ht1 e
    · omega
  have ho2 : ov.ownBlock ≠ some ab := fun e => by have := hlo _ e; omega
  have hc2 : cv.ownBlock ≠ some ab := fun e => by have := hlc _ e; omega
  have hka2 : w2.heap[ab]? = some (.cells (kArr ks) 139 (0, 0)) := by
    rw [hfr2.blk _ hab (by omega) hn1 ht1 ho2]; exact hka
  refine ⟨hn2, ht2, hka2, TyIn.other hin2 hw0 (by omega) hc2 hn2 ht2 ho2 rfl, ?_, ?_, by omega⟩
  · have h := hfr.trans hfr2
    refine ⟨by have := h.size; simp [World.setCell]; exact this, ?_, h.n, h.t⟩
    intro q hq hy hn ht ho
    rw [blk_other _ _ (by simp only; omega)]
    exact h.blk q hq hy hn ht ho
  · have h := blk_set hka2 j (.string (bs ty.txt))
    rw [← kArr_snoc, hlk]; exact h

set_option maxRecDepth 100000 in
set_option maxHeartbeats 8000000 in
theorem form_loop {w0 : World} {yb : Nat} {cls : List Nat} (p : Nat) (nm rg : List UInt8) (x1 x2 x3 : PT) (hc100 : ∀ x ∈ cls, x < 100) (hcl : cls.length ≤ 9000)
    (hf1 : FindOk w0 yb cls x1) (hf2 : FindOk w0 yb cls x2) (hf3 : FindOk w0 yb cls x3) : FormOk w0 yb cls (.node p .loop nm rg [x1, x2, x3]) (fun id site env st => loopF cls p nm [x1, x2, x3] id site env st) := by
  intro id site b F env st cv nv tv ov w hT hin hid hsite hs1 hs2 henv
  simp only [IsT] at hT
  obtain ⟨hFb, kv, bl, hblk, hF, hkv, hts⟩ := hT
  have hb := blk_lt hblk
  have hw0 := hin.b0.size
  have hbw : b < w.heap.size := by omega
  have hne : b ≠ yb := by have := hin.hyb; omega
  obtain ⟨gk, kc, hvk⟩ : ∃ gk kc, kv = .slice (some ⟨gk, 0, none⟩) 3 kc := by
    rcases hkv.2 with ⟨_, h'⟩ | ⟨g, cap, cur, h, _⟩
    · simp at h'
    · exact ⟨_, _, h⟩
  subst hvk
  obtain ⟨b1, hb1, hT1⟩ := IsTs.at _ _ _ _ hts 0 x1 rfl
  obtain ⟨b2, hb2, hT2⟩ := IsTs.at _ _ _ _ hts 1 x2 rfl
  obtain ⟨b3, hb3, hT3⟩ := IsTs.at _ _ _ _ hts 2 x3 rfl
  have k1 : w0.cell? ⟨gk, 0, none⟩ = some (ptr b1) := by rw [hkv.cellAt 0 (by simp)]; simp [hb1]
  have k2 : w0.cell? ⟨gk, 1, none⟩ = some (ptr b2) := by rw [hkv.cellAt 1 (by simp)]; simp [hb2]
  have k3 : w0.cell? ⟨gk, 2, none⟩ = some (ptr b3) := by rw [hkv.cellAt 2 (by simp)]; simp [hb3]
  have hgkw : gk < w0.heap.size := World.block_lt_of_cell? _ _ k1
  have hgkw' : gk < w.heap.size := by omega
  have hbx : w.heap[b]? = some (.cells (exCells Kw.loop.bytes p nm (valueL rg) (.slice (some ⟨gk, 0, none⟩) 3 kc) id (id + cntL [x1, x2, x3]) site) 82 (0, 0)) := by rw [hin.b0.block b hb]; exact hblk
  have x0 : w.cell? ⟨b, 0, none⟩ = some (.string (bs Kw.loop.bytes)) := by rw [blk_cell hbx]; rfl
  have x4 : w.cell? ⟨b, 4, none⟩ = some (.slice (some ⟨gk, 0, none⟩) 3 kc) := by rw [blk_cell hbx]; rfl
  have k1w : w.cell? ⟨gk, 0, none⟩ = some (.pointer (some ⟨b1, 0, none⟩)) := (hin.b0.cell (p := ⟨gk, 0, none⟩) hgkw).trans k1
  have q0 : ((bs Kw.loop.bytes).toList == [110, 117, 109, 98, 101, 114]) = false := by rw [bs_beq0]; decide
  have q1 : ((bs Kw.loop.bytes).toList == [110, 97, 109, 101]) = false := by rw [bs_beq0]; decide
  have q2 : ((bs Kw.loop.bytes).toList == [108, 101, 116]) = false := by rw [bs_beq0]; decide
  have q3 : ((bs Kw.loop.bytes).toList == [108, 111, 111, 112]) = true := by rw [bs_beq0]; decide
  have hyb := hin.hyb
  simp only [PT.cnt, PT.prs, cntL, prsL] at hid hsite henv
  simp only [cntL, prsL, List.take_zero, List.take_succ_cons, Nat.add_zero] at hT1 hT2 hT3
  rw [if_neg (by decide)] at hsite hT1 hT2 hT3
  simp only [Nat.add_zero] at hT1 hT2 hT3
  rw [← Nat.add_assoc (id + 1), ← Nat.add_assoc site] at hT3
  have hlt1 : ∀ g, nv.ownBlock = some g → g < w.heap.size := fun g hg => (hin.n.lt g hg).2
  have hlt2 : ∀ g, tv.ownBlock = some g → g < w.heap.size := fun g hg => (hin.t.lt g hg).2
  have hlt3 : ∀ g, ov.ownBlock = some g → g < w.heap.size := fun g hg => (hin.o.lt g hg).2
  have hlt4 : ∀ g, cv.ownBlock = some g → g < w.heap.size := fun g hg => (hin.c.lt g hg).2
  have hyw := blk_lt hin.y
  have hinA : TyIn w0 (w.alloc (.cells (kArr []) 139)) yb cls cv nv tv ov env st := hin.grow ((Below.refl _ _).alloc (Nat.le_refl _) _)
  have hfrA : Fr w (w.alloc (.cells (kArr []) 139)) yb nv tv ov nv tv := Fr.below ((Below.refl _ _).alloc (Nat.le_refl _) _) _ _ _ _
  have hfo := hf1 (id + 1) site b1 F env st cv nv tv ov _ hT1 hinA (by omega) (by omega) hs1 hs2 (by omega)
  have heo : envOk env st := ⟨hs1, hs2⟩
  have hok1 := tyFind_ok cls hc100 x1 (id + 1) site env st heo
  obtain ⟨R1, hR1⟩ : ∃ R, R = tyFind cls x1 (id + 1) site env st := ⟨_, rfl⟩
  rw [← hR1] at hfo hok1
  have heo2 : envOk env R1.2 := heo.on (fun h0 => (hok1.2.1 h0).1)
  have hok2 := tyFind_ok cls hc100 x2 (id + 1 + x1.cnt) (site + x1.prs) env R1.2 heo2
  obtain ⟨R2, hR2⟩ : ∃ R, R = tyFind cls x2 (id + 1 + x1.cnt) (site + x1.prs) env R1.2 := ⟨_, rfl⟩
  rw [← hR2] at hok2
  have heo3 : envOk env R2.2 := heo2.on (fun h0 => (hok2.2.1 h0).1)
  have hok3 := tyFind_ok cls hc100 x3 (id + 1 + x1.cnt + x2.cnt) (site + x1.prs + x2.prs) (env ++ [(nm, R2.1)]) R2.2 (heo2.snoc hok2)
  obtain ⟨R3, hR3⟩ : ∃ R, R = tyFind cls x3 (id + 1 + x1.cnt + x2.cnt) (site + x1.prs + x2.prs) (env ++ [(nm, R2.1)]) R2.2 := ⟨_, rfl⟩
  rw [← hR3] at hok3
  have hfin : loopF cls p nm [x1, x2, x3] id site env st = if R3.2.e ≠ 0 then (.n, R3.2) else madeT cls .loop p site [R1.1, R2.1, R3.1] R3.2 := by
    subst hR3; subst hR2; subst hR1; rfl
  have HFIN : Hid _ := hfin
  obtain ⟨FF, hFF⟩ : ∃ FF, FF = loopF cls p nm [x1, x2, x3] id site env st := ⟨_, rfl⟩
  show Calls _ _ #[Value.pointer (some ⟨yb, 0, none⟩), Value.pointer (some ⟨b, 0, none⟩)] w (fun v w' => v = .returned (.string (bs (loopF cls p nm [x1, x2, x3] id site env st).1.txt)) ∧ ∃ nv' tv', Fr w w' yb nv tv ov nv' tv' ∧ TyIn w0 w' yb cls cv nv' tv' ov env (loopF cls p nm [x1, x2, x3] id site env st).2)
  rw [← hFF] at HFIN ⊢
  unfold ptr at hfo
  have HBLK : Hid _ := hblk
  have HK2 : Hid _ := k2
  have HK3 : Hid _ := k3
  have HT2 : Hid _ := hT2
  have HT3 : Hid _ := hT3
  have HO1 : Hid (resOk st R1) := hok1
  have HO2 : Hid (resOk R1.2 R2) := hok2
  have HO3 : Hid (resOk R2.2 R3) := hok3
  have HE1 : Hid (envOk env st) := heo
  have HE2 : Hid (envOk env R1.2) := heo2
  have HE3 : Hid (envOk env R2.2) := heo3
  have HR2 : Hid _ := hR2
  have HR3 : Hid _ := hR3
  have HFA : Hid _ := hfrA
  clear hblk hin hkv hts hbx hFb hF hs1 hs2 k1 k2 k3 hT1 hT2 hT3 hR1 hR2 hR3 hfin hok1 hok2 hok3 hinA hb1 hb2 hb3 heo heo2 heo3 hFF hfrA
  go_enter Tryz.func113, Tryz.ntmps113
  go_wp2_with fail
  refine hfo.mono ?_
  rintro e w2 ⟨rfl, nv2, tv2, hfr2, hin2⟩
  obtain ⟨hn2, ht2, hka2, hWin, hWfr, hWka, hab2⟩ := step_store (ty := R1.1) (ks := []) (j := 0) hlt4 hlt3 hyw rfl hw0 HFA.out (by simp) (fun e => by have := hlt1 _ e; omega) (fun e => by have := hlt2 _ e; omega) hfr2 hin2 (blk_new _ _) rfl
  have z0 : w2.cell? ⟨w.heap.size, 0, none⟩ = some (.string (bs [])) := by rw [blk_cell hka2]; rfl
  have zf : w2.frozen? ⟨w.heap.size, 0, none⟩ = false := blk_free hka2 0
  have hb2' : w2.heap[b]? = some (.cells (exCells Kw.loop.bytes p nm (valueL rg) (.slice (some ⟨gk, 0, none⟩) 3 kc) id (id + cntL [x1, x2, x3]) site) 82 (0, 0)) := by rw [hin2.b0.block b hb]; exact HBLK.out
  have x42 : w2.cell? ⟨b, 4, none⟩ = some (.slice (some ⟨gk, 0, none⟩) 3 kc) := by rw [blk_cell hb2']; rfl
  have k22 : w2.cell? ⟨gk, 1, none⟩ = some (.pointer (some ⟨b2, 0, none⟩)) := (hin2.b0.cell (p := ⟨gk, 1, none⟩) hgkw).trans HK2.out
  have hfo2 := hf2 (id + 1 + x1.cnt) (site + x1.prs) b2 F env R1.2 cv nv2 tv2 ov _ HT2.out hWin (by have := HO1.out.2.2; omega) (by omega) HE2.out.1 HE2.out.2 (by omega)
  rw [← HR2.out] at hfo2
  unfold ptr at hfo2
  have HW2 : Hid _ := And.intro hWfr (And.intro hWka (And.intro hn2 ht2))
  have hbw2 : b < w2.heap.size := by omega
  clear hfo hfr2 hin2 hka2 hWin hWfr hWka hn2 ht2 hb2' x4 k1w x0 q0 q1 q2 q3
  go_wp2_with fail
  refine hfo2.mono ?_
  rintro e w3 ⟨rfl, nv3, tv3, hfr3, hin3⟩
  obtain ⟨hn3, ht3, hka3, hWin3, hWfr3, hWka3, hab3⟩ := step_store (ty := R2.1) (ks := [R1.1]) (j := 1) hlt4 hlt3 hyw rfl hw0 HW2.out.1 (by simp [World.setCell]; omega) HW2.out.2.2.1 HW2.out.2.2.2 hfr3 hin3 HW2.out.2.1 rfl
  have z1 : w3.cell? ⟨w.heap.size, 1, none⟩ = some (.string (bs [])) := by rw [blk_cell hka3]; rfl
  have zf1 : w3.frozen? ⟨w.heap.size, 1, none⟩ = false := blk_free hka3 1
  have z2 : w3.cell? ⟨w.heap.size, 2, none⟩ = some (.string (bs [])) := by rw [blk_cell hka3]; rfl
  have zf2 : w3.frozen? ⟨w.heap.size, 2, none⟩ = false := blk_free hka3 2
  have hb3' : w3.heap[b]? = some (.cells (exCells Kw.loop.bytes p nm (valueL rg) (.slice (some ⟨gk, 0, none⟩) 3 kc) id (id + cntL [x1, x2, x3]) site) 82 (0, 0)) := by rw [hin3.b0.block b hb]; exact HBLK.out
  have x23 : w3.cell? ⟨b, 2, none⟩ = some (.string (bs nm)) := by rw [blk_cell hb3']; rfl
  have x43 : w3.cell? ⟨b, 4, none⟩ = some (.slice (some ⟨gk, 0, none⟩) 3 kc) := by rw [blk_cell hb3']; rfl
  have k33 : w3.cell? ⟨gk, 2, none⟩ = some (.pointer (some ⟨b3, 0, none⟩)) := (hin3.b0.cell (p := ⟨gk, 2, none⟩) hgkw).trans HK3.out
  have hun : ∀ W, Below (w3.setCell ⟨w.heap.size, 1, none⟩ (.string (bs R2.1.txt))).heap.size (w3.setCell ⟨w.heap.size, 1, none⟩ (.string (bs R2.1.txt))) W → Calls Tryz.prog 143 #[.pointer (some ⟨yb, 0, none⟩), .string (bs nm), .string (bs R2.1.txt), .pointer (some ⟨b3, 0, none⟩)] W fun v w' => v = .returned (.string (bs R3.1.txt)) ∧
      ∃ nv' tv', nv'.ownBlock ≠ some w.heap.size ∧ tv'.ownBlock ≠ some w.heap.size ∧ w'.heap[w.heap.size]? = some (.cells (kArr [R1.1, R2.1]) 139 (0, 0)) ∧ TyIn w0 (w'.setCell ⟨w.heap.size, 2, none⟩ (.string (bs R3.1.txt))) yb cls cv nv' tv' ov env R3.2 ∧
        Fr w (w'.setCell ⟨w.heap.size, 2, none⟩ (.string (bs R3.1.txt))) yb nv tv ov nv' tv' ∧ (w'.setCell ⟨w.heap.size, 2, none⟩ (.string (bs R3.1.txt))).heap[w.heap.size]? = some (.cells (kArr [R1.1, R2.1, R3.1]) 139 (0, 0)) ∧ w.heap.size < w'.heap.size ∧ TyIn w0 w' yb cls cv nv' tv' ov env R3.2 := by
    intro W hW
    have hu := under_of hf3 (id + 1 + x1.cnt + x2.cnt) (site + x1.prs + x2.prs) b3 F env R2.2 cv nv3 tv3 ov W nm R2.1 HT3.out (hWin3.grow hW) (by have h1 := HO1.out.2.2; have h2 := HO2.out.2.2; omega) (by omega) HE3.out.1 HE3.out.2 HO2.out.1 (fun h0 => (HO2.out.2.1 h0).2) (by omega)
    rw [← HR3.out] at hu
    refine hu.mono ?_
    rintro e w' ⟨rfl, nv', tv', hfr', hin'⟩
    have hWab : w.heap.size < W.heap.size := by have h1 := hW.size; have h2 := blk_lt hWka3; omega
    obtain ⟨a1, a2, a3, a4, a5, a6, a7⟩ := step_store (ty := R3.1) (ks := [R1.1, R2.1]) (j := 2) hlt4 hlt3 hyw rfl hw0 (hWfr3.trans (Fr.below hW yb nv3 tv3 ov)) hWab hn3 ht3 hfr' hin' (by rw [hW.block _ (blk_lt hWka3)]; exact hWka3) rfl
    exact ⟨rfl, nv', tv', a1, a2, a3, a4, a5, a6, a7, hin'⟩
  have hbw3 : b < w3.heap.size := by omega
  have hgk3 : gk < w3.heap.size := by omega
  have hbab : b ≠ w.heap.size := by omega
  have hgab : gk ≠ w.heap.size := by omega
  clear hfo2 hfr3 hin3 hka3 hWin3 hWfr3 hWka3 hn3 ht3 hb3' x42 k22 z0 zf HW2 hlt1 hlt2 hlt3 hlt4
  go_wp2
  go_region_with (go_at_call 143; refine (hun _ ?_).mono ?_; exact ⟨rfl, rfl, rfl, Nat.le_refl _, fun _ _ => rfl⟩; rintro e w4 ⟨rfl, nv4, tv4, hn4, ht4, hka4, hWin4, hWfr4, hWka4, hab4, hin4⟩; have z24 : w4.cell? ⟨w.heap.size, 2, none⟩ = some (.string (bs [])) := (by rw [blk_cell hka4]; rfl); have zf24 : w4.frozen? ⟨w.heap.size, 2, none⟩ = false := blk_free hka4 2)
  all_goals
    have hbr4 : w4.heap[b]? = some (.cells (exCells Kw.loop.bytes p nm (valueL rg) (.slice (some ⟨gk, 0, none⟩) 3 kc) id (id + cntL [x1, x2, x3]) site) 82 (0, 0)) := by rw [hin4.b0.block b hb]; exact HBLK.out
    have y44 : w4.cell? ⟨yb, 4, none⟩ = some (.int .i64 (R3.2.e : Nat)) := by rw [blk_cell hin4.y]; rfl
    have a0 : w4.cell? ⟨w.heap.size, 0, none⟩ = some (.string (bs R1.1.txt)) := by rw [blk_cell hka4]; rfl
    have a1 : w4.cell? ⟨w.heap.size, 1, none⟩ = some (.string (bs R2.1.txt)) := by rw [blk_cell hka4]; rfl
    have hyab : yb ≠ w.heap.size := by omega
    have hmd : R3.2.e = 0 → ∀ W, Below (w4.setCell ⟨w.heap.size, 2, none⟩ (.string (bs R3.1.txt))).heap.size (w4.setCell ⟨w.heap.size, 2, none⟩ (.string (bs R3.1.txt))) W → Calls Tryz.prog 144 #[.pointer (some ⟨yb, 0, none⟩), .pointer (some ⟨b, 0, none⟩), .agg #[.string (bs R1.1.txt), .string (bs R2.1.txt), .string (bs R3.1.txt)]] W fun v w' =>
        v = .returned (.string (bs (madeT cls .loop p site [R1.1, R2.1, R3.1] R3.2).1.txt)) ∧ ∃ nv' tv', Fr w w' yb nv tv ov nv' tv' ∧ TyIn w0 w' yb cls cv nv' tv' ov env (madeT cls .loop p site [R1.1, R2.1, R3.1] R3.2).2 := by
      intro h0 W hW
      have hWi := hWin4.grow hW
      have hm := made_any W yb b cls cv nv4 tv4 ov _ R3.2 nm p (valueL rg) id (id + cntL [x1, x2, x3]) site w0.heap.size .loop [R1.1, R2.1, R3.1] hne h0 hWi.y (by rw [hWi.b0.block b hb]; exact HBLK.out) hWi.c hcl hc100 (by intro h; cases h) (by decide) rfl
        (by intro t ht; simp only [List.mem_cons, List.not_mem_nil, or_false] at ht; rcases ht with rfl | rfl | rfl; exact HO1.out.1; exact HO2.out.1; exact HO3.out.1)
      refine hm.mono ?_
      rintro e w' ⟨rfl, hg2, hy2⟩
      refine ⟨rfl, nv4, tv4, (hWfr4.trans (Fr.below hW _ _ _ _)).trans (Fr.grown hg2 _ _ _), ?_⟩
      have h := hWi.err hg2 hy2
      rw [← madeT_of cls .loop p site [R1.1, R2.1, R3.1] R3.2] at h
      exact h
    have HWF : Hid _ := And.intro hWfr4 hWin4
    clear hWin4 hWfr4 hWka4 hka4 hin4 hbr4 hn4 ht4
    by_cases h0 : R3.2.e = 0
    · have hmd0 := hmd h0
      have y40 : w4.cell? ⟨yb, 4, none⟩ = some (.int .i64 0) := by rw [y44, h0]; rfl
      have HF2 : Hid (FF = madeT cls .loop p site [R1.1, R2.1, R3.1] R3.2) := by rw [HFIN.out, if_neg (by simpa using h0)]; rfl
      clear y44 h0 hmd
      go_wp2_with (go_at_call 144; refine (hmd0 _ ?_).mono ?_; exact ⟨rfl, rfl, rfl, Nat.le_refl _, fun _ _ => rfl⟩; rintro e w5 ⟨rfl, hw5⟩)
      go_ret
      rw [HF2.out]
      exact ⟨rfl, hw5⟩
    · have h0' : ((R3.2.e : Int) != 0) = true := by rw [bne_iff_ne]; omega
      have HF2 : Hid (FF = (.n, R3.2)) := by rw [HFIN.out, if_pos h0]; rfl
      clear h0 hmd
      go_wp2_with fail
      go_ret
      rw [HF2.out]
      exact ⟨rfl, nv4, tv4, HWF.out.1.trans (Fr.below ⟨rfl, rfl, rfl, Nat.le_refl _, fun _ _ => rfl⟩ _ _ _ _), HWF.out.2.grow ⟨rfl, rfl, rfl, Nat.le_refl _, fun _ _ => rfl⟩⟩
end Go.Proofs.YtpicaknklgccoaaGreatDoor

/- Plain mathematics: what the tokens of a text are like; how many parts a tree's words have. -/
namespace Go.Proofs.YtpicaknklgccoaaGreatDoor

theorem toks_mem : ∀ (f p : Nat) (l : List UInt8) (t : Tk), t ∈ toks f p l → ∃ l', l' ≠ [] ∧ t.s = l'.take (tokenOf l').1 ∧ t.c = (tokenOf l').2
  | 0, _, _, t, h => by simp [toks] at h
  | _ + 1, _, [], t, h => by simp [toks] at h
  | f + 1, p, c :: r, t, h => by
    simp only [toks] at h
    split at h
    · exact toks_mem f _ r t h
    · rcases List.mem_cons.1 h with h | h
      · subst h; exact ⟨c :: r, by simp, rfl, rfl⟩
      · exact toks_mem f _ _ t h

theorem tokenOf_num {l : List UInt8} (h : (tokenOf l).2 = .num) : (tokenOf l).1 ≤ 4 := by
  unfold tokenOf at h ⊢
  split at h
  · rename_i h1
    simp only [wordCl] at h
    split at h
    · cases h
    · split at h <;> cases h
  · rename_i h1
    split at h
    · rename_i h2
      rw [if_neg h1, if_pos h2]
      simp only at h ⊢
      split at h
      · rename_i h3
        unfold numeralB at h3
        simp only [Bool.and_eq_true, decide_eq_true_eq] at h3
        have := h3.1.2
        have hl := run_le 48 57 l
        simp only [List.length_take] at this
        omega
      · cases h
    · rename_i h2
      split at h
      · cases h
      · split at h
        · simp only at h; split at h <;> cases h
        · simp only at h; split at h
          · cases h
          · split at h <;> cases h

theorem tokenOf_reg {l : List UInt8} (h : (tokenOf l).2 = .reg) : (tokenOf l).1 ≤ 4 := by
  unfold tokenOf at h ⊢
  split at h
  · rename_i h1
    simp only [wordCl] at h
    split at h
    · cases h
    · split at h <;> cases h
  · rename_i h1
    rw [if_neg h1]
    split at h
    · simp only at h; split at h <;> cases h
    · rename_i h2
      rw [if_neg h2]
      split at h
      · cases h
      · rename_i c r
        split at h
        · rename_i h3
          simp only at h
          rw [if_pos h3]
          simp only
          split at h
          · rename_i h4
            unfold numeralB at h4
            simp only [Bool.and_eq_true, decide_eq_true_eq] at h4
            have := h4.1.2
            simp only [List.length_take] at this
            have hl := run_le 48 57 r
            omega
          · cases h
        · simp only at h; split at h
          · cases h
          · split at h <;> cases h

theorem tokenOf_kw {l : List UInt8} {k : Kw} (h : (tokenOf l).2 = .kw k) : l.take (tokenOf l).1 = k.bytes := by
  unfold tokenOf at h ⊢
  split at h
  · rename_i h1
    rw [if_pos h1]
    simp only [wordCl] at h ⊢
    split at h
    · rename_i k' hk
      simp only [Cl.kw.injEq] at h
      subst h
      exact kwOf_some hk
    · split at h <;> cases h
  · split at h
    · simp only at h; split at h <;> cases h
    · split at h
      · cases h
      · split at h
        · simp only at h; split at h <;> cases h
        · simp only at h; split at h
          · cases h
          · split at h <;> cases h

theorem toks_num {f p : Nat} {l : List UInt8} {t : Tk} (h : t ∈ toks f p l) (hc : t.c = .num) : t.s.length ≤ 5 := by
  obtain ⟨l', _, h1, h2⟩ := toks_mem f p l t h
  have := tokenOf_num (by rw [← h2]; exact hc)
  rw [h1]; simp; omega
theorem toks_reg {f p : Nat} {l : List UInt8} {t : Tk} (h : t ∈ toks f p l) (hc : t.c = .reg) : t.s.length ≤ 5 := by
  obtain ⟨l', _, h1, h2⟩ := toks_mem f p l t h
  have := tokenOf_reg (by rw [← h2]; exact hc)
  rw [h1]; simp; omega
theorem toks_ne {f p : Nat} {l : List UInt8} {t : Tk} (h : t ∈ toks f p l) : t.s ≠ [] := by
  obtain ⟨l', h0, h1, _⟩ := toks_mem f p l t h
  have hp := tokenOf_pos l'
  intro e
  rw [h1] at e
  rcases List.take_eq_nil_iff.1 e with e | e
  · omega
  · exact h0 e
theorem toks_kw {f p : Nat} {l : List UInt8} {t : Tk} {k : Kw} (h : t ∈ toks f p l) (hc : t.c = .kw k) : t.s = k.bytes := by
  obtain ⟨l', _, h1, h2⟩ := toks_mem f p l t h
  rw [h1]; exact tokenOf_kw (by rw [← h2]; exact hc)

theorem PW.kids_len {placed : Bool} : ∀ {ws : List Wt} {l : List Tk} {nm rg : List UInt8} {kids : List PT} {r : List Tk}, PW placed ws l nm rg kids r → kids.length = cntE ws
  | _, _, _, _, _, _, .nil => rfl
  | _, _, _, _, _, _, .close _ h1 => by have := PW.kids_len h1; simpa [cntE] using this
  | _, _, _, _, _, _, .name _ h1 => by have := PW.kids_len h1; simpa [cntE] using this
  | _, _, _, _, _, _, .region _ h1 => by have := PW.kids_len h1; simpa [cntE] using this
  | _, _, _, _, _, _, .e _ h1 => by have := PW.kids_len h1; simp [cntE] at this ⊢; exact this
end Go.Proofs.YtpicaknklgccoaaGreatDoor

namespace Go.Proofs.YtpicaknklgccoaaGreatDoor
open Go.RowKit

theorem fin_len (id p : Nat) (x : Ty × TSt) : (fin id p x).2.of.length = x.2.of.length := by
  simp only [fin, List.length_set]
  split
  · exact errS_len _ _ _
  · rfl
theorem madeT_len (cls : List Nat) (k : Kw) (p site : Nat) (ks : List Ty) (st : TSt) : (madeT cls k p site ks st).2.of.length = st.of.length := by rw [madeT_of]

mutual
theorem tyFind_len (cls : List Nat) : ∀ (t : PT) (id site : Nat) (env : TEnv) (st : TSt), (tyFind cls t id site env st).2.of.length = st.of.length
  | .num p s, id, site, env, st => by simp only [tyFind]; rw [fin_len]
  | .name p s, id, site, env, st => by
    simp only [tyFind]; rw [fin_len]
    split
    · rfl
    · exact errS_len _ _ _
  | .node p k nm rg kids, id, site, env, st => by
    simp only [tyFind]; rw [fin_len]
    split
    · exact tyLet_len cls nm kids _ _ _ _
    · have hx : (if k = .loop then tyLoop cls nm kids (id + 1) site env st else tyKids cls kids (id + 1) (site + if k = .pair then 1 else 0) env st).2.of.length = st.of.length := by
        split
        · exact tyLoop_len cls nm kids _ _ _ _
        · exact tyKids_olen cls kids _ _ _ _
      generalize (if k = .loop then tyLoop cls nm kids (id + 1) site env st else tyKids cls kids (id + 1) (site + if k = .pair then 1 else 0) env st) = x at hx ⊢
      split
      · exact hx
      · rw [madeT_len]; exact hx
theorem tyKids_olen (cls : List Nat) : ∀ (ts : List PT) (id site : Nat) (env : TEnv) (st : TSt), (tyKids cls ts id site env st).2.of.length = st.of.length
  | [], _, _, _, _ => by simp only [tyKids]
  | a :: r, id, site, env, st => by simp only [tyKids]; rw [tyKids_olen cls r, tyFind_len cls a]
theorem tyLet_len (cls : List Nat) (nm : List UInt8) : ∀ (ts : List PT) (id site : Nat) (env : TEnv) (st : TSt), (tyLet cls nm ts id site env st).2.of.length = st.of.length
  | [a, b], id, site, env, st => by simp only [tyLet]; rw [tyFind_len cls b, tyFind_len cls a]
  | [], _, _, _, _ => by simp only [tyLet]
  | [_], _, _, _, _ => by simp only [tyLet]
  | _ :: _ :: _ :: _, _, _, _, _ => by simp only [tyLet]
theorem tyLoop_len (cls : List Nat) (nm : List UInt8) : ∀ (ts : List PT) (id site : Nat) (env : TEnv) (st : TSt), (tyLoop cls nm ts id site env st).2.of.length = st.of.length
  | [a, b, c], id, site, env, st => by simp only [tyLoop]; rw [tyFind_len cls c, tyFind_len cls b, tyFind_len cls a]
  | [], _, _, _, _ => by simp only [tyLoop]
  | [_], _, _, _, _ => by simp only [tyLoop]
  | [_, _], _, _, _, _ => by simp only [tyLoop]
  | _ :: _ :: _ :: _ :: _, _, _, _, _ => by simp only [tyLoop]
end

mutual
/-- each word has as many parts as it must -/
def PT.wf : PT → Prop
  | .num _ _ => True
  | .name _ _ => True
  | .node _ k _ _ kids => kids.length = arity k ∧ wfL kids
def wfL : List PT → Prop
  | [] => True
  | t :: r => t.wf ∧ wfL r
end
theorem wfL_mem : ∀ {ts : List PT}, wfL ts → ∀ t ∈ ts, t.wf
  | [], _, t, h => by simp at h
  | a :: r, hw, t, h => by
    simp only [wfL] at hw
    rcases List.mem_cons.1 h with h | h
    · subst h; exact hw.1
    · exact wfL_mem hw.2 t h

theorem find_all {w0 : World} {yb : Nat} {cls : List Nat} (hc100 : ∀ x ∈ cls, x < 100) (hcl : cls.length ≤ 9000) (t : PT) : t.wf → FindOk w0 yb cls t := by
  induction t using PT.ind with
  | h1 p s =>
    intro _
    refine find_of (form_num w0 yb cls p s) (fun id site env st => by simp only [tyFind]; rfl) (fun _ _ _ _ => rfl) (fun _ _ _ _ _ _ => fit_n)
  | h2 p s =>
    intro _
    refine find_of (form_name w0 yb cls p s) (fun id site env st => by simp only [tyFind]; rfl) ?_ ?_
    · intro id site env st
      unfold nameF
      split
      · rfl
      · exact errS_len _ _ _
    · intro id site env st h1 h2
      simp only [nameF]
      split
      · rename_i t ht
        obtain ⟨x, hx, rfl⟩ := look_mem ht
        exact h1 x hx
      · exact fit_n
  | h3 p k nm rg kids ih =>
    intro hw
    simp only [PT.wf] at hw
    have hk : ∀ x ∈ kids, FindOk w0 yb cls x := fun x hx => ih x hx (wfL_mem hw.2 x hx)
    by_cases hl : k = .let_
    · subst hl
      match kids, hw.1, hk with
      | [a, b], _, hk =>
        refine find_of (form_let p nm rg a b hc100 (hk a (by simp)) (hk b (by simp))) (fun id site env st => by simp only [tyFind]; rw [if_pos trivial]; rfl) (fun _ _ _ _ => tyLet_len _ _ _ _ _ _ _) ?_
        intro id site env st h1 h2
        exact (tyLet_ok cls hc100 nm [a, b] _ _ env st ⟨h1, h2⟩).1
    · by_cases hl2 : k = .loop
      · subst hl2
        match kids, hw.1, hk with
        | [a, b, c], _, hk =>
          refine find_of (form_loop p nm rg a b c hc100 hcl (hk a (by simp)) (hk b (by simp)) (hk c (by simp))) (fun id site env st => by simp only [tyFind]; rw [if_neg (by decide), if_pos trivial]; rfl) ?_ ?_
          · intro id site env st
            simp only [loopF]
            split
            · exact tyLoop_len _ _ _ _ _ _ _
            · rw [madeT_len]; exact tyLoop_len _ _ _ _ _ _ _
          · intro id site env st h1 h2
            have hx := tyLoop_ok cls hc100 nm [a, b, c] (id + 1) site env st ⟨h1, h2⟩
            simp only [loopF]
            split
            · exact fit_n
            · rename_i hne
              have h0 : (tyLoop cls nm [a, b, c] (id + 1) site env st).2.e = 0 := by simpa using hne
              exact (made_pre hc100 (fun t ht => ⟨hx.1 t ht, (hx.2.1 h0).2 t ht⟩)).1
      · refine find_of (form_kids p k nm rg kids hc100 hcl hl hl2 hw.1 hk) (fun id site env st => by simp only [tyFind]; rw [if_neg hl, if_neg hl2]; rfl) ?_ ?_
        · intro id site env st
          simp only [kidsF]
          generalize (site + if k = .pair then 1 else 0) = s1
          split
          · exact tyKids_olen _ _ _ _ _ _
          · rw [madeT_len]; exact tyKids_olen _ _ _ _ _ _
        · intro id site env st h1 h2
          have hx := tyKids_ok cls hc100 kids (id + 1) (site + if k = .pair then 1 else 0) env st ⟨h1, h2⟩
          simp only [kidsF]
          generalize (site + if k = .pair then 1 else 0) = s1 at hx ⊢
          split
          · exact fit_n
          · rename_i hne
            have h0 : (tyKids cls kids (id + 1) s1 env st).2.e = 0 := by simpa using hne
            exact (made_pre hc100 (fun t ht => ⟨hx.1 t ht, (hx.2.1 h0).2 t ht⟩)).1
end Go.Proofs.YtpicaknklgccoaaGreatDoor

/- Plain mathematics: what a plain program is in the end, its steps and cells (the document's P4), on the tree; types of trees without fault. -/
namespace Go.Proofs.YtpicaknklgccoaaGreatDoor
open Go.Lib (decDigits)

/-- what an expression is -/
inductive Vl where
  | n (k : Nat)
  | p (a b : Vl)
def Vl.txt : Vl → List UInt8
  | .n k => decDigits k
  | .p a b => 91 :: (a.txt ++ (32 :: (b.txt ++ [93])))
def Vl.num : Vl → Nat
  | .n k => k
  | .p _ _ => 0
def Vl.fst : Vl → Vl
  | .p a _ => a
  | .n _ => .n 0
def Vl.snd : Vl → Vl
  | .p _ b => b
  | .n _ => .n 0
def Vl.size : Vl → Nat
  | .n _ => 0
  | .p a b => a.size + b.size + 1
/-- a value of a type -/
def Vl.has : Vl → Ty → Prop
  | .n k, .n => k ≤ 9999
  | .p a b, .p _ x y => a.has x ∧ b.has y
  | _, _ => False

structure ESt where
  steps : Nat
  cells : Nat
  e : Nat
abbrev VEnv := List (List UInt8 × Vl)
def lookV (env : VEnv) (s : List UInt8) : Vl := ((env.reverse.find? (fun x => x.1 == s)).map (·.2)).getD (.n 0)

/-- a loop's turns -/
def turns (f : Vl → ESt → Vl × ESt) : Nat → Vl → ESt → Vl × ESt
  | 0, v, st => (v, st)
  | k + 1, v, st => if st.e ≠ 0 then (v, st) else turns f k (f v st).1 (f v st).2
def madeV (k : Kw) (vs : List Vl) (st : ESt) : Vl × ESt :=
  match k, vs with
  | .pair, [a, b] => (.p a b, { st with cells := st.cells + 1 })
  | .fst, [a] => (a.fst, st)
  | .snd, [a] => (a.snd, st)
  | .add, [a, b] => (.n ((a.num + b.num) % 10000), st)
  | .sub, [a, b] => (.n ((a.num + 10000 - b.num) % 10000), st)
  | .less, [a, b] => (.n (if a.num < b.num then 1 else 0), st)
  | _, _ => (.n 0, st)
/-- an expression is begun -/
def begun (fuel : Nat) (st : ESt) (f : ESt → Vl × ESt) : Vl × ESt :=
  if st.e ≠ 0 then (.n 0, st) else if st.steps = fuel then (.n 0, { st with e := 12 }) else f { st with steps := st.steps + 1 }

mutual
def ev (fuel : Nat) : PT → VEnv → ESt → Vl × ESt
  | .num _ s, _, st => begun fuel st (fun st => (.n (valueL s).toNat, st))
  | .name _ s, env, st => begun fuel st (fun st => (lookV env s, st))
  | .node _ k nm _ kids, env, st => begun fuel st (fun st =>
      if k = .let_ then evLet fuel nm kids env st
      else if k = .if_ then evIf fuel kids env st
      else if k = .loop then evLoop fuel nm kids env st
      else
        let x := evKids fuel kids env st
        if x.2.e ≠ 0 then (.n 0, x.2) else madeV k x.1 x.2)
def evKids (fuel : Nat) : List PT → VEnv → ESt → List Vl × ESt
  | [], _, st => ([], st)
  | a :: r, env, st =>
    let x := ev fuel a env st
    let y := evKids fuel r env x.2
    (x.1 :: y.1, y.2)
def evLet (fuel : Nat) (nm : List UInt8) : List PT → VEnv → ESt → Vl × ESt
  | [a, b], env, st =>
    let x := ev fuel a env st
    ev fuel b (env ++ [(nm, x.1)]) x.2
  | _, _, st => (.n 0, st)
def evIf (fuel : Nat) : List PT → VEnv → ESt → Vl × ESt
  | [a, b, c], env, st =>
    let x := ev fuel a env st
    if x.1.num ≠ 0 then ev fuel b env x.2 else ev fuel c env x.2
  | _, _, st => (.n 0, st)
def evLoop (fuel : Nat) (nm : List UInt8) : List PT → VEnv → ESt → Vl × ESt
  | [a, b, c], env, st =>
    let x := ev fuel a env st
    let y := ev fuel b env x.2
    turns (fun v st => ev fuel c (env ++ [(nm, v)]) st) x.1.num y.1 y.2
  | _, _, st => (.n 0, st)
end

/-- a tree's type, without regions -/
inductive WT : TEnv → PT → Ty → Prop
  | num {G : TEnv} {p : Nat} {s : List UInt8} : WT G (.num p s) .n
  | name {G : TEnv} {p : Nat} {s : List UInt8} {T : Ty} (h : look G s = some T) : WT G (.name p s) T
  | let_ {G : TEnv} {p : Nat} {nm rg : List UInt8} {a b : PT} {A B : Ty} (ha : WT G a A) (hb : WT (G ++ [(nm, A)]) b B) : WT G (.node p .let_ nm rg [a, b]) B
  | pair {G : TEnv} {p : Nat} {nm rg : List UInt8} {a b : PT} {A B : Ty} (ha : WT G a A) (hb : WT G b B) (hs : (Ty.p 0 A B).size ≤ 63) : WT G (.node p .pair nm rg [a, b]) (.p 0 A B)
  | fst {G : TEnv} {p : Nat} {nm rg : List UInt8} {a : PT} {A B : Ty} (ha : WT G a (.p 0 A B)) : WT G (.node p .fst nm rg [a]) A
  | snd {G : TEnv} {p : Nat} {nm rg : List UInt8} {a : PT} {A B : Ty} (ha : WT G a (.p 0 A B)) : WT G (.node p .snd nm rg [a]) B
  | if_ {G : TEnv} {p : Nat} {nm rg : List UInt8} {a b c : PT} {T : Ty} (ha : WT G a .n) (hb : WT G b T) (hc : WT G c T) : WT G (.node p .if_ nm rg [a, b, c]) T
  | two {G : TEnv} {p : Nat} {k : Kw} {nm rg : List UInt8} {a b : PT} (hk : k = .add ∨ k = .sub ∨ k = .less) (ha : WT G a .n) (hb : WT G b .n) : WT G (.node p k nm rg [a, b]) .n
  | loop {G : TEnv} {p : Nat} {nm rg : List UInt8} {a b c : PT} {T : Ty} (ha : WT G a .n) (hb : WT G b T) (hc : WT (G ++ [(nm, T)]) c T) : WT G (.node p .loop nm rg [a, b, c]) T
  | new {G : TEnv} {p : Nat} {nm rg : List UInt8} {a : PT} {T : Ty} (ha : WT G a T) : WT G (.node p .new nm rg [a]) T

def bareE (env : TEnv) : TEnv := env.map (fun x => (x.1, x.2.bare))
theorem bare_sizeE (t : Ty) : t.bare.size = t.size := by induction t <;> simp [Ty.bare, Ty.size, *]
theorem look_bare (env : TEnv) (s : List UInt8) : look (bareE env) s = (look env s).map Ty.bare := by
  unfold look bareE
  rw [← List.map_reverse, List.find?_map]
  simp only [Function.comp_def, Option.map_map]
theorem bareE_snoc (env : TEnv) (nm : List UInt8) (T : Ty) : bareE (env ++ [(nm, T)]) = bareE env ++ [(nm, T.bare)] := by simp [bareE]
theorem errS_zero {st : TSt} {e p : Nat} (he : e ≠ 0) (h : (errS st e p).e = 0) : False := errS_e st e p he h
/-- behind fin there is no error only if there was none ahead of it -/
theorem fin_zero {id p : Nat} {x : Ty × TSt} (h : (fin id p x).2.e = 0) : x.2.e = 0 ∧ x.1.size ≤ 63 := by
  unfold fin at h
  simp only at h
  split at h
  · exact (errS_zero (by decide) h).elim
  · rename_i hn
    refine ⟨h, ?_⟩
    rcases Nat.lt_or_ge 63 x.1.size with h1 | h1
    · exact absurd ⟨h, h1⟩ hn
    · exact h1
theorem fin_ty (id p : Nat) (x : Ty × TSt) : (fin id p x).1 = x.1 := by unfold fin; rfl

def WTs (G : TEnv) : List PT → List Ty → Prop
  | [], [] => True
  | a :: r, T :: Ts => WT G a T ∧ WTs G r Ts
  | _, _ => False

theorem made_WT {cls : List Nat} {k : Kw} {p site : Nat} {ks : List Ty} {st : TSt} {G : TEnv} {nm rg : List UInt8} {kids : List PT} (hk1 : k ≠ .let_) (hk2 : k ≠ .loop) (hw : kids.length = arity k) (hks : WTs G kids (ks.map Ty.bare))
    (h0 : (madeT cls k p site ks st).2.e = 0) (hsz : (madeT cls k p site ks st).1.size ≤ 63) : WT G (.node p k nm rg kids) (madeT cls k p site ks st).1.bare := by
  unfold madeT at h0 hsz ⊢
  split at h0
  · match kids, hw, hks with
    | [a], _, hks => simp only [List.map_cons, WTs] at hks; exact .new hks.1
  · match kids, hw, hks with
    | [a, b], _, hks =>
      simp only [List.map_cons, List.map_nil, WTs] at hks
      simp only [Ty.size] at hsz
      exact .pair hks.1 hks.2.1 (by simp only [Ty.size, bare_sizeE]; omega)
  · match kids, hw, hks with
    | [a], _, hks => simp only [List.map_cons, WTs, Ty.bare] at hks; exact .fst hks.1
  · match kids, hw, hks with
    | [a], _, hks => simp only [List.map_cons, WTs, Ty.bare] at hks; exact .snd hks.1
  · match kids, hw, hks with
    | [a, b, c], _, hks =>
      simp only [List.map_cons, List.map_nil, WTs] at hks
      split at h0
      · rename_i hc
        simp only [if_pos hc]
        rw [hc.1] at hks
        exact .if_ hks.1 hks.2.1 (by rw [hc.2]; exact hks.2.2.1)
      · exact (errS_zero (by decide) h0).elim
  · exact absurd rfl hk2
  all_goals first
    | (exact (errS_zero (by decide) h0).elim)
    | (match kids, hw, hks with
       | [a, b], _, hks =>
        simp only [List.map_cons, List.map_nil, WTs] at hks
        split at h0
        · rename_i hc
          simp only [if_pos hc]
          rw [hc.1, hc.2] at hks
          exact .two (by simp) hks.1 hks.2.1
        · exact (errS_zero (by decide) h0).elim)

mutual
theorem tyFind_WT (cls : List Nat) : ∀ (t : PT) (id site : Nat) (env : TEnv) (st : TSt), t.wf → (tyFind cls t id site env st).2.e = 0 → st.e = 0 ∧ (tyFind cls t id site env st).1.size ≤ 63 ∧ WT (bareE env) t (tyFind cls t id site env st).1.bare
  | .num p s, id, site, env, st, _, h => by
    simp only [tyFind] at h ⊢
    have := fin_zero h
    rw [fin_ty]
    exact ⟨this.1, this.2, .num⟩
  | .name p s, id, site, env, st, _, h => by
    simp only [tyFind] at h ⊢
    have hz := fin_zero h
    rw [fin_ty]
    split at hz
    · rename_i t ht
      exact ⟨hz.1, hz.2, .name (by rw [look_bare, ht]; rfl)⟩
    · exact (errS_zero (by decide) hz.1).elim
  | .node p k nm rg kids, id, site, env, st, hw, h => by
    simp only [PT.wf] at hw
    simp only [tyFind] at h ⊢
    have hz := fin_zero h
    rw [fin_ty]
    by_cases hk : k = .let_
    · subst hk
      simp only [if_pos] at hz ⊢
      have := tyLet_WT cls nm p rg kids (id + 1) site env st hw.1 hw.2 hz.1
      exact ⟨this.1, hz.2, this.2⟩
    · simp only [if_neg hk] at hz ⊢
      by_cases hl : k = .loop
      · subst hl
        simp only [if_pos] at hz ⊢
        split at hz
        · rename_i hne; exact absurd hz.1 hne
        · rename_i hne
          rw [if_neg hne]
          have h0 : (tyLoop cls nm kids (id + 1) site env st).2.e = 0 := by simpa using hne
          have := tyLoop_WT cls nm p rg kids (id + 1) site env st hw.1 hw.2 h0 p site hz.1
          exact ⟨this.1, hz.2, this.2⟩
      · simp only [if_neg hl] at hz ⊢
        have hks := tyKids_WT cls kids (id + 1) (site + if k = .pair then 1 else 0) env st hw.2
        generalize tyKids cls kids (id + 1) (site + if k = .pair then 1 else 0) env st = x at hks hz ⊢
        by_cases hne : x.2.e ≠ 0
        · rw [if_pos hne] at hz; exact absurd hz.1 hne
        · rw [if_neg hne] at hz ⊢
          have hks := hks (by simpa using hne)
          exact ⟨hks.1, hz.2, made_WT hk hl hw.1 hks.2 hz.1 hz.2⟩
theorem tyKids_WT (cls : List Nat) : ∀ (ts : List PT) (id site : Nat) (env : TEnv) (st : TSt), wfL ts → (tyKids cls ts id site env st).2.e = 0 → st.e = 0 ∧ WTs (bareE env) ts ((tyKids cls ts id site env st).1.map Ty.bare)
  | [], _, _, _, st, _, h => by simp only [tyKids] at h ⊢; exact ⟨h, trivial⟩
  | a :: r, id, site, env, st, hw, h => by
    simp only [wfL] at hw
    simp only [tyKids] at h ⊢
    have h2 := tyKids_WT cls r (id + a.cnt) (site + a.prs) env _ hw.2 h
    have h1 := tyFind_WT cls a id site env st hw.1 h2.1
    exact ⟨h1.1, h1.2.2, h2.2⟩
theorem tyLet_WT (cls : List Nat) (nm : List UInt8) (p : Nat) (rg : List UInt8) : ∀ (ts : List PT) (id site : Nat) (env : TEnv) (st : TSt), ts.length = arity .let_ → wfL ts → (tyLet cls nm ts id site env st).2.e = 0 → st.e = 0 ∧ WT (bareE env) (.node p .let_ nm rg ts) (tyLet cls nm ts id site env st).1.bare
  | [a, b], id, site, env, st, _, hw, h => by
    simp only [wfL] at hw
    simp only [tyLet] at h ⊢
    have h2 := tyFind_WT cls b (id + a.cnt) (site + a.prs) _ _ hw.2.1 h
    have h1 := tyFind_WT cls a id site env st hw.1 h2.1
    rw [bareE_snoc] at h2
    exact ⟨h1.1, .let_ h1.2.2 h2.2.2⟩
  | [], _, _, _, _, hl, _, _ => by simp [arity] at hl
  | [_], _, _, _, _, hl, _, _ => by simp [arity] at hl
  | _ :: _ :: _ :: _, _, _, _, _, hl, _, _ => by simp [arity] at hl
theorem tyLoop_WT (cls : List Nat) (nm : List UInt8) (p : Nat) (rg : List UInt8) : ∀ (ts : List PT) (id site : Nat) (env : TEnv) (st : TSt), ts.length = arity .loop → wfL ts → (tyLoop cls nm ts id site env st).2.e = 0 →
    ∀ q s, (madeT cls .loop q s (tyLoop cls nm ts id site env st).1 (tyLoop cls nm ts id site env st).2).2.e = 0 → st.e = 0 ∧ WT (bareE env) (.node p .loop nm rg ts) (madeT cls .loop q s (tyLoop cls nm ts id site env st).1 (tyLoop cls nm ts id site env st).2).1.bare
  | [a, b, c], id, site, env, st, _, hw, h, q, s, hm => by
    simp only [wfL] at hw
    simp only [tyLoop] at h hm ⊢
    have h3 := tyFind_WT cls c (id + a.cnt + b.cnt) (site + a.prs + b.prs) _ _ hw.2.2.1 h
    have h2 := tyFind_WT cls b (id + a.cnt) (site + a.prs) env _ hw.2.1 h3.1
    have h1 := tyFind_WT cls a id site env st hw.1 h2.1
    rw [bareE_snoc] at h3
    simp only [madeT] at hm ⊢
    split at hm
    · rename_i hc
      rw [if_pos hc]
      refine ⟨h1.1, ?_⟩
      have ha := h1.2.2
      rw [hc.1] at ha
      exact .loop ha h2.2.2 (by have := h3.2.2; rw [← hc.2] at this; exact this)
    · exact (errS_zero (by decide) hm).elim
  | [], _, _, _, _, hl, _, _, _, _, _ => by simp [arity] at hl
  | [_], _, _, _, _, hl, _, _, _, _, _ => by simp [arity] at hl
  | [_, _], _, _, _, _, hl, _, _, _, _, _ => by simp [arity] at hl
  | _ :: _ :: _ :: _ :: _, _, _, _, _, hl, _, _, _, _, _ => by simp [arity] at hl
end
end Go.Proofs.YtpicaknklgccoaaGreatDoor

/- leaseref's number and split, at texts of values. -/
namespace Go.Proofs.YtpicaknklgccoaaGreatDoor
open Go.RowKit
open Go.Lib (decDigits)

def numL (l : List UInt8) : Int := l.foldl (fun n c => 10 * n + (c.toNat : Int) - 48) 0
theorem numL_snoc (l : List UInt8) (c : UInt8) : numL (l ++ [c]) = 10 * numL l + (c.toNat : Int) - 48 := by
  unfold numL; rw [List.foldl_append]; rfl
theorem numL_dec (u : Nat) : numL (decDigits u) = u := by
  induction u using Nat.strongRecOn with
  | _ u ih =>
    have key : ∀ k, k < 10 → ((UInt8.ofNat (48 + k)).toNat : Int) = 48 + k := by
      intro k hk
      have : (UInt8.ofNat (48 + k)).toNat = 48 + k := by simp; omega
      omega
    rw [decDigits]
    split
    · rename_i h
      show 10 * (0 : Int) + ((UInt8.ofNat (48 + u)).toNat : Int) - 48 = u
      rw [key u h]; omega
    · rw [numL_snoc, ih (u / 10) (by omega), key _ (by omega)]; omega
theorem numL_bd : ∀ (l : List UInt8) (a b : Int), a ≤ 0 → 0 ≤ b → l.length ≤ 5 → ∀ k, k ≤ l.length → -(30 * 10 ^ k - 30) ≤ numL (l.take k) ∧ numL (l.take k) ≤ 30 * 10 ^ k - 30 := by
  intro l a b _ _ hl k
  induction k with
  | zero => intro _; simp [numL]
  | succ k ih =>
    intro hk
    have hlt : k < l.length := by omega
    have h := ih (by omega)
    rw [List.take_succ_eq_append_getElem hlt, numL_snoc]
    have hc : (l[k].toNat : Int) < 256 := by have := l[k].toNat_lt; omega
    have hp : (10 : Int) ^ (k + 1) = 10 * 10 ^ k := by rw [Int.pow_succ]; omega
    rw [hp]
    omega

set_option maxHeartbeats 400000 in
theorem number_any (s : ByteArray) (w : World) (hs : s.size ≤ 5) :
    Calls Tryz.prog 63 #[.string s] w fun e w' => e = .returned (.int .i64 (numL s.data.toList)) ∧ w' = w := by
  go_enter Tryz.func63, Tryz.ntmps63
  go_wp2
  go_loop [3, 4] (fun n i => ∃ k : Nat, k ≤ s.size ∧ i = .int .i64 k ∧ n = .int .i64 (numL (s.data.toList.take k))) (fun _ i => s.size - (intOf i).toNat)
  case atStart => exact ⟨0, by omega, rfl, rfl⟩
  case round =>
    obtain ⟨k, hk, rfl, rfl⟩ := hrel
    have hb := numL_bd s.data.toList 0 0 (by omega) (by omega) (by simp; omega) k (by simp; omega)
    have hp := pow5 k (by omega)
    obtain ⟨m, hm⟩ : ∃ m, m = numL (s.data.toList.take k) := ⟨_, rfl⟩
    rw [← hm] at hb
    obtain ⟨hb1, hb2⟩ : -3000000 ≤ m ∧ m ≤ 3000000 := by omega
    clear hp hb
    by_cases hlt : k < s.size
    · have hsn : numL (s.data.toList.take (k + 1)) = 10 * m + (s[k].toNat : Int) - 48 := by rw [take_snoc s k hlt, numL_snoc, hm]
      have HS : Hid _ := hsn
      have hcb : s[k].toNat < 256 := s[k].toNat_lt
      have HC : Hid _ := hcb
      clear hsn hcb
      rw [← hm]
      have HM : Hid _ := hm
      clear hm
      go_wp2
      go_round
      case rel =>
        refine ⟨k + 1, by omega, by go_num, ?_⟩
        have := HC.out
        rw [HS.out]
        rw [IntWalk.wrap64_in (s[k].toNat : Int) (by omega), IntWalk.wrap64_in (10 * m + (s[k].toNat : Int)) (by omega), IntWalk.wrap64_in _ (by omega)]
      case measure => simp [intOf]; omega
    · go_wp2
      go_ret
      exact ⟨ret_int (by rw [List.take_of_length_le (by simp; omega)]), rfl⟩
theorem number_dec (k : Nat) (w : World) (hk : k ≤ 9999) : Calls Tryz.prog 63 #[.string (bs (decDigits k))] w fun e w' => e = .returned (.int .i64 k) ∧ w' = w := by
  have hl : (decDigits k).length ≤ 4 := by
    rw [decDigits]; split
    · simp
    · rw [decDigits]; split
      · simp
      · rw [decDigits]; split
        · simp
        · rw [decDigits]; split
          · simp
          · omega
  have := number_any (bs (decDigits k)) w (by rw [bs_size]; omega)
  rw [bs_toList, numL_dec] at this
  exact this

/-- where the blank of a pair's text is -/
def scanL : Int → List UInt8 → Option Nat
  | _, [] => none
  | o, c :: r => if c = 91 then (scanL (o + 1) r).map (· + 1) else if c = 93 then (scanL (o - 1) r).map (· + 1) else if c = 32 ∧ o = 1 then some 0 else (scanL o r).map (· + 1)
theorem scan_digits (o : Int) (r : List UInt8) : ∀ l : List UInt8, (∀ c ∈ l, digitB c = true) → scanL o (l ++ r) = (scanL o r).map (· + l.length)
  | [], _ => by simp
  | c :: l, h => by
    have hc := h c (by simp)
    have h1 : c ≠ 91 ∧ c ≠ 93 ∧ c ≠ 32 := by
      unfold digitB at hc
      simp only [Bool.and_eq_true, decide_eq_true_eq] at hc
      refine ⟨?_, ?_, ?_⟩ <;> (intro e; subst e; revert hc; decide)
    rw [List.cons_append, scanL, if_neg h1.1, if_neg h1.2.1, if_neg (fun e => h1.2.2 e.1), scan_digits o r l (fun c hc => h c (by simp [hc]))]
    rw [Option.map_map]
    congr 1
theorem scan_txt : ∀ (v : Vl) (o : Int) (r : List UInt8), 1 ≤ o → scanL o (v.txt ++ r) = (scanL o r).map (· + v.txt.length)
  | .n k, o, r, _ => by simp only [Vl.txt]; exact scan_digits o r _ (dec_digit k)
  | .p a b, o, r, ho => by
    simp only [Vl.txt, List.cons_append, List.append_assoc]
    rw [scanL, if_pos rfl, scan_txt a (o + 1) _ (by omega), scanL, if_neg (by decide), if_neg (by decide), if_neg (by omega), scan_txt b (o + 1) _ (by omega), List.nil_append, scanL, if_neg (by decide), if_pos rfl]
    rw [show o + 1 - 1 = o from by omega]
    cases scanL o r with
    | none => rfl
    | some x =>
      simp only [Option.map_some, List.length_cons, List.length_append, List.length_nil]
      congr 1; omega
theorem scan_pair (a b : Vl) : scanL 0 (Vl.p a b).txt = some (1 + a.txt.length) := by
  simp only [Vl.txt]
  rw [scanL, if_pos rfl, scan_txt a _ _ (by omega), scanL, if_neg (by decide), if_neg (by decide), if_pos ⟨rfl, by omega⟩]
  simp only [Option.map_some]
  congr 1; omega
theorem scan_at (s : ByteArray) (k : Nat) (h : k < s.size) (o : Int) : scanL o (s.data.toList.drop k) =
    if s[k] = 91 then (scanL (o + 1) (s.data.toList.drop (k + 1))).map (· + 1) else if s[k] = 93 then (scanL (o - 1) (s.data.toList.drop (k + 1))).map (· + 1) else if s[k] = 32 ∧ o = 1 then some 0 else (scanL o (s.data.toList.drop (k + 1))).map (· + 1) := by
  rw [drop_cons s k h]; rfl
theorem opt_shift {x : Option Nat} {j k : Nat} (h : some j = (x.map (· + 1)).map (· + k)) : some j = x.map (· + (k + 1)) := by
  rw [h, Option.map_map]
  congr 1
  funext y
  simp only [Function.comp]; omega

set_option maxHeartbeats 800000 in
theorem split_any (s xa xb : ByteArray) (j : Nat) (w : World) (hs : s.size ≤ 100000) (hj : scanL 0 s.data.toList = some j) (hj1 : 1 ≤ j) (hj2 : j + 2 ≤ s.size) (hxa : Hid (s.extract 1 j = xa)) (hxb : Hid (s.extract (j + 1) (s.size - 1) = xb)) :
    Calls Tryz.prog 103 #[.string s] w fun e w' => e = .returned (.tuple #[.string xa, .string xb]) ∧ ∃ n, w' = w.drewN n := by
  have HJ : Hid _ := hj
  clear hj
  go_enter Tryz.func103, Tryz.ntmps103
  go_wp2
  go_loop [4, 5] (fun o i => ∃ (k : Nat) (q : Int), k ≤ s.size ∧ i = .int .i64 k ∧ o = .int .i64 q ∧ -(k : Int) ≤ q ∧ q ≤ k ∧ some j = (scanL q (s.data.toList.drop k)).map (· + k)) (fun _ i => s.size - (intOf i).toNat)
  case atStart => exact ⟨0, 0, by omega, rfl, rfl, by omega, by omega, by rw [List.drop_zero, HJ.out]; rfl⟩
  case round =>
    obtain ⟨k, q, hk, rfl, rfl, hq1, hq2, hall⟩ := hrel
    have HA : Hid _ := hall
    clear hall
    by_cases hlt : k < s.size
    · have hst := scan_at s k hlt q
      have HS : Hid _ := hst
      have b91 : ((s[k].toNat : Int) == 91) = decide (s[k] = 91) := beq_of s[k] 91
      have b93 : ((s[k].toNat : Int) == 93) = decide (s[k] = 93) := beq_of s[k] 93
      have b32 : ((s[k].toNat : Int) == 32) = decide (s[k] = 32) := beq_of s[k] 32
      clear hst
      by_cases h1 : s[k] = 91
      · have HS2 : Hid (some j = (scanL (q + 1) (s.data.toList.drop (k + 1))).map (· + (k + 1))) := by
          have := HA.out; rw [HS.out, if_pos h1] at this; exact opt_shift this
        rw [decide_eq_true h1] at b91
        clear h1 HS b93 b32
        go_wp2
        go_round
        case rel => exact ⟨k + 1, q + 1, by omega, by go_num, by go_num, by omega, by omega, HS2.out⟩
        case measure => simp [intOf]; omega
      · rw [decide_eq_false h1] at b91
        by_cases h2 : s[k] = 93
        · have HS2 : Hid (some j = (scanL (q - 1) (s.data.toList.drop (k + 1))).map (· + (k + 1))) := by
            have := HA.out; rw [HS.out, if_neg h1, if_pos h2] at this; exact opt_shift this
          rw [decide_eq_true h2] at b93
          clear h1 h2 HS b32
          go_wp2
          go_round
          case rel => exact ⟨k + 1, q - 1, by omega, by go_num, by go_num, by omega, by omega, HS2.out⟩
          case measure => simp [intOf]; omega
        · rw [decide_eq_false h2] at b93
          by_cases h3 : s[k] = 32
          · rw [decide_eq_true h3] at b32
            by_cases hq : q = 1
            · have hjk : j = k := by
                have := HA.out; rw [HS.out, if_neg h1, if_neg h2, if_pos ⟨h3, hq⟩] at this
                simp only [Option.map_some, Option.some.injEq] at this; omega
              subst hjk
              subst hq
              clear h1 h2 h3 HS
              go_wp2
              go_quiet (fail)
              go_wp2
              refine bodyPost_ret (v := .tuple #[.string (s.extract 1 j), .string (s.extract (j + 1) (s.size - 1))]) (by simp [results, Tryz.results103, go_sem]) rfl ⟨by rw [← hxa.out, ← hxb.out], _, rfl⟩
            · have HS2 : Hid (some j = (scanL q (s.data.toList.drop (k + 1))).map (· + (k + 1))) := by
                have := HA.out; rw [HS.out, if_neg h1, if_neg h2, if_neg (fun e => hq e.2)] at this; exact opt_shift this
              have hq' : (q == 1) = false := by rw [beq_eq_false_iff_ne]; exact hq
              clear h1 h2 h3 HS
              go_wp2
              go_round
              case rel => exact ⟨k + 1, q, by omega, by go_num, by go_num, by omega, by omega, HS2.out⟩
              case measure => simp [intOf]; omega
          · rw [decide_eq_false h3] at b32
            have HS2 : Hid (some j = (scanL q (s.data.toList.drop (k + 1))).map (· + (k + 1))) := by
              have := HA.out; rw [HS.out, if_neg h1, if_neg h2, if_neg (fun e => h3 e.1)] at this; exact opt_shift this
            clear h1 h2 h3 HS
            go_wp2
            go_round
            case rel => exact ⟨k + 1, q, by omega, by go_num, by go_num, by omega, by omega, HS2.out⟩
            case measure => simp [intOf]; omega
    · exfalso
      have := HA.out
      rw [drop_end s k (by omega)] at this
      simp [scanL] at this

theorem Vl.txt_len (a b : Vl) : (Vl.p a b).txt.length = a.txt.length + b.txt.length + 3 := by simp only [Vl.txt, List.length_cons, List.length_append, List.length_nil]; omega
theorem Vl.txt_pos : ∀ v : Vl, 0 < v.txt.length
  | .n k => dec_pos k
  | .p a b => by rw [Vl.txt_len]; omega
theorem split_p (a b : Vl) (w : World) (hs : (Vl.p a b).txt.length ≤ 100000) :
    Calls Tryz.prog 103 #[.string (bs (Vl.p a b).txt)] w fun e w' => e = .returned (.tuple #[.string (bs a.txt), .string (bs b.txt)]) ∧ ∃ n, w' = w.drewN n := by
  have hl := Vl.txt_len a b
  have hsz : (bs (Vl.p a b).txt).size = (Vl.p a b).txt.length := bs_size _
  refine split_any (bs (Vl.p a b).txt) (bs a.txt) (bs b.txt) (1 + a.txt.length) w (by omega) (by rw [bs_toList]; exact scan_pair a b) (by omega) (by have := b.txt_pos; omega) ?_ ?_
  · exact ext_bs _ _ _ _ (by rw [bs_toList]; simp [Vl.txt])
  · refine ext_bs _ _ _ _ ?_
    rw [bs_toList, hsz, hl]
    simp only [Vl.txt]
    rw [show 1 + a.txt.length + 1 = (a.txt.length + 1) + 1 from by omega, List.drop_succ_cons, List.drop_append, List.drop_eq_nil_of_le (by omega), List.nil_append, show a.txt.length + 1 - a.txt.length = 1 from by omega]
    simp only [List.drop_succ_cons, List.drop_zero]
    rw [List.take_append_of_le_length (by omega), List.take_of_length_le (by omega)]

/-- a value's text is short -/
theorem Vl.has_len : ∀ {v : Vl} {T : Ty}, v.has T → v.txt.length ≤ 7 * T.size + 4
  | .n k, .n, h => by
    simp only [Vl.has] at h
    simp only [Vl.txt, Ty.size]
    rw [decDigits]; split
    · simp
    · rw [decDigits]; split
      · simp
      · rw [decDigits]; split
        · simp
        · rw [decDigits]; split
          · simp
          · omega
  | .p a b, .p _ x y, h => by
    simp only [Vl.has] at h
    have h1 := Vl.has_len h.1
    have h2 := Vl.has_len h.2
    rw [Vl.txt_len]
    simp only [Ty.size]; omega
  | .n _, .p _ _ _, h => by simp [Vl.has] at h
  | .p _ _, .n, h => by simp [Vl.has] at h
end Go.Proofs.YtpicaknklgccoaaGreatDoor

/- The plain text of a tree (the document's P6), and leaseref's Text without regions and news. -/
namespace Go.Proofs.YtpicaknklgccoaaGreatDoor
open Go.RowKit
open Go.Lib (decDigits)

def pieceT (k : Kw) (nm : List UInt8) (i : Nat) (x : List UInt8) : List UInt8 := (if (k = .let_ ∧ i = 0) ∨ (k = .loop ∧ i = 1) then 32 :: nm else []) ++ (32 :: x)
def joinT (k : Kw) (nm : List UInt8) : Nat → List (List UInt8) → List UInt8
  | _, [] => []
  | i, x :: r => pieceT k nm i x ++ joinT k nm (i + 1) r
theorem joinT_snoc (k : Kw) (nm : List UInt8) (x : List UInt8) : ∀ (l : List (List UInt8)) (i : Nat), joinT k nm i (l ++ [x]) = joinT k nm i l ++ pieceT k nm (i + l.length) x
  | [], i => by simp [joinT]
  | y :: r, i => by
    simp only [List.cons_append, joinT, joinT_snoc k nm x r (i + 1), List.append_assoc, List.length_cons]
    rw [show i + 1 + r.length = i + (r.length + 1) from by omega]
mutual
def PT.ptx : PT → List UInt8
  | .num _ s => decDigits (valueL s).toNat
  | .name _ s => s
  | .node _ k nm _ kids => if k = .new then (ptxL kids).headD [] else 40 :: (k.bytes ++ (joinT k nm 0 (ptxL kids) ++ [41]))
def ptxL : List PT → List (List UInt8)
  | [] => []
  | t :: r => t.ptx :: ptxL r
end
theorem ptxL_len : ∀ ts : List PT, (ptxL ts).length = ts.length
  | [] => rfl
  | _ :: r => by simp [ptxL, ptxL_len r]
theorem ptxL_get : ∀ (ts : List PT) (i : Nat), (ptxL ts)[i]? = (ts[i]?).map PT.ptx
  | [], i => by simp [ptxL]
  | t :: r, 0 => by simp [ptxL]
  | t :: r, i + 1 => by simp [ptxL, ptxL_get r i]

mutual
/-- names and numbers as tokens have them -/
def PT.tame : PT → Prop
  | .num _ s => 0 ≤ valueL s ∧ valueL s ≤ 9999
  | .name _ s => s.length ≤ 9000
  | .node _ _ nm _ kids => nm.length ≤ 9000 ∧ tameL kids
def tameL : List PT → Prop
  | [] => True
  | t :: r => t.tame ∧ tameL r
end
theorem dec_len4 (u : Nat) (h : u ≤ 9999) : (decDigits u).length ≤ 4 := by
  rw [Go.Lib.decDigits]; split
  · simp
  · rw [Go.Lib.decDigits]; split
    · simp
    · rw [Go.Lib.decDigits]; split
      · simp
      · rw [Go.Lib.decDigits]; split
        · simp
        · omega
theorem pieceT_len (k : Kw) (nm : List UInt8) (i : Nat) (x : List UInt8) (h : nm.length ≤ 9000) : (pieceT k nm i x).length ≤ 9002 + x.length := by
  unfold pieceT; split <;> simp <;> omega
mutual
theorem ptx_len : ∀ t : PT, t.tame → t.ptx.length + 9002 ≤ 20000 * t.cnt
  | .num _ s, h => by
    simp only [PT.tame] at h
    simp only [PT.ptx, PT.cnt]
    have := dec_len4 (valueL s).toNat (by omega)
    omega
  | .name _ s, h => by simp only [PT.tame] at h; simp only [PT.ptx, PT.cnt]; omega
  | .node _ k nm _ kids, h => by
    simp only [PT.tame] at h
    have h1 := joinT_len k nm kids 0 h.1 h.2
    have h2 := ptxL_head kids h.2
    have h3 : k.bytes.length ≤ 4 := by cases k <;> decide
    simp only [PT.ptx, PT.cnt]
    split
    · omega
    · simp only [List.length_cons, List.length_append, List.length_nil]; omega
theorem joinT_len (k : Kw) (nm : List UInt8) : ∀ (ts : List PT) (i : Nat), nm.length ≤ 9000 → tameL ts → (joinT k nm i (ptxL ts)).length ≤ 20000 * cntL ts
  | [], _, _, _ => by simp [ptxL, joinT]
  | t :: r, i, h, ht => by
    simp only [tameL] at ht
    have h1 := ptx_len t ht.1
    have h2 := joinT_len k nm r (i + 1) h ht.2
    have h3 := pieceT_len k nm i t.ptx h
    simp only [ptxL, joinT, List.length_append, cntL]
    omega
theorem ptxL_head : ∀ ts : List PT, tameL ts → ((ptxL ts).headD []).length ≤ 20000 * cntL ts
  | [], _ => by simp [ptxL]
  | t :: r, ht => by
    simp only [tameL] at ht
    have h1 := ptx_len t ht.1
    simp only [ptxL, List.headD_cons, cntL]; omega
end
end Go.Proofs.YtpicaknklgccoaaGreatDoor
