import Derived.Test.YtglkpkmdoohdcaaDoorRw
namespace Go.Proofs.YtglkpkmdoohdcaaDoor
open Go.RowKit

def loopF (cls : List Nat) (p : Nat) (nm : List UInt8) (kids : List PT) (id site : Nat) (env : TEnv) (st : TSt) : Ty × TSt :=
  if (tyLoop cls nm kids (id + 1) site env st).2.e ≠ 0 then (.n, (tyLoop cls nm kids (id + 1) site env st).2)
  else madeT cls .loop p site (tyLoop cls nm kids (id + 1) site env st).1 (tyLoop cls nm kids (id + 1) site env st).2

/-- behind a find whose type is stored into the array k (block ab): all as before -/
theorem step_store {w0 w wr w2 : World} {yb ab j : Nat} {cls : List Nat} {cv nv tv ov nv1 tv1 nv2 tv2 : Value} {env : TEnv} {st1 : TSt} {ks : List Ty} {ty : Ty}
    (hlc : ∀ g, cv.ownBlock = some g → g < ab) (hlo : ∀ g, ov.ownBlock = some g → g < ab) (hyb : yb < ab) (hwab : w.heap.size = ab) (hw0 : w0.heap.size ≤ ab) (hfr : Fr w wr yb nv tv ov nv1 tv1) (hab : ab < wr.heap.size) (hn1 : nv1.ownBlock ≠ some ab) (ht1 : tv1.ownBlock ≠ some ab)
    (hfr2 : Fr wr w2 yb nv1 tv1 ov nv2 tv2) (hin2 : TyIn w0 w2 yb cls cv nv2 tv2 ov env st1) (hka : wr.heap[ab]? = some (.cells (kArr ks) 104 (0, 0))) (hlk : ks.length = j) :
    nv2.ownBlock ≠ some ab ∧ tv2.ownBlock ≠ some ab ∧ w2.heap[ab]? = some (.cells (kArr ks) 104 (0, 0)) ∧ TyIn w0 (w2.setCell ⟨ab, j, none⟩ (.string (bs ty.txt))) yb cls cv nv2 tv2 ov env st1 ∧
    Fr w (w2.setCell ⟨ab, j, none⟩ (.string (bs ty.txt))) yb nv tv ov nv2 tv2 ∧ (w2.setCell ⟨ab, j, none⟩ (.string (bs ty.txt))).heap[ab]? = some (.cells (kArr (ks ++ [ty])) 104 (0, 0)) ∧ ab < w2.heap.size := by
  have hsz2 := hfr2.size
  have hn2 : nv2.ownBlock ≠ some ab := by
    intro e
    rcases hfr2.n _ e with e | e
    · exact hn1 e
    · omega
  have ht2 : tv2.ownBlock ≠ some ab := by
    intro e
    rcases hfr2.t _ e with e | e
    · exact ht1 e
    · omega
  have ho2 : ov.ownBlock ≠ some ab := fun e => by have := hlo _ e; omega
  have hc2 : cv.ownBlock ≠ some ab := fun e => by have := hlc _ e; omega
  have hka2 : w2.heap[ab]? = some (.cells (kArr ks) 104 (0, 0)) := by
    rw [hfr2.blk _ hab (by omega) hn1 ht1 ho2]; exact hka
  refine ⟨hn2, ht2, hka2, TyIn.other hin2 hw0 (by omega) hc2 hn2 ht2 ho2 rfl, ?_, ?_, by omega⟩
  · have h := hfr.trans hfr2
    refine ⟨by have := h.size; simp [World.setCell]; exact this, ?_, h.n, h.t⟩
    intro q hq hy hn ht ho
    rw [blk_other _ _ (by simp only; omega)]
    exact h.blk q hq hy hn ht ho
  · have h := blk_set hka2 j (.string (bs ty.txt))
    rw [← kArr_snoc, hlk]; exact h

set_option maxRecDepth 100000 in
set_option maxHeartbeats 8000000 in
theorem form_loop {w0 : World} {yb : Nat} {cls : List Nat} (p : Nat) (nm rg : List UInt8) (x1 x2 x3 : PT) (hc100 : ∀ x ∈ cls, x < 100) (hcl : cls.length ≤ 9000)
    (hf1 : FindOk w0 yb cls x1) (hf2 : FindOk w0 yb cls x2) (hf3 : FindOk w0 yb cls x3) : FormOk w0 yb cls (.node p .loop nm rg [x1, x2, x3]) (fun id site env st => loopF cls p nm [x1, x2, x3] id site env st) := by
  intro id site b F env st cv nv tv ov w hT hin hid hsite hs1 hs2 henv
  simp only [IsT] at hT
  obtain ⟨hFb, kv, bl, hblk, hF, hkv, hts⟩ := hT
  have hb := blk_lt hblk
  have hw0 := hin.b0.size
  have hbw : b < w.heap.size := by omega
  have hne : b ≠ yb := by have := hin.hyb; omega
  obtain ⟨gk, kc, hvk⟩ : ∃ gk kc, kv = .slice (some ⟨gk, 0, none⟩) 3 kc := by
    rcases hkv.2 with ⟨_, h'⟩ | ⟨g, cap, cur, h, _⟩
    · simp at h'
    · exact ⟨_, _, h⟩
  subst hvk
  obtain ⟨b1, hb1, hT1⟩ := IsTs.at _ _ _ _ hts 0 x1 rfl
  obtain ⟨b2, hb2, hT2⟩ := IsTs.at _ _ _ _ hts 1 x2 rfl
  obtain ⟨b3, hb3, hT3⟩ := IsTs.at _ _ _ _ hts 2 x3 rfl
  have k1 : w0.cell? ⟨gk, 0, none⟩ = some (ptr b1) := by rw [hkv.cellAt 0 (by simp)]; simp [hb1]
  have k2 : w0.cell? ⟨gk, 1, none⟩ = some (ptr b2) := by rw [hkv.cellAt 1 (by simp)]; simp [hb2]
  have k3 : w0.cell? ⟨gk, 2, none⟩ = some (ptr b3) := by rw [hkv.cellAt 2 (by simp)]; simp [hb3]
  have hgkw : gk < w0.heap.size := World.block_lt_of_cell? _ _ k1
  have hgkw' : gk < w.heap.size := by omega
  have hbx : w.heap[b]? = some (.cells (exCells Kw.loop.bytes p nm (valueL rg) (.slice (some ⟨gk, 0, none⟩) 3 kc) id (id + cntL [x1, x2, x3]) site) 82 (0, 0)) := by rw [hin.b0.block b hb]; exact hblk
  have x0 : w.cell? ⟨b, 0, none⟩ = some (.string (bs Kw.loop.bytes)) := by rw [blk_cell hbx]; rfl
  have x4 : w.cell? ⟨b, 4, none⟩ = some (.slice (some ⟨gk, 0, none⟩) 3 kc) := by rw [blk_cell hbx]; rfl
  have k1w : w.cell? ⟨gk, 0, none⟩ = some (.pointer (some ⟨b1, 0, none⟩)) := (hin.b0.cell (p := ⟨gk, 0, none⟩) hgkw).trans k1
  have q0 : ((bs Kw.loop.bytes).toList == [110, 117, 109, 98, 101, 114]) = false := by rw [bs_beq0]; decide
  have q1 : ((bs Kw.loop.bytes).toList == [110, 97, 109, 101]) = false := by rw [bs_beq0]; decide
  have q2 : ((bs Kw.loop.bytes).toList == [108, 101, 116]) = false := by rw [bs_beq0]; decide
  have q3 : ((bs Kw.loop.bytes).toList == [108, 111, 111, 112]) = true := by rw [bs_beq0]; decide
  have hyb := hin.hyb
  simp only [PT.cnt, PT.prs, cntL, prsL] at hid hsite henv
  simp only [cntL, prsL, List.take_zero, List.take_succ_cons, Nat.add_zero] at hT1 hT2 hT3
  rw [if_neg (by decide)] at hsite hT1 hT2 hT3
  simp only [Nat.add_zero] at hT1 hT2 hT3
  rw [← Nat.add_assoc (id + 1), ← Nat.add_assoc site] at hT3
  have hlt1 : ∀ g, nv.ownBlock = some g → g < w.heap.size := fun g hg => (hin.n.lt g hg).2
  have hlt2 : ∀ g, tv.ownBlock = some g → g < w.heap.size := fun g hg => (hin.t.lt g hg).2
  have hlt3 : ∀ g, ov.ownBlock = some g → g < w.heap.size := fun g hg => (hin.o.lt g hg).2
  have hlt4 : ∀ g, cv.ownBlock = some g → g < w.heap.size := fun g hg => (hin.c.lt g hg).2
  have hyw := blk_lt hin.y
  have hinA : TyIn w0 (w.alloc (.cells (kArr []) 104)) yb cls cv nv tv ov env st := hin.grow ((Below.refl _ _).alloc (Nat.le_refl _) _)
  have hfrA : Fr w (w.alloc (.cells (kArr []) 104)) yb nv tv ov nv tv := Fr.below ((Below.refl _ _).alloc (Nat.le_refl _) _) _ _ _ _
  have hfo := hf1 (id + 1) site b1 F env st cv nv tv ov _ hT1 hinA (by omega) (by omega) hs1 hs2 (by omega)
  have heo : envOk env st := ⟨hs1, hs2⟩
  have hok1 := tyFind_ok cls hc100 x1 (id + 1) site env st heo
  obtain ⟨R1, hR1⟩ : ∃ R, R = tyFind cls x1 (id + 1) site env st := ⟨_, rfl⟩
  rw [← hR1] at hfo hok1
  have heo2 : envOk env R1.2 := heo.on (fun h0 => (hok1.2.1 h0).1)
  have hok2 := tyFind_ok cls hc100 x2 (id + 1 + x1.cnt) (site + x1.prs) env R1.2 heo2
  obtain ⟨R2, hR2⟩ : ∃ R, R = tyFind cls x2 (id + 1 + x1.cnt) (site + x1.prs) env R1.2 := ⟨_, rfl⟩
  rw [← hR2] at hok2
  have heo3 : envOk env R2.2 := heo2.on (fun h0 => (hok2.2.1 h0).1)
  have hok3 := tyFind_ok cls hc100 x3 (id + 1 + x1.cnt + x2.cnt) (site + x1.prs + x2.prs) (env ++ [(nm, R2.1)]) R2.2 (heo2.snoc hok2)
  obtain ⟨R3, hR3⟩ : ∃ R, R = tyFind cls x3 (id + 1 + x1.cnt + x2.cnt) (site + x1.prs + x2.prs) (env ++ [(nm, R2.1)]) R2.2 := ⟨_, rfl⟩
  rw [← hR3] at hok3
  have hfin : loopF cls p nm [x1, x2, x3] id site env st = if R3.2.e ≠ 0 then (.n, R3.2) else madeT cls .loop p site [R1.1, R2.1, R3.1] R3.2 := by
    subst hR3; subst hR2; subst hR1; rfl
  have HFIN : Hid _ := hfin
  obtain ⟨FF, hFF⟩ : ∃ FF, FF = loopF cls p nm [x1, x2, x3] id site env st := ⟨_, rfl⟩
  show Calls _ _ #[Value.pointer (some ⟨yb, 0, none⟩), Value.pointer (some ⟨b, 0, none⟩)] w (fun v w' => v = .returned (.string (bs (loopF cls p nm [x1, x2, x3] id site env st).1.txt)) ∧ ∃ nv' tv', Fr w w' yb nv tv ov nv' tv' ∧ TyIn w0 w' yb cls cv nv' tv' ov env (loopF cls p nm [x1, x2, x3] id site env st).2)
  rw [← hFF] at HFIN ⊢
  unfold ptr at hfo
  have HBLK : Hid _ := hblk
  have HK2 : Hid _ := k2
  have HK3 : Hid _ := k3
  have HT2 : Hid _ := hT2
  have HT3 : Hid _ := hT3
  have HO1 : Hid (resOk st R1) := hok1
  have HO2 : Hid (resOk R1.2 R2) := hok2
  have HO3 : Hid (resOk R2.2 R3) := hok3
  have HE1 : Hid (envOk env st) := heo
  have HE2 : Hid (envOk env R1.2) := heo2
  have HE3 : Hid (envOk env R2.2) := heo3
  have HR2 : Hid _ := hR2
  have HR3 : Hid _ := hR3
  have HFA : Hid _ := hfrA
  clear hblk hin hkv hts hbx hFb hF hs1 hs2 k1 k2 k3 hT1 hT2 hT3 hR1 hR2 hR3 hfin hok1 hok2 hok3 hinA hb1 hb2 hb3 heo heo2 heo3 hFF hfrA
  go_enter Tryd.func83, Tryd.ntmps83
  go_wp2_with fail
  refine hfo.mono ?_
  rintro e w2 ⟨rfl, nv2, tv2, hfr2, hin2⟩
  obtain ⟨hn2, ht2, hka2, hWin, hWfr, hWka, hab2⟩ := step_store (ty := R1.1) (ks := []) (j := 0) hlt4 hlt3 hyw rfl hw0 HFA.out (by simp) (fun e => by have := hlt1 _ e; omega) (fun e => by have := hlt2 _ e; omega) hfr2 hin2 (blk_new _ _) rfl
  have z0 : w2.cell? ⟨w.heap.size, 0, none⟩ = some (.string (bs [])) := by rw [blk_cell hka2]; rfl
  have zf : w2.frozen? ⟨w.heap.size, 0, none⟩ = false := blk_free hka2 0
  have hb2' : w2.heap[b]? = some (.cells (exCells Kw.loop.bytes p nm (valueL rg) (.slice (some ⟨gk, 0, none⟩) 3 kc) id (id + cntL [x1, x2, x3]) site) 82 (0, 0)) := by rw [hin2.b0.block b hb]; exact HBLK.out
  have x42 : w2.cell? ⟨b, 4, none⟩ = some (.slice (some ⟨gk, 0, none⟩) 3 kc) := by rw [blk_cell hb2']; rfl
  have k22 : w2.cell? ⟨gk, 1, none⟩ = some (.pointer (some ⟨b2, 0, none⟩)) := (hin2.b0.cell (p := ⟨gk, 1, none⟩) hgkw).trans HK2.out
  have hfo2 := hf2 (id + 1 + x1.cnt) (site + x1.prs) b2 F env R1.2 cv nv2 tv2 ov _ HT2.out hWin (by have := HO1.out.2.2; omega) (by omega) HE2.out.1 HE2.out.2 (by omega)
  rw [← HR2.out] at hfo2
  unfold ptr at hfo2
  have HW2 : Hid _ := And.intro hWfr (And.intro hWka (And.intro hn2 ht2))
  have hbw2 : b < w2.heap.size := by omega
  clear hfo hfr2 hin2 hka2 hWin hWfr hWka hn2 ht2 hb2' x4 k1w x0 q0 q1 q2 q3
  go_wp2_with fail
  refine hfo2.mono ?_
  rintro e w3 ⟨rfl, nv3, tv3, hfr3, hin3⟩
  obtain ⟨hn3, ht3, hka3, hWin3, hWfr3, hWka3, hab3⟩ := step_store (ty := R2.1) (ks := [R1.1]) (j := 1) hlt4 hlt3 hyw rfl hw0 HW2.out.1 (by simp [World.setCell]; omega) HW2.out.2.2.1 HW2.out.2.2.2 hfr3 hin3 HW2.out.2.1 rfl
  have z1 : w3.cell? ⟨w.heap.size, 1, none⟩ = some (.string (bs [])) := by rw [blk_cell hka3]; rfl
  have zf1 : w3.frozen? ⟨w.heap.size, 1, none⟩ = false := blk_free hka3 1
  have z2 : w3.cell? ⟨w.heap.size, 2, none⟩ = some (.string (bs [])) := by rw [blk_cell hka3]; rfl
  have zf2 : w3.frozen? ⟨w.heap.size, 2, none⟩ = false := blk_free hka3 2
  have hb3' : w3.heap[b]? = some (.cells (exCells Kw.loop.bytes p nm (valueL rg) (.slice (some ⟨gk, 0, none⟩) 3 kc) id (id + cntL [x1, x2, x3]) site) 82 (0, 0)) := by rw [hin3.b0.block b hb]; exact HBLK.out
  have x23 : w3.cell? ⟨b, 2, none⟩ = some (.string (bs nm)) := by rw [blk_cell hb3']; rfl
  have x43 : w3.cell? ⟨b, 4, none⟩ = some (.slice (some ⟨gk, 0, none⟩) 3 kc) := by rw [blk_cell hb3']; rfl
  have k33 : w3.cell? ⟨gk, 2, none⟩ = some (.pointer (some ⟨b3, 0, none⟩)) := (hin3.b0.cell (p := ⟨gk, 2, none⟩) hgkw).trans HK3.out
  have hun : ∀ W, Below (w3.setCell ⟨w.heap.size, 1, none⟩ (.string (bs R2.1.txt))).heap.size (w3.setCell ⟨w.heap.size, 1, none⟩ (.string (bs R2.1.txt))) W → Calls Tryd.prog 100 #[.pointer (some ⟨yb, 0, none⟩), .string (bs nm), .string (bs R2.1.txt), .pointer (some ⟨b3, 0, none⟩)] W fun v w' => v = .returned (.string (bs R3.1.txt)) ∧
      ∃ nv' tv', nv'.ownBlock ≠ some w.heap.size ∧ tv'.ownBlock ≠ some w.heap.size ∧ w'.heap[w.heap.size]? = some (.cells (kArr [R1.1, R2.1]) 104 (0, 0)) ∧ TyIn w0 (w'.setCell ⟨w.heap.size, 2, none⟩ (.string (bs R3.1.txt))) yb cls cv nv' tv' ov env R3.2 ∧
        Fr w (w'.setCell ⟨w.heap.size, 2, none⟩ (.string (bs R3.1.txt))) yb nv tv ov nv' tv' ∧ (w'.setCell ⟨w.heap.size, 2, none⟩ (.string (bs R3.1.txt))).heap[w.heap.size]? = some (.cells (kArr [R1.1, R2.1, R3.1]) 104 (0, 0)) ∧ w.heap.size < w'.heap.size ∧ TyIn w0 w' yb cls cv nv' tv' ov env R3.2 := by
    intro W hW
    have hu := under_of hf3 (id + 1 + x1.cnt + x2.cnt) (site + x1.prs + x2.prs) b3 F env R2.2 cv nv3 tv3 ov W nm R2.1 HT3.out (hWin3.grow hW) (by have h1 := HO1.out.2.2; have h2 := HO2.out.2.2; omega) (by omega) HE3.out.1 HE3.out.2 HO2.out.1 (fun h0 => (HO2.out.2.1 h0).2) (by omega)
    rw [← HR3.out] at hu
    refine hu.mono ?_
    rintro e w' ⟨rfl, nv', tv', hfr', hin'⟩
    have hWab : w.heap.size < W.heap.size := by have h1 := hW.size; have h2 := blk_lt hWka3; omega
    obtain ⟨a1, a2, a3, a4, a5, a6, a7⟩ := step_store (ty := R3.1) (ks := [R1.1, R2.1]) (j := 2) hlt4 hlt3 hyw rfl hw0 (hWfr3.trans (Fr.below hW yb nv3 tv3 ov)) hWab hn3 ht3 hfr' hin' (by rw [hW.block _ (blk_lt hWka3)]; exact hWka3) rfl
    exact ⟨rfl, nv', tv', a1, a2, a3, a4, a5, a6, a7, hin'⟩
  have hbw3 : b < w3.heap.size := by omega
  have hgk3 : gk < w3.heap.size := by omega
  have hbab : b ≠ w.heap.size := by omega
  have hgab : gk ≠ w.heap.size := by omega
  clear hfo2 hfr3 hin3 hka3 hWin3 hWfr3 hWka3 hn3 ht3 hb3' x42 k22 z0 zf HW2 hlt1 hlt2 hlt3 hlt4
  go_wp2
  go_region_with (go_at_call 100; refine (hun _ ?_).mono ?_; exact ⟨rfl, rfl, rfl, Nat.le_refl _, fun _ _ => rfl⟩; rintro e w4 ⟨rfl, nv4, tv4, hn4, ht4, hka4, hWin4, hWfr4, hWka4, hab4, hin4⟩; have z24 : w4.cell? ⟨w.heap.size, 2, none⟩ = some (.string (bs [])) := (by rw [blk_cell hka4]; rfl); have zf24 : w4.frozen? ⟨w.heap.size, 2, none⟩ = false := blk_free hka4 2)
  all_goals
    have hbr4 : w4.heap[b]? = some (.cells (exCells Kw.loop.bytes p nm (valueL rg) (.slice (some ⟨gk, 0, none⟩) 3 kc) id (id + cntL [x1, x2, x3]) site) 82 (0, 0)) := by rw [hin4.b0.block b hb]; exact HBLK.out
    have y44 : w4.cell? ⟨yb, 4, none⟩ = some (.int .i64 (R3.2.e : Nat)) := by rw [blk_cell hin4.y]; rfl
    have a0 : w4.cell? ⟨w.heap.size, 0, none⟩ = some (.string (bs R1.1.txt)) := by rw [blk_cell hka4]; rfl
    have a1 : w4.cell? ⟨w.heap.size, 1, none⟩ = some (.string (bs R2.1.txt)) := by rw [blk_cell hka4]; rfl
    have hyab : yb ≠ w.heap.size := by omega
    have hmd : R3.2.e = 0 → ∀ W, Below (w4.setCell ⟨w.heap.size, 2, none⟩ (.string (bs R3.1.txt))).heap.size (w4.setCell ⟨w.heap.size, 2, none⟩ (.string (bs R3.1.txt))) W → Calls Tryd.prog 101 #[.pointer (some ⟨yb, 0, none⟩), .pointer (some ⟨b, 0, none⟩), .agg #[.string (bs R1.1.txt), .string (bs R2.1.txt), .string (bs R3.1.txt)]] W fun v w' =>
        v = .returned (.string (bs (madeT cls .loop p site [R1.1, R2.1, R3.1] R3.2).1.txt)) ∧ ∃ nv' tv', Fr w w' yb nv tv ov nv' tv' ∧ TyIn w0 w' yb cls cv nv' tv' ov env (madeT cls .loop p site [R1.1, R2.1, R3.1] R3.2).2 := by
      intro h0 W hW
      have hWi := hWin4.grow hW
      have hm := made_any W yb b cls cv nv4 tv4 ov _ R3.2 nm p (valueL rg) id (id + cntL [x1, x2, x3]) site w0.heap.size .loop [R1.1, R2.1, R3.1] hne h0 hWi.y (by rw [hWi.b0.block b hb]; exact HBLK.out) hWi.c hcl hc100 (by intro h; cases h) (by decide) rfl
        (by intro t ht; simp only [List.mem_cons, List.not_mem_nil, or_false] at ht; rcases ht with rfl | rfl | rfl; exact HO1.out.1; exact HO2.out.1; exact HO3.out.1)
      refine hm.mono ?_
      rintro e w' ⟨rfl, hg2, hy2⟩
      refine ⟨rfl, nv4, tv4, (hWfr4.trans (Fr.below hW _ _ _ _)).trans (Fr.grown hg2 _ _ _), ?_⟩
      have h := hWi.err hg2 hy2
      rw [← madeT_of cls .loop p site [R1.1, R2.1, R3.1] R3.2] at h
      exact h
    have HWF : Hid _ := And.intro hWfr4 hWin4
    clear hWin4 hWfr4 hWka4 hka4 hin4 hbr4 hn4 ht4
    by_cases h0 : R3.2.e = 0
    · have hmd0 := hmd h0
      have y40 : w4.cell? ⟨yb, 4, none⟩ = some (.int .i64 0) := by rw [y44, h0]; rfl
      have HF2 : Hid (FF = madeT cls .loop p site [R1.1, R2.1, R3.1] R3.2) := by rw [HFIN.out, if_neg (by simpa using h0)]; rfl
      clear y44 h0 hmd
      go_wp2_with (go_at_call 101; refine (hmd0 _ ?_).mono ?_; exact ⟨rfl, rfl, rfl, Nat.le_refl _, fun _ _ => rfl⟩; rintro e w5 ⟨rfl, hw5⟩)
      go_ret
      rw [HF2.out]
      exact ⟨rfl, hw5⟩
    · have h0' : ((R3.2.e : Int) != 0) = true := by rw [bne_iff_ne]; omega
      have HF2 : Hid (FF = (.n, R3.2)) := by rw [HFIN.out, if_pos h0]; rfl
      clear h0 hmd
      go_wp2_with fail
      go_ret
      rw [HF2.out]
      exact ⟨rfl, nv4, tv4, HWF.out.1.trans (Fr.below ⟨rfl, rfl, rfl, Nat.le_refl _, fun _ _ => rfl⟩ _ _ _ _), HWF.out.2.grow ⟨rfl, rfl, rfl, Nat.le_refl _, fun _ _ => rfl⟩⟩
end Go.Proofs.YtglkpkmdoohdcaaDoor
