import Derived.Test.YtpicaknklgccoaaGreatDoorP5
namespace Go.Proofs.YtpicaknklgccoaaGreatDoor
open Go.RowKit
set_option maxRecDepth 100000 in
set_option maxHeartbeats 4000000 in
theorem form_let {w0 : World} {yb : Nat} {cls : List Nat} (p : Nat) (nm rg : List UInt8) (x1 x2 : PT) (hit : ItFor w0 cls)
  (hf1 : FindOk w0 yb cls x1) (hf2 : FindOk w0 yb cls x2) : FormOk w0 yb cls (.node p .let_ nm rg [x1, x2]) (fun id site env st => tyLet cls nm [x1, x2] (id + 1) site env st) := by
 intro id site b F env st cv nv tv ov w hT hin hid hsite hs1 hs2 henv
 simp only [IsT] at hT
 obtain ⟨hFb, kv, bl, hblk, hF, hkv, hts⟩ := hT
 have hb := blk_lt hblk
 have hw0 := hin.b0.size
 have hbw : b < w.heap.size := by omega
 obtain ⟨gk, kc, hvk⟩ : ∃ gk kc, kv = .slice (some ⟨gk, 0, none⟩) 2 kc := by
  rcases hkv.2 with ⟨_, h'⟩ | ⟨g, cap, cur, h, _⟩
  ·simp at h'
  ·exact ⟨_, _, h⟩
 subst hvk
 have hi1 := IsTs.at _ _ _ _ hts 0 x1 rfl
 have hi2 := IsTs.at _ _ _ _ hts 1 x2 rfl
 obtain ⟨b1, hb1, hT1⟩ := hi1
 obtain ⟨b2, hb2, hT2⟩ := hi2
 have k1 : w0.cell? ⟨gk, 0, none⟩ = some (ptr b1) := by rw [hkv.cellAt 0 (by simp)]; simp [hb1]
 have k2 : w0.cell? ⟨gk, 1, none⟩ = some (ptr b2) := by rw [hkv.cellAt 1 (by simp)]; simp [hb2]
 have hgkw : gk < w0.heap.size := World.block_lt_of_cell? _ _ k1
 have hbx : w.heap[b]? = some (.cells (exCells Kw.let_.bytes p nm (valueL rg) (.slice (some ⟨gk, 0, none⟩) 2 kc) id (id + cntL [x1, x2]) site) 82 (0, 0)) := by rw [hin.b0.block b hb]; exact hblk
 have x0 : w.cell? ⟨b, 0, none⟩ = some (.string (bs Kw.let_.bytes)) := by rw [blk_cell hbx]; rfl
 have x4 : w.cell? ⟨b, 4, none⟩ = some (.slice (some ⟨gk, 0, none⟩) 2 kc) := by rw [blk_cell hbx]; rfl
 have k1w : w.cell? ⟨gk, 0, none⟩ = some (.pointer (some ⟨b1, 0, none⟩)) := (hin.b0.cell (p := ⟨gk, 0, none⟩) hgkw).trans k1
 have hgkw' : gk < w.heap.size := by omega
 have q0 : ((bs Kw.let_.bytes).toList == [110, 117, 109, 98, 101, 114]) = false := by rw [bs_beq0]; decide
 have q1 : ((bs Kw.let_.bytes).toList == [110, 97, 109, 101]) = false := by rw [bs_beq0]; decide
 have q2 : ((bs Kw.let_.bytes).toList == [108, 101, 116]) = true := by rw [bs_beq0]; decide
 have hyb := hin.hyb
 simp only [PT.cnt, PT.prs, cntL, prsL] at hid hsite henv
 simp only [cntL, prsL, List.take_zero, List.take_succ_cons, Nat.add_zero] at hT1 hT2
 rw [if_neg (by decide)] at hsite hT1 hT2
 simp only [Nat.add_zero] at hT1 hT2
 have hlt1 : ∀ g, nv.ownBlock = some g → g < w.heap.size := fun g hg => (hin.n.lt g hg).2
 have hlt2 : ∀ g, tv.ownBlock = some g → g < w.heap.size := fun g hg => (hin.t.lt g hg).2
 have hlt3 : ∀ g, ov.ownBlock = some g → g < w.heap.size := fun g hg => (hin.o.lt g hg).2
 have hlt4 : ∀ g, cv.ownBlock = some g → g < w.heap.size := fun g hg => (hin.c.lt g hg).2
 have hyw := blk_lt hin.y
 have hinA : TyIn w0 (w.alloc (.cells #[.string ⟨#[]⟩, .string ⟨#[]⟩, .string ⟨#[]⟩] 139)) yb cls cv nv tv ov env st := hin.grow ((Below.refl _ _).alloc (Nat.le_refl _) _)
 have hfo := hf1 (id + 1) site b1 F env st cv nv tv ov _ hT1 hinA (by omega) (by omega) hs1 hs2 (by omega)
 have hok := tyFind_ok cls hit.1 x1 (id + 1) site env st ⟨hs1, hs2⟩
 obtain ⟨R, hR⟩ : ∃ R, R = tyFind cls x1 (id + 1) site env st := ⟨_, rfl⟩
 have hfin : tyLet cls nm [x1, x2] (id + 1) site env st = tyFind cls x2 (id + 1 + x1.cnt) (site + x1.prs) (env ++ [(nm, R.1)]) R.2 := by simp only [tyLet]; rw [hR]
 rw [← hR] at hfo hok
 show Calls _ _ #[Value.pointer (some ⟨yb, 0, none⟩), Value.pointer (some ⟨b, 0, none⟩)] w (fun v w' => v = .returned (.string (bs (tyLet cls nm [x1, x2] (id + 1) site env st).1.txt)) ∧ ∃ nv' tv', Fr w w' yb nv tv ov nv' tv' ∧ TyIn w0 w' yb cls cv nv' tv' ov env (tyLet cls nm [x1, x2] (id + 1) site env st).2)
 rw [hfin]
 unfold ptr at hfo
 have HBLK : Hid _ := hblk
 have HK2 : Hid _ := k2
 have HS : Hid (∀ (x : List UInt8 × Ty), x ∈ env → x.2.fit) := hs1
 have HS2 : Hid (st.e = 0 → ∀ x ∈ env, x.2.size ≤ 63) := hs2
 have HOK : Hid (resOk st R) := hok
 have HT2 : Hid _ := hT2
 clear hblk hin hkv hts hbx hFb hF hs1 hs2 k1 k2 hT1 hT2 hR hfin hok hinA hb1 hb2
 go_enter Tryz.func113, Tryz.ntmps113
 go_wp2_with fail
 refine hfo.mono ?_
 rintro e w2 ⟨rfl, nv2, tv2, hfr2, hin2⟩
 have hsz2 : w.heap.size + 1 ≤ w2.heap.size := by have := hfr2.size; simpa using this
 have hn2 : nv2.ownBlock ≠ some w.heap.size := by
  intro e
  rcases hfr2.n _ e with e | e
  ·have := hlt1 _ e; omega
  ·simp at e
   omega
 have ht2 : tv2.ownBlock ≠ some w.heap.size := by
  intro e
  rcases hfr2.t _ e with e | e
  ·have := hlt2 _ e; omega
  ·simp at e
   omega
 have ho2 : ov.ownBlock ≠ some w.heap.size := fun e => by have := hlt3 _ e; omega
 have hc2 : cv.ownBlock ≠ some w.heap.size := fun e => by have := hlt4 _ e; omega
 have hka2 : w2.heap[w.heap.size]? = some (.cells #[.string ⟨#[]⟩, .string ⟨#[]⟩, .string ⟨#[]⟩] 139 (0, 0)) := by
  rw [hfr2.blk _ (by simp) (by omega) (fun e => by have := hlt1 _ e; omega) (fun e => by have := hlt2 _ e; omega) ho2]; exact blk_new _ _
 have z0 : w2.cell? ⟨w.heap.size, 0, none⟩ = some (.string ⟨#[]⟩) := by rw [blk_cell hka2]; rfl
 have zf : w2.frozen? ⟨w.heap.size, 0, none⟩ = false := blk_free hka2 0
 have hb2' : w2.heap[b]? = some (.cells (exCells Kw.let_.bytes p nm (valueL rg) (.slice (some ⟨gk, 0, none⟩) 2 kc) id (id + cntL [x1, x2]) site) 82 (0, 0)) := by rw [hin2.b0.block b hb]; exact HBLK.out
 have x22 : w2.cell? ⟨b, 2, none⟩ = some (.string (bs nm)) := by rw [blk_cell hb2']; rfl
 have x42 : w2.cell? ⟨b, 4, none⟩ = some (.slice (some ⟨gk, 0, none⟩) 2 kc) := by rw [blk_cell hb2']; rfl
 have k22 : w2.cell? ⟨gk, 1, none⟩ = some (.pointer (some ⟨b2, 0, none⟩)) := (hin2.b0.cell (p := ⟨gk, 1, none⟩) hgkw).trans HK2.out
 have hWin := TyIn.other (W := w2.setCell ⟨w.heap.size, 0, none⟩ (.string (bs R.1.txt))) hin2 hw0 (by omega) hc2 hn2 ht2 ho2 rfl
 have hWfr : Fr w (w2.setCell ⟨w.heap.size, 0, none⟩ (.string (bs R.1.txt))) yb nv tv ov nv2 tv2 := by
  have h := (Fr.below ((Below.refl w.heap.size w).alloc (Nat.le_refl _) (.cells #[.string ⟨#[]⟩, .string ⟨#[]⟩, .string ⟨#[]⟩] 139)) yb nv tv ov).trans hfr2
  refine ⟨by have := h.size; simp [World.setCell]; exact this, ?_, h.n, h.t⟩
  intro q hq hy hn ht ho
  rw [blk_other _ _ (by simp only; omega)]
  exact h.blk q hq hy hn ht ho
 have henvR := envOk.snoc (nm := nm) (⟨HS.out, HS2.out⟩ : envOk env st) HOK.out
 have hun : ∀ W, Below (w2.setCell ⟨w.heap.size, 0, none⟩ (.string (bs R.1.txt))).heap.size (w2.setCell ⟨w.heap.size, 0, none⟩ (.string (bs R.1.txt))) W → Calls Tryz.prog 143 #[.pointer (some ⟨yb, 0, none⟩), .string (bs nm), .string (bs R.1.txt), .pointer (some ⟨b2, 0, none⟩)] W fun v w' => v = .returned (.string (bs (tyFind cls x2 (id + 1 + x1.cnt) (site + x1.prs) (env ++ [(nm, R.1)]) R.2).1.txt)) ∧
   ∃ nv' tv', Fr w w' yb nv tv ov nv' tv' ∧ TyIn w0 w' yb cls cv nv' tv' ov env (tyFind cls x2 (id + 1 + x1.cnt) (site + x1.prs) (env ++ [(nm, R.1)]) R.2).2 := by
  intro W hW
  have hu := under_of hf2 (id + 1 + x1.cnt) (site + x1.prs) b2 F env R.2 cv nv2 tv2 ov W nm R.1 HT2.out (hWin.grow hW) (by have := HOK.out.2.2; omega) (by omega) HS.out (fun h0 => HS2.out (HOK.out.2.1 h0).1) HOK.out.1 (fun h0 => (HOK.out.2.1 h0).2) (by omega)
  refine hu.mono ?_
  rintro e w' ⟨rfl, nv', tv', hfr', hin'⟩
  exact ⟨rfl, nv', tv', hWfr.trans ((Fr.below hW yb nv2 tv2 ov).trans hfr'), hin'⟩
 have hbs2 : b < w2.heap.size := by omega
 clear hWin hWfr hka2 hin2 hfr2 hn2 ht2 ho2 hc2 hfo hb2' henvR hlt1 hlt2 hlt3 hlt4
 go_wp2
 go_region_with (go_at_call 143; refine (hun _ ?_).mono ?_; exact ⟨rfl, rfl, rfl, Nat.le_refl _, fun _ _ => rfl⟩; rintro e w3 ⟨rfl, hw3⟩)
 all_goals (go_wp2_with fail; go_ret; exact ⟨rfl, hw3⟩)
end Go.Proofs.YtpicaknklgccoaaGreatDoor
