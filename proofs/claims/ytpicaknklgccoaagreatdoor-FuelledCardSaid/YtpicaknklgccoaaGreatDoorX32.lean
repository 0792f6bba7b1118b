import Derived.Test.YtpicaknklgccoaaGreatDoorX31
import Derived.Test.YtpicaknklgccoaaGreatDoorX14
import Derived.Test.YtpicaknklgccoaaGreatDoorX16
import Derived.Test.YtpicaknklgccoaaGreatDoorX26
import Derived.Test.YtpicaknklgccoaaGreatDoorX12
import Derived.Test.YtpicaknklgccoaaGreatDoorX13
import Derived.Test.YtpicaknklgccoaaGreatDoorX2
import Derived.Deep.RegionHeld3
namespace Go.Proofs.YtpicaknklgccoaaGreatDoor
open Go.RowKit
theorem wants_noreg (k : Kw) : Wt.region ∉ wantsK k false := by cases k <;> decide
mutual
theorem PE.plain : ∀ {l : List Tk} {e : PT} {r : List Tk}, PE false l e r → (∀ t ∈ l, TkTame t) → (e.rgd ∧ NoNew e) ∧ ∀ t ∈ r, TkTame t
 | _, _, _, .num (t := t) h, ha => ⟨⟨by simp only [PT.rgd]; exact (ha t (by simp)).1 h, .num⟩, fun x hx => ha x (by simp [hx])⟩
 | _, _, _, .name (t := t) h, ha => ⟨⟨by simp [PT.rgd], .name⟩, fun x hx => ha x (by simp [hx])⟩
 | _, _, _, .node (k := k) _ _ h3 h4, ha => by
  have h := PW.plain h4 (wants_noreg k) (fun x hx => ha x (by simp [hx]))
  refine ⟨⟨by simp only [PT.rgd]; exact ⟨by rw [h.1]; decide, h.2.1⟩, .node (fun e => by subst e; exact h3 rfl) h.2.2.1⟩, h.2.2.2⟩
theorem PW.plain : ∀ {ws : List Wt} {l : List Tk} {nm rg : List UInt8} {kids : List PT} {r : List Tk}, PW false ws l nm rg kids r → Wt.region ∉ ws → (∀ t ∈ l, TkTame t) → rg = [] ∧ rgdL kids ∧ (∀ x ∈ kids, NoNew x) ∧ ∀ t ∈ r, TkTame t
 | _, _, _, _, _, _, .nil, _, ha => ⟨rfl, by simp [rgdL], by simp, ha⟩
 | _, _, _, _, _, _, .close _ h1, hn, ha => PW.plain h1 (fun h => hn (by simp [h])) (fun x hx => ha x (by simp [hx]))
 | _, _, _, _, _, _, .name _ h1, hn, ha => PW.plain h1 (fun h => hn (by simp [h])) (fun x hx => ha x (by simp [hx]))
 | _, _, _, _, _, _, .region _ h1, hn, ha => absurd (by simp) hn
 | _, _, _, _, _, _, .e h0 h1, hn, ha => by
  have a := PE.plain h0 ha
  have b := PW.plain h1 (fun h => hn (by simp [h])) a.2
  refine ⟨b.1, by simp only [rgdL]; exact ⟨a.1.1, b.2.1⟩, ?_, b.2.2.2⟩
  intro x hx
  rcases List.mem_cons.1 hx with rfl | hx
  ·exact a.1.2
  ·exact b.2.2.1 x hx
end
theorem evalV_agg (y : Vl × ESt) : ∃ S a b c d, evalV y = .agg #[.string S, .int .i64 a, .int .i64 b, .int .i64 c, .int .i64 d] := by
 unfold evalV; split
 ·exact ⟨_, _, _, _, _, rfl⟩
 ·exact ⟨_, _, _, _, _, rfl⟩
theorem chk_WT {e : PT} (hw : e.wf) (h : (chkAns e).1 = 0) : ∃ T, WT [] e T ∧ T.size ≤ 63 := by
 unfold chkAns at h
 split at h
 ·simp at h
 ·have := tyFind_WT (List.range e.prs) e 0 0 [] (st0 e) hw h
  exact ⟨_, this.2.2, by rw [bare_sizeE]; exact this.2.1⟩
theorem leaseEval_tree (s : ByteArray) (w : World) (hs : s.size ≤ 3000) (htab : Lib.TabIs Tryz.prog w "internal/strconv.uint64pow10" .u64 Lib.pow10Tab) (e : PT) (hp : PE false (tokens s.data.toList) e []) (hc : (chkAns e).1 = 0) (fuel : Nat) (hf : fuel ≤ 20000) :
  Calls Tryz.prog 12 #[.string s, .int .i64 fuel] w fun v w' => v = .returned (.tuple #[evalV (ev fuel e [] ⟨0, 0, 0⟩), .int .i64 (ev fuel e [] ⟨0, 0, 0⟩).2.e]) ∧ Below w.heap.size w w' := by
 have hwf := hp.wf
 have hpl := (hp.plain (tokens_tame _)).1
 have hcnt := Study_len hp
 obtain ⟨T, hwt, hT⟩ := chk_WT hwf hc
 obtain ⟨S, a, b, c, d, hV⟩ := evalV_agg (ev fuel e [] ⟨0, 0, 0⟩)
 rw [hV]
 refine leaseEval_ok s fuel w e (chkAns e).2 S a b c d _ (fun w => ?_) (fun w' x1 n1 c1 x2 n2 c2 ns hb hTr hna => ?_)
 ·have := readPlain_full s w hs e hp
  rw [hc] at this
  exact this
 ·have hnl := hna.len
  refine run_ok w' x1 n1 c1 x2 n2 c2 fuel hf S a b c d _ (fun w'' hb'' => ?_)
  obtain ⟨X, hX, hXs, hrv, hfl⟩ := run_plain fuel ns.length hwt hT hpl.2 hpl.1 (by omega)
  have := Run_any x1 n1 c1 x2 n2 c2 fuel ns (opn e 0) hf (by omega) w'' (hTr.below hb'') (Lib.tabBelow_of_tabIs htab w'' (hb.trans (hb''.mono hb.size))) e hna.showsM0 hwf hpl.1 hnl.symm _ rfl X hX hXs
  rw [hrv, hfl, hV] at this
  exact this
end Go.Proofs.YtpicaknklgccoaaGreatDoor
namespace Go.Proofs.YtpicaknklgccoaaGreatDoor
open Go.RowKit
open Go.Lib (decDigits)
abbrev res0 : Obj := .cells #[.string ⟨#[]⟩, .int .i64 0, .int .i64 0, .int .i64 0, .int .i64 0] 23 (0, 0)
theorem below_setZ {B : Nat} {w W : World} (h : Below B w W) (p : Addr) (hp : B ≤ p.block) (x : Value) : Below B w (W.setCell p x) := h.setCell hp x
set_option maxRecDepth 100000 in
set_option maxHeartbeats 1000000 in
theorem worked_any (w : World) (x : KE) (t p fuel : Nat) (hfu : fuel ≤ 20000) (hT : KT [] x t) (hk : KIn w x p) (hit : ∀ W, Below w.heap.size w W → ItoaOk W) (R : Vl × ESt) (hR : R = ev fuel (x.pt []) [] ⟨0, 0, 0⟩) :
  Calls Tryz.prog 24 #[.pointer (some ⟨p, 0, none⟩), .int .i64 fuel] w fun e w' => e = .returned (.tuple #[evalV R, .bool (decide (R.2.e = 0))]) ∧ Below w.heap.size w w' := by
 have hb0 : Below w.heap.size w (w.alloc res0) := below_alZ (Below.refl _ _) _
 have hs0 : (w.alloc res0).heap.size = w.heap.size + 1 := by simp
 have hin : WkIn (w.alloc res0) ((w.alloc res0).alloc (.cells (wkCells (.slice none 0 0) fuel ⟨0, 0, 0⟩) 103 (0, 0))) (w.heap.size + 1) [] [] fuel ⟨0, 0, 0⟩ (.slice none 0 0) := by
  refine ⟨⟨below_alZ (Below.refl _ _) _, by omega, ?_, World.ownsRow_nil _ _ _ _, by simp [Value.ownBlock]⟩, rfl, fun i v p h => by simp at h⟩
  have := blk_new (w.alloc res0) (.cells (wkCells (.slice none 0 0) fuel ⟨0, 0, 0⟩) 103 (0, 0))
  rw [hs0] at this; exact this
 have hs : SOkZ fuel ⟨0, 0, 0⟩ := ⟨hfu, Nat.zero_le _, Nat.le_refl _⟩
 have henv : EnvHas (envV []) (envT []) := fun s T h => by simp [look, envT] at h
 have hgo := kgo_any (w0 := w.alloc res0) (w.heap.size + 1) fuel hT (by simp) p [] [] ⟨0, 0, 0⟩ _ _ (hk.below hb0) hin (fun _ => henv) rfl hs
 have hres := kev_res (fuel := fuel) hT (by simp) [] ⟨0, 0, 0⟩ (fun _ => henv)
 rw [show envV [] = ([] : VEnv) from rfl, ← hR] at hgo hres
 have HGO : Hid _ := hgo
 have HRES : Hid _ := hres
 have HIT : Hid _ := hit
 have HB0 : Hid _ := hb0
 have hcl := (hs.on (x.pt []) [])
 rw [← hR] at hcl
 have HQ0 : Hid ((w.alloc res0).heap[w.heap.size]? = some res0) := blk_new w res0
 clear hgo hin hs henv hres hit hb0 hk hR hT
 by_cases he : R.2.e = 0
 ·have hV : evalV R = .agg #[.string (bs R.1.txt), .int .i64 R.2.steps, .int .i64 R.2.cells, .int .i64 R.2.cells, .int .i64 R.2.cells] := by unfold evalV; rw [if_neg (fun h => h he)]
  rw [hV, show decide (R.2.e = 0) = true by simp [he]]
  have HE : Hid _ := he
  clear hV he
  go_enter Tryz.func24, Tryz.ntmps24
  go_wp2_with fail
  refine Calls.mono HGO.out ?_
  rintro _ w2 ⟨r, nv2, rfl, hfr, hin2, hkv⟩
  have hyl := blk_lt hin2.ob.y
  have y2 : w2.cell? ⟨w.heap.size + 1, 2, none⟩ = some (.int .i64 R.2.steps) := by rw [blk_cell hin2.ob.y]; rfl
  have y3 : w2.cell? ⟨w.heap.size + 1, 3, none⟩ = some (.int .i64 R.2.cells) := by rw [blk_cell hin2.ob.y]; rfl
  have y4 : w2.cell? ⟨w.heap.size + 1, 4, none⟩ = some (.bool false) := by rw [blk_cell hin2.ob.y]; simp [wkCells, HE.out]
  have hq : w2.heap[w.heap.size]? = some res0 := by rw [hin2.ob.b0.block _ (by omega)]; exact HQ0.out
  have HB2 : Hid (Below w.heap.size w w2) := HB0.out.trans (hin2.ob.b0.mono HB0.out.size)
  have HTL : Hid (∀ W, Below w2.heap.size w2 W → Calls Tryz.prog 52 #[.pointer (some ⟨r, 0, none⟩)] W fun e w' => e = .returned (.string (bs R.1.txt)) ∧ Below W.heap.size W w') := fun W hW => ktold_any R.1 (tyZ t) r W (HRES.out.1 HE.out).2 (by have := tyZ_size t; omega) (hkv.below hW) (fun W' hW' => HIT.out W' (HB2.out.trans ((hW.trans (hW'.mono hW.size)).mono HB2.out.size)))
  have hS : ∀ W, Below w2.heap.size w2 W → W.cell? ⟨w.heap.size + 1, 2, none⟩ = some (.int .i64 R.2.steps) ∧ W.cell? ⟨w.heap.size + 1, 3, none⟩ = some (.int .i64 R.2.cells) := fun W hW => ⟨(hW.cell (p := ⟨w.heap.size + 1, 2, none⟩) hyl).trans y2, (hW.cell (p := ⟨w.heap.size + 1, 3, none⟩) hyl).trans y3⟩
  have hS2 : ∀ W, Below w2.heap.size w2 W → W.cell? ⟨w.heap.size, 0, none⟩ = some (.string ⟨#[]⟩) ∧ W.cell? ⟨w.heap.size, 1, none⟩ = some (.int .i64 0) ∧ W.cell? ⟨w.heap.size, 2, none⟩ = some (.int .i64 0) ∧ W.cell? ⟨w.heap.size, 3, none⟩ = some (.int .i64 0) ∧ W.cell? ⟨w.heap.size, 4, none⟩ = some (.int .i64 0) ∧ W.frozen? ⟨w.heap.size, 0, none⟩ = false ∧ W.frozen? ⟨w.heap.size, 1, none⟩ = false ∧ W.frozen? ⟨w.heap.size, 2, none⟩ = false ∧ W.frozen? ⟨w.heap.size, 3, none⟩ = false ∧ W.frozen? ⟨w.heap.size, 4, none⟩ = false ∧ w.heap.size < W.heap.size ∧ w.heap.size + 1 < W.heap.size := fun W hW => by
   have hqW := (hW.block _ (blk_lt hq)).trans hq
   exact ⟨by rw [blk_cell hqW]; rfl, by rw [blk_cell hqW]; rfl, by rw [blk_cell hqW]; rfl, by rw [blk_cell hqW]; rfl, by rw [blk_cell hqW]; rfl, blk_free hqW 0, blk_free hqW 1, blk_free hqW 2, blk_free hqW 3, blk_free hqW 4, blk_lt hqW, by have := hW.size; omega⟩
  have hql := blk_lt hq
  have hYQ : w.heap.size + 1 ≠ w.heap.size := by omega
  have hQY : w.heap.size ≠ w.heap.size + 1 := by omega
  have HS : Hid _ := hS
  have HS2 : Hid _ := hS2
  have HQ : Hid _ := hq
  clear hfr hin2 hkv hq hS hS2 HGO HRES HIT HQ0 HB0 y2 y3
  generalize w.heap.size + 1 = Y at *
  generalize hQE : w.heap.size = Q at *
  have HQE : Hid _ := hQE
  clear hQE
  go_wp2_with fail
  have HSa : Hid (w2.cell? ⟨Y, 2, none⟩ = some (.int .i64 R.2.steps) ∧ w2.cell? ⟨Y, 3, none⟩ = some (.int .i64 R.2.cells)) := HS.out w2 (Below.refl _ _)
  have HSb : Hid (∀ m, (w2.drewN m).cell? ⟨Y, 2, none⟩ = some (.int .i64 R.2.steps) ∧ (w2.drewN m).cell? ⟨Y, 3, none⟩ = some (.int .i64 R.2.cells)) := fun m => HS.out _ (below_drewO w2 m)
  have HSc : Hid (w2.drew.cell? ⟨Y, 2, none⟩ = some (.int .i64 R.2.steps) ∧ w2.drew.cell? ⟨Y, 3, none⟩ = some (.int .i64 R.2.cells)) := HS.out w2.drew ⟨rfl, rfl, rfl, Nat.le_refl _, fun _ _ => rfl⟩
  go_region_held3 (fun W => W.cell? ⟨Y, 2, none⟩ = some (.int .i64 R.2.steps) ∧ W.cell? ⟨Y, 3, none⟩ = some (.int .i64 R.2.cells)) (first | with_reducible exact HSa.out | with_reducible exact HSb.out _ | with_reducible exact HSc.out | with_reducible exact ⟨t2, t3⟩ | go_keep) (first | (go_at_call 52; refine Calls.mono (HTL.out _ ?_) ?_; exact ⟨rfl, rfl, rfl, Nat.le_refl _, fun _ _ => rfl⟩; rintro e w3 ⟨rfl, hb3⟩; obtain ⟨t2, t3⟩ := HS.out w3 ⟨hb3.os, hb3.tape, hb3.output, hb3.size, fun k hk => hb3.block k hk⟩; obtain ⟨r0, r1, r2, r3, r4, g0, g1, g2, g3, g4, l1, l2⟩ := HS2.out w3 ⟨hb3.os, hb3.tape, hb3.output, hb3.size, fun k hk => hb3.block k hk⟩))
  all_goals
   have hq3 : w3.heap[Q]? = some res0 := (hb3.block Q hql).trans HQ.out
   have hB3 : Below Q w w3 := HB2.out.trans ((⟨hb3.os, hb3.tape, hb3.output, hb3.size, fun k hk => hb3.block k hk⟩ : Below w2.heap.size w2 w3).mono (by omega))
   obtain ⟨W7, hE7⟩ : ∃ W7, W7 = (((((w3.setCell ⟨Q, 0, none⟩ (.string (bs R.1.txt))).setCell ⟨Q, 1, none⟩ (.int .i64 R.2.steps)).setCell ⟨Q, 2, none⟩ (.int .i64 R.2.cells)).setCell ⟨Q, 3, none⟩ (.int .i64 R.2.cells)).setCell ⟨Q, 4, none⟩ (.int .i64 R.2.cells)) := ⟨_, rfl⟩
   have hN7 : W7.heap[Q]? = some (.cells #[.string (bs R.1.txt), .int .i64 R.2.steps, .int .i64 R.2.cells, .int .i64 R.2.cells, .int .i64 R.2.cells] 23 (0, 0)) := by
    rw [hE7]; exact (blk_set (blk_set (blk_set (blk_set (blk_set hq3 0 _) 1 _) 2 _) 3 _) 4 _).trans rfl
   have HB7 : Hid (Below Q w W7) := by
    show Below Q w W7
    rw [hE7]; exact below_setZ (below_setZ (below_setZ (below_setZ (below_setZ hB3 _ (Nat.le_refl _) _) _ (Nat.le_refl _) _) _ (Nat.le_refl _) _) _ (Nat.le_refl _) _) _ (Nat.le_refl _) _
   rw [← hE7]
   obtain ⟨s0, s1, s2, s3, s4⟩ := res_cells hN7
   clear hE7 hN7 hq3 hB3 hb3 t2 t3 r0 r1 r2 r3 r4 g0 g1 g2 g3 g4 l1 l2 y4
   go_wp2
   refine bodyPost_ret (v := .tuple #[.agg #[.string (bs R.1.txt), .int .i64 R.2.steps, .int .i64 R.2.cells, .int .i64 R.2.cells, .int .i64 R.2.cells], .bool true]) (by simp [results, Tryz.results24, go_sem, s0, s1, s2, s3, s4]) rfl ⟨rfl, by rw [HQE.out]; exact HB7.out⟩
 ·have hV : evalV R = .agg #[.string ⟨#[]⟩, .int .i64 0, .int .i64 0, .int .i64 0, .int .i64 0] := by unfold evalV; rw [if_pos he]
  rw [hV, show decide (R.2.e = 0) = false by simp [he]]
  have HE : Hid _ := he
  clear hV he
  go_enter Tryz.func24, Tryz.ntmps24
  go_wp2_with fail
  refine Calls.mono HGO.out ?_
  rintro _ w2 ⟨r, nv2, rfl, hfr, hin2, hkv⟩
  have hyl := blk_lt hin2.ob.y
  have y4 : w2.cell? ⟨w.heap.size + 1, 4, none⟩ = some (.bool true) := by
   have hne : decide (R.2.e ≠ 0) = true := decide_eq_true HE.out
   rw [blk_cell hin2.ob.y]
   show some (Value.bool (decide (R.2.e ≠ 0))) = _
   rw [hne]
  have hq : w2.heap[w.heap.size]? = some res0 := by rw [hin2.ob.b0.block _ (by omega)]; exact HQ0.out
  have HB2 : Hid (Below w.heap.size w w2) := HB0.out.trans (hin2.ob.b0.mono HB0.out.size)
  clear hfr hin2 hkv HGO HRES HIT HQ0 HB0
  go_wp2_with (refine st_row rfl 23 (.tmp 4) (.tmp 18) rfl w.heap.size #[.string ⟨#[]⟩, .int .i64 0, .int .i64 0, .int .i64 0, .int .i64 0] rfl rfl 23 _ hq Tryz.infoRes rfl (by simp [Value.oneCell']) ?_; intro W hW hWs hWo hW1 hW2 hW3)
  obtain ⟨s0, s1, s2, s3, s4⟩ := res_cells hW
  have HBN : Hid _ := below_new HB2.out (Nat.le_refl _) hWs hWo hW1 hW2 hW3
  clear hW hWs hWo hW1 hW2 hW3 HB2 hq
  go_wp2
  refine bodyPost_ret (v := .tuple #[.agg #[.string ⟨#[]⟩, .int .i64 0, .int .i64 0, .int .i64 0, .int .i64 0], .bool false]) (by simp [results, Tryz.results24, go_sem, s0, s1, s2, s3, s4]) rfl ⟨rfl, HBN.out⟩
def E12 (st : ESt) : Prop := st.e = 0 ∨ st.e = 12
theorem begun_e12 {fuel : Nat} {st : ESt} {f : ESt → Vl × ESt} (h : E12 st) (hf : ∀ st', E12 st' → E12 (f st').2) : E12 (begun fuel st f).2 := by
 unfold begun
 split
 ·exact h
 ·split
  ·exact Or.inr rfl
  ·exact hf _ h
theorem turns_e12 {f : Vl → ESt → Vl × ESt} (hf : ∀ v st, E12 st → E12 (f v st).2) : ∀ (k : Nat) (v : Vl) (st : ESt), E12 st → E12 (turns f k v st).2
 | 0, _, _, h => h
 | k + 1, v, st, h => by
  simp only [turns]
  split
  ·exact h
  ·exact turns_e12 hf k _ _ (hf v st h)
theorem made_e12 (k : Kw) (vs : List Vl) (st : ESt) : (madeV k vs st).2.e = st.e := by unfold madeV; split <;> rfl
mutual
theorem ev_e12 (fuel : Nat) : ∀ (t : PT) (env : VEnv) (st : ESt), E12 st → E12 (ev fuel t env st).2
 | .num _ _, _, _, h => by unfold ev; exact begun_e12 h (fun _ h => h)
 | .name _ _, _, _, h => by unfold ev; exact begun_e12 h (fun _ h => h)
 | .node _ k nm _ kids, env, st, h => by
  unfold ev
  refine begun_e12 h (fun st' h' => ?_)
  split
  ·exact evLet_e12 fuel nm kids env st' h'
  ·split
   ·exact evIf_e12 fuel kids env st' h'
   ·split
    ·exact evLoop_e12 fuel nm kids env st' h'
    ·have hk := evKids_e12 fuel kids env st' h'
     simp only
     split
     ·exact hk
     ·unfold E12; rw [made_e12]; exact hk
theorem evKids_e12 (fuel : Nat) : ∀ (ts : List PT) (env : VEnv) (st : ESt), E12 st → E12 (evKids fuel ts env st).2
 | [], _, _, h => h
 | a :: r, env, st, h => by simp only [evKids]; exact evKids_e12 fuel r env _ (ev_e12 fuel a env st h)
theorem evLet_e12 (fuel : Nat) (nm : List UInt8) : ∀ (ts : List PT) (env : VEnv) (st : ESt), E12 st → E12 (evLet fuel nm ts env st).2
 | [], _, _, h => h
 | [_], _, _, h => h
 | [a, b], env, st, h => by simp only [evLet]; exact ev_e12 fuel b _ _ (ev_e12 fuel a env st h)
 | _ :: _ :: _ :: _, _, _, h => h
theorem evIf_e12 (fuel : Nat) : ∀ (ts : List PT) (env : VEnv) (st : ESt), E12 st → E12 (evIf fuel ts env st).2
 | [], _, _, h => h
 | [_], _, _, h => h
 | [_, _], _, _, h => h
 | [a, b, c], env, st, h => by
  simp only [evIf]
  split
  ·exact ev_e12 fuel b env _ (ev_e12 fuel a env st h)
  ·exact ev_e12 fuel c env _ (ev_e12 fuel a env st h)
 | _ :: _ :: _ :: _ :: _, _, _, h => h
theorem evLoop_e12 (fuel : Nat) (nm : List UInt8) : ∀ (ts : List PT) (env : VEnv) (st : ESt), E12 st → E12 (evLoop fuel nm ts env st).2
 | [], _, _, h => h
 | [_], _, _, h => h
 | [_, _], _, _, h => h
 | [a, b, c], env, st, h => by
  simp only [evLoop]
  exact turns_e12 (fun v st h => ev_e12 fuel c _ st h) _ _ _ (ev_e12 fuel b env _ (ev_e12 fuel a env st h))
 | _ :: _ :: _ :: _ :: _, _, _, h => h
end
theorem built_PE {placed : Bool} {rg : List UInt8} (hr : RgOk placed rg) {x : KE} {t : Nat} (h : KT [] x t) (hp : x.prs ≤ 100) :
  ∃ e, PE placed (tokens (x.pt rg).tidy) e [] ∧ chkAns e = (0, 0) ∧ e.np = x.pt rg ∧ ∀ fuel env st, ev fuel e env st = ev fuel (x.pt []) env st := by
 obtain ⟨e, he, hnp⟩ := tidy_PE (x.pt rg) (pt_ok hr h)
 rw [pt_np] at hnp
 have hwt : WT [] (x.pt rg) (tyZ t) := pt_WT (rg := rg) h (by simp)
 refine ⟨e, he, chk_ok (np_WT e (by rw [hnp]; exact hwt)) ?_, hnp, fun fuel env st => ?_⟩
 ·rw [← np_prs, hnp, pt_prs rg h]; exact hp
 ·rw [← np_ev, hnp, rg_ev]
set_option maxRecDepth 100000 in
theorem ksame_any (S : ByteArray) (a b c d : Int) (w : World) : Calls Tryz.prog 27 #[.agg #[.string S, .int .i64 a, .int .i64 b, .int .i64 c, .int .i64 d], .agg #[.string S, .int .i64 a, .int .i64 b, .int .i64 c, .int .i64 d]] w fun v w' => v = .returned (.bool true) ∧ Below w.heap.size w w' := by
 have q0 : (S.toList == S.toList) = true := by simp
 have q1 : (a == a) = true := by simp
 have q2 : (b == b) = true := by simp
 have q3 : (c == c) = true := by simp
 have q4 : (d == d) = true := by simp
 go_enter Tryz.func27, Tryz.ntmps27
 go_wp2
 go_ret
 exact ⟨rfl, ((Below.refl _ w).alloc (Nat.le_refl _) _).alloc (by simp) _⟩
set_option maxRecDepth 100000 in
theorem knought_any (w : World) : Calls Tryz.prog 26 #[.agg #[.string ⟨#[]⟩, .int .i64 0, .int .i64 0, .int .i64 0, .int .i64 0]] w fun v w' => v = .returned (.bool true) ∧ Below w.heap.size w w' := by
 have HS : Hid _ := fun W => ksame_any ⟨#[]⟩ 0 0 0 0 W
 have hq := blk_new w res0
 obtain ⟨s0, s1, s2, s3, s4⟩ := res_cells hq
 have hl := blk_lt hq
 have HB : Hid _ := below_alZ (Below.refl _ w) res0
 clear hq
 go_enter Tryz.func26, Tryz.ntmps26
 go_wp2_with fail
 refine Calls.mono (HS.out _) ?_
 rintro _ w2 ⟨rfl, hb⟩
 have HB2 : Hid _ := HB.out.trans (hb.mono HB.out.size)
 clear hb HS
 go_wp2
 go_ret
 exact ⟨rfl, HB2.out⟩
end Go.Proofs.YtpicaknklgccoaaGreatDoor
namespace Go.Proofs.YtpicaknklgccoaaGreatDoor
theorem findS_snocO (sc : Sc) (nm : List UInt8) (i : Int) (s : List UInt8) : findS (sc ++ [(nm, i)]) s = if nm = s then i else findS sc s := by
 unfold findS
 rw [List.reverse_append, List.reverse_singleton, List.singleton_append, List.find?_cons]
 by_cases h : nm = s
 ·subst h; simp
 ·have : (nm == s) = false := by rw [beq_eq_false_iff_ne]; exact h
  simp only [this, if_neg h]
end Go.Proofs.YtpicaknklgccoaaGreatDoor
namespace Go.Proofs.YtpicaknklgccoaaGreatDoor
open Go.RowKit
theorem slice_anyU {w : World} {base : Nat} {e : TypeId} {size : Nat} {v : Value} {n : Nat} {xs : List Value} (h : w.ownsRow base e size v n xs) : ∃ a c, v = .slice a n c := by
 rcases h.2 with ⟨h1, h2⟩ | ⟨g, cap, cur, h1, _⟩
 ·exact ⟨none, 0, by rw [h1, h2]⟩
 ·exact ⟨_, _, h1⟩
set_option maxRecDepth 100000 in
set_option maxHeartbeats 4000000 in
theorem parsePlaced_full (s : ByteArray) (w : World) (hs : s.size ≤ 9000) (e : PT) (hp : PE true (tokens s.data.toList) e []) : Calls Tryz.prog 54 #[.string s] w fun v w' => ∃ x1 n1 c1 x2 n2 c2 ns, v = .returned (.tuple #[treeV (.slice x1 n1 c1) (.slice x2 n2 c2), .int .i64 0, .int .i64 0]) ∧ Below w.heap.size w w' ∧ TreeIn w' (.slice x1 n1 c1) (.slice x2 n2 c2) ns (opn e 0) ∧ NA [] e 0 ns := by
 obtain ⟨ns, hna, hpg⟩ := prog_yes (len := s.size) hp
 have hpp := fun w => ParsePlaced_any s w (by omega)
 have HPG : Hid _ := hpg
 have HNA : Hid _ := hna
 clear hp hna hpg
 go_enter Tryz.func54, Tryz.ntmps54
 go_wp2_with fail
 refine (hpp _).mono ?_
 rintro v w1 ⟨hb, hv⟩
 have hr := kept1 hb
 have hlt := blk_lt hr
 have HB : Hid _ := below1 hb
 rcases hv with ⟨q', hq', _⟩ | ⟨_, nv, ov, rfl, hT⟩
 ·rw [HPG.out] at hq'; cases hq'
 ·rw [HPG.out] at hT
  simp only at hT
  obtain ⟨x1, c1, e1⟩ := slice_anyU hT.nd
  obtain ⟨x2, c2, e2⟩ := slice_anyU hT.op
  have HNN : Hid _ := own_neH hT.nd hr (by decide)
  have HNO : Hid _ := own_neH hT.op hr (by decide)
  subst e1
  subst e2
  have r0 : w1.cell? ⟨w.heap.size, 0, none⟩ = some (.slice none 0 0) := by rw [blk_cell hr]; rfl
  have r1 : w1.cell? ⟨w.heap.size, 1, none⟩ = some (.slice none 0 0) := by rw [blk_cell hr]; rfl
  have f0 := blk_free hr 0
  have f1 := blk_free hr 1
  have hW := blk_alloc (.cells #[.slice x1 ns.length c1, .slice x2 (opn e 0).length c2] 59) (blk_set (blk_set hr 0 (.slice x1 ns.length c1)) 1 (.slice x2 (opn e 0).length c2))
  have S0 : Hid ((((w1.setCell ⟨w.heap.size, 0, none⟩ (.slice x1 ns.length c1)).setCell ⟨w.heap.size, 1, none⟩ (.slice x2 (opn e 0).length c2)).alloc (.cells #[.slice x1 ns.length c1, .slice x2 (opn e 0).length c2] 59)).cell? ⟨w.heap.size, 0, none⟩ = some (.slice x1 ns.length c1)) := (blk_cell hW 0).trans rfl
  have S1 : Hid ((((w1.setCell ⟨w.heap.size, 0, none⟩ (.slice x1 ns.length c1)).setCell ⟨w.heap.size, 1, none⟩ (.slice x2 (opn e 0).length c2)).alloc (.cells #[.slice x1 ns.length c1, .slice x2 (opn e 0).length c2] 59)).cell? ⟨w.heap.size, 1, none⟩ = some (.slice x2 (opn e 0).length c2)) := (blk_cell hW 1).trans rfl
  have hTS : TreeIn ((w1.setCell ⟨w.heap.size, 0, none⟩ (.slice x1 ns.length c1)).setCell ⟨w.heap.size, 1, none⟩ (.slice x2 (opn e 0).length c2)) (.slice x1 ns.length c1) (.slice x2 (opn e 0).length c2) ns (opn e 0) := ⟨owns_blk hT.nd (fun k hk => by rw [blk_other _ _ (by simpa using HNN.out k hk), blk_other _ _ (by simpa using HNN.out k hk)]), owns_blk hT.op (fun k hk => by rw [blk_other _ _ (by simpa using HNO.out k hk), blk_other _ _ (by simpa using HNO.out k hk)])⟩
  have HTS : Hid _ := hTS.below ((Below.refl _ _).alloc (Nat.le_refl _) (.cells #[.slice x1 ns.length c1, .slice x2 (opn e 0).length c2] 59))
  have hne : w.heap.size ≠ w1.heap.size := by omega
  unfold treeV
  clear hT hb hr hpp hW hTS
  go_wp2
  refine bodyPost_ret (v := .tuple #[.agg #[.slice x1 ns.length c1, .slice x2 (opn e 0).length c2], .int .i64 0, .int .i64 0]) (by have s0 := S0.out; have s1 := S1.out; simp [results, Tryz.results54, go_sem, s0, s1]) rfl ⟨x1, ns.length, c1, x2, (opn e 0).length, c2, ns, rfl, ?_, HTS.out, HNA.out⟩
  exact ((HB.out.setCell (p := ⟨w.heap.size, 0, none⟩) (Nat.le_refl _) _).setCell (p := ⟨w.heap.size, 1, none⟩) (Nat.le_refl _) _).alloc (by have := HB.out.size; simp [World.setCell]; omega) _
set_option maxRecDepth 100000 in
set_option maxHeartbeats 4000000 in
theorem readPlaced_full (s : ByteArray) (w : World) (hs : s.size ≤ 9000) (e : PT) (hp : PE true (tokens s.data.toList) e []) : Calls Tryz.prog 42 #[.string s] w fun v w' => ∃ x1 n1 c1 x2 n2 c2 ns, v = .returned (.tuple #[treeV (.slice x1 n1 c1) (.slice x2 n2 c2), .int .i64 (chkAns e).1, .int .i64 (chkAns e).2]) ∧ Below w.heap.size w w' ∧ TreeIn w' (.slice x1 n1 c1) (.slice x2 n2 c2) ns (opn e 0) ∧ NA [] e 0 ns := by
 have hcnt := Study_len hp
 have hpp := fun w => parsePlaced_full s w hs e hp
 have hpr := fun (w : World) (nv ov : Value) (ns : List NR) (hna : NA [] e 0 ns) (h : TreeIn w nv ov ns (opn e 0)) => Program_any w nv ov ns (opn e 0) h (op_ok hna) (by have := hna.len; omega) (hna.small (fun _ h => by simp at h) (by omega)) (fun j n hj => by have := hna.back j n hj; simpa using this)
 unfold treeV at hpp
 have HPR : Hid _ := hpr
 have HPP : Hid _ := hpp
 clear hp hpr hpp
 obtain ⟨ans, hans⟩ : ∃ ans, ans = chkAns e := ⟨_, rfl⟩
 rw [← hans]
 have HANS : Hid _ := hans
 clear hans
 go_enter Tryz.func42, Tryz.ntmps42
 go_wp2_with fail
 refine (HPP.out _).mono ?_
 rintro _ w1 ⟨x1, n1, c1, x2, n2, c2, ns, rfl, hb, hT, hna⟩
 have hr := kept1 hb
 have hlt := blk_lt hr
 have HB : Hid _ := below1 hb
 have HR : Hid _ := hr
 have HNN : Hid _ := own_neH hT.nd hr (by decide)
 have HNO : Hid _ := own_neH hT.op hr (by decide)
 have hT1 := hT.below ((Below.refl _ w1).alloc (Nat.le_refl _) (.cells #[.slice x1 n1 c1, .slice x2 n2 c2] 59))
 have hpr := HPR.out (w1.alloc (.cells #[.slice x1 n1 c1, .slice x2 n2 c2] 59)) _ _ ns hna hT1
 rw [prog_ans hna, ← HANS.out] at hpr
 have HNA : Hid _ := hna
 unfold treeV at hpr
 clear hT hb hr HPP HPR hna
 go_wp2_with fail
 refine hpr.mono ?_
 rintro _ w2 ⟨rfl, hb2⟩
 have HT2 : Hid _ := hT1.below hb2
 have hk := kept1 hb2
 have k0 : w2.cell? ⟨w1.heap.size, 0, none⟩ = some (.slice x1 n1 c1) := by rw [blk_cell hk]; rfl
 have k1 : w2.cell? ⟨w1.heap.size, 1, none⟩ = some (.slice x2 n2 c2) := by rw [blk_cell hk]; rfl
 have hr2 : w2.heap[w.heap.size]? = some (.cells #[.slice none 0 0, .slice none 0 0] 59 (0, 0)) := by
  rw [hb2.block _ (by simp; omega)]; exact blk_alloc _ HR.out
 have r0 : w2.cell? ⟨w.heap.size, 0, none⟩ = some (.slice none 0 0) := by rw [blk_cell hr2]; rfl
 have r1 : w2.cell? ⟨w.heap.size, 1, none⟩ = some (.slice none 0 0) := by rw [blk_cell hr2]; rfl
 have f0 := blk_free hr2 0
 have f1 := blk_free hr2 1
 have hB2 : Below w.heap.size w w2 := HB.out.trans ((below1 hb2).mono HB.out.size)
 have HB2 : Hid _ := hB2
 have hne : w.heap.size ≠ w1.heap.size := by omega
 clear hk hr2 hb2 hB2 hpr hT1
 go_wp2
 refine bodyPost_ret (v := .tuple #[.agg #[.slice x1 n1 c1, .slice x2 n2 c2], .int .i64 ans.1, .int .i64 ans.2]) (by simp [results, Tryz.results42, go_sem, r0, r1]) rfl ⟨x1, n1, c1, x2, n2, c2, ns, rfl, ?_, ⟨owns_blk HT2.out.nd (fun k hk => by rw [blk_other _ _ (by simpa using HNN.out k hk), blk_other _ _ (by simpa using HNN.out k hk)]), owns_blk HT2.out.op (fun k hk => by rw [blk_other _ _ (by simpa using HNO.out k hk), blk_other _ _ (by simpa using HNO.out k hk)])⟩, HNA.out⟩
 exact (HB2.out.setCell (p := ⟨w.heap.size, 0, none⟩) (Nat.le_refl _) _).setCell (p := ⟨w.heap.size, 1, none⟩) (Nat.le_refl _) _
set_option maxRecDepth 100000 in
set_option maxHeartbeats 4000000 in
theorem leaseRun_ok (s : ByteArray) (fuel : Int) (w : World) (e : PT) (y : Nat) (S : ByteArray) (a b c d E : Int) (hrd : ∀ w, Calls Tryz.prog 42 #[.string s] w fun v w' => ∃ x1 n1 c1 x2 n2 c2 ns, v = .returned (.tuple #[treeV (.slice x1 n1 c1) (.slice x2 n2 c2), .int .i64 0, .int .i64 y]) ∧ Below w.heap.size w w' ∧ TreeIn w' (.slice x1 n1 c1) (.slice x2 n2 c2) ns (opn e 0) ∧ NA [] e 0 ns)
  (hrn : ∀ (w' : World) (x1 : Option Addr) (n1 c1 : Nat) (x2 : Option Addr) (n2 c2 : Nat) (ns : List NR), Below w.heap.size w w' → TreeIn w' (.slice x1 n1 c1) (.slice x2 n2 c2) ns (opn e 0) → NA [] e 0 ns → Calls Tryz.prog 32 #[treeV (.slice x1 n1 c1) (.slice x2 n2 c2), .int .i64 fuel] w' fun v w'' => v = .returned (.tuple #[.agg #[.string S, .int .i64 a, .int .i64 b, .int .i64 c, .int .i64 d], .int .i64 E]) ∧ Below w'.heap.size w' w'') :
  Calls Tryz.prog 18 #[.string s, .int .i64 fuel] w fun v w' => v = .returned (.tuple #[.agg #[.string S, .int .i64 a, .int .i64 b, .int .i64 c, .int .i64 d], .int .i64 E]) ∧ Below w.heap.size w w' := by
 unfold treeV at hrd hrn
 have HR : Hid _ := hrd
 have HN : Hid _ := hrn
 clear hrd hrn
 go_enter Tryz.func18, Tryz.ntmps18
 go_wp2_with fail
 refine (HR.out _).mono ?_
 rintro _ w1 ⟨x1, n1, c1, x2, n2, c2, ns, rfl, hb, hT, hna⟩
 have hq : w1.heap[w.heap.size]? = some (.cells #[.string ⟨#[]⟩, .int .i64 0, .int .i64 0, .int .i64 0, .int .i64 0] 23) := kept1 hb
 have hB := below1 hb
 obtain ⟨W2, hE2⟩ : ∃ W2, W2 = w1.alloc (.cells #[.slice x1 n1 c1, .slice x2 n2 c2] 59) := ⟨_, rfl⟩
 have hb2 : Below w1.heap.size w1 W2 := by rw [hE2]; exact below_al (Below.refl _ _) _
 have hrn2 := HN.out W2 x1 n1 c1 x2 n2 c2 ns (hB.trans (hb2.mono hB.size)) (hT.below hb2) hna
 have HRN : Hid _ := hrn2
 have HB2 : Hid _ := hB.trans (hb2.mono hB.size)
 have HQ2 : Hid (W2.heap[w.heap.size]? = some (.cells #[.string ⟨#[]⟩, .int .i64 0, .int .i64 0, .int .i64 0, .int .i64 0] 23)) := by
  show W2.heap[w.heap.size]? = _
  rw [hb2.block _ (blk_lt hq)]; exact hq
 clear hb hT hna hq hB hb2 hrn2 HR HN
 go_wp2_with fail
 rw [← hE2]
 refine Calls.mono HRN.out ?_
 rintro _ w3 ⟨rfl, hb3⟩
 have hq3 : w3.heap[w.heap.size]? = some (.cells #[.string ⟨#[]⟩, .int .i64 0, .int .i64 0, .int .i64 0, .int .i64 0] 23) := by rw [hb3.block _ (blk_lt HQ2.out)]; exact HQ2.out
 have HB3 : Hid _ := HB2.out.trans (hb3.mono HB2.out.size)
 clear hb3 HRN HB2 HQ2 hE2
 go_wp2_with (refine st_row rfl 23 (.tmp 4) (.tmp 22) rfl w.heap.size #[.string S, .int .i64 a, .int .i64 b, .int .i64 c, .int .i64 d] rfl rfl 23 _ hq3 Tryz.infoRes rfl (by simp [Value.oneCell']) ?_; intro W hW hWs hWo hW1 hW2 hW3)
 obtain ⟨s0, s1, s2, s3, s4⟩ := res_cells hW
 have HBN : Hid _ := below_new HB3.out (Nat.le_refl _) hWs hWo hW1 hW2 hW3
 clear hW hWs hWo hW1 hW2 hW3 HB3 hq3
 go_wp2
 refine bodyPost_ret (v := .tuple #[.agg #[.string S, .int .i64 a, .int .i64 b, .int .i64 c, .int .i64 d], .int .i64 E]) (by simp [results, Tryz.results18, go_sem, s0, s1, s2, s3, s4]) rfl ⟨rfl, HBN.out⟩
mutual
theorem rgdO_of : ∀ t : PT, t.tame → t.rg3 → t.rgd
 | .num _ _, h, _ => by simp only [PT.tame] at h; simp only [PT.rgd]; exact h
 | .name _ _, _, _ => by simp [PT.rgd]
 | .node _ _ _ _ kids, h, h3 => by
  simp only [PT.tame] at h
  simp only [PT.rg3] at h3
  simp only [PT.rgd]
  exact ⟨by omega, rgdOL_of kids h.2 h3.2⟩
theorem rgdOL_of : ∀ ts : List PT, tameL ts → rg3L ts → rgdL ts
 | [], _, _ => by simp [rgdL]
 | t :: r, h, h3 => by
  simp only [tameL] at h
  simp only [rg3L] at h3
  simp only [rgdL]
  exact ⟨rgdO_of t h.1 h3.1, rgdOL_of r h.2 h3.2⟩
end
end Go.Proofs.YtpicaknklgccoaaGreatDoor
namespace Go.Proofs.YtpicaknklgccoaaGreatDoor
mutual
def PT.era : PT → PT
 | .num p s => .num p s
 | .name p s => .name p s
 | .node p k nm rg kids => if k = .new then (eraL kids).headD (.num 0 []) else .node p k nm rg (eraL kids)
def eraL : List PT → List PT
 | [] => []
 | t :: r => t.era :: eraL r
end
structure Sw (fuel : Nat) (st : ESt) (m : MM) : Prop where
 e : st.e = 0
 f : m.fault = 0
 s : m.steps = st.steps
 le : st.steps ≤ fuel
 c : m.cells.length = st.cells
 r : 0 < m.regs.length
def SimW (fuel : Nat) (y : Vl × ESt) (x : MV × MM) (T : Ty) : Prop := (Sw fuel y.2 x.2 ∧ Rep x.2.cells y.1 x.1 ∧ y.1.has T) ∨ Both y.2 x.2 ∨ x.2.fault = 13
theorem Sw.name {fuel : Nat} {st : ESt} {m : MM} (h : Sw fuel st m) (i : Int) (v : MV) : Sw fuel st (m.name i v) := by
 unfold MM.name; split
 ·exact ⟨h.e, h.f, h.s, h.le, h.c, h.r⟩
 ·exact h
theorem fin_fault (m : MM) : m.fin.fault = m.fault ∧ m.fin.steps = m.steps ∧ m.fin.cells = m.cells ∧ m.fin.named = m.named ∧ m.fin.regs.length = m.regs.length - 1 := by
 unfold MM.fin
 cases h : m.regs.getLast? with
 | none =>
  have : m.regs = [] := by simpa using h
  rw [this]; exact ⟨rfl, rfl, rfl, rfl, rfl⟩
 | some r => simp
theorem use_fk (m : MM) (v : MV) (h : m.fault ≠ 0) : (m.use v).2 = m := by
 unfold MM.use
 split
 ·rfl
 ·simp only; split
  ·rfl
  ·exact stop_keep m 13 h
theorem newCell_fault (m : MM) (k : Int) (v u : MV) : (m.newCell k v u).2.fault = m.fault := by unfold MM.newCell; split <;> rfl
theorem mW_fk (fuel : Nat) (t : PT) : ∀ (sc : Sc) (base : Nat) (m : MM), m.fault ≠ 0 → (mW fuel t sc base m).2.fault = m.fault := by
 induction t using PT.ind with
 | h1 p s => intro sc base m h; simp only [mW]; rw [begun_keep fuel m _ h]
 | h2 p s => intro sc base m h; simp only [mW]; rw [begun_keep fuel m _ h]
 | h3 p k nm rg kids ih =>
  intro sc base m h
  simp only [mW]
  split
  ·match kids, ih with
   | [], _ => rfl
   | [a], ih =>
    simp only [mNew]
    rw [(fin_fault _).1, ih a (by simp) sc base (m.opn (valueL rg)) h]; rfl
   | _ :: _ :: _, _ => rfl
  ·rw [begun_keep fuel m _ h]
theorem use_rl (m : MM) (v : MV) : (m.use v).2.regs = m.regs := by
 unfold MM.use MM.stop
 split
 ·rfl
 ·simp only; split
  ·rfl
  ·split <;> rfl
theorem newCell_rl (m : MM) (k : Int) (v u : MV) : (m.newCell k v u).2.regs.length = m.regs.length := by unfold MM.newCell; split <;> simp
theorem name_rl (m : MM) (i : Int) (v : MV) : (m.name i v).regs = m.regs := by unfold MM.name; split <;> rfl
theorem begun_rl (fuel : Nat) (m : MM) (g : MM → MV × MM) (h : ∀ m, (g m).2.regs.length = m.regs.length) : (mBegun fuel m g).2.regs.length = m.regs.length := by
 unfold mBegun
 have e : ∀ m : MM, (m.stop 12).regs = m.regs := fun m => by unfold MM.stop; split <;> rfl
 by_cases hq : fuel ≤ m.steps
 ·simp only [if_pos hq]
  split
  ·simp only [e]
  ·rw [h]; simp only [e]
 ·simp only [if_neg hq]
  split
  ·rfl
  ·rw [h]
theorem turns_rl (i : Int) (g : MM → MV × MM) (h : ∀ m, (g m).2.regs.length = m.regs.length) : ∀ (k : Nat) (v : MV) (m : MM), (mTurns i g k v m).2.regs.length = m.regs.length
 | 0, _, _ => rfl
 | k + 1, v, m => by
  simp only [mTurns]
  split
  ·rfl
  ·rw [turns_rl i g h k, h, name_rl]
theorem mW_rl (fuel : Nat) (t : PT) : ∀ (sc : Sc) (base : Nat) (m : MM), (mW fuel t sc base m).2.regs.length = m.regs.length := by
 induction t using PT.ind with
 | h1 p s => intro sc base m; simp only [mW]; exact begun_rl fuel m _ (fun _ => rfl)
 | h2 p s => intro sc base m; simp only [mW]; exact begun_rl fuel m _ (fun _ => rfl)
 | h3 p k nm rg kids ih =>
  intro sc base m
  simp only [mW]
  split
  ·match kids, ih with
   | [], _ => rfl
   | [a], ih =>
    simp only [mNew]
    rw [(fin_fault _).2.2.2.2, ih a (by simp) sc base (m.opn (valueL rg))]
    simp [MM.opn]
   | _ :: _ :: _, _ => rfl
  ·refine begun_rl fuel m _ (fun m => ?_)
   split
   ·match kids, ih with
    | [a, b], ih => simp only [mLet]; rw [ih b (by simp), name_rl, ih a (by simp)]
    | [], _ => rfl
    | [_], _ => rfl
    | _ :: _ :: _ :: _, _ => rfl
   ·split
    ·match kids, ih with
     | [a, b, c], ih =>
      simp only [mIf]
      split
      ·rw [ih b (by simp), ih a (by simp)]
      ·rw [ih c (by simp), ih a (by simp)]
     | [], _ => rfl
     | [_], _ => rfl
     | [_, _], _ => rfl
     | _ :: _ :: _ :: _ :: _, _ => rfl
    ·split
     ·match kids, ih with
      | [a, b, c], ih =>
       simp only [mLoop]
       rw [turns_rl _ _ (fun m => ih c (by simp) _ _ m), ih b (by simp), ih a (by simp)]
      | [], _ => rfl
      | [_], _ => rfl
      | [_, _], _ => rfl
      | _ :: _ :: _ :: _ :: _, _ => rfl
     ·match kids, ih with
      | [a], ih => simp only [mOps]; rw [use_rl, ih a (by simp)]
      | [a, b], ih =>
       simp only [mOps]
       split
       ·rw [newCell_rl, ih b (by simp), ih a (by simp)]
       ·rw [ih b (by simp), ih a (by simp)]
      | [], _ => rfl
      | _ :: _ :: _ :: _, _ => rfl
theorem use_w {fuel : Nat} {st : ESt} {m : MM} {a b : Vl} {v : MV} (hs : Sw fuel st m) (h : Rep m.cells (.p a b) v) : ((m.use v).2 = m ∧ Rep m.cells a (m.use v).1.a ∧ Rep m.cells b (m.use v).1.b) ∨ (m.use v).2.fault = 13 := by
 simp only [Rep] at h
 obtain ⟨hc, i, c, hv, hi, ha, hb⟩ := h
 have hil := (List.getElem?_eq_some_iff.1 hi).1
 have e2 : m.cells.getD v.n.toNat c0 = c := by rw [hv, Int.toNat_natCast, List.getD_eq_getElem?_getD, hi]; rfl
 unfold MM.use
 rw [if_neg (by rw [hc, hv]; simp; omega), e2]
 by_cases hlv : m.isLive c = true
 ·rw [if_pos hlv]; exact Or.inl ⟨rfl, ha, hb⟩
 ·rw [if_neg hlv]; right; unfold MM.stop; rw [if_pos hs.f]
theorem cell_w {fuel : Nat} {st : ESt} {m : MM} {a b : Vl} {v u : MV} {k : Int} (hs : Sw fuel st m) (ha : Rep m.cells a v) (hb : Rep m.cells b u) : Sw fuel { st with cells := st.cells + 1 } (m.newCell k v u).2 ∧ Rep (m.newCell k v u).2.cells (.p a b) (m.newCell k v u).1 := by
 have hhl : m.home k < m.regs.length := by
  have hle : ∀ (l : List MR) (k : Int) (i : Nat), homeF l k i ≤ i := by
   intro l k i
   induction i with
   | zero => exact Nat.le_refl _
   | succ i ih => simp only [homeF]; split <;> omega
  have := hle m.regs k (m.regs.length - 1)
  have := hs.r
  unfold MM.home; omega
 have hr : m.regs[m.home k]? = some m.regs[m.home k] := List.getElem?_eq_getElem hhl
 unfold MM.newCell
 rw [hr]
 refine ⟨⟨hs.e, hs.f, hs.s, hs.le, by simp [hs.c], by simp [hs.r]⟩, ?_⟩
 simp only [Rep]
 exact ⟨trivial, m.cells.length, ⟨v, u, m.home k, m.regs[m.home k].ser⟩, rfl, by simp, ha.mono, hb.mono⟩
theorem begun_simW {fuel : Nat} {st : ESt} {m : MM} {f : ESt → Vl × ESt} {g : MM → MV × MM} {T : Ty} (h : Sw fuel st m) (hk : Sw fuel { st with steps := st.steps + 1 } { m with steps := m.steps + 1 } → SimW fuel (f { st with steps := st.steps + 1 }) (g { m with steps := m.steps + 1 }) T) : SimW fuel (begun fuel st f) (mBegun fuel m g) T := by
 unfold begun mBegun
 have hs := h.s
 have hle := h.le
 rw [if_neg (fun hn => hn h.e)]
 by_cases hq : st.steps = fuel
 ·rw [if_pos hq]
  have hq' : fuel ≤ m.steps := by omega
  simp only [if_pos hq']
  have e : m.stop 12 = { m with fault := 12 } := by unfold MM.stop; rw [if_pos h.f]
  rw [e]
  exact Or.inr (Or.inl ⟨rfl, rfl⟩)
 ·rw [if_neg hq]
  have hq' : ¬ fuel ≤ m.steps := by omega
  simp only [if_neg hq']
  rw [if_neg (fun hn => hn h.f)]
  exact hk ⟨h.e, h.f, by simp only; omega, by simp only; omega, h.c, h.r⟩
theorem turns_simW {fuel : Nat} {T : Ty} {j : Nat} {f : Vl → ESt → Vl × ESt} {g : MM → MV × MM} {P : MM → Prop} (hstep : ∀ st m x v, P m → Sw fuel st m → Rep m.cells x v → x.has T → SimW fuel (f x st) (g (m.name (j : Int) v)) T ∧ P (g (m.name (j : Int) v)).2) : ∀ (k : Nat) (st : ESt) (m : MM) (x : Vl) (v : MV), P m → Sw fuel st m → Rep m.cells x v → x.has T → SimW fuel (turns f k x st) (mTurns (j : Int) g k v m) T
 | 0, st, m, x, v, _, hs, hr, ht => Or.inl ⟨hs, hr, ht⟩
 | k + 1, st, m, x, v, hP, hs, hr, ht => by
  simp only [turns, mTurns]
  rw [if_neg (fun hn => hn hs.e), if_neg (fun hn => hn hs.f)]
  obtain ⟨h1, h2⟩ := hstep st m x v hP hs hr ht
  rcases h1 with ⟨a, b, c⟩ | hB | hD
  ·exact turns_simW hstep k _ _ _ _ h2 a b c
  ·exact Or.inr (Or.inl ⟨by rw [turns_keep _ _ _ _ (by rw [hB.1]; decide)]; exact hB.1, by rw [mTurns_keep _ _ _ _ _ (by rw [hB.2]; decide)]; exact hB.2⟩)
  ·exact Or.inr (Or.inr (by rw [mTurns_keep _ _ _ _ _ (by rw [hD]; decide)]; exact hD))
theorem both_w {fuel : Nat} (t : PT) (t' : PT) (sc : Sc) (base : Nat) (env : VEnv) {st : ESt} {m : MM} (h : Both st m) : Both (ev fuel t env st).2 (mW fuel t' sc base m).2 :=
 ⟨by rw [ev_keep fuel t env st (by rw [h.1]; decide)]; exact h.1, by rw [mW_fk fuel t' sc base m (by rw [h.2]; decide)]; exact h.2⟩
theorem dead_w {fuel : Nat} (t' : PT) (sc : Sc) (base : Nat) {m : MM} (h : m.fault = 13) : (mW fuel t' sc base m).2.fault = 13 := by
 rw [mW_fk fuel t' sc base m (by rw [h]; decide)]; exact h
end Go.Proofs.YtpicaknklgccoaaGreatDoor
namespace Go.Proofs.YtpicaknklgccoaaGreatDoor
open Go.Lib (decDigits)
def wrapN : List Int → Nat → Int → PT → PT
 | [], _, _, t => t
 | a :: l, r, i, t => if a = i then .node 0 .new [] (35 :: decDigits r) [wrapN l (r + 1) i t] else wrapN l (r + 1) i t
def rgW (regs : List Int) (i : Nat) : List UInt8 := if rgV regs i = -1 then [] else 35 :: decDigits (rgV regs i).toNat
mutual
def PT.lay0 (regs news : List Int) : PT → Nat → PT
 | .num _ s, _ => .num 0 (decDigits (valueL s).toNat)
 | .name _ s, _ => .name 0 s
 | .node _ k nm _ kids, b => .node 0 k nm (rgW regs (b + cntL kids)) (layL regs news kids b)
def layL (regs news : List Int) : List PT → Nat → List PT
 | [], _ => []
 | t :: r, b => wrapN news 0 ((b + t.cnt : Nat) - 1 : Int) (PT.lay0 regs news t b) :: layL regs news r (b + t.cnt)
end
def PT.lay (regs news : List Int) (t : PT) (b : Nat) : PT := wrapN news 0 ((b + t.cnt : Nat) - 1 : Int) (t.lay0 regs news b)
theorem regT_rgW (regs : List Int) (i : Nat) : regT (rgW regs i) = rgT regs i := by
 unfold rgW rgT regT
 split
 ·rfl
 ·simp
theorem wrapN_tidy (i : Int) (t : PT) : ∀ (l : List Int) (r : Nat), (wrapN l r i t).tidy = opT l r i ++ (t.tidy ++ List.replicate (clN l i) 41)
 | [], r => by simp [wrapN, opT, clN]
 | a :: l, r => by
  have ih := wrapN_tidy i t l (r + 1)
  simp only [wrapN, opT]
  by_cases h : a = i
  ·have hc : clN (a :: l) i = clN l i + 1 := by unfold clN; simp [h]
   rw [if_pos h, if_pos h, hc]
   simp only [PT.tidy, tidyL, joinT, pieceT, ih, regT, Kw.bytes, opR]
   simp [List.replicate_succ', List.append_assoc]
  ·have hc : clN (a :: l) i = clN l i := by unfold clN; simp [h]
   rw [if_neg h, if_neg h, hc, ih]; rfl
mutual
theorem lay0_tidy (regs news : List Int) : ∀ (t : PT) (b : Nat), NoNew t → (t.lay0 regs news b).tidy = t.ftx regs news b
 | .num _ _, _, _ => rfl
 | .name _ _, _, _ => rfl
 | .node _ k nm _ kids, b, h => by
  cases h with
  | node hk h =>
   simp only [PT.lay0, PT.tidy, PT.ftx, if_neg hk, regT_rgW, layL_tidy regs news kids b h]
theorem layL_tidy (regs news : List Int) : ∀ (ts : List PT) (b : Nat), (∀ x ∈ ts, NoNew x) → tidyL (layL regs news ts b) = wtxL regs news ts b
 | [], _, _ => rfl
 | t :: r, b, h => by
  simp only [layL, tidyL, wtxL, wrapN_tidy, lay0_tidy regs news t b (h t (by simp)), layL_tidy regs news r (b + t.cnt) (fun x hx => h x (by simp [hx])), clT]
end
theorem lay_tidy (regs news : List Int) (t : PT) (b : Nat) (h : NoNew t) : (t.lay regs news b).tidy = t.wtx regs news b := by
 unfold PT.lay PT.wtx
 rw [wrapN_tidy, lay0_tidy regs news t b h]; rfl
def LyT (regs : List Int) (ns : List NR) : Prop := ∀ (i : Nat) (n : NR), ns[i]? = some n → (n.form = 4 → 0 ≤ rgV regs i ∧ rgV regs i ≤ 999) ∧ (n.form ≠ 4 → rgV regs i = -1)
theorem form4 (k : Kw) : formK k = 4 ↔ k = .pair := by cases k <;> decide
theorem wrapN_np (i : Int) (t : PT) : ∀ (l : List Int) (r : Nat), (wrapN l r i t).np = wrapN l r i t.np
 | [], _ => rfl
 | a :: l, r => by
  simp only [wrapN]
  split
  ·simp only [PT.np, npL, wrapN_np i t l (r + 1)]
  ·exact wrapN_np i t l (r + 1)
mutual
theorem lay0_np (regs news : List Int) : ∀ (t : PT) (b : Nat), (t.lay0 regs news b).np = t.lay0 regs news b
 | .num _ _, _ => rfl
 | .name _ _, _ => rfl
 | .node _ k nm _ kids, b => by simp only [PT.lay0, PT.np, layL_np regs news kids b]
theorem layL_np (regs news : List Int) : ∀ (ts : List PT) (b : Nat), npL (layL regs news ts b) = layL regs news ts b
 | [], _ => rfl
 | t :: r, b => by simp only [layL, npL, wrapN_np, lay0_np regs news t b, layL_np regs news r]
end
theorem lay_np (regs news : List Int) (t : PT) (b : Nat) : (t.lay regs news b).np = t.lay regs news b := by unfold PT.lay; rw [wrapN_np, lay0_np]
theorem wrapN_ok (i : Int) (t : PT) (h : t.ok true) : ∀ (l : List Int) (r : Nat), r + l.length ≤ 999 → (wrapN l r i t).ok true
 | [], _, _ => h
 | a :: l, r, hr => by
  simp only [List.length_cons] at hr
  have ih := wrapN_ok i t h l (r + 1) (by omega)
  simp only [wrapN]
  split
  ·simp only [PT.ok, okL]
   refine ⟨by simp [wantsK], rfl, by simp, ?_, ih, trivial⟩
   rw [if_pos ⟨trivial, Or.inr trivial⟩]
   exact ⟨decDigits r, rfl, dec_good r 3 (dec_len3 r (by omega))⟩
  ·exact ih
theorem layL_len (regs news : List Int) : ∀ (ts : List PT) (b : Nat), (layL regs news ts b).length = ts.length
 | [], _ => rfl
 | t :: r, b => by simp [layL, layL_len regs news r]
mutual
theorem lay0_ok {regs news : List Int} {ns : List NR} (H : LyT regs ns) (hn : news.length ≤ 999) : ∀ (t : PT) (b : Nat), Shows ns t b → t.tame → t.ok false → (t.lay0 regs news b).ok true
 | .num _ s, _, _, ht, h => by
  simp only [PT.tame] at ht
  simp only [PT.lay0, PT.ok]
  exact dec_good _ 4 (dec_len4 _ (by omega))
 | .name _ s, _, _, _, h => by simpa [PT.lay0, PT.ok] using h
 | .node _ k nm rg kids, b, hs, ht, h => by
  simp only [PT.tame] at ht
  simp only [Shows] at hs
  obtain ⟨⟨n, hn1, hf, _⟩, hks⟩ := hs
  simp only [PT.ok] at h
  obtain ⟨h1, h2, h3, h4, h5⟩ := h
  have hH := H _ _ hn1
  have hf4 := form4 k
  rw [← hf] at hf4
  have hkn : k ≠ .new := fun e => by rw [e] at h1; simp [wantsK] at h1
  simp only [PT.lay0, PT.ok]
  refine ⟨by cases k <;> simp [wantsK] at h1 ⊢, by rw [layL_len]; exact h2, h3, ?_, layL_ok H hn kids b hks ht.2 h5⟩
  by_cases hp : k = .pair
  ·have := hH.1 (hf4.2 hp)
   rw [if_pos ⟨trivial, Or.inl hp⟩]
   unfold rgW
   rw [if_neg (by omega)]
   exact ⟨_, rfl, dec_good _ 3 (dec_len3 _ (by omega))⟩
  ·rw [if_neg (by simp [hp, hkn])]
   unfold rgW
   rw [if_pos (hH.2 (fun e => hp (hf4.1 e)))]
theorem layL_ok {regs news : List Int} {ns : List NR} (H : LyT regs ns) (hn : news.length ≤ 999) : ∀ (ts : List PT) (b : Nat), ShowsL ns ts b → tameL ts → okL false ts → okL true (layL regs news ts b)
 | [], _, _, _, _ => by simp [layL, okL]
 | t :: r, b, hs, ht, h => by
  simp only [ShowsL] at hs
  simp only [tameL] at ht
  simp only [okL] at h
  simp only [layL, okL]
  exact ⟨wrapN_ok _ _ (lay0_ok H hn t b hs.1 ht.1 h.1) news 0 (by omega), layL_ok H hn r _ hs.2 ht.2 h.2⟩
end
theorem lay_ok {regs news : List Int} {ns : List NR} (H : LyT regs ns) (hn : news.length ≤ 999) (t : PT) (b : Nat) (hs : Shows ns t b) (ht : t.tame) (h : t.ok false) : (t.lay regs news b).ok true := wrapN_ok _ _ (lay0_ok H hn t b hs ht h) news 0 (by omega)
theorem wrapN_era (i : Int) (t : PT) : ∀ (l : List Int) (r : Nat), (wrapN l r i t).era = t.era
 | [], _ => rfl
 | a :: l, r => by
  simp only [wrapN]
  split
  ·simp only [PT.era, if_true, eraL, List.headD_cons, wrapN_era i t l (r + 1)]
  ·exact wrapN_era i t l (r + 1)
theorem wrapN_prs (i : Int) (t : PT) : ∀ (l : List Int) (r : Nat), (wrapN l r i t).prs = t.prs
 | [], _ => rfl
 | a :: l, r => by
  simp only [wrapN]
  split
  ·simp [PT.prs, prsL, wrapN_prs i t l (r + 1)]
  ·exact wrapN_prs i t l (r + 1)
mutual
theorem lay0_prs (regs news : List Int) : ∀ (t : PT) (b : Nat), (t.lay0 regs news b).prs = t.prs
 | .num _ _, _ => rfl
 | .name _ _, _ => rfl
 | .node _ k nm _ kids, b => by simp only [PT.lay0, PT.prs, layL_prs regs news kids b]
theorem layL_prs (regs news : List Int) : ∀ (ts : List PT) (b : Nat), prsL (layL regs news ts b) = prsL ts
 | [], _ => rfl
 | t :: r, b => by simp only [layL, prsL, wrapN_prs, lay0_prs regs news t b, layL_prs regs news r]
end
theorem lay_prs (regs news : List Int) (t : PT) (b : Nat) : (t.lay regs news b).prs = t.prs := by unfold PT.lay; rw [wrapN_prs, lay0_prs]
theorem wrapN_WT {G : TEnv} {t : PT} {T : Ty} (i : Int) (h : WT G t T) : ∀ (l : List Int) (r : Nat), WT G (wrapN l r i t) T
 | [], _ => h
 | a :: l, r => by
  simp only [wrapN]
  split
  ·exact .new (wrapN_WT i h l (r + 1))
  ·exact wrapN_WT i h l (r + 1)
theorem lay_WT {regs news : List Int} {G : TEnv} {t : PT} {T : Ty} (h : WT G t T) : NoNew t → ∀ b, WT G (t.lay regs news b) T := by
 induction h with
 | num => intro _ b; exact wrapN_WT _ .num _ _
 | name hs => intro _ b; exact wrapN_WT _ (.name hs) _ _
 | let_ _ _ iha ihb =>
  intro hn b
  cases hn with
  | node hk hn => exact wrapN_WT _ (.let_ (iha (hn _ (by simp)) _) (ihb (hn _ (by simp)) _)) _ _
 | pair _ _ hs iha ihb =>
  intro hn b
  cases hn with
  | node hk hn => exact wrapN_WT _ (.pair (iha (hn _ (by simp)) _) (ihb (hn _ (by simp)) _) hs) _ _
 | fst _ iha =>
  intro hn b
  cases hn with
  | node hk hn => exact wrapN_WT _ (.fst (iha (hn _ (by simp)) _)) _ _
 | snd _ iha =>
  intro hn b
  cases hn with
  | node hk hn => exact wrapN_WT _ (.snd (iha (hn _ (by simp)) _)) _ _
 | if_ _ _ _ iha ihb ihc =>
  intro hn b
  cases hn with
  | node hk hn => exact wrapN_WT _ (.if_ (iha (hn _ (by simp)) _) (ihb (hn _ (by simp)) _) (ihc (hn _ (by simp)) _)) _ _
 | two hk _ _ iha ihb =>
  intro hn b
  cases hn with
  | node _ hn => exact wrapN_WT _ (.two hk (iha (hn _ (by simp)) _) (ihb (hn _ (by simp)) _)) _ _
 | loop _ _ _ iha ihb ihc =>
  intro hn b
  cases hn with
  | node hk hn => exact wrapN_WT _ (.loop (iha (hn _ (by simp)) _) (ihb (hn _ (by simp)) _) (ihc (hn _ (by simp)) _)) _ _
 | new _ _ =>
  intro hn b
  cases hn with
  | node hk hn => exact absurd rfl hk
end Go.Proofs.YtpicaknklgccoaaGreatDoor
