import Derived.Test.YtpicaknklgccoabGreatDoorX21
import Derived.Test.YtpicaknklgccoabGreatDoorX28
import Derived.Test.YtpicaknklgccoabGreatDoorX14
import Derived.Test.YtpicaknklgccoabGreatDoorX1
import Derived.Test.YtpicaknklgccoabGreatDoorX23
import Derived.Test.YtpicaknklgccoabGreatDoorX3
import Derived.Test.YtpicaknklgccoabGreatDoorX17
import Derived.Test.YtpicaknklgccoabGreatDoorX16
namespace Go.Proofs.YtpicaknklgccoabGreatDoor
theorem turns_keep (f : Vl → ESt → Vl × ESt) (k : Nat) (v : Vl) (st : ESt) (h : st.e ≠ 0) : (turns f k v st).2 = st := by
 cases k with
 | zero => rfl
 | succ k => simp only [turns]; rw [if_pos h]
theorem mTurns_keep (i : Int) (f : MM → MV × MM) (k : Nat) (v : MV) (m : MM) (h : m.fault ≠ 0) : (mTurns i f k v m).2 = m := by
 cases k with
 | zero => rfl
 | succ k => simp only [mTurns]; rw [if_pos h]
theorem NoNew.kids {p : Nat} {k : Kw} {nm rg : List UInt8} {kids : List PT} (h : NoNew (.node p k nm rg kids)) : k ≠ .new ∧ ∀ x ∈ kids, NoNew x := by
 cases h with
 | node hk h => exact ⟨hk, h⟩
theorem Both.name {st : ESt} {m : MM} (h : Both st m) (i : Int) (v : MV) : Both st (m.name i v) := ⟨h.1, by rw [(name_fault m i v).1]; exact h.2⟩
end Go.Proofs.YtpicaknklgccoabGreatDoor
namespace Go.Proofs.YtpicaknklgccoabGreatDoor
open Go.RowKit
theorem use_keep (m : MM) (v : MV) (h : m.fault ≠ 0) : (m.use v).2 = m := by
 unfold MM.use; split
 ·rfl
 ·simp only; split
  ·rfl
  ·exact stop_keep m 13 h
theorem text_keep : ∀ (X : Vl) (v : MV) (m : MM), m.fault ≠ 0 → mText X v m = m
 | .n _, _, _, _ => rfl
 | .p a b, v, m, h => by
  simp only [mText]
  rw [use_keep m v h, text_keep a _ m h, text_keep b _ m h]
theorem rep_size {cells : List MC} : ∀ {X : Vl} {T : Ty}, X.has T → X.size = T.size
 | .n _, .n, _ => rfl
 | .p a b, .p _ A B, h => by
  simp only [Vl.has] at h
  simp only [Vl.size, Ty.size]
  rw [rep_size (cells := cells) h.1, rep_size (cells := cells) h.2]
 | .n _, .p _ _ _, h => by simp [Vl.has] at h
 | .p _ _, .n, h => by simp [Vl.has] at h
def evalV (y : Vl × ESt) : Value := if y.2.e ≠ 0 then .agg #[.string ⟨#[]⟩, .int .i64 0, .int .i64 0, .int .i64 0, .int .i64 0] else .agg #[.string (bs y.1.txt), .int .i64 y.2.steps, .int .i64 y.2.cells, .int .i64 y.2.cells, .int .i64 y.2.cells]
theorem own_neH {w : World} {base : Nat} {e : TypeId} {size : Nat} {v : Value} {n : Nat} {xs : List Value} (h : w.ownsRow base e size v n xs) {b : Nat} {arr : Array Value} {t : TypeId} {fr : Nat × Nat} (hb : w.heap[b]? = some (.cells arr t fr)) (ht : t ≠ e) : ∀ k, v.ownBlock = some k → k ≠ b := by
 intro k hk hkb
 rcases h.2 with ⟨h1, _⟩ | ⟨g, cap, cur, h1, _, hh, _⟩
 ·rw [h1] at hk; simp [Value.ownBlock] at hk
 ·rw [h1] at hk
  simp [Value.ownBlock] at hk
  rw [hk, hkb, hb] at hh
  simp only [Option.some.injEq, Obj.cells.injEq] at hh
  exact ht hh.2.1
theorem res_cells {w : World} {q : Nat} {S : ByteArray} {a b c d : Int} (h : w.heap[q]? = some (.cells #[.string S, .int .i64 a, .int .i64 b, .int .i64 c, .int .i64 d] 35)) :
  w.cell? ⟨q, 0, none⟩ = some (.string S) ∧ w.cell? ⟨q, 1, none⟩ = some (.int .i64 a) ∧ w.cell? ⟨q, 2, none⟩ = some (.int .i64 b) ∧ w.cell? ⟨q, 3, none⟩ = some (.int .i64 c) ∧ w.cell? ⟨q, 4, none⟩ = some (.int .i64 d) := by
 refine ⟨?_, ?_, ?_, ?_, ?_⟩ <;> (rw [blk_cell h]; rfl)
set_option maxRecDepth 100000 in
set_option maxHeartbeats 4000000 in
theorem run_ok (w : World) (x1 : Option Addr) (n1 c1 : Nat) (x2 : Option Addr) (n2 c2 : Nat) (fuel : Nat) (hf : fuel ≤ 20000) (S : ByteArray) (a b c d E : Int)
  (hrun : ∀ w', Below w.heap.size w w' → Calls Tryz.prog 48 #[treeV (.slice x1 n1 c1) (.slice x2 n2 c2), .int .i64 fuel] w' fun e w'' => e = .returned (.tuple #[.agg #[.string S, .int .i64 a, .int .i64 b, .int .i64 c, .int .i64 d], .int .i64 E]) ∧ Below w'.heap.size w' w'') :
  Calls Tryz.prog 28 #[treeV (.slice x1 n1 c1) (.slice x2 n2 c2), .int .i64 fuel] w fun e w' => e = .returned (.tuple #[.agg #[.string S, .int .i64 a, .int .i64 b, .int .i64 c, .int .i64 d], .int .i64 E]) ∧ Below w.heap.size w w' := by
 have HR : Hid _ := hrun
 clear hrun
 unfold treeV at HR
 unfold treeV
 go_enter Tryz.func28, Tryz.ntmps28
 go_wp2_with fail
 refine Calls.mono (HR.out _ (below_al (below_al (Below.refl _ _) _) _)) ?_
 rintro _ w2 ⟨rfl, hb2⟩
 have hq : w2.heap[w.heap.size + 1]? = some (.cells #[.string ⟨#[]⟩, .int .i64 0, .int .i64 0, .int .i64 0, .int .i64 0] 35) := by
  rw [hb2.block _ (by simp)]
  have := blk_new (w.alloc (.cells #[.slice x1 n1 c1, .slice x2 n2 c2] 62)) (.cells #[.string ⟨#[]⟩, .int .i64 0, .int .i64 0, .int .i64 0, .int .i64 0] 35)
  simpa using this
 have hB : Below w.heap.size w w2 := (below_al (below_al (Below.refl _ w) (.cells #[.slice x1 n1 c1, .slice x2 n2 c2] 62)) (.cells #[.string ⟨#[]⟩, .int .i64 0, .int .i64 0, .int .i64 0, .int .i64 0] 35)).trans (hb2.mono (by simp; omega))
 have HB : Hid _ := hB
 have hle : w.heap.size ≤ w.heap.size + 1 := by omega
 have HLE : Hid _ := hle
 clear hb2 hB hle HR
 generalize w.heap.size + 1 = q at *
 go_wp2_with (refine st_row rfl 35 (.tmp 4) (.tmp 16) rfl q #[.string S, .int .i64 a, .int .i64 b, .int .i64 c, .int .i64 d] rfl rfl 35 _ hq Tryz.infoRes rfl (by simp [Value.oneCell']) ?_; intro W hW hWs hWo hW1 hW2 hW3)
 obtain ⟨s0, s1, s2, s3, s4⟩ := res_cells hW
 have HBN : Hid _ := below_new HB.out HLE.out hWs hWo hW1 hW2 hW3
 clear hW hWs hWo hW1 hW2 hW3 HB hq
 go_wp2
 refine bodyPost_ret (v := .tuple #[.agg #[.string S, .int .i64 a, .int .i64 b, .int .i64 c, .int .i64 d], .int .i64 E]) (by simp [results, Tryz.results28, go_sem, s0, s1, s2, s3, s4]) rfl ⟨rfl, HBN.out⟩
theorem evalV_agg (y : Vl × ESt) : ∃ S a b c d, evalV y = .agg #[.string S, .int .i64 a, .int .i64 b, .int .i64 c, .int .i64 d] := by
 unfold evalV; split
 ·exact ⟨_, _, _, _, _, rfl⟩
 ·exact ⟨_, _, _, _, _, rfl⟩
end Go.Proofs.YtpicaknklgccoabGreatDoor
namespace Go.Proofs.YtpicaknklgccoabGreatDoor
open Go.RowKit
open Go.Lib (decDigits)
abbrev res0 : Obj := .cells #[.string ⟨#[]⟩, .int .i64 0, .int .i64 0, .int .i64 0, .int .i64 0] 35 (0, 0)
theorem below_setZ {B : Nat} {w W : World} (h : Below B w W) (p : Addr) (hp : B ≤ p.block) (x : Value) : Below B w (W.setCell p x) := h.setCell hp x
set_option maxRecDepth 100000 in
set_option maxHeartbeats 1000000 in
theorem worked_any (w : World) (x : KE) (t p fuel : Nat) (hfu : fuel ≤ 20000) (hT : KT [] x t) (hk : KIn w x p) (hit : ∀ W, Below w.heap.size w W → ItoaOk W) (R : Vl × ESt) (hR : R = ev fuel (x.pt []) [] ⟨0, 0, 0⟩) :
  Calls Tryz.prog 14 #[.pointer (some ⟨p, 0, none⟩), .int .i64 fuel] w fun e w' => e = .returned (.tuple #[evalV R, .bool (decide (R.2.e = 0))]) ∧ Below w.heap.size w w' := by
 have hb0 : Below w.heap.size w (w.alloc res0) := below_alZ (Below.refl _ _) _
 have hs0 : (w.alloc res0).heap.size = w.heap.size + 1 := by simp
 have hin : WkIn (w.alloc res0) ((w.alloc res0).alloc (.cells (wkCells (.slice none 0 0) fuel ⟨0, 0, 0⟩) 70 (0, 0))) (w.heap.size + 1) [] [] fuel ⟨0, 0, 0⟩ (.slice none 0 0) := by
  refine ⟨⟨below_alZ (Below.refl _ _) _, by omega, ?_, World.ownsRow_nil _ _ _ _, by simp [Value.ownBlock]⟩, rfl, fun i v p h => by simp at h⟩
  have := blk_new (w.alloc res0) (.cells (wkCells (.slice none 0 0) fuel ⟨0, 0, 0⟩) 70 (0, 0))
  rw [hs0] at this; exact this
 have hs : SOkZ fuel ⟨0, 0, 0⟩ := ⟨hfu, Nat.zero_le _, Nat.le_refl _⟩
 have henv : EnvHas (envV []) (envT []) := fun s T h => by simp [look, envT] at h
 have hgo := kgo_any (w0 := w.alloc res0) (w.heap.size + 1) fuel hT (by simp) p [] [] ⟨0, 0, 0⟩ _ _ (hk.below hb0) hin (fun _ => henv) rfl hs
 have hres := kev_res (fuel := fuel) hT (by simp) [] ⟨0, 0, 0⟩ (fun _ => henv)
 rw [show envV [] = ([] : VEnv) from rfl, ← hR] at hgo hres
 have HGO : Hid _ := hgo
 have HRES : Hid _ := hres
 have HIT : Hid _ := hit
 have HB0 : Hid _ := hb0
 have hcl := (hs.on (x.pt []) [])
 rw [← hR] at hcl
 have HQ0 : Hid ((w.alloc res0).heap[w.heap.size]? = some res0) := blk_new w res0
 clear hgo hin hs henv hres hit hb0 hk hR hT
 by_cases he : R.2.e = 0
 ·have hV : evalV R = .agg #[.string (bs R.1.txt), .int .i64 R.2.steps, .int .i64 R.2.cells, .int .i64 R.2.cells, .int .i64 R.2.cells] := by unfold evalV; rw [if_neg (fun h => h he)]
  rw [hV, show decide (R.2.e = 0) = true by simp [he]]
  have HE : Hid _ := he
  clear hV he
  go_enter Tryz.func14, Tryz.ntmps14
  go_wp2_with fail
  refine Calls.mono HGO.out ?_
  rintro _ w2 ⟨r, nv2, rfl, hfr, hin2, hkv⟩
  have hyl := blk_lt hin2.ob.y
  have y2 : w2.cell? ⟨w.heap.size + 1, 2, none⟩ = some (.int .i64 R.2.steps) := by rw [blk_cell hin2.ob.y]; rfl
  have y3 : w2.cell? ⟨w.heap.size + 1, 3, none⟩ = some (.int .i64 R.2.cells) := by rw [blk_cell hin2.ob.y]; rfl
  have y4 : w2.cell? ⟨w.heap.size + 1, 4, none⟩ = some (.bool false) := by rw [blk_cell hin2.ob.y]; simp [wkCells, HE.out]
  have hq : w2.heap[w.heap.size]? = some res0 := by rw [hin2.ob.b0.block _ (by omega)]; exact HQ0.out
  have HB2 : Hid (Below w.heap.size w w2) := HB0.out.trans (hin2.ob.b0.mono HB0.out.size)
  have HTL : Hid (∀ W, Below w2.heap.size w2 W → Calls Tryz.prog 9 #[.pointer (some ⟨r, 0, none⟩)] W fun e w' => e = .returned (.string (bs R.1.txt)) ∧ Below W.heap.size W w') := fun W hW => ktold_any R.1 (tyZ t) r W (HRES.out.1 HE.out).2 (by have := tyZ_size t; omega) (hkv.below hW) (fun W' hW' => HIT.out W' (HB2.out.trans ((hW.trans (hW'.mono hW.size)).mono HB2.out.size)))
  have hS : ∀ W, Below w2.heap.size w2 W → W.cell? ⟨w.heap.size + 1, 2, none⟩ = some (.int .i64 R.2.steps) ∧ W.cell? ⟨w.heap.size + 1, 3, none⟩ = some (.int .i64 R.2.cells) := fun W hW => ⟨(hW.cell (p := ⟨w.heap.size + 1, 2, none⟩) hyl).trans y2, (hW.cell (p := ⟨w.heap.size + 1, 3, none⟩) hyl).trans y3⟩
  have hS2 : ∀ W, Below w2.heap.size w2 W → W.cell? ⟨w.heap.size, 0, none⟩ = some (.string ⟨#[]⟩) ∧ W.cell? ⟨w.heap.size, 1, none⟩ = some (.int .i64 0) ∧ W.cell? ⟨w.heap.size, 2, none⟩ = some (.int .i64 0) ∧ W.cell? ⟨w.heap.size, 3, none⟩ = some (.int .i64 0) ∧ W.cell? ⟨w.heap.size, 4, none⟩ = some (.int .i64 0) ∧ W.frozen? ⟨w.heap.size, 0, none⟩ = false ∧ W.frozen? ⟨w.heap.size, 1, none⟩ = false ∧ W.frozen? ⟨w.heap.size, 2, none⟩ = false ∧ W.frozen? ⟨w.heap.size, 3, none⟩ = false ∧ W.frozen? ⟨w.heap.size, 4, none⟩ = false ∧ w.heap.size < W.heap.size ∧ w.heap.size + 1 < W.heap.size := fun W hW => by
   have hqW := (hW.block _ (blk_lt hq)).trans hq
   exact ⟨by rw [blk_cell hqW]; rfl, by rw [blk_cell hqW]; rfl, by rw [blk_cell hqW]; rfl, by rw [blk_cell hqW]; rfl, by rw [blk_cell hqW]; rfl, blk_free hqW 0, blk_free hqW 1, blk_free hqW 2, blk_free hqW 3, blk_free hqW 4, blk_lt hqW, by have := hW.size; omega⟩
  have hql := blk_lt hq
  have hYQ : w.heap.size + 1 ≠ w.heap.size := by omega
  have hQY : w.heap.size ≠ w.heap.size + 1 := by omega
  have HS : Hid _ := hS
  have HS2 : Hid _ := hS2
  have HQ : Hid _ := hq
  clear hfr hin2 hkv hq hS hS2 HGO HRES HIT HQ0 HB0 y2 y3
  generalize w.heap.size + 1 = Y at *
  generalize hQE : w.heap.size = Q at *
  have HQE : Hid _ := hQE
  clear hQE
  go_wp2_with fail
  have HSa : Hid (w2.cell? ⟨Y, 2, none⟩ = some (.int .i64 R.2.steps) ∧ w2.cell? ⟨Y, 3, none⟩ = some (.int .i64 R.2.cells)) := HS.out w2 (Below.refl _ _)
  have HSb : Hid (∀ m, (w2.drewN m).cell? ⟨Y, 2, none⟩ = some (.int .i64 R.2.steps) ∧ (w2.drewN m).cell? ⟨Y, 3, none⟩ = some (.int .i64 R.2.cells)) := fun m => HS.out _ (below_drewO w2 m)
  have HSc : Hid (w2.drew.cell? ⟨Y, 2, none⟩ = some (.int .i64 R.2.steps) ∧ w2.drew.cell? ⟨Y, 3, none⟩ = some (.int .i64 R.2.cells)) := HS.out w2.drew ⟨rfl, rfl, rfl, Nat.le_refl _, fun _ _ => rfl⟩
  go_region_held3 (fun W => W.cell? ⟨Y, 2, none⟩ = some (.int .i64 R.2.steps) ∧ W.cell? ⟨Y, 3, none⟩ = some (.int .i64 R.2.cells)) (first | with_reducible exact HSa.out | with_reducible exact HSb.out _ | with_reducible exact HSc.out | with_reducible exact ⟨t2, t3⟩ | go_keep) (first | (go_at_call 9; refine Calls.mono (HTL.out _ ?_) ?_; exact ⟨rfl, rfl, rfl, Nat.le_refl _, fun _ _ => rfl⟩; rintro e w3 ⟨rfl, hb3⟩; obtain ⟨t2, t3⟩ := HS.out w3 ⟨hb3.os, hb3.tape, hb3.output, hb3.size, fun k hk => hb3.block k hk⟩; obtain ⟨r0, r1, r2, r3, r4, g0, g1, g2, g3, g4, l1, l2⟩ := HS2.out w3 ⟨hb3.os, hb3.tape, hb3.output, hb3.size, fun k hk => hb3.block k hk⟩))
  all_goals
   have hq3 : w3.heap[Q]? = some res0 := (hb3.block Q hql).trans HQ.out
   have hB3 : Below Q w w3 := HB2.out.trans ((⟨hb3.os, hb3.tape, hb3.output, hb3.size, fun k hk => hb3.block k hk⟩ : Below w2.heap.size w2 w3).mono (by omega))
   obtain ⟨W7, hE7⟩ : ∃ W7, W7 = (((((w3.setCell ⟨Q, 0, none⟩ (.string (bs R.1.txt))).setCell ⟨Q, 1, none⟩ (.int .i64 R.2.steps)).setCell ⟨Q, 2, none⟩ (.int .i64 R.2.cells)).setCell ⟨Q, 3, none⟩ (.int .i64 R.2.cells)).setCell ⟨Q, 4, none⟩ (.int .i64 R.2.cells)) := ⟨_, rfl⟩
   have hN7 : W7.heap[Q]? = some (.cells #[.string (bs R.1.txt), .int .i64 R.2.steps, .int .i64 R.2.cells, .int .i64 R.2.cells, .int .i64 R.2.cells] 35 (0, 0)) := by
    rw [hE7]; exact (blk_set (blk_set (blk_set (blk_set (blk_set hq3 0 _) 1 _) 2 _) 3 _) 4 _).trans rfl
   have HB7 : Hid (Below Q w W7) := by
    show Below Q w W7
    rw [hE7]; exact below_setZ (below_setZ (below_setZ (below_setZ (below_setZ hB3 _ (Nat.le_refl _) _) _ (Nat.le_refl _) _) _ (Nat.le_refl _) _) _ (Nat.le_refl _) _) _ (Nat.le_refl _) _
   rw [← hE7]
   obtain ⟨s0, s1, s2, s3, s4⟩ := res_cells hN7
   clear hE7 hN7 hq3 hB3 hb3 t2 t3 r0 r1 r2 r3 r4 g0 g1 g2 g3 g4 l1 l2 y4
   go_wp2
   refine bodyPost_ret (v := .tuple #[.agg #[.string (bs R.1.txt), .int .i64 R.2.steps, .int .i64 R.2.cells, .int .i64 R.2.cells, .int .i64 R.2.cells], .bool true]) (by simp [results, Tryz.results14, go_sem, s0, s1, s2, s3, s4]) rfl ⟨rfl, by rw [HQE.out]; exact HB7.out⟩
 ·have hV : evalV R = .agg #[.string ⟨#[]⟩, .int .i64 0, .int .i64 0, .int .i64 0, .int .i64 0] := by unfold evalV; rw [if_pos he]
  rw [hV, show decide (R.2.e = 0) = false by simp [he]]
  have HE : Hid _ := he
  clear hV he
  go_enter Tryz.func14, Tryz.ntmps14
  go_wp2_with fail
  refine Calls.mono HGO.out ?_
  rintro _ w2 ⟨r, nv2, rfl, hfr, hin2, hkv⟩
  have hyl := blk_lt hin2.ob.y
  have y4 : w2.cell? ⟨w.heap.size + 1, 4, none⟩ = some (.bool true) := by
   have hne : decide (R.2.e ≠ 0) = true := decide_eq_true HE.out
   rw [blk_cell hin2.ob.y]
   show some (Value.bool (decide (R.2.e ≠ 0))) = _
   rw [hne]
  have hq : w2.heap[w.heap.size]? = some res0 := by rw [hin2.ob.b0.block _ (by omega)]; exact HQ0.out
  have HB2 : Hid (Below w.heap.size w w2) := HB0.out.trans (hin2.ob.b0.mono HB0.out.size)
  clear hfr hin2 hkv HGO HRES HIT HQ0 HB0
  go_wp2_with (refine st_row rfl 35 (.tmp 4) (.tmp 18) rfl w.heap.size #[.string ⟨#[]⟩, .int .i64 0, .int .i64 0, .int .i64 0, .int .i64 0] rfl rfl 35 _ hq Tryz.infoRes rfl (by simp [Value.oneCell']) ?_; intro W hW hWs hWo hW1 hW2 hW3)
  obtain ⟨s0, s1, s2, s3, s4⟩ := res_cells hW
  have HBN : Hid _ := below_new HB2.out (Nat.le_refl _) hWs hWo hW1 hW2 hW3
  clear hW hWs hWo hW1 hW2 hW3 HB2 hq
  go_wp2
  refine bodyPost_ret (v := .tuple #[.agg #[.string ⟨#[]⟩, .int .i64 0, .int .i64 0, .int .i64 0, .int .i64 0], .bool false]) (by simp [results, Tryz.results14, go_sem, s0, s1, s2, s3, s4]) rfl ⟨rfl, HBN.out⟩
set_option maxRecDepth 100000 in
theorem ksame_any (S : ByteArray) (a b c d : Int) (w : World) : Calls Tryz.prog 15 #[.agg #[.string S, .int .i64 a, .int .i64 b, .int .i64 c, .int .i64 d], .agg #[.string S, .int .i64 a, .int .i64 b, .int .i64 c, .int .i64 d]] w fun v w' => v = .returned (.bool true) ∧ Below w.heap.size w w' := by
 have q0 : (S.toList == S.toList) = true := by simp
 have q1 : (a == a) = true := by simp
 have q2 : (b == b) = true := by simp
 have q3 : (c == c) = true := by simp
 have q4 : (d == d) = true := by simp
 go_enter Tryz.func15, Tryz.ntmps15
 go_wp2
 go_ret
 exact ⟨rfl, ((Below.refl _ w).alloc (Nat.le_refl _) _).alloc (by simp) _⟩
set_option maxRecDepth 100000 in
theorem knought_any (w : World) : Calls Tryz.prog 22 #[.agg #[.string ⟨#[]⟩, .int .i64 0, .int .i64 0, .int .i64 0, .int .i64 0]] w fun v w' => v = .returned (.bool true) ∧ Below w.heap.size w w' := by
 have HS : Hid _ := fun W => ksame_any ⟨#[]⟩ 0 0 0 0 W
 have hq := blk_new w res0
 obtain ⟨s0, s1, s2, s3, s4⟩ := res_cells hq
 have hl := blk_lt hq
 have HB : Hid _ := below_alZ (Below.refl _ w) res0
 clear hq
 go_enter Tryz.func22, Tryz.ntmps22
 go_wp2_with fail
 refine Calls.mono (HS.out _) ?_
 rintro _ w2 ⟨rfl, hb⟩
 have HB2 : Hid _ := HB.out.trans (hb.mono HB.out.size)
 clear hb HS
 go_wp2
 go_ret
 exact ⟨rfl, HB2.out⟩
end Go.Proofs.YtpicaknklgccoabGreatDoor
namespace Go.Proofs.YtpicaknklgccoabGreatDoor
theorem known_last (T A X : List Ty) (U : Ty) (c : Nat) (hc : c = A.length + 1) : knownT (T ++ (A ++ [U]) ++ X) (((T.length + c : Nat) : Int) - 1) = U := by
 have e : (((T.length + c : Nat) : Int) - 1) = ((T.length + A.length : Nat) : Int) := by omega
 rw [e]
 refine known_more X ?_
 rw [List.getElem?_append_right (by omega), Nat.add_sub_cancel_left, List.getElem?_append_right (by omega), Nat.sub_self]; rfl
theorem kn2 (T A B X : List Ty) (U V : Ty) (ca cb : Nat) (hA : A.length + 1 = ca) (hB : B.length + 1 = cb) :
  knownT (T ++ ((A ++ [U]) ++ (B ++ [V])) ++ X) (((T.length + ca : Nat) : Int) - 1) = U ∧ knownT (T ++ ((A ++ [U]) ++ (B ++ [V])) ++ X) (((T.length + ca + cb : Nat) : Int) - 1) = V := by
 constructor
 ·have := known_last T A ((B ++ [V]) ++ X) U ca hA.symm
  simpa only [List.append_assoc] using this
 ·have := known_last (T ++ (A ++ [U])) B X V cb hB.symm
  have hl : (T ++ (A ++ [U])).length = T.length + ca := by simp; omega
  rw [hl] at this
  simpa only [List.append_assoc] using this
theorem kn3 (T A B C X : List Ty) (U V W : Ty) (ca cb cc : Nat) (hA : A.length + 1 = ca) (hB : B.length + 1 = cb) (hC : C.length + 1 = cc) :
  knownT (T ++ ((A ++ [U]) ++ ((B ++ [V]) ++ (C ++ [W]))) ++ X) (((T.length + ca : Nat) : Int) - 1) = U ∧ knownT (T ++ ((A ++ [U]) ++ ((B ++ [V]) ++ (C ++ [W]))) ++ X) (((T.length + ca + cb : Nat) : Int) - 1) = V ∧ knownT (T ++ ((A ++ [U]) ++ ((B ++ [V]) ++ (C ++ [W]))) ++ X) (((T.length + ca + cb + cc : Nat) : Int) - 1) = W := by
 have h1 := kn2 T A B ((C ++ [W]) ++ X) U V ca cb hA hB
 have h2 := known_last (T ++ (A ++ [U]) ++ (B ++ [V])) C X W cc hC.symm
 have hl : (T ++ (A ++ [U]) ++ (B ++ [V])).length = T.length + ca + cb := by simp; omega
 rw [hl] at h2
 refine ⟨?_, ?_, ?_⟩
 ·simpa only [List.append_assoc] using h1.1
 ·simpa only [List.append_assoc] using h1.2
 ·simpa only [List.append_assoc] using h2
theorem findS_snocO (sc : Sc) (nm : List UInt8) (i : Int) (s : List UInt8) : findS (sc ++ [(nm, i)]) s = if nm = s then i else findS sc s := by
 unfold findS
 rw [List.reverse_append, List.reverse_singleton, List.singleton_append, List.find?_cons]
 by_cases h : nm = s
 ·subst h; simp
 ·have : (nm == s) = false := by rw [beq_eq_false_iff_ne]; exact h
  simp only [this, if_neg h]
end Go.Proofs.YtpicaknklgccoabGreatDoor
namespace Go.Proofs.YtpicaknklgccoabGreatDoor
open Go.RowKit
theorem slice_anyU {w : World} {base : Nat} {e : TypeId} {size : Nat} {v : Value} {n : Nat} {xs : List Value} (h : w.ownsRow base e size v n xs) : ∃ a c, v = .slice a n c := by
 rcases h.2 with ⟨h1, h2⟩ | ⟨g, cap, cur, h1, _⟩
 ·exact ⟨none, 0, by rw [h1, h2]⟩
 ·exact ⟨_, _, h1⟩
set_option maxRecDepth 100000 in
set_option maxHeartbeats 4000000 in
theorem parsePlaced_full (s : ByteArray) (w : World) (hs : s.size ≤ 9000) (e : PT) (hp : PE true (tokens s.data.toList) e []) : Calls Tryz.prog 36 #[.string s] w fun v w' => ∃ x1 n1 c1 x2 n2 c2 ns, v = .returned (.tuple #[treeV (.slice x1 n1 c1) (.slice x2 n2 c2), .int .i64 0, .int .i64 0]) ∧ Below w.heap.size w w' ∧ TreeIn w' (.slice x1 n1 c1) (.slice x2 n2 c2) ns (opn e 0) ∧ NA [] e 0 ns := by
 obtain ⟨ns, hna, hpg⟩ := prog_yes (len := s.size) hp
 have hpp := fun w => ParsePlaced_any s w (by omega)
 have HPG : Hid _ := hpg
 have HNA : Hid _ := hna
 clear hp hna hpg
 go_enter Tryz.func36, Tryz.ntmps36
 go_wp2_with fail
 refine (hpp _).mono ?_
 rintro v w1 ⟨hb, hv⟩
 have hr := kept1 hb
 have hlt := blk_lt hr
 have HB : Hid _ := below1 hb
 rcases hv with ⟨q', hq', _⟩ | ⟨_, nv, ov, rfl, hT⟩
 ·rw [HPG.out] at hq'; cases hq'
 ·rw [HPG.out] at hT
  simp only at hT
  obtain ⟨x1, c1, e1⟩ := slice_anyU hT.nd
  obtain ⟨x2, c2, e2⟩ := slice_anyU hT.op
  have HNN : Hid _ := own_neH hT.nd hr (by decide)
  have HNO : Hid _ := own_neH hT.op hr (by decide)
  subst e1
  subst e2
  have r0 : w1.cell? ⟨w.heap.size, 0, none⟩ = some (.slice none 0 0) := by rw [blk_cell hr]; rfl
  have r1 : w1.cell? ⟨w.heap.size, 1, none⟩ = some (.slice none 0 0) := by rw [blk_cell hr]; rfl
  have f0 := blk_free hr 0
  have f1 := blk_free hr 1
  have hW := blk_alloc (.cells #[.slice x1 ns.length c1, .slice x2 (opn e 0).length c2] 62) (blk_set (blk_set hr 0 (.slice x1 ns.length c1)) 1 (.slice x2 (opn e 0).length c2))
  have S0 : Hid ((((w1.setCell ⟨w.heap.size, 0, none⟩ (.slice x1 ns.length c1)).setCell ⟨w.heap.size, 1, none⟩ (.slice x2 (opn e 0).length c2)).alloc (.cells #[.slice x1 ns.length c1, .slice x2 (opn e 0).length c2] 62)).cell? ⟨w.heap.size, 0, none⟩ = some (.slice x1 ns.length c1)) := (blk_cell hW 0).trans rfl
  have S1 : Hid ((((w1.setCell ⟨w.heap.size, 0, none⟩ (.slice x1 ns.length c1)).setCell ⟨w.heap.size, 1, none⟩ (.slice x2 (opn e 0).length c2)).alloc (.cells #[.slice x1 ns.length c1, .slice x2 (opn e 0).length c2] 62)).cell? ⟨w.heap.size, 1, none⟩ = some (.slice x2 (opn e 0).length c2)) := (blk_cell hW 1).trans rfl
  have hTS : TreeIn ((w1.setCell ⟨w.heap.size, 0, none⟩ (.slice x1 ns.length c1)).setCell ⟨w.heap.size, 1, none⟩ (.slice x2 (opn e 0).length c2)) (.slice x1 ns.length c1) (.slice x2 (opn e 0).length c2) ns (opn e 0) := ⟨owns_blk hT.nd (fun k hk => by rw [blk_other _ _ (by simpa using HNN.out k hk), blk_other _ _ (by simpa using HNN.out k hk)]), owns_blk hT.op (fun k hk => by rw [blk_other _ _ (by simpa using HNO.out k hk), blk_other _ _ (by simpa using HNO.out k hk)])⟩
  have HTS : Hid _ := hTS.below ((Below.refl _ _).alloc (Nat.le_refl _) (.cells #[.slice x1 ns.length c1, .slice x2 (opn e 0).length c2] 62))
  have hne : w.heap.size ≠ w1.heap.size := by omega
  unfold treeV
  clear hT hb hr hpp hW hTS
  go_wp2
  refine bodyPost_ret (v := .tuple #[.agg #[.slice x1 ns.length c1, .slice x2 (opn e 0).length c2], .int .i64 0, .int .i64 0]) (by have s0 := S0.out; have s1 := S1.out; simp [results, Tryz.results36, go_sem, s0, s1]) rfl ⟨x1, ns.length, c1, x2, (opn e 0).length, c2, ns, rfl, ?_, HTS.out, HNA.out⟩
  exact ((HB.out.setCell (p := ⟨w.heap.size, 0, none⟩) (Nat.le_refl _) _).setCell (p := ⟨w.heap.size, 1, none⟩) (Nat.le_refl _) _).alloc (by have := HB.out.size; simp [World.setCell]; omega) _
set_option maxRecDepth 100000 in
set_option maxHeartbeats 4000000 in
theorem readPlaced_full (s : ByteArray) (w : World) (hs : s.size ≤ 9000) (e : PT) (hp : PE true (tokens s.data.toList) e []) : Calls Tryz.prog 26 #[.string s] w fun v w' => ∃ x1 n1 c1 x2 n2 c2 ns, v = .returned (.tuple #[treeV (.slice x1 n1 c1) (.slice x2 n2 c2), .int .i64 (chkAns e).1, .int .i64 (chkAns e).2]) ∧ Below w.heap.size w w' ∧ TreeIn w' (.slice x1 n1 c1) (.slice x2 n2 c2) ns (opn e 0) ∧ NA [] e 0 ns := by
 have hcnt := Study_len hp
 have hpp := fun w => parsePlaced_full s w hs e hp
 have hpr := fun (w : World) (nv ov : Value) (ns : List NR) (hna : NA [] e 0 ns) (h : TreeIn w nv ov ns (opn e 0)) => Program_any w nv ov ns (opn e 0) h (op_ok hna) (by have := hna.len; omega) (hna.small (fun _ h => by simp at h) (by omega)) (fun j n hj => by have := hna.back j n hj; simpa using this)
 unfold treeV at hpp
 have HPR : Hid _ := hpr
 have HPP : Hid _ := hpp
 clear hp hpr hpp
 obtain ⟨ans, hans⟩ : ∃ ans, ans = chkAns e := ⟨_, rfl⟩
 rw [← hans]
 have HANS : Hid _ := hans
 clear hans
 go_enter Tryz.func26, Tryz.ntmps26
 go_wp2_with fail
 refine (HPP.out _).mono ?_
 rintro _ w1 ⟨x1, n1, c1, x2, n2, c2, ns, rfl, hb, hT, hna⟩
 have hr := kept1 hb
 have hlt := blk_lt hr
 have HB : Hid _ := below1 hb
 have HR : Hid _ := hr
 have HNN : Hid _ := own_neH hT.nd hr (by decide)
 have HNO : Hid _ := own_neH hT.op hr (by decide)
 have hT1 := hT.below ((Below.refl _ w1).alloc (Nat.le_refl _) (.cells #[.slice x1 n1 c1, .slice x2 n2 c2] 62))
 have hpr := HPR.out (w1.alloc (.cells #[.slice x1 n1 c1, .slice x2 n2 c2] 62)) _ _ ns hna hT1
 rw [prog_ans hna, ← HANS.out] at hpr
 have HNA : Hid _ := hna
 unfold treeV at hpr
 clear hT hb hr HPP HPR hna
 go_wp2_with fail
 refine hpr.mono ?_
 rintro _ w2 ⟨rfl, hb2⟩
 have HT2 : Hid _ := hT1.below hb2
 have hk := kept1 hb2
 have k0 : w2.cell? ⟨w1.heap.size, 0, none⟩ = some (.slice x1 n1 c1) := by rw [blk_cell hk]; rfl
 have k1 : w2.cell? ⟨w1.heap.size, 1, none⟩ = some (.slice x2 n2 c2) := by rw [blk_cell hk]; rfl
 have hr2 : w2.heap[w.heap.size]? = some (.cells #[.slice none 0 0, .slice none 0 0] 62 (0, 0)) := by
  rw [hb2.block _ (by simp; omega)]; exact blk_alloc _ HR.out
 have r0 : w2.cell? ⟨w.heap.size, 0, none⟩ = some (.slice none 0 0) := by rw [blk_cell hr2]; rfl
 have r1 : w2.cell? ⟨w.heap.size, 1, none⟩ = some (.slice none 0 0) := by rw [blk_cell hr2]; rfl
 have f0 := blk_free hr2 0
 have f1 := blk_free hr2 1
 have hB2 : Below w.heap.size w w2 := HB.out.trans ((below1 hb2).mono HB.out.size)
 have HB2 : Hid _ := hB2
 have hne : w.heap.size ≠ w1.heap.size := by omega
 clear hk hr2 hb2 hB2 hpr hT1
 go_wp2
 refine bodyPost_ret (v := .tuple #[.agg #[.slice x1 n1 c1, .slice x2 n2 c2], .int .i64 ans.1, .int .i64 ans.2]) (by simp [results, Tryz.results26, go_sem, r0, r1]) rfl ⟨x1, n1, c1, x2, n2, c2, ns, rfl, ?_, ⟨owns_blk HT2.out.nd (fun k hk => by rw [blk_other _ _ (by simpa using HNN.out k hk), blk_other _ _ (by simpa using HNN.out k hk)]), owns_blk HT2.out.op (fun k hk => by rw [blk_other _ _ (by simpa using HNO.out k hk), blk_other _ _ (by simpa using HNO.out k hk)])⟩, HNA.out⟩
 exact (HB2.out.setCell (p := ⟨w.heap.size, 0, none⟩) (Nat.le_refl _) _).setCell (p := ⟨w.heap.size, 1, none⟩) (Nat.le_refl _) _
set_option maxRecDepth 100000 in
set_option maxHeartbeats 4000000 in
theorem leaseRun_ok (s : ByteArray) (fuel : Int) (w : World) (e : PT) (y : Nat) (S : ByteArray) (a b c d E : Int) (hrd : ∀ w, Calls Tryz.prog 26 #[.string s] w fun v w' => ∃ x1 n1 c1 x2 n2 c2 ns, v = .returned (.tuple #[treeV (.slice x1 n1 c1) (.slice x2 n2 c2), .int .i64 0, .int .i64 y]) ∧ Below w.heap.size w w' ∧ TreeIn w' (.slice x1 n1 c1) (.slice x2 n2 c2) ns (opn e 0) ∧ NA [] e 0 ns)
  (hrn : ∀ (w' : World) (x1 : Option Addr) (n1 c1 : Nat) (x2 : Option Addr) (n2 c2 : Nat) (ns : List NR), Below w.heap.size w w' → TreeIn w' (.slice x1 n1 c1) (.slice x2 n2 c2) ns (opn e 0) → NA [] e 0 ns → Calls Tryz.prog 28 #[treeV (.slice x1 n1 c1) (.slice x2 n2 c2), .int .i64 fuel] w' fun v w'' => v = .returned (.tuple #[.agg #[.string S, .int .i64 a, .int .i64 b, .int .i64 c, .int .i64 d], .int .i64 E]) ∧ Below w'.heap.size w' w'') :
  Calls Tryz.prog 13 #[.string s, .int .i64 fuel] w fun v w' => v = .returned (.tuple #[.agg #[.string S, .int .i64 a, .int .i64 b, .int .i64 c, .int .i64 d], .int .i64 E]) ∧ Below w.heap.size w w' := by
 unfold treeV at hrd hrn
 have HR : Hid _ := hrd
 have HN : Hid _ := hrn
 clear hrd hrn
 go_enter Tryz.func13, Tryz.ntmps13
 go_wp2_with fail
 refine (HR.out _).mono ?_
 rintro _ w1 ⟨x1, n1, c1, x2, n2, c2, ns, rfl, hb, hT, hna⟩
 have hq : w1.heap[w.heap.size]? = some (.cells #[.string ⟨#[]⟩, .int .i64 0, .int .i64 0, .int .i64 0, .int .i64 0] 35) := kept1 hb
 have hB := below1 hb
 obtain ⟨W2, hE2⟩ : ∃ W2, W2 = w1.alloc (.cells #[.slice x1 n1 c1, .slice x2 n2 c2] 62) := ⟨_, rfl⟩
 have hb2 : Below w1.heap.size w1 W2 := by rw [hE2]; exact below_al (Below.refl _ _) _
 have hrn2 := HN.out W2 x1 n1 c1 x2 n2 c2 ns (hB.trans (hb2.mono hB.size)) (hT.below hb2) hna
 have HRN : Hid _ := hrn2
 have HB2 : Hid _ := hB.trans (hb2.mono hB.size)
 have HQ2 : Hid (W2.heap[w.heap.size]? = some (.cells #[.string ⟨#[]⟩, .int .i64 0, .int .i64 0, .int .i64 0, .int .i64 0] 35)) := by
  show W2.heap[w.heap.size]? = _
  rw [hb2.block _ (blk_lt hq)]; exact hq
 clear hb hT hna hq hB hb2 hrn2 HR HN
 go_wp2_with fail
 rw [← hE2]
 refine Calls.mono HRN.out ?_
 rintro _ w3 ⟨rfl, hb3⟩
 have hq3 : w3.heap[w.heap.size]? = some (.cells #[.string ⟨#[]⟩, .int .i64 0, .int .i64 0, .int .i64 0, .int .i64 0] 35) := by rw [hb3.block _ (blk_lt HQ2.out)]; exact HQ2.out
 have HB3 : Hid _ := HB2.out.trans (hb3.mono HB2.out.size)
 clear hb3 HRN HB2 HQ2 hE2
 go_wp2_with (refine st_row rfl 35 (.tmp 4) (.tmp 22) rfl w.heap.size #[.string S, .int .i64 a, .int .i64 b, .int .i64 c, .int .i64 d] rfl rfl 35 _ hq3 Tryz.infoRes rfl (by simp [Value.oneCell']) ?_; intro W hW hWs hWo hW1 hW2 hW3)
 obtain ⟨s0, s1, s2, s3, s4⟩ := res_cells hW
 have HBN : Hid _ := below_new HB3.out (Nat.le_refl _) hWs hWo hW1 hW2 hW3
 clear hW hWs hWo hW1 hW2 hW3 HB3 hq3
 go_wp2
 refine bodyPost_ret (v := .tuple #[.agg #[.string S, .int .i64 a, .int .i64 b, .int .i64 c, .int .i64 d], .int .i64 E]) (by simp [results, Tryz.results13, go_sem, s0, s1, s2, s3, s4]) rfl ⟨rfl, HBN.out⟩
mutual
theorem rgdO_of : ∀ t : PT, t.tame → t.rg3 → t.rgd
 | .num _ _, h, _ => by simp only [PT.tame] at h; simp only [PT.rgd]; exact h
 | .name _ _, _, _ => by simp [PT.rgd]
 | .node _ _ _ _ kids, h, h3 => by
  simp only [PT.tame] at h
  simp only [PT.rg3] at h3
  simp only [PT.rgd]
  exact ⟨by omega, rgdOL_of kids h.2 h3.2⟩
theorem rgdOL_of : ∀ ts : List PT, tameL ts → rg3L ts → rgdL ts
 | [], _, _ => by simp [rgdL]
 | t :: r, h, h3 => by
  simp only [tameL] at h
  simp only [rg3L] at h3
  simp only [rgdL]
  exact ⟨rgdO_of t h.1 h3.1, rgdOL_of r h.2 h3.2⟩
end
end Go.Proofs.YtpicaknklgccoabGreatDoor
namespace Go.Proofs.YtpicaknklgccoabGreatDoor
mutual
def PT.era : PT → PT
 | .num p s => .num p s
 | .name p s => .name p s
 | .node p k nm rg kids => if k = .new then (eraL kids).headD (.num 0 []) else .node p k nm rg (eraL kids)
def eraL : List PT → List PT
 | [] => []
 | t :: r => t.era :: eraL r
end
structure Sw (fuel : Nat) (st : ESt) (m : MM) : Prop where
 e : st.e = 0
 f : m.fault = 0
 s : m.steps = st.steps
 le : st.steps ≤ fuel
 c : m.cells.length = st.cells
 r : 0 < m.regs.length
def SimW (fuel : Nat) (y : Vl × ESt) (x : MV × MM) (T : Ty) : Prop := (Sw fuel y.2 x.2 ∧ Rep x.2.cells y.1 x.1 ∧ y.1.has T) ∨ Both y.2 x.2 ∨ x.2.fault = 13
theorem Sw.name {fuel : Nat} {st : ESt} {m : MM} (h : Sw fuel st m) (i : Int) (v : MV) : Sw fuel st (m.name i v) := by
 unfold MM.name; split
 ·exact ⟨h.e, h.f, h.s, h.le, h.c, h.r⟩
 ·exact h
theorem fin_fault (m : MM) : m.fin.fault = m.fault ∧ m.fin.steps = m.steps ∧ m.fin.cells = m.cells ∧ m.fin.named = m.named ∧ m.fin.regs.length = m.regs.length - 1 := by
 unfold MM.fin
 cases h : m.regs.getLast? with
 | none =>
  have : m.regs = [] := by simpa using h
  rw [this]; exact ⟨rfl, rfl, rfl, rfl, rfl⟩
 | some r => simp
theorem use_fk (m : MM) (v : MV) (h : m.fault ≠ 0) : (m.use v).2 = m := by
 unfold MM.use
 split
 ·rfl
 ·simp only; split
  ·rfl
  ·exact stop_keep m 13 h
theorem newCell_fault (m : MM) (k : Int) (v u : MV) : (m.newCell k v u).2.fault = m.fault := by unfold MM.newCell; split <;> rfl
theorem mW_fk (fuel : Nat) (t : PT) : ∀ (sc : Sc) (base : Nat) (m : MM), m.fault ≠ 0 → (mW fuel t sc base m).2.fault = m.fault := by
 induction t using PT.ind with
 | h1 p s => intro sc base m h; simp only [mW]; rw [begun_keep fuel m _ h]
 | h2 p s => intro sc base m h; simp only [mW]; rw [begun_keep fuel m _ h]
 | h3 p k nm rg kids ih =>
  intro sc base m h
  simp only [mW]
  split
  ·match kids, ih with
   | [], _ => rfl
   | [a], ih =>
    simp only [mNew]
    rw [(fin_fault _).1, ih a (by simp) sc base (m.opn (valueL rg)) h]; rfl
   | _ :: _ :: _, _ => rfl
  ·rw [begun_keep fuel m _ h]
theorem use_rl (m : MM) (v : MV) : (m.use v).2.regs = m.regs := by
 unfold MM.use MM.stop
 split
 ·rfl
 ·simp only; split
  ·rfl
  ·split <;> rfl
theorem newCell_rl (m : MM) (k : Int) (v u : MV) : (m.newCell k v u).2.regs.length = m.regs.length := by unfold MM.newCell; split <;> simp
theorem name_rl (m : MM) (i : Int) (v : MV) : (m.name i v).regs = m.regs := by unfold MM.name; split <;> rfl
theorem begun_rl (fuel : Nat) (m : MM) (g : MM → MV × MM) (h : ∀ m, (g m).2.regs.length = m.regs.length) : (mBegun fuel m g).2.regs.length = m.regs.length := by
 unfold mBegun
 have e : ∀ m : MM, (m.stop 12).regs = m.regs := fun m => by unfold MM.stop; split <;> rfl
 by_cases hq : fuel ≤ m.steps
 ·simp only [if_pos hq]
  split
  ·simp only [e]
  ·rw [h]; simp only [e]
 ·simp only [if_neg hq]
  split
  ·rfl
  ·rw [h]
theorem turns_rl (i : Int) (g : MM → MV × MM) (h : ∀ m, (g m).2.regs.length = m.regs.length) : ∀ (k : Nat) (v : MV) (m : MM), (mTurns i g k v m).2.regs.length = m.regs.length
 | 0, _, _ => rfl
 | k + 1, v, m => by
  simp only [mTurns]
  split
  ·rfl
  ·rw [turns_rl i g h k, h, name_rl]
theorem mW_rl (fuel : Nat) (t : PT) : ∀ (sc : Sc) (base : Nat) (m : MM), (mW fuel t sc base m).2.regs.length = m.regs.length := by
 induction t using PT.ind with
 | h1 p s => intro sc base m; simp only [mW]; exact begun_rl fuel m _ (fun _ => rfl)
 | h2 p s => intro sc base m; simp only [mW]; exact begun_rl fuel m _ (fun _ => rfl)
 | h3 p k nm rg kids ih =>
  intro sc base m
  simp only [mW]
  split
  ·match kids, ih with
   | [], _ => rfl
   | [a], ih =>
    simp only [mNew]
    rw [(fin_fault _).2.2.2.2, ih a (by simp) sc base (m.opn (valueL rg))]
    simp [MM.opn]
   | _ :: _ :: _, _ => rfl
  ·refine begun_rl fuel m _ (fun m => ?_)
   split
   ·match kids, ih with
    | [a, b], ih => simp only [mLet]; rw [ih b (by simp), name_rl, ih a (by simp)]
    | [], _ => rfl
    | [_], _ => rfl
    | _ :: _ :: _ :: _, _ => rfl
   ·split
    ·match kids, ih with
     | [a, b, c], ih =>
      simp only [mIf]
      split
      ·rw [ih b (by simp), ih a (by simp)]
      ·rw [ih c (by simp), ih a (by simp)]
     | [], _ => rfl
     | [_], _ => rfl
     | [_, _], _ => rfl
     | _ :: _ :: _ :: _ :: _, _ => rfl
    ·split
     ·match kids, ih with
      | [a, b, c], ih =>
       simp only [mLoop]
       rw [turns_rl _ _ (fun m => ih c (by simp) _ _ m), ih b (by simp), ih a (by simp)]
      | [], _ => rfl
      | [_], _ => rfl
      | [_, _], _ => rfl
      | _ :: _ :: _ :: _ :: _, _ => rfl
     ·match kids, ih with
      | [a], ih => simp only [mOps]; rw [use_rl, ih a (by simp)]
      | [a, b], ih =>
       simp only [mOps]
       split
       ·rw [newCell_rl, ih b (by simp), ih a (by simp)]
       ·rw [ih b (by simp), ih a (by simp)]
      | [], _ => rfl
      | _ :: _ :: _ :: _, _ => rfl
theorem use_w {fuel : Nat} {st : ESt} {m : MM} {a b : Vl} {v : MV} (hs : Sw fuel st m) (h : Rep m.cells (.p a b) v) : ((m.use v).2 = m ∧ Rep m.cells a (m.use v).1.a ∧ Rep m.cells b (m.use v).1.b) ∨ (m.use v).2.fault = 13 := by
 simp only [Rep] at h
 obtain ⟨hc, i, c, hv, hi, ha, hb⟩ := h
 have hil := (List.getElem?_eq_some_iff.1 hi).1
 have e2 : m.cells.getD v.n.toNat c0 = c := by rw [hv, Int.toNat_natCast, List.getD_eq_getElem?_getD, hi]; rfl
 unfold MM.use
 rw [if_neg (by rw [hc, hv]; simp; omega), e2]
 by_cases hlv : m.isLive c = true
 ·rw [if_pos hlv]; exact Or.inl ⟨rfl, ha, hb⟩
 ·rw [if_neg hlv]; right; unfold MM.stop; rw [if_pos hs.f]
theorem cell_w {fuel : Nat} {st : ESt} {m : MM} {a b : Vl} {v u : MV} {k : Int} (hs : Sw fuel st m) (ha : Rep m.cells a v) (hb : Rep m.cells b u) : Sw fuel { st with cells := st.cells + 1 } (m.newCell k v u).2 ∧ Rep (m.newCell k v u).2.cells (.p a b) (m.newCell k v u).1 := by
 have hhl : m.home k < m.regs.length := by
  have hle : ∀ (l : List MR) (k : Int) (i : Nat), homeF l k i ≤ i := by
   intro l k i
   induction i with
   | zero => exact Nat.le_refl _
   | succ i ih => simp only [homeF]; split <;> omega
  have := hle m.regs k (m.regs.length - 1)
  have := hs.r
  unfold MM.home; omega
 have hr : m.regs[m.home k]? = some m.regs[m.home k] := List.getElem?_eq_getElem hhl
 unfold MM.newCell
 rw [hr]
 refine ⟨⟨hs.e, hs.f, hs.s, hs.le, by simp [hs.c], by simp [hs.r]⟩, ?_⟩
 simp only [Rep]
 exact ⟨trivial, m.cells.length, ⟨v, u, m.home k, m.regs[m.home k].ser⟩, rfl, by simp, ha.mono, hb.mono⟩
theorem begun_simW {fuel : Nat} {st : ESt} {m : MM} {f : ESt → Vl × ESt} {g : MM → MV × MM} {T : Ty} (h : Sw fuel st m) (hk : Sw fuel { st with steps := st.steps + 1 } { m with steps := m.steps + 1 } → SimW fuel (f { st with steps := st.steps + 1 }) (g { m with steps := m.steps + 1 }) T) : SimW fuel (begun fuel st f) (mBegun fuel m g) T := by
 unfold begun mBegun
 have hs := h.s
 have hle := h.le
 rw [if_neg (fun hn => hn h.e)]
 by_cases hq : st.steps = fuel
 ·rw [if_pos hq]
  have hq' : fuel ≤ m.steps := by omega
  simp only [if_pos hq']
  have e : m.stop 12 = { m with fault := 12 } := by unfold MM.stop; rw [if_pos h.f]
  rw [e]
  exact Or.inr (Or.inl ⟨rfl, rfl⟩)
 ·rw [if_neg hq]
  have hq' : ¬ fuel ≤ m.steps := by omega
  simp only [if_neg hq']
  rw [if_neg (fun hn => hn h.f)]
  exact hk ⟨h.e, h.f, by simp only; omega, by simp only; omega, h.c, h.r⟩
theorem turns_simW {fuel : Nat} {T : Ty} {j : Nat} {f : Vl → ESt → Vl × ESt} {g : MM → MV × MM} {P : MM → Prop} (hstep : ∀ st m x v, P m → Sw fuel st m → Rep m.cells x v → x.has T → SimW fuel (f x st) (g (m.name (j : Int) v)) T ∧ P (g (m.name (j : Int) v)).2) : ∀ (k : Nat) (st : ESt) (m : MM) (x : Vl) (v : MV), P m → Sw fuel st m → Rep m.cells x v → x.has T → SimW fuel (turns f k x st) (mTurns (j : Int) g k v m) T
 | 0, st, m, x, v, _, hs, hr, ht => Or.inl ⟨hs, hr, ht⟩
 | k + 1, st, m, x, v, hP, hs, hr, ht => by
  simp only [turns, mTurns]
  rw [if_neg (fun hn => hn hs.e), if_neg (fun hn => hn hs.f)]
  obtain ⟨h1, h2⟩ := hstep st m x v hP hs hr ht
  rcases h1 with ⟨a, b, c⟩ | hB | hD
  ·exact turns_simW hstep k _ _ _ _ h2 a b c
  ·exact Or.inr (Or.inl ⟨by rw [turns_keep _ _ _ _ (by rw [hB.1]; decide)]; exact hB.1, by rw [mTurns_keep _ _ _ _ _ (by rw [hB.2]; decide)]; exact hB.2⟩)
  ·exact Or.inr (Or.inr (by rw [mTurns_keep _ _ _ _ _ (by rw [hD]; decide)]; exact hD))
theorem both_w {fuel : Nat} (t : PT) (t' : PT) (sc : Sc) (base : Nat) (env : VEnv) {st : ESt} {m : MM} (h : Both st m) : Both (ev fuel t env st).2 (mW fuel t' sc base m).2 :=
 ⟨by rw [ev_keep fuel t env st (by rw [h.1]; decide)]; exact h.1, by rw [mW_fk fuel t' sc base m (by rw [h.2]; decide)]; exact h.2⟩
theorem dead_w {fuel : Nat} (t' : PT) (sc : Sc) (base : Nat) {m : MM} (h : m.fault = 13) : (mW fuel t' sc base m).2.fault = 13 := by
 rw [mW_fk fuel t' sc base m (by rw [h]; decide)]; exact h
set_option maxHeartbeats 2000000 in
theorem mW_evW (fuel : Nat) {G : TEnv} {t : PT} {T : Ty} (h : WT G t T) : ∀ (sc : Sc) (base : Nat) (m : MM) (env : VEnv) (st : ESt), t.rgd → ER m.named m.cells sc env G base → base + t.cnt ≤ m.named.length → Sw fuel st m → SimW fuel (ev fuel t.era env st) (mW fuel t sc base m) T := by
 induction h with
 | num =>
  intro sc base m env st hr he hl hs
  simp only [PT.rgd] at hr
  simp only [PT.era, ev, mW]
  exact begun_simW hs (fun hs => Or.inl ⟨hs, by simp only [Rep, true_and]; omega, by simp only [Vl.has]; omega⟩)
 | name hlk =>
  intro sc base m env st hr he hl hs
  simp only [PT.era, ev, mW]
  refine begun_simW hs (fun hs => Or.inl ⟨hs, ?_⟩)
  obtain ⟨i, v, h1, h2, h3, h4, h5⟩ := he _ _ hlk
  have hil := (List.getElem?_eq_some_iff.1 h3).1
  unfold MM.look
  simp only [h1]
  rw [if_neg (by omega), Int.toNat_natCast, List.getD_eq_getElem?_getD, h3]
  exact ⟨h4, h5⟩
 | @let_ G p nm rg a b A B ha hb iha ihb =>
  intro sc base m env st hr he hl hs
  simp only [PT.rgd, rgdL] at hr
  simp only [PT.cnt, cntL, Nat.add_zero] at hl
  simp only [PT.era, eraL, ev, evLet, mW, mLet, if_true, reduceCtorEq, if_false]
  refine begun_simW hs (fun hs => ?_)
  have hf := mW_fits fuel ha sc base { m with steps := m.steps + 1 } hr.2.1 he.ef (by simp only; omega)
  have h1 := iha sc base { m with steps := m.steps + 1 } env { st with steps := st.steps + 1 } hr.2.1 he (by simp only; omega) hs
  generalize mW fuel a sc base { m with steps := m.steps + 1 } = x at hf h1 ⊢
  generalize ev fuel a.era env { st with steps := st.steps + 1 } = y at h1 ⊢
  have hca := cnt_pos' a
  have hxl : x.2.named.length = m.named.length := hf.1.len
  rw [show (((base + a.cnt : Nat) : Int) - 1) = ((base + a.cnt - 1 : Nat) : Int) from by omega]
  rcases h1 with ⟨h1, h2, h3⟩ | hB | hD
  ·have hx := ER.on (m := { m with steps := m.steps + 1 }) he hf.1 (Nat.le_refl _)
   have hsn := hx.snoc (nm := nm) (j := base + a.cnt - 1) (by omega) (by omega) h2 h3
   rw [show base + a.cnt - 1 + 1 = base + a.cnt from by omega] at hsn
   have hne := name_ext x.2 (base + a.cnt - 1) x.1 base a.cnt (by omega)
   exact ihb _ (base + a.cnt) _ _ _ hr.2.2.1 hsn (by rw [hne.len, hxl]; omega) (h1.name _ _)
  ·exact Or.inr (Or.inl (both_w _ _ _ _ _ (hB.name _ _)))
  ·exact Or.inr (Or.inr (dead_w _ _ _ (by rw [(name_fault _ _ _).1]; exact hD)))
 | @pair G p nm rg a b A B ha hb hsz iha ihb =>
  intro sc base m env st hr he hl hs
  simp only [PT.rgd, rgdL] at hr
  simp only [PT.cnt, cntL, Nat.add_zero] at hl
  have e' : ev fuel (PT.node p .pair nm rg [a, b]).era env st = begun fuel st (fun st => if (ev fuel b.era env (ev fuel a.era env st).2).2.e ≠ 0 then (.n 0, (ev fuel b.era env (ev fuel a.era env st).2).2) else madeV .pair [(ev fuel a.era env st).1, (ev fuel b.era env (ev fuel a.era env st).2).1] (ev fuel b.era env (ev fuel a.era env st).2).2) := by
   simp only [PT.era, eraL, ev, evKids, reduceCtorEq, if_false]; rfl
  rw [e']
  simp only [mW, mOps, if_true, reduceCtorEq, if_false]
  refine begun_simW hs (fun hs => ?_)
  have hf := mW_fits fuel ha sc base { m with steps := m.steps + 1 } hr.2.1 he.ef (by simp only; omega)
  have h1 := iha sc base { m with steps := m.steps + 1 } env { st with steps := st.steps + 1 } hr.2.1 he (by simp only; omega) hs
  generalize mW fuel a sc base { m with steps := m.steps + 1 } = x at hf h1 ⊢
  generalize ev fuel a.era env { st with steps := st.steps + 1 } = y at h1 ⊢
  have hxl : x.2.named.length = m.named.length := hf.1.len
  rcases h1 with ⟨h1, h2, h3⟩ | hB | hD
  ·have hx := (ER.on (m := { m with steps := m.steps + 1 }) he hf.1 (Nat.le_refl _)).up (show base ≤ base + a.cnt by omega)
   have hg := mW_fits fuel hb sc (base + a.cnt) x.2 hr.2.2.1 hx.ef (by omega)
   have k1 := ihb sc (base + a.cnt) x.2 env y.2 hr.2.2.1 hx (by omega) h1
   generalize mW fuel b sc (base + a.cnt) x.2 = x' at hg k1 ⊢
   generalize ev fuel b.era env y.2 = y' at k1 ⊢
   rcases k1 with ⟨k1, k2, k3⟩ | hB | hD
   ·rw [if_neg (fun hn => hn k1.e)]
    simp only [madeV]
    have hc := cell_w (k := valueL rg) k1 (h2.on hg.1) k2
    exact Or.inl ⟨hc.1, hc.2, by simp only [Vl.has]; exact ⟨h3, k3⟩⟩
   ·rw [if_pos (by rw [hB.1]; decide)]
    exact Or.inr (Or.inl ⟨hB.1, by rw [newCell_fault]; exact hB.2⟩)
   ·exact Or.inr (Or.inr (by rw [newCell_fault]; exact hD))
  ·have hB2 := both_w (fuel := fuel) b.era b sc (base + a.cnt) env hB
   rw [if_pos (by rw [hB2.1]; decide)]
   exact Or.inr (Or.inl ⟨hB2.1, by rw [newCell_fault]; exact hB2.2⟩)
  ·exact Or.inr (Or.inr (by rw [newCell_fault]; exact dead_w _ _ _ hD))
 | @fst G p nm rg a A B ha iha =>
  intro sc base m env st hr he hl hs
  simp only [PT.rgd, rgdL] at hr
  simp only [PT.cnt, cntL, Nat.add_zero] at hl
  have e' : ev fuel (PT.node p .fst nm rg [a]).era env st = begun fuel st (fun st => if (ev fuel a.era env st).2.e ≠ 0 then (.n 0, (ev fuel a.era env st).2) else madeV .fst [(ev fuel a.era env st).1] (ev fuel a.era env st).2) := by
   simp only [PT.era, eraL, ev, evKids, reduceCtorEq, if_false]; rfl
  rw [e']
  simp only [mW, mOps, if_true, reduceCtorEq, if_false]
  refine begun_simW hs (fun hs => ?_)
  have h1 := iha sc base { m with steps := m.steps + 1 } env { st with steps := st.steps + 1 } hr.2.1 he (by simp only; omega) hs
  generalize mW fuel a sc base { m with steps := m.steps + 1 } = x at h1 ⊢
  generalize ev fuel a.era env { st with steps := st.steps + 1 } = y at h1 ⊢
  rcases h1 with ⟨h1, h2, h3⟩ | hB | hD
  ·rw [if_neg (fun hn => hn h1.e)]
   obtain ⟨y1, y2⟩ := y
   cases y1 with
   | n k => simp [Vl.has] at h3
   | p u v =>
    simp only [Vl.has] at h3
    have hu := use_w h1 h2
    simp only [madeV, Vl.fst]
    rcases hu with hu | hu
    ·rw [hu.1]
     exact Or.inl ⟨h1, hu.2.1, h3.1⟩
    ·exact Or.inr (Or.inr hu)
  ·rw [if_pos (by rw [hB.1]; decide)]
   exact Or.inr (Or.inl ⟨hB.1, by rw [use_fk _ _ (by rw [hB.2]; decide)]; exact hB.2⟩)
  ·exact Or.inr (Or.inr (by rw [use_fk _ _ (by rw [hD]; decide)]; exact hD))
 | @snd G p nm rg a A B ha iha =>
  intro sc base m env st hr he hl hs
  simp only [PT.rgd, rgdL] at hr
  simp only [PT.cnt, cntL, Nat.add_zero] at hl
  have e' : ev fuel (PT.node p .snd nm rg [a]).era env st = begun fuel st (fun st => if (ev fuel a.era env st).2.e ≠ 0 then (.n 0, (ev fuel a.era env st).2) else madeV .snd [(ev fuel a.era env st).1] (ev fuel a.era env st).2) := by
   simp only [PT.era, eraL, ev, evKids, reduceCtorEq, if_false]; rfl
  rw [e']
  simp only [mW, mOps, reduceCtorEq, if_false]
  refine begun_simW hs (fun hs => ?_)
  have h1 := iha sc base { m with steps := m.steps + 1 } env { st with steps := st.steps + 1 } hr.2.1 he (by simp only; omega) hs
  generalize mW fuel a sc base { m with steps := m.steps + 1 } = x at h1 ⊢
  generalize ev fuel a.era env { st with steps := st.steps + 1 } = y at h1 ⊢
  rcases h1 with ⟨h1, h2, h3⟩ | hB | hD
  ·rw [if_neg (fun hn => hn h1.e)]
   obtain ⟨y1, y2⟩ := y
   cases y1 with
   | n k => simp [Vl.has] at h3
   | p u v =>
    simp only [Vl.has] at h3
    have hu := use_w h1 h2
    simp only [madeV, Vl.snd]
    rcases hu with hu | hu
    ·rw [hu.1]
     exact Or.inl ⟨h1, hu.2.2, h3.2⟩
    ·exact Or.inr (Or.inr hu)
  ·rw [if_pos (by rw [hB.1]; decide)]
   exact Or.inr (Or.inl ⟨hB.1, by rw [use_fk _ _ (by rw [hB.2]; decide)]; exact hB.2⟩)
  ·exact Or.inr (Or.inr (by rw [use_fk _ _ (by rw [hD]; decide)]; exact hD))
 | @if_ G p nm rg a b c T ha hb hc iha ihb ihc =>
  intro sc base m env st hr he hl hs
  simp only [PT.rgd, rgdL] at hr
  simp only [PT.cnt, cntL, Nat.add_zero] at hl
  simp only [PT.era, eraL, ev, evIf, mW, mIf, if_true, reduceCtorEq, if_false]
  refine begun_simW hs (fun hs => ?_)
  have hf := mW_fits fuel ha sc base { m with steps := m.steps + 1 } hr.2.1 he.ef (by simp only; omega)
  have h1 := iha sc base { m with steps := m.steps + 1 } env { st with steps := st.steps + 1 } hr.2.1 he (by simp only; omega) hs
  generalize mW fuel a sc base { m with steps := m.steps + 1 } = x at hf h1 ⊢
  generalize ev fuel a.era env { st with steps := st.steps + 1 } = y at h1 ⊢
  have hxl : x.2.named.length = m.named.length := hf.1.len
  rcases h1 with ⟨h1, h2, h3⟩ | hB | hD
  ·have hx := ER.on (m := { m with steps := m.steps + 1 }) he hf.1 (Nat.le_refl _)
   obtain ⟨y1, y2⟩ := y
   cases y1 with
   | p u v => simp [Vl.has] at h3
   | n k =>
    simp only [Rep] at h2
    split
    ·rename_i hz
     simp only [Vl.num] at hz
     rw [if_pos (show x.1.n ≠ 0 by omega)]
     exact ihb sc (base + a.cnt) x.2 env _ hr.2.2.1 (hx.up (by omega)) (by omega) h1
    ·rename_i hz
     simp only [Vl.num, ne_eq, Decidable.not_not] at hz
     rw [if_neg (show ¬ x.1.n ≠ 0 by omega)]
     exact ihc sc (base + a.cnt + b.cnt) x.2 env _ hr.2.2.2.1 (hx.up (by omega)) (by omega) h1
  ·refine Or.inr (Or.inl ?_)
   constructor
   ·split
    ·exact (both_w b.era b sc 0 env hB).1
    ·exact (both_w c.era c sc 0 env hB).1
   ·split
    ·exact (both_w b.era b sc (base + a.cnt) env hB).2
    ·exact (both_w c.era c sc (base + a.cnt + b.cnt) env hB).2
  ·refine Or.inr (Or.inr ?_)
   split
   ·exact dead_w _ _ _ hD
   ·exact dead_w _ _ _ hD
 | @two G p k nm rg a b hkk ha hb iha ihb =>
  intro sc base m env st hr he hl hs
  simp only [PT.rgd, rgdL] at hr
  simp only [PT.cnt, cntL, Nat.add_zero] at hl
  have e : mW fuel (.node p k nm rg [a, b]) sc base m = mBegun fuel m (fun m => (⟨false, mArith k (mW fuel a sc base m).1.n (mW fuel b sc (base + a.cnt) (mW fuel a sc base m).2).1.n⟩, (mW fuel b sc (base + a.cnt) (mW fuel a sc base m).2).2)) := by
   rcases hkk with rfl | rfl | rfl <;> simp only [mW, mOps, reduceCtorEq, if_false]
  have e' : ev fuel (PT.node p k nm rg [a, b]).era env st = begun fuel st (fun st => if (ev fuel b.era env (ev fuel a.era env st).2).2.e ≠ 0 then (.n 0, (ev fuel b.era env (ev fuel a.era env st).2).2) else madeV k [(ev fuel a.era env st).1, (ev fuel b.era env (ev fuel a.era env st).2).1] (ev fuel b.era env (ev fuel a.era env st).2).2) := by
   rcases hkk with rfl | rfl | rfl <;> (simp only [PT.era, eraL, ev, evKids, reduceCtorEq, if_false]; rfl)
  rw [e, e']
  refine begun_simW hs (fun hs => ?_)
  have hf := mW_fits fuel ha sc base { m with steps := m.steps + 1 } hr.2.1 he.ef (by simp only; omega)
  have h1 := iha sc base { m with steps := m.steps + 1 } env { st with steps := st.steps + 1 } hr.2.1 he (by simp only; omega) hs
  generalize mW fuel a sc base { m with steps := m.steps + 1 } = x at hf h1 ⊢
  generalize ev fuel a.era env { st with steps := st.steps + 1 } = y at h1 ⊢
  have hxl : x.2.named.length = m.named.length := hf.1.len
  rcases h1 with ⟨h1, h2, h3⟩ | hB | hD
  ·have hx := (ER.on (m := { m with steps := m.steps + 1 }) he hf.1 (Nat.le_refl _)).up (show base ≤ base + a.cnt by omega)
   have k1 := ihb sc (base + a.cnt) x.2 env y.2 hr.2.2.1 hx (by omega) h1
   generalize mW fuel b sc (base + a.cnt) x.2 = x' at k1 ⊢
   generalize ev fuel b.era env y.2 = y' at k1 ⊢
   rcases k1 with ⟨k1, k2, k3⟩ | hB | hD
   ·rw [if_neg (fun hn => hn k1.e)]
    obtain ⟨y1, y2⟩ := y
    obtain ⟨z1, z2⟩ := y'
    cases y1 with
    | p u v => simp [Vl.has] at h3
    | n i =>
     cases z1 with
     | p u v => simp [Vl.has] at k3
     | n j =>
      simp only [Rep] at h2 k2
      refine Or.inl ?_
      rcases hkk with rfl | rfl | rfl
      ·simp only [madeV, Vl.num, mArith, if_true]
       refine ⟨k1, ?_, by simp only [Vl.has]; omega⟩
       simp only [Rep, true_and]
       rw [Int.tmod_eq_emod_of_nonneg (by omega)]
       omega
      ·simp only [madeV, Vl.num, mArith, if_true, reduceCtorEq, if_false]
       refine ⟨k1, ?_, by simp only [Vl.has]; omega⟩
       simp only [Rep, true_and]
       rw [Int.tmod_eq_emod_of_nonneg (by omega)]
       omega
      ·simp only [madeV, mArith, reduceCtorEq, if_false]
       by_cases hlt : i < j
       ·have hq : x.1.n < x'.1.n := by omega
        exact ⟨k1, by simp [Rep, Vl.num, hlt, hq], by simp [Vl.has, Vl.num, hlt]⟩
       ·have hq : ¬ x.1.n < x'.1.n := by omega
        exact ⟨k1, by simp [Rep, Vl.num, hlt, hq], by simp [Vl.has, Vl.num, hlt]⟩
   ·rw [if_pos (by rw [hB.1]; decide)]
    exact Or.inr (Or.inl hB)
   ·exact Or.inr (Or.inr hD)
  ·have hB2 := both_w (fuel := fuel) b.era b sc (base + a.cnt) env hB
   rw [if_pos (by rw [hB2.1]; decide)]
   exact Or.inr (Or.inl hB2)
  ·exact Or.inr (Or.inr (dead_w _ _ _ hD))
 | @loop G p nm rg a b c T ha hb hc iha ihb ihc =>
  intro sc base m env st hr he hl hs
  simp only [PT.rgd, rgdL] at hr
  simp only [PT.cnt, cntL, Nat.add_zero] at hl
  simp only [PT.era, eraL, ev, evLoop, mW, mLoop, if_true, reduceCtorEq, if_false]
  refine begun_simW hs (fun hs => ?_)
  have hf := mW_fits fuel ha sc base { m with steps := m.steps + 1 } hr.2.1 he.ef (by simp only; omega)
  have h1 := iha sc base { m with steps := m.steps + 1 } env { st with steps := st.steps + 1 } hr.2.1 he (by simp only; omega) hs
  generalize mW fuel a sc base { m with steps := m.steps + 1 } = x at hf h1 ⊢
  generalize ev fuel a.era env { st with steps := st.steps + 1 } = y at h1 ⊢
  have hxl : x.2.named.length = m.named.length := hf.1.len
  rcases h1 with ⟨h1, h2, h3⟩ | hB | hD
  ·have hx := ER.on (m := { m with steps := m.steps + 1 }) he hf.1 (Nat.le_refl _)
   have hg := mW_fits fuel hb sc (base + a.cnt) x.2 hr.2.2.1 (hx.up (by omega)).ef (by omega)
   have k1 := ihb sc (base + a.cnt) x.2 env y.2 hr.2.2.1 (hx.up (by omega)) (by omega) h1
   generalize mW fuel b sc (base + a.cnt) x.2 = x' at hg k1 ⊢
   generalize ev fuel b.era env y.2 = y' at k1 ⊢
   have hxl' : x'.2.named.length = m.named.length := hg.1.len.trans hxl
   have hcb := cnt_pos' b
   rw [show (((base + a.cnt + b.cnt : Nat) : Int) - 1) = ((base + a.cnt + b.cnt - 1 : Nat) : Int) from by omega]
   rcases k1 with ⟨k1, k2, k3⟩ | hB | hD
   ·have hnum : x.1.n.toNat = y.1.num := by
     obtain ⟨y1, y2⟩ := y
     cases y1 with
     | p u v => simp [Vl.has] at h3
     | n k => simp only [Rep] at h2; simp only [Vl.num]; omega
    rw [hnum]
    refine turns_simW (P := fun m' => ER m'.named m'.cells sc env G base ∧ m'.named.length = m.named.length) (fun st' m' v u hP hs' hr' ht' => ?_) _ _ _ _ _ ⟨hx.on hg.1 (by omega), hxl'⟩ k1 k2 k3
    have hsn := ER.snoc (nm := nm) (j := base + a.cnt + b.cnt - 1) (ER.up hP.1 (show base ≤ base + a.cnt + b.cnt - 1 by omega)) (Nat.le_refl _) (by omega) hr' ht'
    rw [show base + a.cnt + b.cnt - 1 + 1 = base + a.cnt + b.cnt from by omega] at hsn
    have hne := name_ext m' (base + a.cnt + b.cnt - 1) u (base + a.cnt + b.cnt - 1) 1 (by omega)
    have hg' := mW_fits fuel hc _ (base + a.cnt + b.cnt) _ hr.2.2.2.1 hsn.ef (by rw [hne.len]; omega)
    refine ⟨ihc _ (base + a.cnt + b.cnt) _ _ _ hr.2.2.2.1 hsn (by rw [hne.len]; omega) (hs'.name _ _), ER.on (hP.1.on hne (by omega)) hg'.1 (by omega), hg'.1.len.trans (hne.len.trans hP.2)⟩
   ·exact Or.inr (Or.inl ⟨by rw [turns_keep _ _ _ _ (by rw [hB.1]; decide)]; exact hB.1, by rw [mTurns_keep _ _ _ _ _ (by rw [hB.2]; decide)]; exact hB.2⟩)
   ·exact Or.inr (Or.inr (by rw [mTurns_keep _ _ _ _ _ (by rw [hD]; decide)]; exact hD))
  ·have hB2 := both_w (fuel := fuel) b.era b sc (base + a.cnt) env hB
   exact Or.inr (Or.inl ⟨by rw [turns_keep _ _ _ _ (by rw [hB2.1]; decide)]; exact hB2.1, by rw [mTurns_keep _ _ _ _ _ (by rw [hB2.2]; decide)]; exact hB2.2⟩)
  ·have hD2 := dead_w (fuel := fuel) b sc (base + a.cnt) hD
   exact Or.inr (Or.inr (by rw [mTurns_keep _ _ _ _ _ (by rw [hD2]; decide)]; exact hD2))
 | @new G p nm rg a T ha iha =>
  intro sc base m env st hr he hl hs
  simp only [PT.rgd, rgdL] at hr
  simp only [PT.cnt, cntL, Nat.add_zero] at hl
  simp only [PT.era, eraL, if_true, List.headD_cons, mW, mNew]
  have h1 := iha sc base (m.opn (valueL rg)) env st hr.2.1 he (by simp only [MM.opn]; omega) ⟨hs.e, hs.f, hs.s, hs.le, hs.c, by simp [MM.opn]⟩
  have hrl := mW_rl fuel a sc base (m.opn (valueL rg))
  generalize mW fuel a sc base (m.opn (valueL rg)) = x at h1 hrl ⊢
  obtain ⟨f1, f2, f3, f4, f5⟩ := fin_fault x.2
  have hr0 := hs.r
  rcases h1 with ⟨h1, h2, h3⟩ | hB | hD
  ·refine Or.inl ⟨⟨h1.e, by rw [f1]; exact h1.f, by rw [f2]; exact h1.s, h1.le, by rw [f3]; exact h1.c, ?_⟩, by rw [f3]; exact h2, h3⟩
   rw [f5, hrl]; simp only [MM.opn, List.length_append, List.length_singleton]; omega
  ·exact Or.inr (Or.inl ⟨hB.1, by rw [f1]; exact hB.2⟩)
  ·exact Or.inr (Or.inr (by rw [f1]; exact hD))
end Go.Proofs.YtpicaknklgccoabGreatDoor
