import Derived.Test.YtpicaknklgccoaaGreatDoorX24
namespace Go.Proofs.YtpicaknklgccoaaGreatDoor
open Go.RowKit
theorem step_call {P : Program} {ops : Array Oper} {o : Oper} {a : Act} {w : World} {K : Act → World → Prop} {Q : Exit → Act → World → Prop} {E : Prop} (hg : o.guard = none)
  (f : FuncId) (args : Array Value) (hrun : (execOp a.eval o).run P w = .ok (.enter f args) w) (h : Calls P f args w fun e w' => ∃ v, e = .returned v ∧ K (a.put o.dst v) w') : if Region.wanted o (yielded ops a.tmps) = true then Oper.wp P o a w K Q else E := by
 have hw : Region.wanted o (yielded ops a.tmps) = true := by simp [Region.wanted, hg]
 rw [if_pos hw]
 unfold Oper.wp
 rw [hrun]
 refine Calls.mono h ?_
 rintro e w' ⟨v, rfl, hk⟩
 exact hk
theorem Tryz.infoVal : (Tryz.prog.info? 171).map (fun i => (i.zero, i.size, i.bytes)) = some (some (.agg #[.bool false, .int .i64 0]), 2, 16) := by kernel_rfl
theorem Tryz.undVals : Tryz.prog.underlying 165 = some (.slice 171) := by kernel_rfl
def m0 (k : Nat) : MM := ⟨0, 0, List.replicate k v0, [], [], 0, 0, 0⟩
def Born (w : World) (tn to_ : Value) (fuel k : Nat) (t6 : Value) (wc : World) : Prop :=
 ∃ mb nv, t6 = .pointer (some ⟨mb, 0, none⟩) ∧ MIn mb wc tn to_ fuel nv (.slice none 0 0) (.slice none 0 0) (m0 k) ∧ Below w.heap.size w wc ∧ w.heap.size ≤ mb ∧ ∀ g, nv.ownBlock = some g → w.heap.size ≤ g
def mz : Array Value := #[.slice none 0 0, .slice none 0 0, .int .i64 0, .int .i64 0, .int .i64 0, .slice none 0 0, .slice none 0 0, .slice none 0 0, .int .i64 0, .int .i64 0, .int .i64 0]
theorem made_vals (k : Nat) : (madeCells #[Value.bool false, Value.int .i64 0] (k * 2)).toList = (List.replicate k v0).flatMap mvL := by
 apply List.ext_getElem?
 intro i
 have hlen : ((List.replicate k v0).flatMap mvL).length = k * 2 := by rw [flat_len mvL 2 (fun _ => rfl)]; simp
 by_cases hi : i < k * 2
 ·have hd := Nat.div_add_mod' i 2
  have key := flat_at mvL 2 (fun _ => rfl) (List.replicate k v0) (i / 2) (i % 2) (Nat.mod_lt _ (by omega))
  rw [hd] at key
  rw [key, List.getElem?_replicate, if_pos (by omega)]
  simp only [Option.bind_some]
  rw [Array.getElem?_toList]
  simp only [madeCells]
  rcases (show i % 2 = 0 ∨ i % 2 = 1 by omega) with h | h
  ·simp [h, hi, mvL, v0]
  ·simp [h, hi, mvL, v0]
 ·rw [List.getElem?_eq_none (by rw [Array.length_toList, size_madeCells]; omega), List.getElem?_eq_none (by rw [hlen]; omega)]
theorem blkA1 (w : World) (A R : Obj) : ((w.alloc A).alloc R).heap[w.heap.size]? = some A := blk_alloc _ (blk_new w A)
theorem blkA2 (w : World) (A R O : Obj) : (((w.alloc A).alloc R).alloc O).heap[w.heap.size]? = some A := blk_alloc _ (blk_alloc _ (blk_new w A))
theorem blk_new3 (w : World) (A R O : Obj) : (((w.alloc A).alloc R).alloc O).heap[w.heap.size + 1 + 1]? = some O := by
 have := blk_new ((w.alloc A).alloc R) O
 simpa using this
theorem mz_cells {w : World} {b : Nat} (h : w.heap[b]? = some (.cells mz 169)) : w.cell? ⟨b, 0, none⟩ = some (.slice none 0 0) ∧ w.cell? ⟨b, 1, none⟩ = some (.slice none 0 0) ∧ w.cell? ⟨b, 2, none⟩ = some (.int .i64 0) ∧ w.cell? ⟨b, 3, none⟩ = some (.int .i64 0) ∧ w.cell? ⟨b, 4, none⟩ = some (.int .i64 0) ∧ w.cell? ⟨b, 5, none⟩ = some (.slice none 0 0) ∧ w.cell? ⟨b, 6, none⟩ = some (.slice none 0 0) ∧ w.cell? ⟨b, 7, none⟩ = some (.slice none 0 0) ∧ w.cell? ⟨b, 8, none⟩ = some (.int .i64 0) ∧ w.cell? ⟨b, 9, none⟩ = some (.int .i64 0) ∧ w.cell? ⟨b, 10, none⟩ = some (.int .i64 0) := by
 refine ⟨?_, ?_, ?_, ?_, ?_, ?_, ?_, ?_, ?_, ?_, ?_⟩ <;> (rw [blk_cell h]; rfl)
theorem mz_free {w : World} {b : Nat} (h : w.heap[b]? = some (.cells mz 169)) : w.frozen? ⟨b, 0, none⟩ = false ∧ w.frozen? ⟨b, 1, none⟩ = false ∧ w.frozen? ⟨b, 2, none⟩ = false ∧ w.frozen? ⟨b, 3, none⟩ = false ∧ w.frozen? ⟨b, 4, none⟩ = false ∧ w.frozen? ⟨b, 5, none⟩ = false ∧ w.frozen? ⟨b, 6, none⟩ = false ∧ w.frozen? ⟨b, 7, none⟩ = false ∧ w.frozen? ⟨b, 8, none⟩ = false ∧ w.frozen? ⟨b, 9, none⟩ = false ∧ w.frozen? ⟨b, 10, none⟩ = false :=
 ⟨blk_free h 0, blk_free h 1, blk_free h 2, blk_free h 3, blk_free h 4, blk_free h 5, blk_free h 6, blk_free h 7, blk_free h 8, blk_free h 9, blk_free h 10⟩
theorem born_of {w W : World} {tn to_ : Value} {fuel k mb gm : Nat} {M : Obj} (hk : k ≤ 9000) (hM : M = .cells (madeCells #[.bool false, .int .i64 0] (k * 2)) 171) (hb : Below w.heap.size w W) (hz : W.heap[mb]? = some (.cells #[tn, to_, .int .i64 fuel, .int .i64 0, .int .i64 0, .slice (some ⟨gm, 0, none⟩) k k, .slice none 0 0, .slice none 0 0, .int .i64 0, .int .i64 0, .int .i64 0] 169)) (hm : W.heap[gm]? = some M) (hne : gm ≠ mb) (h1 : w.heap.size ≤ mb) (h2 : w.heap.size ≤ gm) :
  Born w tn to_ fuel k (.pointer (some ⟨mb, 0, none⟩)) W := by
 subst hM
 refine ⟨mb, .slice (some ⟨gm, 0, none⟩) k k, rfl, ⟨hz, ?_, World.ownsRow_nil _ _ _ _, World.ownsRow_nil _ _ _ _, ?_, by simp [Value.ownBlock], by simp [Value.ownBlock], ?_, ?_, ?_⟩, hb, h1, ?_⟩
 ·have hl : (m0 k).named.length = k := by simp [m0]
  have hfl : ((m0 k).named.flatMap mvL) = (madeCells #[Value.bool false, Value.int .i64 0] (k * 2)).toList := by rw [made_vals]; rfl
  rw [hl, hfl]
  refine ⟨by simp [madeCells], Or.inr ⟨gm, k, _, rfl, Nat.zero_le _, hm, Nat.le_refl _, by unfold maxLen; omega, size_madeCells _ _, ?_⟩⟩
  rw [List.take_of_length_le (by simp [madeCells])]
 ·simp only [Value.ownBlock, ne_eq, Option.some.injEq]; exact hne
 ·intro g _; simp [Value.ownBlock]
 ·intro g _; simp [Value.ownBlock]
 ·intro g _; simp [Value.ownBlock]
 ·intro g hg
  simp only [Value.ownBlock, Option.some.injEq] at hg
  omega
theorem born_s3 {w w2 : World} {tn to_ : Value} {fuel k : Nat} {M : Obj} (hk : k ≤ 9000) (hM : M = .cells (madeCells #[.bool false, .int .i64 0] (k * 2)) 171) (hb : Below w.heap.size w w2) :
  Born w tn to_ fuel k (.pointer (some ⟨w2.heap.size + 1, 0, none⟩)) ((w2.alloc M).alloc (.cells #[tn, to_, .int .i64 fuel, .int .i64 0, .int .i64 0, .slice (some ⟨w2.heap.size, 0, none⟩) k k, .slice none 0 0, .slice none 0 0, .int .i64 0, .int .i64 0, .int .i64 0] 169)) :=
 have hs := hb.size
 born_of (gm := w2.heap.size) hk hM (below_al (below_al hb _) _) (by have := blk_new (w2.alloc M) (.cells #[tn, to_, .int .i64 fuel, .int .i64 0, .int .i64 0, .slice (some ⟨w2.heap.size, 0, none⟩) k k, .slice none 0 0, .slice none 0 0, .int .i64 0, .int .i64 0, .int .i64 0] 169); simpa using this) (blk_alloc _ (blk_new w2 M)) (by omega) (by omega) hs
theorem born_s2 {w w2 : World} {tn to_ : Value} {fuel k : Nat} {M : Obj} (hk : k ≤ 9000) (hM : M = .cells (madeCells #[.bool false, .int .i64 0] (k * 2)) 171) (hb : Below w.heap.size w w2) :
  Born w tn to_ fuel k (.pointer (some ⟨w2.heap.size, 0, none⟩)) ((w2.alloc (.cells #[tn, to_, .int .i64 fuel, .int .i64 0, .int .i64 0, .slice (some ⟨w2.heap.size + 1, 0, none⟩) k k, .slice none 0 0, .slice none 0 0, .int .i64 0, .int .i64 0, .int .i64 0] 169)).alloc M) :=
 have hs := hb.size
 born_of (gm := w2.heap.size + 1) hk hM (below_al (below_al hb _) _) (blk_alloc _ (blk_new w2 _)) (by have := blk_new (w2.alloc (.cells #[tn, to_, .int .i64 fuel, .int .i64 0, .int .i64 0, .slice (some ⟨w2.heap.size + 1, 0, none⟩) k k, .slice none 0 0, .slice none 0 0, .int .i64 0, .int .i64 0, .int .i64 0] 169)) M; simpa using this) (by omega) hs (by omega)
set_option maxHeartbeats 1000000 in
theorem born_s1 {w w2 : World} {tn to_ : Value} {fuel k : Nat} {M : Obj} {mb : Nat} (hmb : w.heap.size ≤ mb) (hk : k ≤ 9000) (hM : M = .cells (madeCells #[.bool false, .int .i64 0] (k * 2)) 171) (hb : Below w.heap.size w w2) (hz : w2.heap[mb]? = some (.cells mz 169)) :
  Born w tn to_ fuel k (.pointer (some ⟨mb, 0, none⟩)) ((((((((((((w2.setCell ⟨mb, 0, none⟩ (tn)).setCell ⟨mb, 1, none⟩ (to_)).setCell ⟨mb, 2, none⟩ (.int .i64 fuel)).setCell ⟨mb, 3, none⟩ (.int .i64 0)).setCell ⟨mb, 4, none⟩ (.int .i64 0)).setCell ⟨mb, 5, none⟩ (.slice (some ⟨w2.heap.size, 0, none⟩) k k)).setCell ⟨mb, 6, none⟩ (.slice none 0 0)).setCell ⟨mb, 7, none⟩ (.slice none 0 0)).setCell ⟨mb, 8, none⟩ (.int .i64 0)).setCell ⟨mb, 9, none⟩ (.int .i64 0)).setCell ⟨mb, 10, none⟩ (.int .i64 0)).alloc M) := by
 have hs := hb.size
 have hl := blk_lt hz
 have h0 : (w2.setCell ⟨mb, 0, none⟩ (tn)).heap[mb]? = some (.cells #[tn, .slice none 0 0, .int .i64 0, .int .i64 0, .int .i64 0, .slice none 0 0, .slice none 0 0, .slice none 0 0, .int .i64 0, .int .i64 0, .int .i64 0] 169) := blk_set hz 0 (tn)
 have h1 : ((w2.setCell ⟨mb, 0, none⟩ (tn)).setCell ⟨mb, 1, none⟩ (to_)).heap[mb]? = some (.cells #[tn, to_, .int .i64 0, .int .i64 0, .int .i64 0, .slice none 0 0, .slice none 0 0, .slice none 0 0, .int .i64 0, .int .i64 0, .int .i64 0] 169) := blk_set h0 1 (to_)
 have h2 : (((w2.setCell ⟨mb, 0, none⟩ (tn)).setCell ⟨mb, 1, none⟩ (to_)).setCell ⟨mb, 2, none⟩ (.int .i64 fuel)).heap[mb]? = some (.cells #[tn, to_, .int .i64 fuel, .int .i64 0, .int .i64 0, .slice none 0 0, .slice none 0 0, .slice none 0 0, .int .i64 0, .int .i64 0, .int .i64 0] 169) := blk_set h1 2 (.int .i64 fuel)
 have h3 : ((((w2.setCell ⟨mb, 0, none⟩ (tn)).setCell ⟨mb, 1, none⟩ (to_)).setCell ⟨mb, 2, none⟩ (.int .i64 fuel)).setCell ⟨mb, 3, none⟩ (.int .i64 0)).heap[mb]? = some (.cells #[tn, to_, .int .i64 fuel, .int .i64 0, .int .i64 0, .slice none 0 0, .slice none 0 0, .slice none 0 0, .int .i64 0, .int .i64 0, .int .i64 0] 169) := blk_set h2 3 (.int .i64 0)
 have h4 : (((((w2.setCell ⟨mb, 0, none⟩ (tn)).setCell ⟨mb, 1, none⟩ (to_)).setCell ⟨mb, 2, none⟩ (.int .i64 fuel)).setCell ⟨mb, 3, none⟩ (.int .i64 0)).setCell ⟨mb, 4, none⟩ (.int .i64 0)).heap[mb]? = some (.cells #[tn, to_, .int .i64 fuel, .int .i64 0, .int .i64 0, .slice none 0 0, .slice none 0 0, .slice none 0 0, .int .i64 0, .int .i64 0, .int .i64 0] 169) := blk_set h3 4 (.int .i64 0)
 have h5 : ((((((w2.setCell ⟨mb, 0, none⟩ (tn)).setCell ⟨mb, 1, none⟩ (to_)).setCell ⟨mb, 2, none⟩ (.int .i64 fuel)).setCell ⟨mb, 3, none⟩ (.int .i64 0)).setCell ⟨mb, 4, none⟩ (.int .i64 0)).setCell ⟨mb, 5, none⟩ (.slice (some ⟨w2.heap.size, 0, none⟩) k k)).heap[mb]? = some (.cells #[tn, to_, .int .i64 fuel, .int .i64 0, .int .i64 0, .slice (some ⟨w2.heap.size, 0, none⟩) k k, .slice none 0 0, .slice none 0 0, .int .i64 0, .int .i64 0, .int .i64 0] 169) := blk_set h4 5 (.slice (some ⟨w2.heap.size, 0, none⟩) k k)
 have h6 : (((((((w2.setCell ⟨mb, 0, none⟩ (tn)).setCell ⟨mb, 1, none⟩ (to_)).setCell ⟨mb, 2, none⟩ (.int .i64 fuel)).setCell ⟨mb, 3, none⟩ (.int .i64 0)).setCell ⟨mb, 4, none⟩ (.int .i64 0)).setCell ⟨mb, 5, none⟩ (.slice (some ⟨w2.heap.size, 0, none⟩) k k)).setCell ⟨mb, 6, none⟩ (.slice none 0 0)).heap[mb]? = some (.cells #[tn, to_, .int .i64 fuel, .int .i64 0, .int .i64 0, .slice (some ⟨w2.heap.size, 0, none⟩) k k, .slice none 0 0, .slice none 0 0, .int .i64 0, .int .i64 0, .int .i64 0] 169) := blk_set h5 6 (.slice none 0 0)
 have h7 : ((((((((w2.setCell ⟨mb, 0, none⟩ (tn)).setCell ⟨mb, 1, none⟩ (to_)).setCell ⟨mb, 2, none⟩ (.int .i64 fuel)).setCell ⟨mb, 3, none⟩ (.int .i64 0)).setCell ⟨mb, 4, none⟩ (.int .i64 0)).setCell ⟨mb, 5, none⟩ (.slice (some ⟨w2.heap.size, 0, none⟩) k k)).setCell ⟨mb, 6, none⟩ (.slice none 0 0)).setCell ⟨mb, 7, none⟩ (.slice none 0 0)).heap[mb]? = some (.cells #[tn, to_, .int .i64 fuel, .int .i64 0, .int .i64 0, .slice (some ⟨w2.heap.size, 0, none⟩) k k, .slice none 0 0, .slice none 0 0, .int .i64 0, .int .i64 0, .int .i64 0] 169) := blk_set h6 7 (.slice none 0 0)
 have h8 : (((((((((w2.setCell ⟨mb, 0, none⟩ (tn)).setCell ⟨mb, 1, none⟩ (to_)).setCell ⟨mb, 2, none⟩ (.int .i64 fuel)).setCell ⟨mb, 3, none⟩ (.int .i64 0)).setCell ⟨mb, 4, none⟩ (.int .i64 0)).setCell ⟨mb, 5, none⟩ (.slice (some ⟨w2.heap.size, 0, none⟩) k k)).setCell ⟨mb, 6, none⟩ (.slice none 0 0)).setCell ⟨mb, 7, none⟩ (.slice none 0 0)).setCell ⟨mb, 8, none⟩ (.int .i64 0)).heap[mb]? = some (.cells #[tn, to_, .int .i64 fuel, .int .i64 0, .int .i64 0, .slice (some ⟨w2.heap.size, 0, none⟩) k k, .slice none 0 0, .slice none 0 0, .int .i64 0, .int .i64 0, .int .i64 0] 169) := blk_set h7 8 (.int .i64 0)
 have h9 : ((((((((((w2.setCell ⟨mb, 0, none⟩ (tn)).setCell ⟨mb, 1, none⟩ (to_)).setCell ⟨mb, 2, none⟩ (.int .i64 fuel)).setCell ⟨mb, 3, none⟩ (.int .i64 0)).setCell ⟨mb, 4, none⟩ (.int .i64 0)).setCell ⟨mb, 5, none⟩ (.slice (some ⟨w2.heap.size, 0, none⟩) k k)).setCell ⟨mb, 6, none⟩ (.slice none 0 0)).setCell ⟨mb, 7, none⟩ (.slice none 0 0)).setCell ⟨mb, 8, none⟩ (.int .i64 0)).setCell ⟨mb, 9, none⟩ (.int .i64 0)).heap[mb]? = some (.cells #[tn, to_, .int .i64 fuel, .int .i64 0, .int .i64 0, .slice (some ⟨w2.heap.size, 0, none⟩) k k, .slice none 0 0, .slice none 0 0, .int .i64 0, .int .i64 0, .int .i64 0] 169) := blk_set h8 9 (.int .i64 0)
 have h10 : (((((((((((w2.setCell ⟨mb, 0, none⟩ (tn)).setCell ⟨mb, 1, none⟩ (to_)).setCell ⟨mb, 2, none⟩ (.int .i64 fuel)).setCell ⟨mb, 3, none⟩ (.int .i64 0)).setCell ⟨mb, 4, none⟩ (.int .i64 0)).setCell ⟨mb, 5, none⟩ (.slice (some ⟨w2.heap.size, 0, none⟩) k k)).setCell ⟨mb, 6, none⟩ (.slice none 0 0)).setCell ⟨mb, 7, none⟩ (.slice none 0 0)).setCell ⟨mb, 8, none⟩ (.int .i64 0)).setCell ⟨mb, 9, none⟩ (.int .i64 0)).setCell ⟨mb, 10, none⟩ (.int .i64 0)).heap[mb]? = some (.cells #[tn, to_, .int .i64 fuel, .int .i64 0, .int .i64 0, .slice (some ⟨w2.heap.size, 0, none⟩) k k, .slice none 0 0, .slice none 0 0, .int .i64 0, .int .i64 0, .int .i64 0] 169) := blk_set h9 10 (.int .i64 0)
 have hB : Below w.heap.size w (((((((((((w2.setCell ⟨mb, 0, none⟩ (tn)).setCell ⟨mb, 1, none⟩ (to_)).setCell ⟨mb, 2, none⟩ (.int .i64 fuel)).setCell ⟨mb, 3, none⟩ (.int .i64 0)).setCell ⟨mb, 4, none⟩ (.int .i64 0)).setCell ⟨mb, 5, none⟩ (.slice (some ⟨w2.heap.size, 0, none⟩) k k)).setCell ⟨mb, 6, none⟩ (.slice none 0 0)).setCell ⟨mb, 7, none⟩ (.slice none 0 0)).setCell ⟨mb, 8, none⟩ (.int .i64 0)).setCell ⟨mb, 9, none⟩ (.int .i64 0)).setCell ⟨mb, 10, none⟩ (.int .i64 0)) := by
  repeat (first | with_reducible refine below_set ?_ _ (by simp only; omega) _)
  exact hb
 have hsz : (((((((((((w2.setCell ⟨mb, 0, none⟩ (tn)).setCell ⟨mb, 1, none⟩ (to_)).setCell ⟨mb, 2, none⟩ (.int .i64 fuel)).setCell ⟨mb, 3, none⟩ (.int .i64 0)).setCell ⟨mb, 4, none⟩ (.int .i64 0)).setCell ⟨mb, 5, none⟩ (.slice (some ⟨w2.heap.size, 0, none⟩) k k)).setCell ⟨mb, 6, none⟩ (.slice none 0 0)).setCell ⟨mb, 7, none⟩ (.slice none 0 0)).setCell ⟨mb, 8, none⟩ (.int .i64 0)).setCell ⟨mb, 9, none⟩ (.int .i64 0)).setCell ⟨mb, 10, none⟩ (.int .i64 0)).heap.size = w2.heap.size := by simp only [World.setCell, Array.size_modify]
 clear h0 h1 h2 h3 h4 h5 h6 h7 h8 h9
 generalize (((((((((((w2.setCell ⟨mb, 0, none⟩ (tn)).setCell ⟨mb, 1, none⟩ (to_)).setCell ⟨mb, 2, none⟩ (.int .i64 fuel)).setCell ⟨mb, 3, none⟩ (.int .i64 0)).setCell ⟨mb, 4, none⟩ (.int .i64 0)).setCell ⟨mb, 5, none⟩ (.slice (some ⟨w2.heap.size, 0, none⟩) k k)).setCell ⟨mb, 6, none⟩ (.slice none 0 0)).setCell ⟨mb, 7, none⟩ (.slice none 0 0)).setCell ⟨mb, 8, none⟩ (.int .i64 0)).setCell ⟨mb, 9, none⟩ (.int .i64 0)).setCell ⟨mb, 10, none⟩ (.int .i64 0)) = W at h10 hB hsz ⊢
 refine born_of (gm := w2.heap.size) hk hM (below_al hB _) (blk_alloc _ h10) ?_ (by omega) (by omega) hs
 rw [← hsz]
 exact blk_new W M
theorem Tryz.infoRes : (Tryz.prog.info? 23).map (·.size) = some 5 := by kernel_rfl
def runV (m : MM) (X : Vl) : Value := if m.fault ≠ 0 then .agg #[.string ⟨#[]⟩, .int .i64 0, .int .i64 0, .int .i64 0, .int .i64 0] else .agg #[.string (bs X.txt), .int .i64 m.steps, .int .i64 m.cells.length, .int .i64 m.most, .int .i64 m.live]
theorem m0_bd (fuel k : Nat) : MBd fuel (m0 k) := by
 refine ⟨by simp [m0], by simp [m0], by simp [m0, sumC], by simp [m0, sumC], by simp [m0], ?_, by simp [m0], by simp [m0], by simp [m0]⟩
 intro v hv
 simp only [m0, List.mem_replicate] at hv
 rw [hv.2]; exact v0_bd
set_option maxRecDepth 100000 in
set_option maxHeartbeats 4000000 in
theorem Run_any (x1 : Option Addr) (n1 c1 : Nat) (x2 : Option Addr) (n2 c2 : Nat) (fuel : Nat) (ns : List NR) (op : List Int) (hf : fuel ≤ 20000) (hl : ns.length ≤ 9000) (w : World) (hT : TreeIn w (.slice x1 n1 c1) (.slice x2 n2 c2) ns op) (htab : Lib.TabIs Tryz.prog w "internal/strconv.uint64pow10" .u64 Lib.pow10Tab) (t : PT) (hsh : ShowsM ns [] t 0) (hwf : t.wf) (hrg : t.rgd) (hcnt : t.cnt = ns.length)
  (x : MV × MM) (hx : x = mW fuel t [] 0 ((m0 ns.length).opn (-1))) (X : Vl) (hX : Rep x.2.cells X x.1) (hXs : X.size ≤ 63) :
  Calls Tryz.prog 59 #[treeV (.slice x1 n1 c1) (.slice x2 n2 c2), .int .i64 fuel] w fun e w' => e = .returned (.tuple #[runV (mText X x.1 x.2) X, .int .i64 (mText X x.1 x.2).fault]) ∧ Below w.heap.size w w' := by
 have hW0 : Below w.heap.size w ((w.alloc (.cells #[.slice x1 n1 c1, .slice x2 n2 c2] 59)).alloc (.cells #[.string ⟨#[]⟩, .int .i64 0, .int .i64 0, .int .i64 0, .int .i64 0] 23)) := below_al (below_al (Below.refl _ _) _) _
 have hwk := tree_all (B := w.heap.size) (fuel := fuel) (x1 := x1) (n1 := n1) (c1 := c1) (x2 := x2) (n2 := n2) (c2 := c2) (ns := ns) (op := op) (t := t)
 have HWK : Hid (∀ mb, WorkOk mb w.heap.size (.slice x1 n1 c1) (.slice x2 n2 c2) fuel ns op ((ns.length : Int) - 1) t.cnt (fun m => mW fuel t [] 0 m)) := fun mb => by
  have := hwk mb [] 0 hsh (fun _ h => by simp at h) hwf hrg (by omega) hl hf
  rw [Nat.zero_add, hcnt] at this
  rw [hcnt]; exact this
 have HT : Hid _ := hT
 have HTAB : Hid (∀ w', Below w.heap.size w w' → Lib.TabIs Tryz.prog w' "internal/strconv.uint64pow10" .u64 Lib.pow10Tab) := Lib.tabBelow_of_tabIs htab
 have HCNT : Hid _ := hcnt
 have HX : Hid _ := hx
 have HREP : Hid _ := hX
 obtain ⟨RV, hRV⟩ : ∃ RV, RV = runV (mText X x.1 x.2) X := ⟨_, rfl⟩
 obtain ⟨FV, hFV⟩ : ∃ FV : Nat, FV = (mText X x.1 x.2).fault := ⟨_, rfl⟩
 rw [← hRV, ← hFV]
 have HRV : Hid _ := hRV
 have HFV : Hid _ := hFV
 clear hFV
 clear hwk hsh hwf hrg hcnt hx hX htab hRV
 have hle := fun w' (h : Below ((w.alloc (.cells #[.slice x1 n1 c1, .slice x2 n2 c2] 59)).alloc (.cells #[.string ⟨#[]⟩, .int .i64 0, .int .i64 0, .int .i64 0, .int .i64 0] 23)).heap.size ((w.alloc (.cells #[.slice x1 n1 c1, .slice x2 n2 c2] 59)).alloc (.cells #[.string ⟨#[]⟩, .int .i64 0, .int .i64 0, .int .i64 0, .int .i64 0] 23)) w') => (Len_any w' _ _ ns op ((hT.below hW0).below h)).mono (fun _ w'' (hx : _ ∧ Below w'.heap.size w' w'') => (⟨hx.1, hx.2, h.trans (hx.2.mono h.size)⟩ : _ ∧ _ ∧ Below ((w.alloc (.cells #[.slice x1 n1 c1, .slice x2 n2 c2] 59)).alloc (.cells #[.string ⟨#[]⟩, .int .i64 0, .int .i64 0, .int .i64 0, .int .i64 0] 23)).heap.size ((w.alloc (.cells #[.slice x1 n1 c1, .slice x2 n2 c2] 59)).alloc (.cells #[.string ⟨#[]⟩, .int .i64 0, .int .i64 0, .int .i64 0, .int .i64 0] 23)) w''))
 have HLE : Hid _ := hle
 obtain ⟨i0, hi, hz0, hz1, hz2⟩ := info_parts Tryz.infoVal
 obtain ⟨M, hM⟩ : ∃ M : Obj, M = .cells (madeCells #[.bool false, .int .i64 0] (ns.length * 2)) 171 := ⟨_, rfl⟩
 have hmk : ∀ W : World, (Instr.makeSlice 165 (.int .i64 ns.length) (.int .i64 ns.length)).run Tryz.prog W = .ok (.slice (some ⟨W.heap.size, 0, none⟩) ns.length ns.length) (W.alloc M) := by
  intro W
  have hr := run_make (P := Tryz.prog) W 165 171 i0 _ Tryz.undVals hi hz0 .i64 .i64 ns.length ns.length (by omega) (Int.le_refl _) (by rw [hz2]; omega) (by omega)
  simp only [Int.toNat_natCast, hz1] at hr
  rw [hr, hM]; rfl
 have HM : Hid _ := hM
 clear hT hle hi hz0 hz1 hz2 hM
 obtain ⟨k, hk⟩ : ∃ k, ns.length = k := ⟨_, rfl⟩
 have HKK : Hid _ := hk
 rw [hk] at hl HLE hmk HM HX HWK
 clear hk
 unfold treeV at HLE
 unfold treeV
 go_enter Tryz.func59, Tryz.ntmps59
 go_upto_region 1 with fail
 go_cut [6] from 9 to 14 (fun t6 wx => Born ((w.alloc (.cells #[.slice x1 n1 c1, .slice x2 n2 c2] 59)).alloc (.cells #[.string ⟨#[]⟩, .int .i64 0, .int .i64 0, .int .i64 0, .int .i64 0] 23)) (.slice x1 n1 c1) (.slice x2 n2 c2) fuel k t6 wx)
 case first =>
  go_region_law (first
   | (refine step_call rfl 93 #[.agg #[.slice x1 n1 c1, .slice x2 n2 c2]] (by go_simp) ?_
      refine Calls.mono (HLE.out _ (by repeat (first | with_reducible exact Below.refl _ _ | with_reducible refine below_al ?_ _ | with_reducible refine below_d ?_ | with_reducible refine below_dn ?_))) ?_
      rintro e w2 ⟨rfl, hb2, hBw⟩
      have hlt2 : w.heap.size + 1 < w2.heap.size := by have := hb2.size; simp at this; omega
      have hkA : w2.heap[w.heap.size]? = some (.cells #[.slice x1 n1 c1, .slice x2 n2 c2] 59) := (by rw [hb2.block _ (by simp; omega)]; first | exact blkA1 w _ _ | exact blkA2 w _ _ _)
      have hlA := blk_lt hkA
      have a0 : w2.cell? ⟨w.heap.size, 0, none⟩ = some (.slice x1 n1 c1) := (by rw [blk_cell hkA]; rfl)
      have a1 : w2.cell? ⟨w.heap.size, 1, none⟩ = some (.slice x2 n2 c2) := (by rw [blk_cell hkA]; rfl)
      try (have hkz : w2.heap[w.heap.size + 1 + 1]? = some (.cells mz 169) := (by rw [hb2.block _ (by simp)]; exact blk_new3 w _ _ _); have hlz := blk_lt hkz; obtain ⟨z0, z1, z2, z3, z4, z5, z6, z7, z8, z9, z10⟩ := mz_cells hkz; obtain ⟨f0, f1, f2, f3, f4, f5, f6, f7, f8, f9, f10⟩ := mz_free hkz)
      refine ⟨_, rfl, ?_⟩))
  all_goals (go_wp2_with fail; go_meet)
  all_goals first
   | exact born_s3 hl HM.out hBw
   | exact born_s2 hl HM.out hBw
   | exact born_s1 (by simp) hl HM.out hBw hkz
 case rest =>
  obtain ⟨mb, nv, rfl, hi, hbw, hmb, hnv⟩ := hcut
  have hws := hW0.size
  have hW0s : ((w.alloc (.cells #[.slice x1 n1 c1, .slice x2 n2 c2] 59)).alloc (.cells #[.string ⟨#[]⟩, .int .i64 0, .int .i64 0, .int .i64 0, .int .i64 0] 23)).heap.size = w.heap.size + 1 + 1 := by simp
  have hbwc : Below w.heap.size w wc := hW0.trans (hbw.mono hws)
  have hsA : Beside mb w.heap.size wc nv (.slice none 0 0) (.slice none 0 0) (.cells #[.slice x1 n1 c1, .slice x2 n2 c2] 59) := ⟨by rw [hbw.block _ (by omega)]; exact blkA1 w _ _, by omega, fun e => by have := hnv _ e; omega, by simp [Value.ownBlock], by simp [Value.ownBlock]⟩
  have hsR : Beside mb (w.heap.size + 1) wc nv (.slice none 0 0) (.slice none 0 0) (.cells #[.string ⟨#[]⟩, .int .i64 0, .int .i64 0, .int .i64 0, .int .i64 0] 23) := ⟨by rw [hbw.block _ (by omega)]; have := blk_new (w.alloc (.cells #[.slice x1 n1 c1, .slice x2 n2 c2] 59)) (.cells #[.string ⟨#[]⟩, .int .i64 0, .int .i64 0, .int .i64 0, .int .i64 0] 23); simpa using this, by omega, fun e => by have := hnv _ e; omega, by simp [Value.ownBlock], by simp [Value.ownBlock]⟩
  have henv : MEnv mb w.heap.size wc nv (.slice none 0 0) (.slice none 0 0) (.slice x1 n1 c1) (.slice x2 n2 c2) ns op := ⟨by omega, hbwc.size, fun g hg => by have := hnv g hg; omega, fun g hg => by simp [Value.ownBlock] at hg, fun g hg => by simp [Value.ownBlock] at hg, fun w' hw' => HT.out.below (hbwc.trans hw'), by have := HKK.out; omega⟩
  have hop := open_any mb wc _ _ fuel nv _ _ (m0 k) (-1) (by simp [m0]) (by simp [m0]) hi
  have HOP : Hid _ := hop
  have HENV : Hid _ := henv
  have HSA : Hid _ := hsA
  have HSR : Hid _ := hsR
  have HBW : Hid _ := hbwc
  clear hop henv hsA hsR hbwc hbw hi hnv hmb hW0s hW0 hws HLE hmk HM
  unfold ptr at HOP
  go_wp2_with fail
  refine Calls.mono HOP.out ?_
  rintro _ w2 ⟨rfl, rv2, hf2, hi2⟩
  have henv2 := HENV.out.on hf2
  have hbd2 := MM.opn_bd (m0_bd fuel k) (-1) (by omega) (by simp [m0])
  have hst2 : MSt mb w.heap.size w2 (.slice x1 n1 c1) (.slice x2 n2 c2) fuel nv (.slice none 0 0) rv2 ((m0 k).opn (-1)) ns op t.cnt := ⟨hi2, hbd2, henv2, by simp [MM.opn], by have := HCNT.out; have := HKK.out; simp [MM.opn, m0]; omega, by have := HCNT.out; have := HKK.out; simp only [MM.opn, m0]; omega, by have := HKK.out; simp [MM.opn, m0]; omega, hf⟩
  have hro := Root_any w2 _ _ ns op (henv2.tree w2 (Below.refl _ _)) henv2.len
  rw [HKK.out] at hro
  have HRO : Hid _ := hro
  have HST2 : Hid _ := hst2
  have HSA2 : Hid _ := HSA.out.keep hf2
  have HSR2 : Hid _ := HSR.out.keep hf2
  have HF2 : Hid _ := hf2
  have a0 : w2.cell? ⟨w.heap.size, 0, none⟩ = some (.slice x1 n1 c1) := by rw [blk_cell (HSA.out.keep hf2).b]; rfl
  have a1 : w2.cell? ⟨w.heap.size, 1, none⟩ = some (.slice x2 n2 c2) := by rw [blk_cell (HSA.out.keep hf2).b]; rfl
  have hlA := blk_lt (HSA.out.keep hf2).b
  have HBW2 : Hid _ := HBW.out.trans (HENV.out.bel hf2)
  clear henv2 hbd2 hst2 hro hf2 hi2 HOP HENV HSA HSR HBW
  unfold treeV at HRO
  go_wp2_with fail
  refine Calls.mono HRO.out ?_
  rintro _ w3 ⟨rfl, hb3⟩
  have hst3 := HST2.out.below hb3
  have hf3 : PFr mb mb w2 w3 nv (.slice none 0 0) rv2 nv (.slice none 0 0) rv2 := PFr.below mb mb _ _ _ hb3
  have hk3 := HWK.out mb w3 nv (.slice none 0 0) rv2 _ hst3
  dsimp only at hk3
  rw [← HX.out] at hk3
  have HK3 : Hid _ := hk3.2
  have HKP : Hid _ := hk3.1
  have HST3 : Hid _ := hst3
  have HSR3 : Hid _ := HSR2.out.keep hf3
  have HBW3 : Hid _ := HBW2.out.trans (HST2.out.env.bel hf3)
  clear hst3 hf3 hk3 hb3 HRO HST2 HSA2 HSR2 HF2 HBW2 a0 a1 hlA
  unfold ptr at HK3
  go_wp2_with fail
  refine Calls.mono HK3.out ?_
  rintro _ w4 ⟨rfl, nv4, cv4, rv4, hf4, hi4⟩
  obtain ⟨W5, hE5⟩ : ∃ W5, W5 = w4.alloc (.cells #[.bool x.1.c, .int .i64 x.1.n] 171) := ⟨_, rfl⟩
  have hW5 : Below w4.heap.size w4 W5 := by rw [hE5]; exact below_al (Below.refl _ _) _
  have henv4 := HST3.out.env.on hf4
  have hf5 : PFr mb mb w4 W5 nv4 cv4 rv4 nv4 cv4 rv4 := PFr.below mb mb _ _ _ hW5
  have henv5 := henv4.on hf5
  have hbw5 := (HBW3.out.trans (HST3.out.env.bel hf4)).trans (henv4.bel hf5)
  have htx := text_any mb w.heap.size _ _ fuel hf ns op nv4 cv4 rv4 x.2.cells X x.1 W5 x.2 rfl HREP.out hXs HKP.out.2.1 (hi4.below hW5) HKP.out.1 henv5 (fun w' h' => HTAB.out w' (hbw5.trans h'))
  have HTX : Hid _ := htx
  have HSR5 : Hid _ := (HSR3.out.keep hf4).keep hf5
  have HBW5 : Hid _ := hbw5
  have HENV5 : Hid _ := henv5
  clear hW5 henv4 hf5 henv5 hbw5 htx hf4 hi4 HK3 HST3 HSR3 HBW3 HKP HREP HTAB
  unfold ptr mvV at HTX
  unfold mvV
  go_wp2_with fail
  rw [← hE5]
  refine Calls.mono HTX.out ?_
  rintro _ w6 ⟨rfl, hf6, hi6⟩
  have hsR6 := HSR5.out.keep hf6
  have HBW6 : Hid _ := HBW5.out.trans (HENV5.out.bel hf6)
  have HSR6 : Hid _ := hsR6
  obtain ⟨_, y3, y4, _, y6, _, _, y9, y10⟩ := mm_cells hi6.y
  obtain ⟨ca, cc, hcv⟩ := slice_any' hi6.cl
  rw [hcv] at y6
  have hmb6 := blk_lt hi6.y
  have hq6 := blk_lt hsR6.b
  clear hE5 hf6 hi6 hsR6 HTX HSR5 HBW5 HENV5 HWK HT HCNT HKK HX hcv
  generalize mText X x.1 x.2 = m2 at *
  have HQ : Hid (w.heap.size ≤ w.heap.size + 1) := Nat.le_succ _
  generalize w.heap.size + 1 = q at *
  by_cases hz : m2.fault = 0
  ·rw [hz] at y4
   have hrv : RV = .agg #[.string (bs X.txt), .int .i64 m2.steps, .int .i64 m2.cells.length, .int .i64 m2.most, .int .i64 m2.live] := by rw [HRV.out]; unfold runV; rw [if_neg (fun h => h hz)]
   have hfv : FV = 0 := by rw [HFV.out]; exact hz
   clear HRV HFV hz
   subst hrv
   subst hfv
   have hsb := HSR6.out.b
   have HNE : Hid (w.heap.size ≤ q) := HQ.out
   go_wp2_with (refine st_row rfl 23 (.tmp 4) (.tmp 37) rfl q #[.string (bs X.txt), .int .i64 m2.steps, .int .i64 m2.cells.length, .int .i64 m2.most, .int .i64 m2.live] rfl rfl 23 _ hsb Tryz.infoRes rfl (by simp [Value.oneCell']) ?_; intro W hW hWs hWo hW1 hW2 hW3)
   have s0 : W.cell? ⟨q, 0, none⟩ = some (.string (bs X.txt)) := by rw [blk_cell hW]; rfl
   have s1 : W.cell? ⟨q, 1, none⟩ = some (.int .i64 m2.steps) := by rw [blk_cell hW]; rfl
   have s2 : W.cell? ⟨q, 2, none⟩ = some (.int .i64 m2.cells.length) := by rw [blk_cell hW]; rfl
   have s3 : W.cell? ⟨q, 3, none⟩ = some (.int .i64 m2.most) := by rw [blk_cell hW]; rfl
   have s4 : W.cell? ⟨q, 4, none⟩ = some (.int .i64 m2.live) := by rw [blk_cell hW]; rfl
   have HBN : Hid _ := below_new HBW6.out HNE.out hWs hWo hW1 hW2 hW3
   clear hW hWs hWo hW1 hW2 hW3 HBW6 hsb HSR6 y3 y4 y6 y9 y10
   go_wp2
   refine bodyPost_ret (v := .tuple #[.agg #[.string (bs X.txt), .int .i64 m2.steps, .int .i64 m2.cells.length, .int .i64 m2.most, .int .i64 m2.live], .int .i64 0]) (by simp [results, Tryz.results59, go_sem, s0, s1, s2, s3, s4]) rfl ⟨rfl, HBN.out⟩
  ·have hrv : RV = .agg #[.string ⟨#[]⟩, .int .i64 0, .int .i64 0, .int .i64 0, .int .i64 0] := by rw [HRV.out]; unfold runV; rw [if_pos hz]
   have hfv : FV = m2.fault := HFV.out
   have hne : ((m2.fault : Int) != 0) = true := by simpa using hz
   clear HRV HFV hz
   subst hrv
   subst hfv
   have hsb := HSR6.out.b
   have r0 : w6.cell? ⟨q, 0, none⟩ = some (.string ⟨#[]⟩) := by rw [blk_cell hsb]; rfl
   have r1 : w6.cell? ⟨q, 1, none⟩ = some (.int .i64 0) := by rw [blk_cell hsb]; rfl
   have r2 : w6.cell? ⟨q, 2, none⟩ = some (.int .i64 0) := by rw [blk_cell hsb]; rfl
   have r3 : w6.cell? ⟨q, 3, none⟩ = some (.int .i64 0) := by rw [blk_cell hsb]; rfl
   have r4 : w6.cell? ⟨q, 4, none⟩ = some (.int .i64 0) := by rw [blk_cell hsb]; rfl
   have g0 := blk_free hsb 0
   have g1 := blk_free hsb 1
   have g2 := blk_free hsb 2
   have g3 := blk_free hsb 3
   have g4 := blk_free hsb 4
   have hqm : q ≠ mb := HSR6.out.ne
   have hmq : mb ≠ q := fun e => hqm e.symm
   have hN : (((((w6.setCell ⟨q, 0, none⟩ (.string ⟨#[]⟩)).setCell ⟨q, 1, none⟩ (.int .i64 0)).setCell ⟨q, 2, none⟩ (.int .i64 0)).setCell ⟨q, 3, none⟩ (.int .i64 0)).setCell ⟨q, 4, none⟩ (.int .i64 0)).heap[q]? = some (.cells #[.string ⟨#[]⟩, .int .i64 0, .int .i64 0, .int .i64 0, .int .i64 0] 23) := blk_set (blk_set (blk_set (blk_set (blk_set hsb 0 _) 1 _) 2 _) 3 _) 4 _
   have HN : Hid _ := hN
   have HBN : Hid (Below w.heap.size w (((((w6.setCell ⟨q, 0, none⟩ (.string ⟨#[]⟩)).setCell ⟨q, 1, none⟩ (.int .i64 0)).setCell ⟨q, 2, none⟩ (.int .i64 0)).setCell ⟨q, 3, none⟩ (.int .i64 0)).setCell ⟨q, 4, none⟩ (.int .i64 0))) := below_set (below_set (below_set (below_set (below_set HBW6.out _ HQ.out _) _ HQ.out _) _ HQ.out _) _ HQ.out _) _ HQ.out _
   clear hsb hN HSR6 HBW6
   go_upto_region 6 with fail
   go_region
   obtain ⟨W7, hE7⟩ : ∃ W7, W7 = (((((w6.setCell ⟨q, 0, none⟩ (.string ⟨#[]⟩)).setCell ⟨q, 1, none⟩ (.int .i64 0)).setCell ⟨q, 2, none⟩ (.int .i64 0)).setCell ⟨q, 3, none⟩ (.int .i64 0)).setCell ⟨q, 4, none⟩ (.int .i64 0)).drew := ⟨_, rfl⟩
   have hN7 : W7.heap[q]? = some (.cells #[.string ⟨#[]⟩, .int .i64 0, .int .i64 0, .int .i64 0, .int .i64 0] 23) := by rw [hE7]; exact HN.out
   have HB7 : Hid (Below w.heap.size w W7) := by rw [hE7]; exact below_d HBN.out
   rw [← hE7]
   have s0 : W7.cell? ⟨q, 0, none⟩ = some (.string ⟨#[]⟩) := by rw [blk_cell hN7]; rfl
   have s1 : W7.cell? ⟨q, 1, none⟩ = some (.int .i64 0) := by rw [blk_cell hN7]; rfl
   have s2 : W7.cell? ⟨q, 2, none⟩ = some (.int .i64 0) := by rw [blk_cell hN7]; rfl
   have s3 : W7.cell? ⟨q, 3, none⟩ = some (.int .i64 0) := by rw [blk_cell hN7]; rfl
   have s4 : W7.cell? ⟨q, 4, none⟩ = some (.int .i64 0) := by rw [blk_cell hN7]; rfl
   clear hE7 hN7 HN HBN r0 r1 r2 r3 r4 g0 g1 g2 g3 g4 y3 y4 y6 y9 y10
   go_wp2
   refine bodyPost_ret (v := .tuple #[.agg #[.string ⟨#[]⟩, .int .i64 0, .int .i64 0, .int .i64 0, .int .i64 0], .int .i64 m2.fault]) (by simp [results, Tryz.results59, go_sem, s0, s1, s2, s3, s4]) rfl ⟨rfl, HB7.out⟩
end Go.Proofs.YtpicaknklgccoaaGreatDoor
