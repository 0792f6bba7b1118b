import Derived.Test.YtpicaknklgccoaaGreatDoorS24
set_option maxHeartbeats 4000000
set_option maxRecDepth 100000
namespace Go.Proofs.YtpicaknklgccoaaGreatDoor
open Go.RowKit
theorem Iw {P : Program} {ops : Array Oper} {o : Oper} {a : Act} {w : World} {K : Act -> World -> Prop} {Q : Exit -> Act -> World -> Prop} {E : Prop} (hg : o.guard = none)
  (f : FuncId) (args : Array Value) (hrun : (execOp a.eval o).run P w = .ok (.enter f args) w) (h : Calls P f args w fun e w' => ∃ v, e = .returned v /\ K (a.put o.dst v) w') : if Region.wanted o (yielded ops a.tmps) = true then Oper.wp P o a w K Q else E := by
 have hw : Region.wanted o (yielded ops a.tmps) = true := by simp [Region.wanted, hg]
 rw [if_pos hw]
 unfold Oper.wp
 rw [hrun]
 refine Calls.mono h ?_
 rintro e w' ⟨v, rfl, hk⟩
 exact hk
theorem Tryz.OE : (Tryz.prog.info? 171).map (fun i => (i.zero, i.size, i.bytes)) = some (some (.agg #[.bool false, .int .i64 0]), 2, 16) := by kernel_rfl
theorem Tryz.OG : Tryz.prog.underlying 165 = some (.slice 171) := by kernel_rfl
def m0 (k : Nat) : MM := ⟨0, 0, List.replicate k v0, [], [], 0, 0, 0⟩
def K3 (w : World) (tn aM : Value) (fuel k : Nat) (t6 : Value) (wc : World) : Prop :=
 ∃ mb nv, t6 = .pointer (some ⟨mb, 0, none⟩) /\ gR mb wc tn aM fuel nv (.slice none 0 0) (.slice none 0 0) (m0 k) /\ Below w.heap.size w wc /\ w.heap.size <= mb /\ ∀ g, nv.ownBlock = some g -> w.heap.size <= g
def mz : Array Value := #[.slice none 0 0, .slice none 0 0, .int .i64 0, .int .i64 0, .int .i64 0, .slice none 0 0, .slice none 0 0, .slice none 0 0, .int .i64 0, .int .i64 0, .int .i64 0]
theorem Ix (k : Nat) : (madeCells #[Value.bool false, Value.int .i64 0] (k * 2)).toList = (List.replicate k v0).flatMap KG := by
 apply List.ext_getElem?
 intro i
 have hlen : ((List.replicate k v0).flatMap KG).length = k * 2 := by rw [Cg KG 2 (fun _ => rfl)]; simp
 by_cases hi : i < k * 2
 ·have hd := Nat.div_add_mod' i 2
  have key := jW KG 2 (fun _ => rfl) (List.replicate k v0) (i / 2) (i % 2) (Nat.mod_lt _ (by omega))
  rw [hd] at key
  rw [key, List.getElem?_replicate, if_pos (by omega)]
  simp only [Option.bind_some]
  rw [Array.getElem?_toList]
  simp only [madeCells]
  rcases (show i % 2 = 0 \/ i % 2 = 1 by omega) with h | h
  ·simp [h, hi, KG, v0]
  ·simp [h, hi, KG, v0]
 ·rw [List.getElem?_eq_none (by rw [Array.length_toList, size_madeCells]; omega), List.getElem?_eq_none (by rw [hlen]; omega)]
theorem Qz (w : World) (A R : Obj) : ((w.alloc A).alloc R).heap[w.heap.size]? = some A := aL _ (aj w A)
theorem Wb (w : World) (A R O : Obj) : (((w.alloc A).alloc R).alloc O).heap[w.heap.size]? = some A := aL _ (aL _ (aj w A))
theorem K4 (w : World) (A R O : Obj) : (((w.alloc A).alloc R).alloc O).heap[w.heap.size + 1 + 1]? = some O := by
 have := aj ((w.alloc A).alloc R) O
 simpa using this
theorem K5 {w : World} {b : Nat} (h : w.heap[b]? = some (.cells mz 169)) : w.cell? ⟨b, 0, none⟩ = some (.slice none 0 0) /\ w.cell? ⟨b, 1, none⟩ = some (.slice none 0 0) /\ w.cell? ⟨b, 2, none⟩ = some (.int .i64 0) /\ w.cell? ⟨b, 3, none⟩ = some (.int .i64 0) /\ w.cell? ⟨b, 4, none⟩ = some (.int .i64 0) /\ w.cell? ⟨b, 5, none⟩ = some (.slice none 0 0) /\ w.cell? ⟨b, 6, none⟩ = some (.slice none 0 0) /\ w.cell? ⟨b, 7, none⟩ = some (.slice none 0 0) /\ w.cell? ⟨b, 8, none⟩ = some (.int .i64 0) /\ w.cell? ⟨b, 9, none⟩ = some (.int .i64 0) /\ w.cell? ⟨b, 10, none⟩ = some (.int .i64 0) := by
 refine ⟨?_, ?_, ?_, ?_, ?_, ?_, ?_, ?_, ?_, ?_, ?_⟩ <;> (rw [aa h]; rfl)
theorem OH {w : World} {b : Nat} (h : w.heap[b]? = some (.cells mz 169)) : w.frozen? ⟨b, 0, none⟩ = false /\ w.frozen? ⟨b, 1, none⟩ = false /\ w.frozen? ⟨b, 2, none⟩ = false /\ w.frozen? ⟨b, 3, none⟩ = false /\ w.frozen? ⟨b, 4, none⟩ = false /\ w.frozen? ⟨b, 5, none⟩ = false /\ w.frozen? ⟨b, 6, none⟩ = false /\ w.frozen? ⟨b, 7, none⟩ = false /\ w.frozen? ⟨b, 8, none⟩ = false /\ w.frozen? ⟨b, 9, none⟩ = false /\ w.frozen? ⟨b, 10, none⟩ = false :=
 ⟨ag h 0, ag h 1, ag h 2, ag h 3, ag h 4, ag h 5, ag h 6, ag h 7, ag h 8, ag h 9, ag h 10⟩
theorem Au {w W : World} {tn aM : Value} {fuel k mb gm : Nat} {M : Obj} (hk : k <= 9000) (hM : M = .cells (madeCells #[.bool false, .int .i64 0] (k * 2)) 171) (hb : Below w.heap.size w W) (hz : W.heap[mb]? = some (.cells #[tn, aM, .int .i64 fuel, .int .i64 0, .int .i64 0, .slice (some ⟨gm, 0, none⟩) k k, .slice none 0 0, .slice none 0 0, .int .i64 0, .int .i64 0, .int .i64 0] 169)) (hm : W.heap[gm]? = some M) (hne : gm ≠ mb) (h1 : w.heap.size <= mb) (h2 : w.heap.size <= gm) :
  K3 w tn aM fuel k (.pointer (some ⟨mb, 0, none⟩)) W := by
 subst hM
 refine ⟨mb, .slice (some ⟨gm, 0, none⟩) k k, rfl, ⟨hz, ?_, World.ownsRow_nil _ _ _ _, World.ownsRow_nil _ _ _ _, ?_, by simp [Value.ownBlock], by simp [Value.ownBlock], ?_, ?_, ?_⟩, hb, h1, ?_⟩
 ·have hl : (m0 k).named.length = k := by simp [m0]
  have hfl : ((m0 k).named.flatMap KG) = (madeCells #[Value.bool false, Value.int .i64 0] (k * 2)).toList := by rw [Ix]; rfl
  rw [hl, hfl]
  refine ⟨by simp [madeCells], Or.inr ⟨gm, k, _, rfl, Nat.zero_le _, hm, Nat.le_refl _, by unfold maxLen; omega, size_madeCells _ _, ?_⟩⟩
  rw [List.take_of_length_le (by simp [madeCells])]
 ·simp only [Value.ownBlock, ne_eq, Option.some.injEq]; exact hne
 ·intro g _; simp [Value.ownBlock]
 ·intro g _; simp [Value.ownBlock]
 ·intro g _; simp [Value.ownBlock]
 ·intro g hg
  simp only [Value.ownBlock, Option.some.injEq] at hg
  omega
theorem OI {w w2 : World} {tn aM : Value} {fuel k : Nat} {M : Obj} (hk : k <= 9000) (hM : M = .cells (madeCells #[.bool false, .int .i64 0] (k * 2)) 171) (hb : Below w.heap.size w w2) :
  K3 w tn aM fuel k (.pointer (some ⟨w2.heap.size + 1, 0, none⟩)) ((w2.alloc M).alloc (.cells #[tn, aM, .int .i64 fuel, .int .i64 0, .int .i64 0, .slice (some ⟨w2.heap.size, 0, none⟩) k k, .slice none 0 0, .slice none 0 0, .int .i64 0, .int .i64 0, .int .i64 0] 169)) :=
 have hs := hb.size
 Au (gm := w2.heap.size) hk hM (aE (aE hb _) _) (by have := aj (w2.alloc M) (.cells #[tn, aM, .int .i64 fuel, .int .i64 0, .int .i64 0, .slice (some ⟨w2.heap.size, 0, none⟩) k k, .slice none 0 0, .slice none 0 0, .int .i64 0, .int .i64 0, .int .i64 0] 169); simpa using this) (aL _ (aj w2 M)) (by omega) (by omega) hs
theorem OJ {w w2 : World} {tn aM : Value} {fuel k : Nat} {M : Obj} (hk : k <= 9000) (hM : M = .cells (madeCells #[.bool false, .int .i64 0] (k * 2)) 171) (hb : Below w.heap.size w w2) :
  K3 w tn aM fuel k (.pointer (some ⟨w2.heap.size, 0, none⟩)) ((w2.alloc (.cells #[tn, aM, .int .i64 fuel, .int .i64 0, .int .i64 0, .slice (some ⟨w2.heap.size + 1, 0, none⟩) k k, .slice none 0 0, .slice none 0 0, .int .i64 0, .int .i64 0, .int .i64 0] 169)).alloc M) :=
 have hs := hb.size
 Au (gm := w2.heap.size + 1) hk hM (aE (aE hb _) _) (aL _ (aj w2 _)) (by have := aj (w2.alloc (.cells #[tn, aM, .int .i64 fuel, .int .i64 0, .int .i64 0, .slice (some ⟨w2.heap.size + 1, 0, none⟩) k k, .slice none 0 0, .slice none 0 0, .int .i64 0, .int .i64 0, .int .i64 0] 169)) M; simpa using this) (by omega) hs (by omega)
theorem OK {w w2 : World} {tn aM : Value} {fuel k : Nat} {M : Obj} {mb : Nat} (nu : w.heap.size <= mb) (hk : k <= 9000) (hM : M = .cells (madeCells #[.bool false, .int .i64 0] (k * 2)) 171) (hb : Below w.heap.size w w2) (hz : w2.heap[mb]? = some (.cells mz 169)) :
  K3 w tn aM fuel k (.pointer (some ⟨mb, 0, none⟩)) ((((((((((((w2.setCell ⟨mb, 0, none⟩ (tn)).setCell ⟨mb, 1, none⟩ (aM)).setCell ⟨mb, 2, none⟩ (.int .i64 fuel)).setCell ⟨mb, 3, none⟩ (.int .i64 0)).setCell ⟨mb, 4, none⟩ (.int .i64 0)).setCell ⟨mb, 5, none⟩ (.slice (some ⟨w2.heap.size, 0, none⟩) k k)).setCell ⟨mb, 6, none⟩ (.slice none 0 0)).setCell ⟨mb, 7, none⟩ (.slice none 0 0)).setCell ⟨mb, 8, none⟩ (.int .i64 0)).setCell ⟨mb, 9, none⟩ (.int .i64 0)).setCell ⟨mb, 10, none⟩ (.int .i64 0)).alloc M) := by
 have hs := hb.size
 have hl := af hz
 have h0 : (w2.setCell ⟨mb, 0, none⟩ (tn)).heap[mb]? = some (.cells #[tn, .slice none 0 0, .int .i64 0, .int .i64 0, .int .i64 0, .slice none 0 0, .slice none 0 0, .slice none 0 0, .int .i64 0, .int .i64 0, .int .i64 0] 169) := az hz 0 (tn)
 have h1 : ((w2.setCell ⟨mb, 0, none⟩ (tn)).setCell ⟨mb, 1, none⟩ (aM)).heap[mb]? = some (.cells #[tn, aM, .int .i64 0, .int .i64 0, .int .i64 0, .slice none 0 0, .slice none 0 0, .slice none 0 0, .int .i64 0, .int .i64 0, .int .i64 0] 169) := az h0 1 (aM)
 have h2 : (((w2.setCell ⟨mb, 0, none⟩ (tn)).setCell ⟨mb, 1, none⟩ (aM)).setCell ⟨mb, 2, none⟩ (.int .i64 fuel)).heap[mb]? = some (.cells #[tn, aM, .int .i64 fuel, .int .i64 0, .int .i64 0, .slice none 0 0, .slice none 0 0, .slice none 0 0, .int .i64 0, .int .i64 0, .int .i64 0] 169) := az h1 2 (.int .i64 fuel)
 have h3 : ((((w2.setCell ⟨mb, 0, none⟩ (tn)).setCell ⟨mb, 1, none⟩ (aM)).setCell ⟨mb, 2, none⟩ (.int .i64 fuel)).setCell ⟨mb, 3, none⟩ (.int .i64 0)).heap[mb]? = some (.cells #[tn, aM, .int .i64 fuel, .int .i64 0, .int .i64 0, .slice none 0 0, .slice none 0 0, .slice none 0 0, .int .i64 0, .int .i64 0, .int .i64 0] 169) := az h2 3 (.int .i64 0)
 have h4 : (((((w2.setCell ⟨mb, 0, none⟩ (tn)).setCell ⟨mb, 1, none⟩ (aM)).setCell ⟨mb, 2, none⟩ (.int .i64 fuel)).setCell ⟨mb, 3, none⟩ (.int .i64 0)).setCell ⟨mb, 4, none⟩ (.int .i64 0)).heap[mb]? = some (.cells #[tn, aM, .int .i64 fuel, .int .i64 0, .int .i64 0, .slice none 0 0, .slice none 0 0, .slice none 0 0, .int .i64 0, .int .i64 0, .int .i64 0] 169) := az h3 4 (.int .i64 0)
 have h5 : ((((((w2.setCell ⟨mb, 0, none⟩ (tn)).setCell ⟨mb, 1, none⟩ (aM)).setCell ⟨mb, 2, none⟩ (.int .i64 fuel)).setCell ⟨mb, 3, none⟩ (.int .i64 0)).setCell ⟨mb, 4, none⟩ (.int .i64 0)).setCell ⟨mb, 5, none⟩ (.slice (some ⟨w2.heap.size, 0, none⟩) k k)).heap[mb]? = some (.cells #[tn, aM, .int .i64 fuel, .int .i64 0, .int .i64 0, .slice (some ⟨w2.heap.size, 0, none⟩) k k, .slice none 0 0, .slice none 0 0, .int .i64 0, .int .i64 0, .int .i64 0] 169) := az h4 5 (.slice (some ⟨w2.heap.size, 0, none⟩) k k)
 have h6 : (((((((w2.setCell ⟨mb, 0, none⟩ (tn)).setCell ⟨mb, 1, none⟩ (aM)).setCell ⟨mb, 2, none⟩ (.int .i64 fuel)).setCell ⟨mb, 3, none⟩ (.int .i64 0)).setCell ⟨mb, 4, none⟩ (.int .i64 0)).setCell ⟨mb, 5, none⟩ (.slice (some ⟨w2.heap.size, 0, none⟩) k k)).setCell ⟨mb, 6, none⟩ (.slice none 0 0)).heap[mb]? = some (.cells #[tn, aM, .int .i64 fuel, .int .i64 0, .int .i64 0, .slice (some ⟨w2.heap.size, 0, none⟩) k k, .slice none 0 0, .slice none 0 0, .int .i64 0, .int .i64 0, .int .i64 0] 169) := az h5 6 (.slice none 0 0)
 have h7 : ((((((((w2.setCell ⟨mb, 0, none⟩ (tn)).setCell ⟨mb, 1, none⟩ (aM)).setCell ⟨mb, 2, none⟩ (.int .i64 fuel)).setCell ⟨mb, 3, none⟩ (.int .i64 0)).setCell ⟨mb, 4, none⟩ (.int .i64 0)).setCell ⟨mb, 5, none⟩ (.slice (some ⟨w2.heap.size, 0, none⟩) k k)).setCell ⟨mb, 6, none⟩ (.slice none 0 0)).setCell ⟨mb, 7, none⟩ (.slice none 0 0)).heap[mb]? = some (.cells #[tn, aM, .int .i64 fuel, .int .i64 0, .int .i64 0, .slice (some ⟨w2.heap.size, 0, none⟩) k k, .slice none 0 0, .slice none 0 0, .int .i64 0, .int .i64 0, .int .i64 0] 169) := az h6 7 (.slice none 0 0)
 have h8 : (((((((((w2.setCell ⟨mb, 0, none⟩ (tn)).setCell ⟨mb, 1, none⟩ (aM)).setCell ⟨mb, 2, none⟩ (.int .i64 fuel)).setCell ⟨mb, 3, none⟩ (.int .i64 0)).setCell ⟨mb, 4, none⟩ (.int .i64 0)).setCell ⟨mb, 5, none⟩ (.slice (some ⟨w2.heap.size, 0, none⟩) k k)).setCell ⟨mb, 6, none⟩ (.slice none 0 0)).setCell ⟨mb, 7, none⟩ (.slice none 0 0)).setCell ⟨mb, 8, none⟩ (.int .i64 0)).heap[mb]? = some (.cells #[tn, aM, .int .i64 fuel, .int .i64 0, .int .i64 0, .slice (some ⟨w2.heap.size, 0, none⟩) k k, .slice none 0 0, .slice none 0 0, .int .i64 0, .int .i64 0, .int .i64 0] 169) := az h7 8 (.int .i64 0)
 have h9 : ((((((((((w2.setCell ⟨mb, 0, none⟩ (tn)).setCell ⟨mb, 1, none⟩ (aM)).setCell ⟨mb, 2, none⟩ (.int .i64 fuel)).setCell ⟨mb, 3, none⟩ (.int .i64 0)).setCell ⟨mb, 4, none⟩ (.int .i64 0)).setCell ⟨mb, 5, none⟩ (.slice (some ⟨w2.heap.size, 0, none⟩) k k)).setCell ⟨mb, 6, none⟩ (.slice none 0 0)).setCell ⟨mb, 7, none⟩ (.slice none 0 0)).setCell ⟨mb, 8, none⟩ (.int .i64 0)).setCell ⟨mb, 9, none⟩ (.int .i64 0)).heap[mb]? = some (.cells #[tn, aM, .int .i64 fuel, .int .i64 0, .int .i64 0, .slice (some ⟨w2.heap.size, 0, none⟩) k k, .slice none 0 0, .slice none 0 0, .int .i64 0, .int .i64 0, .int .i64 0] 169) := az h8 9 (.int .i64 0)
 have h10 : (((((((((((w2.setCell ⟨mb, 0, none⟩ (tn)).setCell ⟨mb, 1, none⟩ (aM)).setCell ⟨mb, 2, none⟩ (.int .i64 fuel)).setCell ⟨mb, 3, none⟩ (.int .i64 0)).setCell ⟨mb, 4, none⟩ (.int .i64 0)).setCell ⟨mb, 5, none⟩ (.slice (some ⟨w2.heap.size, 0, none⟩) k k)).setCell ⟨mb, 6, none⟩ (.slice none 0 0)).setCell ⟨mb, 7, none⟩ (.slice none 0 0)).setCell ⟨mb, 8, none⟩ (.int .i64 0)).setCell ⟨mb, 9, none⟩ (.int .i64 0)).setCell ⟨mb, 10, none⟩ (.int .i64 0)).heap[mb]? = some (.cells #[tn, aM, .int .i64 fuel, .int .i64 0, .int .i64 0, .slice (some ⟨w2.heap.size, 0, none⟩) k k, .slice none 0 0, .slice none 0 0, .int .i64 0, .int .i64 0, .int .i64 0] 169) := az h9 10 (.int .i64 0)
 have hB : Below w.heap.size w (((((((((((w2.setCell ⟨mb, 0, none⟩ (tn)).setCell ⟨mb, 1, none⟩ (aM)).setCell ⟨mb, 2, none⟩ (.int .i64 fuel)).setCell ⟨mb, 3, none⟩ (.int .i64 0)).setCell ⟨mb, 4, none⟩ (.int .i64 0)).setCell ⟨mb, 5, none⟩ (.slice (some ⟨w2.heap.size, 0, none⟩) k k)).setCell ⟨mb, 6, none⟩ (.slice none 0 0)).setCell ⟨mb, 7, none⟩ (.slice none 0 0)).setCell ⟨mb, 8, none⟩ (.int .i64 0)).setCell ⟨mb, 9, none⟩ (.int .i64 0)).setCell ⟨mb, 10, none⟩ (.int .i64 0)) := by
  repeat (first | with_reducible refine ko ?_ _ (by simp only; omega) _)
  exact hb
 have hsz : (((((((((((w2.setCell ⟨mb, 0, none⟩ (tn)).setCell ⟨mb, 1, none⟩ (aM)).setCell ⟨mb, 2, none⟩ (.int .i64 fuel)).setCell ⟨mb, 3, none⟩ (.int .i64 0)).setCell ⟨mb, 4, none⟩ (.int .i64 0)).setCell ⟨mb, 5, none⟩ (.slice (some ⟨w2.heap.size, 0, none⟩) k k)).setCell ⟨mb, 6, none⟩ (.slice none 0 0)).setCell ⟨mb, 7, none⟩ (.slice none 0 0)).setCell ⟨mb, 8, none⟩ (.int .i64 0)).setCell ⟨mb, 9, none⟩ (.int .i64 0)).setCell ⟨mb, 10, none⟩ (.int .i64 0)).heap.size = w2.heap.size := by simp only [World.setCell, Array.size_modify]
 clear h0 h1 h2 h3 h4 h5 h6 h7 h8 h9
 generalize (((((((((((w2.setCell ⟨mb, 0, none⟩ (tn)).setCell ⟨mb, 1, none⟩ (aM)).setCell ⟨mb, 2, none⟩ (.int .i64 fuel)).setCell ⟨mb, 3, none⟩ (.int .i64 0)).setCell ⟨mb, 4, none⟩ (.int .i64 0)).setCell ⟨mb, 5, none⟩ (.slice (some ⟨w2.heap.size, 0, none⟩) k k)).setCell ⟨mb, 6, none⟩ (.slice none 0 0)).setCell ⟨mb, 7, none⟩ (.slice none 0 0)).setCell ⟨mb, 8, none⟩ (.int .i64 0)).setCell ⟨mb, 9, none⟩ (.int .i64 0)).setCell ⟨mb, 10, none⟩ (.int .i64 0)) = W at h10 hB hsz ⊢
 refine Au (gm := w2.heap.size) hk hM (aE hB _) (aL _ h10) ?_ (by omega) (by omega) hs
 rw [<- hsz]
 exact aj W M
theorem Tryz.uQ : (Tryz.prog.info? 23).map (·.size) = some 5 := by kernel_rfl
def wy (m : MM) (X : Vl) : Value := if m.fault ≠ 0 then .agg #[.string ⟨#[]⟩, .int .i64 0, .int .i64 0, .int .i64 0, .int .i64 0] else .agg #[.string (bs X.txt), .int .i64 m.steps, .int .i64 m.cells.length, .int .i64 m.most, .int .i64 m.live]
theorem QA (fuel k : Nat) : mR fuel (m0 k) := by
 refine ⟨by simp [m0], by simp [m0], by simp [m0, ik], by simp [m0, ik], by simp [m0], ?_, by simp [m0], by simp [m0], by simp [m0]⟩
 intro v hv
 simp only [m0, List.mem_replicate] at hv
 rw [hv.2]; exact rG
theorem OL (x1 : Option Addr) (n1 c1 : Nat) (x2 : Option Addr) (n2 c2 : Nat) (fuel : Nat) (ns : List NR) (op : List Int) (hf : fuel <= 20000) (hl : ns.length <= 9000) (w : World) (hT : bh w (.slice x1 n1 c1) (.slice x2 n2 c2) ns op) (htab : Lib.TabIs Tryz.prog w "internal/strconv.uint64pow10" .u64 Lib.pow10Tab) (t : PT) (hsh : kO ns [] t 0) (hwf : t.wf) (hrg : t.mZ) (o6 : t.cnt = ns.length)
  (x : MV × MM) (hx : x = mW fuel t [] 0 ((m0 ns.length).opn (-1))) (X : Vl) (hX : iv x.2.cells X x.1) (Wc : X.size <= 63) :
  Calls Tryz.prog 59 #[aK (.slice x1 n1 c1) (.slice x2 n2 c2), .int .i64 fuel] w fun e w' => e = .returned (.tuple #[wy (cK X x.1 x.2) X, .int .i64 (cK X x.1 x.2).fault]) /\ Below w.heap.size w w' := by
 have FF : Below w.heap.size w ((w.alloc (.cells #[.slice x1 n1 c1, .slice x2 n2 c2] 59)).alloc (.cells #[.string ⟨#[]⟩, .int .i64 0, .int .i64 0, .int .i64 0, .int .i64 0] 23)) := aE (aE (Below.refl _ _) _) _
 have hwk := KV (B := w.heap.size) (fuel := fuel) (x1 := x1) (n1 := n1) (c1 := c1) (x2 := x2) (n2 := n2) (c2 := c2) (ns := ns) (op := op) (t := t)
 have Sm : Hid (∀ mb, gf mb w.heap.size (.slice x1 n1 c1) (.slice x2 n2 c2) fuel ns op ((ns.length : Int) - 1) t.cnt (fun m => mW fuel t [] 0 m)) := fun mb => by
  have := hwk mb [] 0 hsh (fun _ h => by simp at h) hwf hrg (by omega) hl hf
  rw [Nat.zero_add, o6] at this
  rw [o6]; exact this
 have HT : Hid _ := hT
 have KY : Hid (∀ w', Below w.heap.size w w' -> Lib.TabIs Tryz.prog w' "internal/strconv.uint64pow10" .u64 Lib.pow10Tab) := Lib.tabBelow_of_tabIs htab
 have Sn : Hid _ := o6
 have HX : Hid _ := hx
 have Wd : Hid _ := hX
 obtain ⟨RV, ZA⟩ : ∃ RV, RV = wy (cK X x.1 x.2) X := ⟨_, rfl⟩
 obtain ⟨FV, ZB⟩ : ∃ FV : Nat, FV = (cK X x.1 x.2).fault := ⟨_, rfl⟩
 rw [<- ZA, <- ZB]
 have Oa : Hid _ := ZA
 have XZ : Hid _ := ZB
 clear ZB
 clear hwk hsh hwf hrg o6 hx hX htab ZA
 have hle := fun w' (h : Below ((w.alloc (.cells #[.slice x1 n1 c1, .slice x2 n2 c2] 59)).alloc (.cells #[.string ⟨#[]⟩, .int .i64 0, .int .i64 0, .int .i64 0, .int .i64 0] 23)).heap.size ((w.alloc (.cells #[.slice x1 n1 c1, .slice x2 n2 c2] 59)).alloc (.cells #[.string ⟨#[]⟩, .int .i64 0, .int .i64 0, .int .i64 0, .int .i64 0] 23)) w') => (gx w' _ _ ns op ((hT.below FF).below h)).mono (fun _ w'' (hx : _ /\ Below w'.heap.size w' w'') => (⟨hx.1, hx.2, h.trans (hx.2.mono h.size)⟩ : _ /\ _ /\ Below ((w.alloc (.cells #[.slice x1 n1 c1, .slice x2 n2 c2] 59)).alloc (.cells #[.string ⟨#[]⟩, .int .i64 0, .int .i64 0, .int .i64 0, .int .i64 0] 23)).heap.size ((w.alloc (.cells #[.slice x1 n1 c1, .slice x2 n2 c2] 59)).alloc (.cells #[.string ⟨#[]⟩, .int .i64 0, .int .i64 0, .int .i64 0, .int .i64 0] 23)) w''))
 have JA : Hid _ := hle
 obtain ⟨i0, hi, hz0, hz1, hz2⟩ := info_parts Tryz.OE
 obtain ⟨M, hM⟩ : ∃ M : Obj, M = .cells (madeCells #[.bool false, .int .i64 0] (ns.length * 2)) 171 := ⟨_, rfl⟩
 have hmk : ∀ W : World, (Instr.makeSlice 165 (.int .i64 ns.length) (.int .i64 ns.length)).run Tryz.prog W = .ok (.slice (some ⟨W.heap.size, 0, none⟩) ns.length ns.length) (W.alloc M) := by
  intro W
  have hr := run_make (P := Tryz.prog) W 165 171 i0 _ Tryz.OG hi hz0 .i64 .i64 ns.length ns.length (by omega) (Int.le_refl _) (by rw [hz2]; omega) (by omega)
  simp only [Int.toNat_natCast, hz1] at hr
  rw [hr, hM]; rfl
 have HM : Hid _ := hM
 clear hT hle hi hz0 hz1 hz2 hM
 obtain ⟨k, hk⟩ : ∃ k, ns.length = k := ⟨_, rfl⟩
 have sJ : Hid _ := hk
 rw [hk] at hl JA hmk HM HX Sm
 clear hk
 unfold aK at JA
 unfold aK
 go_enter Tryz.func59, Tryz.ntmps59
 go_upto_region 1 with fail
 go_cut [6] from 9 to 14 (fun t6 wx => K3 ((w.alloc (.cells #[.slice x1 n1 c1, .slice x2 n2 c2] 59)).alloc (.cells #[.string ⟨#[]⟩, .int .i64 0, .int .i64 0, .int .i64 0, .int .i64 0] 23)) (.slice x1 n1 c1) (.slice x2 n2 c2) fuel k t6 wx)
 case first =>
  go_region_law (first
   | (refine Iw rfl 93 #[.agg #[.slice x1 n1 c1, .slice x2 n2 c2]] (by go_simp) ?_
      refine Calls.mono (JA.out _ (by repeat (first | with_reducible exact Below.refl _ _ | with_reducible refine aE ?_ _ | with_reducible refine rJ ?_ | with_reducible refine il ?_))) ?_
      rintro e w2 ⟨rfl, hb2, hBw⟩
      have N8 : w.heap.size + 1 < w2.heap.size := by have := hb2.size; simp at this; omega
      have ZC : w2.heap[w.heap.size]? = some (.cells #[.slice x1 n1 c1, .slice x2 n2 c2] 59) := (by rw [hb2.block _ (by simp; omega)]; first | exact Qz w _ _ | exact Wb w _ _ _)
      have hlA := af ZC
      have a0 : w2.cell? ⟨w.heap.size, 0, none⟩ = some (.slice x1 n1 c1) := (by rw [aa ZC]; rfl)
      have a1 : w2.cell? ⟨w.heap.size, 1, none⟩ = some (.slice x2 n2 c2) := (by rw [aa ZC]; rfl)
      try (have X0 : w2.heap[w.heap.size + 1 + 1]? = some (.cells mz 169) := (by rw [hb2.block _ (by simp)]; exact K4 w _ _ _); have hlz := af X0; obtain ⟨z0, z1, z2, z3, z4, z5, z6, z7, z8, z9, z10⟩ := K5 X0; obtain ⟨f0, f1, f2, f3, f4, f5, f6, f7, f8, f9, f10⟩ := OH X0)
      refine ⟨_, rfl, ?_⟩))
  all_goals (go_wp2_with fail; go_meet)
  all_goals first
   | exact OI hl HM.out hBw
   | exact OJ hl HM.out hBw
   | exact OK (by simp) hl HM.out hBw X0
 case rest =>
  obtain ⟨mb, nv, rfl, hi, xV, nu, oP⟩ := hcut
  have zO := FF.size
  have ZE : ((w.alloc (.cells #[.slice x1 n1 c1, .slice x2 n2 c2] 59)).alloc (.cells #[.string ⟨#[]⟩, .int .i64 0, .int .i64 0, .int .i64 0, .int .i64 0] 23)).heap.size = w.heap.size + 1 + 1 := by simp
  have OM : Below w.heap.size w wc := FF.trans (xV.mono zO)
  have Ov : Beside mb w.heap.size wc nv (.slice none 0 0) (.slice none 0 0) (.cells #[.slice x1 n1 c1, .slice x2 n2 c2] 59) := ⟨by rw [xV.block _ (by omega)]; exact Qz w _ _, by omega, fun e => by have := oP _ e; omega, by simp [Value.ownBlock], by simp [Value.ownBlock]⟩
  have kM : Beside mb (w.heap.size + 1) wc nv (.slice none 0 0) (.slice none 0 0) (.cells #[.string ⟨#[]⟩, .int .i64 0, .int .i64 0, .int .i64 0, .int .i64 0] 23) := ⟨by rw [xV.block _ (by omega)]; have := aj (w.alloc (.cells #[.slice x1 n1 c1, .slice x2 n2 c2] 59)) (.cells #[.string ⟨#[]⟩, .int .i64 0, .int .i64 0, .int .i64 0, .int .i64 0] 23); simpa using this, by omega, fun e => by have := oP _ e; omega, by simp [Value.ownBlock], by simp [Value.ownBlock]⟩
  have aW : Cj mb w.heap.size wc nv (.slice none 0 0) (.slice none 0 0) (.slice x1 n1 c1) (.slice x2 n2 c2) ns op := ⟨by omega, OM.size, fun g hg => by have := oP g hg; omega, fun g hg => by simp [Value.ownBlock] at hg, fun g hg => by simp [Value.ownBlock] at hg, fun w' hw' => HT.out.below (OM.trans hw'), by have := sJ.out; omega⟩
  have hop := Cf mb wc _ _ fuel nv _ _ (m0 k) (-1) (by simp [m0]) (by simp [m0]) hi
  have Hg : Hid _ := hop
  have nP : Hid _ := aW
  have Qr : Hid _ := Ov
  have jD : Hid _ := kM
  have xK : Hid _ := OM
  clear hop aW Ov kM OM xV hi oP nu ZE FF zO JA hmk HM
  unfold ptr at Hg
  go_wp2_with fail
  refine Calls.mono Hg.out ?_
  rintro _ w2 ⟨rfl, jL, hf2, qj⟩
  have F3 := nP.out.on hf2
  have iM := MM.Ai (QA fuel k) (-1) (by omega) (by simp [m0])
  have We : iL mb w.heap.size w2 (.slice x1 n1 c1) (.slice x2 n2 c2) fuel nv (.slice none 0 0) jL ((m0 k).opn (-1)) ns op t.cnt := ⟨qj, iM, F3, by simp [MM.opn], by have := Sn.out; have := sJ.out; simp [MM.opn, m0]; omega, by have := Sn.out; have := sJ.out; simp only [MM.opn, m0]; omega, by have := sJ.out; simp [MM.opn, m0]; omega, hf⟩
  have hro := rr w2 _ _ ns op (F3.tree w2 (Below.refl _ _)) F3.len
  rw [sJ.out] at hro
  have Jz : Hid _ := hro
  have ed : Hid _ := We
  have ZF : Hid _ := Qr.out.keep hf2
  have kN : Hid _ := jD.out.keep hf2
  have cj : Hid _ := hf2
  have a0 : w2.cell? ⟨w.heap.size, 0, none⟩ = some (.slice x1 n1 c1) := by rw [aa (Qr.out.keep hf2).b]; rfl
  have a1 : w2.cell? ⟨w.heap.size, 1, none⟩ = some (.slice x2 n2 c2) := by rw [aa (Qr.out.keep hf2).b]; rfl
  have hlA := af (Qr.out.keep hf2).b
  have Wf : Hid _ := xK.out.trans (nP.out.Qs hf2)
  clear F3 iM We hro hf2 qj Hg nP Qr jD xK
  unfold aK at Jz
  go_wp2_with fail
  refine Calls.mono Jz.out ?_
  rintro _ w3 ⟨rfl, hb3⟩
  have Sp := ed.out.below hb3
  have hf3 : bu mb mb w2 w3 nv (.slice none 0 0) jL nv (.slice none 0 0) jL := bu.below mb mb _ _ _ hb3
  have pL := Sm.out mb w3 nv (.slice none 0 0) jL _ Sp
  dsimp only at pL
  rw [<- HX.out] at pL
  have uw : Hid _ := pL.2
  have ZG : Hid _ := pL.1
  have vG : Hid _ := Sp
  have eA : Hid _ := kN.out.keep hf3
  have N7 : Hid _ := Wf.out.trans (ed.out.env.Qs hf3)
  clear Sp hf3 pL hb3 Jz ed ZF kN cj Wf a0 a1 hlA
  unfold ptr at uw
  go_wp2_with fail
  refine Calls.mono uw.out ?_
  rintro _ w4 ⟨rfl, gy, yO, yg, cT, hi4⟩
  obtain ⟨W5, tU⟩ : ∃ W5, W5 = w4.alloc (.cells #[.bool x.1.c, .int .i64 x.1.n] 171) := ⟨_, rfl⟩
  have vR : Below w4.heap.size w4 W5 := by rw [tU]; exact aE (Below.refl _ _) _
  have K6 := vG.out.env.on cT
  have ew : bu mb mb w4 W5 gy yO yg gy yO yg := bu.below mb mb _ _ _ vR
  have K7 := K6.on ew
  have Sq := (N7.out.trans (vG.out.env.Qs cT)).trans (K6.Qs ew)
  have Av := wv mb w.heap.size _ _ fuel hf ns op gy yO yg x.2.cells X x.1 W5 x.2 rfl Wd.out Wc ZG.out.2.1 (hi4.below vR) ZG.out.1 K7 (fun w' h' => KY.out w' (Sq.trans h'))
  have Uj : Hid _ := Av
  have cZ : Hid _ := (eA.out.keep cT).keep ew
  have Wg : Hid _ := Sq
  have QB : Hid _ := K7
  clear vR K6 ew K7 Sq Av cT hi4 uw vG eA N7 ZG Wd KY
  unfold ptr lf at Uj
  unfold lf
  go_wp2_with fail
  rw [<- tU]
  refine Calls.mono Uj.out ?_
  rintro _ w6 ⟨rfl, wi, Nb⟩
  have Sr := cZ.out.keep wi
  have OO : Hid _ := Wg.out.trans (QB.out.Qs wi)
  have Co : Hid _ := Sr
  obtain ⟨_, y3, y4, _, y6, _, _, y9, y10⟩ := bt Nb.y
  obtain ⟨ca, cc, hcv⟩ := kK Nb.cl
  rw [hcv] at y6
  have aaQ := af Nb.y
  have hq6 := af Sr.b
  clear tU wi Nb Sr Uj cZ Wg QB Sm HT Sn sJ HX hcv
  generalize cK X x.1 x.2 = m2 at *
  have HQ : Hid (w.heap.size <= w.heap.size + 1) := Nat.le_succ _
  generalize w.heap.size + 1 = q at *
  by_cases hz : m2.fault = 0
  ·rw [hz] at y4
   have BP : RV = .agg #[.string (bs X.txt), .int .i64 m2.steps, .int .i64 m2.cells.length, .int .i64 m2.most, .int .i64 m2.live] := by rw [Oa.out]; unfold wy; rw [if_neg (fun h => h hz)]
   have TW : FV = 0 := by rw [XZ.out]; exact hz
   clear Oa XZ hz
   subst BP
   subst TW
   have hsb := Co.out.b
   have Jy : Hid (w.heap.size <= q) := HQ.out
   go_wp2_with (refine jb rfl 23 (.tmp 4) (.tmp 37) rfl q #[.string (bs X.txt), .int .i64 m2.steps, .int .i64 m2.cells.length, .int .i64 m2.most, .int .i64 m2.live] rfl rfl 23 _ hsb Tryz.uQ rfl (by simp [Value.oneCell']) ?_; intro W hW lh mg hW1 hW2 hW3)
   have s0 : W.cell? ⟨q, 0, none⟩ = some (.string (bs X.txt)) := by rw [aa hW]; rfl
   have s1 : W.cell? ⟨q, 1, none⟩ = some (.int .i64 m2.steps) := by rw [aa hW]; rfl
   have s2 : W.cell? ⟨q, 2, none⟩ = some (.int .i64 m2.cells.length) := by rw [aa hW]; rfl
   have s3 : W.cell? ⟨q, 3, none⟩ = some (.int .i64 m2.most) := by rw [aa hW]; rfl
   have s4 : W.cell? ⟨q, 4, none⟩ = some (.int .i64 m2.live) := by rw [aa hW]; rfl
   have A9 : Hid _ := eX OO.out Jy.out lh mg hW1 hW2 hW3
   clear hW lh mg hW1 hW2 hW3 OO hsb Co y3 y4 y6 y9 y10
   go_wp2
   refine bodyPost_ret (v := .tuple #[.agg #[.string (bs X.txt), .int .i64 m2.steps, .int .i64 m2.cells.length, .int .i64 m2.most, .int .i64 m2.live], .int .i64 0]) (by simp [results, Tryz.results59, go_sem, s0, s1, s2, s3, s4]) rfl ⟨rfl, A9.out⟩
  ·have BP : RV = .agg #[.string ⟨#[]⟩, .int .i64 0, .int .i64 0, .int .i64 0, .int .i64 0] := by rw [Oa.out]; unfold wy; rw [if_pos hz]
   have TW : FV = m2.fault := XZ.out
   have hne : ((m2.fault : Int) != 0) = true := by simpa using hz
   clear Oa XZ hz
   subst BP
   subst TW
   have hsb := Co.out.b
   have r0 : w6.cell? ⟨q, 0, none⟩ = some (.string ⟨#[]⟩) := by rw [aa hsb]; rfl
   have r1 : w6.cell? ⟨q, 1, none⟩ = some (.int .i64 0) := by rw [aa hsb]; rfl
   have r2 : w6.cell? ⟨q, 2, none⟩ = some (.int .i64 0) := by rw [aa hsb]; rfl
   have r3 : w6.cell? ⟨q, 3, none⟩ = some (.int .i64 0) := by rw [aa hsb]; rfl
   have r4 : w6.cell? ⟨q, 4, none⟩ = some (.int .i64 0) := by rw [aa hsb]; rfl
   have g0 := ag hsb 0
   have g1 := ag hsb 1
   have g2 := ag hsb 2
   have g3 := ag hsb 3
   have g4 := ag hsb 4
   have Zh : q ≠ mb := Co.out.ne
   have hmq : mb ≠ q := fun e => Zh e.symm
   have hN : (((((w6.setCell ⟨q, 0, none⟩ (.string ⟨#[]⟩)).setCell ⟨q, 1, none⟩ (.int .i64 0)).setCell ⟨q, 2, none⟩ (.int .i64 0)).setCell ⟨q, 3, none⟩ (.int .i64 0)).setCell ⟨q, 4, none⟩ (.int .i64 0)).heap[q]? = some (.cells #[.string ⟨#[]⟩, .int .i64 0, .int .i64 0, .int .i64 0, .int .i64 0] 23) := az (az (az (az (az hsb 0 _) 1 _) 2 _) 3 _) 4 _
   have HN : Hid _ := hN
   have A9 : Hid (Below w.heap.size w (((((w6.setCell ⟨q, 0, none⟩ (.string ⟨#[]⟩)).setCell ⟨q, 1, none⟩ (.int .i64 0)).setCell ⟨q, 2, none⟩ (.int .i64 0)).setCell ⟨q, 3, none⟩ (.int .i64 0)).setCell ⟨q, 4, none⟩ (.int .i64 0))) := ko (ko (ko (ko (ko OO.out _ HQ.out _) _ HQ.out _) _ HQ.out _) _ HQ.out _) _ HQ.out _
   clear hsb hN Co OO
   go_upto_region 6 with fail
   go_region
   obtain ⟨W7, OP⟩ : ∃ W7, W7 = (((((w6.setCell ⟨q, 0, none⟩ (.string ⟨#[]⟩)).setCell ⟨q, 1, none⟩ (.int .i64 0)).setCell ⟨q, 2, none⟩ (.int .i64 0)).setCell ⟨q, 3, none⟩ (.int .i64 0)).setCell ⟨q, 4, none⟩ (.int .i64 0)).drew := ⟨_, rfl⟩
   have OQ : W7.heap[q]? = some (.cells #[.string ⟨#[]⟩, .int .i64 0, .int .i64 0, .int .i64 0, .int .i64 0] 23) := by rw [OP]; exact HN.out
   have RI : Hid (Below w.heap.size w W7) := by rw [OP]; exact rJ A9.out
   rw [<- OP]
   have s0 : W7.cell? ⟨q, 0, none⟩ = some (.string ⟨#[]⟩) := by rw [aa OQ]; rfl
   have s1 : W7.cell? ⟨q, 1, none⟩ = some (.int .i64 0) := by rw [aa OQ]; rfl
   have s2 : W7.cell? ⟨q, 2, none⟩ = some (.int .i64 0) := by rw [aa OQ]; rfl
   have s3 : W7.cell? ⟨q, 3, none⟩ = some (.int .i64 0) := by rw [aa OQ]; rfl
   have s4 : W7.cell? ⟨q, 4, none⟩ = some (.int .i64 0) := by rw [aa OQ]; rfl
   clear OP OQ HN A9 r0 r1 r2 r3 r4 g0 g1 g2 g3 g4 y3 y4 y6 y9 y10
   go_wp2
   refine bodyPost_ret (v := .tuple #[.agg #[.string ⟨#[]⟩, .int .i64 0, .int .i64 0, .int .i64 0, .int .i64 0], .int .i64 m2.fault]) (by simp [results, Tryz.results59, go_sem, s0, s1, s2, s3, s4]) rfl ⟨rfl, RI.out⟩
end Go.Proofs.YtpicaknklgccoaaGreatDoor
