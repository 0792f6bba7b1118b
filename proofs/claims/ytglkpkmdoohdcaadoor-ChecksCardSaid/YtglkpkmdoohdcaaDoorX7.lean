import Derived.Test.YtglkpkmdoohdcaaDoorX6
namespace Go.Proofs.YtglkpkmdoohdcaaDoor
open Go.RowKit

set_option maxHeartbeats 400000 in
theorem noParts_any (w : World) : Calls Tryd.prog 77 #[] w fun v w' => v = .returned (.agg #[.int .i64 (-1), .int .i64 (-1), .int .i64 (-1)]) ∧ Below w.heap.size w w' := by
  go_enter Tryd.func77, Tryd.ntmps77
  go_wp2
  refine bodyPost_ret (v := .agg #[.int .i64 (-1), .int .i64 (-1), .int .i64 (-1)]) (by simp [results, Tryd.results77, go_sem]) rfl ⟨rfl, (Below.refl _ _).alloc (Nat.le_refl _) _⟩

theorem cells10 {w : World} {g : Nat} {t : TypeId} {a0 a1 a2 a3 a4 a5 a6 a7 a8 a9 : Value} (h : w.heap[g]? = some (.cells #[a0, a1, a2, a3, a4, a5, a6, a7, a8, a9] t (0, 0))) :
    w.cell? ⟨g, 0, none⟩ = some a0 ∧ w.cell? ⟨g, 1, none⟩ = some a1 ∧ w.cell? ⟨g, 2, none⟩ = some a2 ∧ w.cell? ⟨g, 3, none⟩ = some a3 ∧ w.cell? ⟨g, 4, none⟩ = some a4 ∧ w.cell? ⟨g, 5, none⟩ = some a5 ∧ w.cell? ⟨g, 6, none⟩ = some a6 ∧ w.cell? ⟨g, 7, none⟩ = some a7 ∧ w.cell? ⟨g, 8, none⟩ = some a8 ∧ w.cell? ⟨g, 9, none⟩ = some a9 :=
  ⟨by rw [blk_cell h]; rfl, by rw [blk_cell h]; rfl, by rw [blk_cell h]; rfl, by rw [blk_cell h]; rfl, by rw [blk_cell h]; rfl, by rw [blk_cell h]; rfl, by rw [blk_cell h]; rfl, by rw [blk_cell h]; rfl, by rw [blk_cell h]; rfl, by rw [blk_cell h]; rfl⟩
theorem free10 {w : World} {g : Nat} {t : TypeId} {cs : Array Value} (h : w.heap[g]? = some (.cells cs t (0, 0))) :
    w.frozen? ⟨g, 0, none⟩ = false ∧ w.frozen? ⟨g, 1, none⟩ = false ∧ w.frozen? ⟨g, 2, none⟩ = false ∧ w.frozen? ⟨g, 3, none⟩ = false ∧ w.frozen? ⟨g, 4, none⟩ = false ∧ w.frozen? ⟨g, 5, none⟩ = false ∧ w.frozen? ⟨g, 6, none⟩ = false ∧ w.frozen? ⟨g, 7, none⟩ = false ∧ w.frozen? ⟨g, 8, none⟩ = false ∧ w.frozen? ⟨g, 9, none⟩ = false :=
  ⟨blk_free h 0, blk_free h 1, blk_free h 2, blk_free h 3, blk_free h 4, blk_free h 5, blk_free h 6, blk_free h 7, blk_free h 8, blk_free h 9⟩

theorem kept_b {w w2 : World} {A : Obj} (hb : Below (w.alloc A).drew.heap.size (w.alloc A).drew w2) : w2.heap[w.heap.size]? = some A := by
  rw [hb.block w.heap.size (by show w.heap.size < (w.alloc A).heap.size; simp)]
  exact blk_new w A
theorem kept_a {w w2 : World} {A B : Obj} (hb : Below ((w.alloc A).alloc B).drew.heap.size ((w.alloc A).alloc B).drew w2) : w2.heap[w.heap.size]? = some A := by
  rw [hb.block w.heap.size (by show w.heap.size < ((w.alloc A).alloc B).heap.size; simp; omega)]
  exact blk_alloc _ (blk_new w A)

theorem PFr.outer {pb nb : Nat} {w w' : World} {sv nv ov sv' nv' ov' : Value} (h : PFr pb nb w w' sv nv ov sv' nv' ov') (hn : w.heap.size ≤ nb) : PFr pb pb w w' sv nv ov sv' nv' ov' :=
  ⟨h.os, h.tape, h.output, h.size, fun k hk hp _ a b c => h.blk k hk hp (by omega) a b c, h.s, h.n, h.o⟩

/-- what lies behind 'node := Node{..}' -/
def NodeAt (w1 : World) (T : TN) (t4 : Value) (wx : World) : Prop := ∃ g, w1.heap.size < g ∧ t4 = .pointer (some ⟨g, 0, none⟩) ∧ wx.heap[g]? = some (nrO (nodeT T)) ∧ Below (w1.alloc (tnO T)).heap.size (w1.alloc (tnO T)) wx

theorem node_meet_b {w1 w2 : World} {T : TN} (hb : Below (w1.alloc (tnO T)).drew.heap.size (w1.alloc (tnO T)).drew w2) : NodeAt w1 T (.pointer (some ⟨w2.heap.size, 0, none⟩)) (w2.alloc (.cells #[.int .i64 0, .int .i64 T.at_, .int .i64 T.beh, .int .i64 0, .string ⟨#[]⟩, .int .i64 0, .int .i64 (-1), .int .i64 (-1), .int .i64 (-1), .int .i64 (-1)] 130)) := by
  have hs : w1.heap.size + 1 ≤ w2.heap.size := by have := hb.size; simpa using this
  refine ⟨w2.heap.size, by omega, rfl, blk_new _ _, ?_⟩
  have h1 : Below (w1.alloc (tnO T)).heap.size (w1.alloc (tnO T)) w2 := (⟨rfl, rfl, rfl, Nat.le_refl _, fun _ _ => rfl⟩ : Below (w1.alloc (tnO T)).heap.size (w1.alloc (tnO T)) (w1.alloc (tnO T)).drew).trans hb
  exact h1.alloc (by simp; omega) _
theorem node_meet_a {w1 w2 : World} {T : TN} {a0 a1 a2 a3 a4 a5 a6 a7 a8 a9 : Value} (hb : Below ((w1.alloc (tnO T)).alloc (.cells #[a0, a1, a2, a3, a4, a5, a6, a7, a8, a9] 130)).drew.heap.size ((w1.alloc (tnO T)).alloc (.cells #[a0, a1, a2, a3, a4, a5, a6, a7, a8, a9] 130)).drew w2) :
    NodeAt w1 T (.pointer (some ⟨w1.heap.size + 1, 0, none⟩)) ((((((((((w2.setCell ⟨w1.heap.size + 1, 0, none⟩ (.int .i64 0)).setCell ⟨w1.heap.size + 1, 1, none⟩ (.int .i64 T.at_)).setCell ⟨w1.heap.size + 1, 2, none⟩ (.int .i64 T.beh)).setCell ⟨w1.heap.size + 1, 3, none⟩ (.int .i64 0)).setCell ⟨w1.heap.size + 1, 4, none⟩ (.string ⟨#[]⟩)).setCell ⟨w1.heap.size + 1, 5, none⟩ (.int .i64 0)).setCell ⟨w1.heap.size + 1, 6, none⟩ (.int .i64 (-1))).setCell ⟨w1.heap.size + 1, 7, none⟩ (.int .i64 (-1))).setCell ⟨w1.heap.size + 1, 8, none⟩ (.int .i64 (-1))).setCell ⟨w1.heap.size + 1, 9, none⟩ (.int .i64 (-1))) := by
  have hq := alloc2_kept hb
  have e1 : (w1.alloc (tnO T)).heap.size = w1.heap.size + 1 := by simp
  refine ⟨w1.heap.size + 1, by omega, rfl, ?_, ?_⟩
  · have h0 : (w2.setCell ⟨w1.heap.size + 1, 0, none⟩ (.int .i64 0)).heap[w1.heap.size + 1]? = some (.cells #[.int .i64 0, a1, a2, a3, a4, a5, a6, a7, a8, a9] 130 (0, 0)) := blk_set hq 0 _
    have h1 : ((w2.setCell ⟨w1.heap.size + 1, 0, none⟩ (.int .i64 0)).setCell ⟨w1.heap.size + 1, 1, none⟩ (.int .i64 T.at_)).heap[w1.heap.size + 1]? = some (.cells #[.int .i64 0, .int .i64 T.at_, a2, a3, a4, a5, a6, a7, a8, a9] 130 (0, 0)) := blk_set h0 1 _
    have h2 : (((w2.setCell ⟨w1.heap.size + 1, 0, none⟩ (.int .i64 0)).setCell ⟨w1.heap.size + 1, 1, none⟩ (.int .i64 T.at_)).setCell ⟨w1.heap.size + 1, 2, none⟩ (.int .i64 T.beh)).heap[w1.heap.size + 1]? = some (.cells #[.int .i64 0, .int .i64 T.at_, .int .i64 T.beh, a3, a4, a5, a6, a7, a8, a9] 130 (0, 0)) := blk_set h1 2 _
    have h3 : ((((w2.setCell ⟨w1.heap.size + 1, 0, none⟩ (.int .i64 0)).setCell ⟨w1.heap.size + 1, 1, none⟩ (.int .i64 T.at_)).setCell ⟨w1.heap.size + 1, 2, none⟩ (.int .i64 T.beh)).setCell ⟨w1.heap.size + 1, 3, none⟩ (.int .i64 0)).heap[w1.heap.size + 1]? = some (.cells #[.int .i64 0, .int .i64 T.at_, .int .i64 T.beh, .int .i64 0, a4, a5, a6, a7, a8, a9] 130 (0, 0)) := blk_set h2 3 _
    have h4 : (((((w2.setCell ⟨w1.heap.size + 1, 0, none⟩ (.int .i64 0)).setCell ⟨w1.heap.size + 1, 1, none⟩ (.int .i64 T.at_)).setCell ⟨w1.heap.size + 1, 2, none⟩ (.int .i64 T.beh)).setCell ⟨w1.heap.size + 1, 3, none⟩ (.int .i64 0)).setCell ⟨w1.heap.size + 1, 4, none⟩ (.string ⟨#[]⟩)).heap[w1.heap.size + 1]? = some (.cells #[.int .i64 0, .int .i64 T.at_, .int .i64 T.beh, .int .i64 0, .string ⟨#[]⟩, a5, a6, a7, a8, a9] 130 (0, 0)) := blk_set h3 4 _
    have h5 : ((((((w2.setCell ⟨w1.heap.size + 1, 0, none⟩ (.int .i64 0)).setCell ⟨w1.heap.size + 1, 1, none⟩ (.int .i64 T.at_)).setCell ⟨w1.heap.size + 1, 2, none⟩ (.int .i64 T.beh)).setCell ⟨w1.heap.size + 1, 3, none⟩ (.int .i64 0)).setCell ⟨w1.heap.size + 1, 4, none⟩ (.string ⟨#[]⟩)).setCell ⟨w1.heap.size + 1, 5, none⟩ (.int .i64 0)).heap[w1.heap.size + 1]? = some (.cells #[.int .i64 0, .int .i64 T.at_, .int .i64 T.beh, .int .i64 0, .string ⟨#[]⟩, .int .i64 0, a6, a7, a8, a9] 130 (0, 0)) := blk_set h4 5 _
    have h6 : (((((((w2.setCell ⟨w1.heap.size + 1, 0, none⟩ (.int .i64 0)).setCell ⟨w1.heap.size + 1, 1, none⟩ (.int .i64 T.at_)).setCell ⟨w1.heap.size + 1, 2, none⟩ (.int .i64 T.beh)).setCell ⟨w1.heap.size + 1, 3, none⟩ (.int .i64 0)).setCell ⟨w1.heap.size + 1, 4, none⟩ (.string ⟨#[]⟩)).setCell ⟨w1.heap.size + 1, 5, none⟩ (.int .i64 0)).setCell ⟨w1.heap.size + 1, 6, none⟩ (.int .i64 (-1))).heap[w1.heap.size + 1]? = some (.cells #[.int .i64 0, .int .i64 T.at_, .int .i64 T.beh, .int .i64 0, .string ⟨#[]⟩, .int .i64 0, .int .i64 (-1), a7, a8, a9] 130 (0, 0)) := blk_set h5 6 _
    have h7 : ((((((((w2.setCell ⟨w1.heap.size + 1, 0, none⟩ (.int .i64 0)).setCell ⟨w1.heap.size + 1, 1, none⟩ (.int .i64 T.at_)).setCell ⟨w1.heap.size + 1, 2, none⟩ (.int .i64 T.beh)).setCell ⟨w1.heap.size + 1, 3, none⟩ (.int .i64 0)).setCell ⟨w1.heap.size + 1, 4, none⟩ (.string ⟨#[]⟩)).setCell ⟨w1.heap.size + 1, 5, none⟩ (.int .i64 0)).setCell ⟨w1.heap.size + 1, 6, none⟩ (.int .i64 (-1))).setCell ⟨w1.heap.size + 1, 7, none⟩ (.int .i64 (-1))).heap[w1.heap.size + 1]? = some (.cells #[.int .i64 0, .int .i64 T.at_, .int .i64 T.beh, .int .i64 0, .string ⟨#[]⟩, .int .i64 0, .int .i64 (-1), .int .i64 (-1), a8, a9] 130 (0, 0)) := blk_set h6 7 _
    have h8 : (((((((((w2.setCell ⟨w1.heap.size + 1, 0, none⟩ (.int .i64 0)).setCell ⟨w1.heap.size + 1, 1, none⟩ (.int .i64 T.at_)).setCell ⟨w1.heap.size + 1, 2, none⟩ (.int .i64 T.beh)).setCell ⟨w1.heap.size + 1, 3, none⟩ (.int .i64 0)).setCell ⟨w1.heap.size + 1, 4, none⟩ (.string ⟨#[]⟩)).setCell ⟨w1.heap.size + 1, 5, none⟩ (.int .i64 0)).setCell ⟨w1.heap.size + 1, 6, none⟩ (.int .i64 (-1))).setCell ⟨w1.heap.size + 1, 7, none⟩ (.int .i64 (-1))).setCell ⟨w1.heap.size + 1, 8, none⟩ (.int .i64 (-1))).heap[w1.heap.size + 1]? = some (.cells #[.int .i64 0, .int .i64 T.at_, .int .i64 T.beh, .int .i64 0, .string ⟨#[]⟩, .int .i64 0, .int .i64 (-1), .int .i64 (-1), .int .i64 (-1), a9] 130 (0, 0)) := blk_set h7 8 _
    have h9 : ((((((((((w2.setCell ⟨w1.heap.size + 1, 0, none⟩ (.int .i64 0)).setCell ⟨w1.heap.size + 1, 1, none⟩ (.int .i64 T.at_)).setCell ⟨w1.heap.size + 1, 2, none⟩ (.int .i64 T.beh)).setCell ⟨w1.heap.size + 1, 3, none⟩ (.int .i64 0)).setCell ⟨w1.heap.size + 1, 4, none⟩ (.string ⟨#[]⟩)).setCell ⟨w1.heap.size + 1, 5, none⟩ (.int .i64 0)).setCell ⟨w1.heap.size + 1, 6, none⟩ (.int .i64 (-1))).setCell ⟨w1.heap.size + 1, 7, none⟩ (.int .i64 (-1))).setCell ⟨w1.heap.size + 1, 8, none⟩ (.int .i64 (-1))).setCell ⟨w1.heap.size + 1, 9, none⟩ (.int .i64 (-1))).heap[w1.heap.size + 1]? = some (.cells #[.int .i64 0, .int .i64 T.at_, .int .i64 T.beh, .int .i64 0, .string ⟨#[]⟩, .int .i64 0, .int .i64 (-1), .int .i64 (-1), .int .i64 (-1), .int .i64 (-1)] 130 (0, 0)) := blk_set h8 9 _
    exact h9
  · have h1 : Below (w1.alloc (tnO T)).heap.size (w1.alloc (tnO T)) ((w1.alloc (tnO T)).alloc (.cells #[a0, a1, a2, a3, a4, a5, a6, a7, a8, a9] 130)).drew := ((Below.refl _ _).alloc (Nat.le_refl _) (.cells #[a0, a1, a2, a3, a4, a5, a6, a7, a8, a9] 130)).trans ⟨rfl, rfl, rfl, Nat.le_refl _, fun _ _ => rfl⟩
    have h2 := h1.trans (hb.mono (by show (w1.alloc (tnO T)).heap.size ≤ ((w1.alloc (tnO T)).alloc (.cells #[a0, a1, a2, a3, a4, a5, a6, a7, a8, a9] 130)).heap.size; simp))
    rw [e1] at h2 ⊢
    exact (((((((((h2.setCell (p := ⟨w1.heap.size + 1, 0, none⟩) (by simp) _).setCell (p := ⟨w1.heap.size + 1, 1, none⟩) (by simp) _).setCell (p := ⟨w1.heap.size + 1, 2, none⟩) (by simp) _).setCell (p := ⟨w1.heap.size + 1, 3, none⟩) (by simp) _).setCell (p := ⟨w1.heap.size + 1, 4, none⟩) (by simp) _).setCell (p := ⟨w1.heap.size + 1, 5, none⟩) (by simp) _).setCell (p := ⟨w1.heap.size + 1, 6, none⟩) (by simp) _).setCell (p := ⟨w1.heap.size + 1, 7, none⟩) (by simp) _).setCell (p := ⟨w1.heap.size + 1, 8, none⟩) (by simp) _).setCell (p := ⟨w1.heap.size + 1, 9, none⟩) (by simp) _

/-- how great a reader may be ahead of a form -/
def BdA (st : PS) : Prop := st.scope.length + st.l.length ≤ 9000 ∧ st.nodes.length + st.l.length ≤ 9000 ∧ st.opened.length + 4 * st.l.length ≤ 50001
end Go.Proofs.YtglkpkmdoohdcaaDoor

namespace Go.Proofs.YtglkpkmdoohdcaaDoor
open Go.RowKit

set_option maxRecDepth 100000 in
set_option maxHeartbeats 16000000 in
theorem any_any (s : ByteArray) (placed : Bool) (pb : Nat) (pB : NR → PS → Int × PS) (hs : s.size ≤ 9000) (w : World) (sv nv ov : Value) (st : PS) (h : PIn s placed pb w sv nv ov st) (hbd : BdA st)
    (hBr : st.l ≠ [] → ∀ (w : World) (n : NR), PIn s placed pb w sv nv ov st.tail → Calls Tryd.prog 109 #[ptr pb, nrVal n] w fun v w' => v = .returned (.int .i64 (pB n st.tail).1) ∧ ∃ sv' nv' ov', PFr pb pb w w' sv nv ov sv' nv' ov' ∧ PIn s placed pb w' sv' nv' ov' (pB n st.tail).2) :
    Calls Tryd.prog 95 #[ptr pb] w fun v w' => v = .returned (.int .i64 (pAny s.size pB st).1) ∧
      ∃ sv' nv' ov', PFr pb pb w w' sv nv ov sv' nv' ov' ∧ PIn s placed pb w' sv' nv' ov' (pAny s.size pB st).2 := by
  have htk := take_any s placed pb w sv nv ov st hs h
  have hfa := fun w a h => fail_any s placed pb w sv nv ov st.tail a h
  have hfi := fun w u h => find_any s placed pb w sv nv ov st.tail u (by show st.scope.length ≤ 9000; have := hbd.1; omega) h
  have had := fun w n h => add_any s placed pb w sv nv ov st.tail n (by show st.nodes.length ≤ 9000; have := hbd.2.1; omega) h
  have hne : (tk1 s.size st.l).kind = 2 → st.l ≠ [] := by
    intro e e'; rw [e'] at e; simp [tk1] at e
  have hsc : st.tail.scope = st.scope := rfl
  have hnd : st.tail.nodes = st.nodes := rfl
  rw [hsc] at hfi
  rw [hnd] at had
  have HPA : Hid (pAny s.size pB st = (let t := tk1 s.size st.l
    if t.kind = 5 then ((st.nodes.length : Int), st.tail.add { nodeT t with form := 1, num := t.num })
    else if t.kind = 4 then ((st.nodes.length : Int), st.tail.add { nodeT t with form := 2, word := t.word, source := findS st.scope t.word })
    else if t.kind = 2 then pB (nodeT t) st.tail
    else (-1, st.tail.fail t.at_))) := rfl
  obtain ⟨T, hT⟩ : ∃ T, T = tk1 s.size st.l := ⟨_, rfl⟩
  rw [← hT] at htk HPA hne
  obtain ⟨R, hR⟩ : ∃ R, R = pAny s.size pB st := ⟨_, rfl⟩
  rw [← hR] at HPA ⊢
  unfold tnVal ptr at htk
  unfold ptr at hfa hfi had hBr
  unfold nrVal at had hBr
  have HBR : Hid _ := hBr
  have HNE : Hid _ := hne
  have HFI : Hid _ := hfi
  have HFA : Hid _ := hfa
  have HAD : Hid _ := had
  have hnp := noParts_any
  clear hT h hR hBr hne hfi hfa had hbd hsc hnd
  show Calls _ _ #[Value.pointer (some ⟨pb, 0, none⟩)] w _
  go_enter Tryd.func95, Tryd.ntmps95
  go_upto_region 2 with (go_at_call 96; refine Calls.mono htk ?_; rintro _ w1 ⟨rfl, hfr, hin⟩)
  go_cut [4] from 7 to 12 (fun t4 wx => NodeAt w1 T t4 wx)
  case first =>
    go_region_with (go_at_call 77; refine (hnp _).mono ?_; rintro e w2 ⟨rfl, hb2⟩; (try (have hqa := kept_a hb2; have hlt1 := blk_lt hqa; have hne1 := Nat.ne_of_lt hlt1; obtain ⟨t0, t1, t2, t3, t4⟩ := tok_cells hqa)); (try (have hqb := kept_b hb2; have hlt1 := blk_lt hqb; have hne1 := Nat.ne_of_lt hlt1; obtain ⟨t0, t1, t2, t3, t4⟩ := tok_cells hqb)); (try (have hqn := alloc2_kept hb2; have hlt2 := blk_lt hqn; obtain ⟨c0, c1, c2, c3, c4, c5, c6, c7, c8, c9⟩ := cells10 hqn; obtain ⟨f0, f1, f2, f3, f4, f5, f6, f7, f8, f9⟩ := free10 hqn)))
    all_goals (go_wp2_with fail; go_meet)
    all_goals first
      | exact node_meet_b hb2
      | exact node_meet_a hb2
  case rest =>
  obtain ⟨g, hg, rfl, hgb, hbc⟩ := hcut
  have hsz : w.heap.size ≤ w1.heap.size := hfr.size
  have hlt := hin.slt
  have e1 : (w1.alloc (tnO T)).heap.size = w1.heap.size + 1 := by simp
  have hTb : wc.heap[w1.heap.size]? = some (tnO T) := by rw [hbc.block _ (by simp)]; exact blk_new _ _
  obtain ⟨t0, t1, t2, t3, t4⟩ := tok_cells hTb
  have hB : Bk pb g wc sv nv ov (nrO (nodeT T)) := ⟨hgb, by have := hlt.2.2.2; omega, fun e => by have := hlt.1 _ e; omega, fun e => by have := hlt.2.1 _ e; omega, fun e => by have := hlt.2.2.1 _ e; omega⟩
  have hI : PIn s placed pb wc sv nv ov st.tail := (hin.alloc (tnO T)).below hbc
  have hF : PFr pb pb w wc sv nv ov sv nv ov := (hfr.alloc (tnO T)).trans (PFr.below pb pb sv nv ov hbc)
  have hTne : w1.heap.size ≠ g := by omega
  have HB : Hid _ := hB
  have HI : Hid _ := hI
  have HF : Hid _ := hF
  have hgw := blk_lt hgb
  clear hgb hbc hTb hB hI hF hlt hin hfr htk e1
  by_cases k5 : T.kind = 5
  · have q5 : ((T.kind : Int) == 5) = true := ibeq_true (b := 5) k5
    obtain ⟨c0, c1, c2, c3, c4, c5, c6, c7, c8, c9⟩ := nr_cells10 HB.out.b
    have f0 := blk_free HB.out.b 0
    have f3 := blk_free HB.out.b 3
    obtain ⟨a1, a2, a3⟩ := HB.out.set HI.out 0 (.int .i64 1)
    obtain ⟨b1, b2, b3⟩ := a3.set a2 3 (.int .i64 T.num)
    have had1 := HAD.out _ { nodeT T with form := 1, num := T.num } b2
    have HR : Hid (R = ((st.nodes.length : Int), st.tail.add { nodeT T with form := 1, num := T.num })) := by
      have := HPA.out; simp only [if_pos k5] at this; exact this
    have HG : Hid (PFr pb g w _ sv nv ov sv nv ov) := ((HF.out.nb (nb := g)).trans a1).trans b1
    have HAD1 : Hid _ := had1
    clear a1 a2 a3 b1 b2 b3 had1 k5 HPA HBR HNE HFI HFA HAD hnp
    go_wp2_with fail
    refine Calls.mono HAD1.out ?_
    rintro _ w4 ⟨rfl, nv4, hfr4, hin4⟩
    have G3 : Hid _ := (HG.out.trans (hfr4.nb (nb := g))).outer (by omega)
    have G4 : Hid _ := hin4
    clear hfr4 hin4 HAD1
    go_wp2
    go_ret
    rw [HR.out]
    exact ⟨rfl, _, _, _, G3.out, G4.out⟩
  have q5 : ((T.kind : Int) == 5) = false := ibeq_false (b := 5) k5
  by_cases k4 : T.kind = 4
  · have q4 : ((T.kind : Int) == 4) = true := ibeq_true (b := 4) k4
    obtain ⟨c0, c1, c2, c3, c4, c5, c6, c7, c8, c9⟩ := nr_cells10 HB.out.b
    have f0 := blk_free HB.out.b 0
    have f4 := blk_free HB.out.b 4
    have f6 := blk_free HB.out.b 6
    obtain ⟨a1, a2, a3⟩ := HB.out.set HI.out 0 (.int .i64 2)
    obtain ⟨b1, b2, b3⟩ := a3.set a2 4 (.string (bs T.word))
    have hfi1 := HFI.out _ T.word b2
    obtain ⟨d1, d2, d3⟩ := b3.set b2 6 (.int .i64 (findS st.scope T.word))
    have had1 := HAD.out _ { nodeT T with form := 2, word := T.word, source := findS st.scope T.word } d2
    have HR : Hid (R = ((st.nodes.length : Int), st.tail.add { nodeT T with form := 2, word := T.word, source := findS st.scope T.word })) := by
      have := HPA.out; simp only [if_neg k5, if_pos k4] at this; exact this
    have HG : Hid (PFr pb g w _ sv nv ov sv nv ov) := (((HF.out.nb (nb := g)).trans a1).trans b1).trans d1
    have HAD1 : Hid _ := had1
    have HFI1 : Hid _ := hfi1
    clear a1 a2 a3 b1 b2 b3 d1 d2 d3 had1 hfi1 k5 k4 HPA HBR HNE HFI HFA HAD hnp
    go_wp2_with fail
    refine Calls.mono HFI1.out ?_
    rintro _ w3 ⟨rfl, rfl⟩
    go_wp2_with fail
    refine Calls.mono HAD1.out ?_
    rintro _ w4 ⟨rfl, nv4, hfr4, hin4⟩
    have G3 : Hid _ := (HG.out.trans (hfr4.nb (nb := g))).outer (by omega)
    have G4 : Hid _ := hin4
    clear hfr4 hin4 HAD1
    go_wp2
    go_ret
    rw [HR.out]
    exact ⟨rfl, _, _, _, G3.out, G4.out⟩
  have q4 : ((T.kind : Int) == 4) = false := ibeq_false (b := 4) k4
  by_cases k2 : T.kind = 2
  · have q2 : ((T.kind : Int) == 2) = true := ibeq_true (b := 2) k2
    obtain ⟨c0, c1, c2, c3, c4, c5, c6, c7, c8, c9⟩ := nr_cells10 HB.out.b
    have hbr1 := HBR.out (HNE.out k2) _ (nodeT T) HI.out
    have HR : Hid (R = pB (nodeT T) st.tail) := by
      have := HPA.out; simp only [if_neg k5, if_neg k4, if_pos k2] at this; exact this
    have HBR1 : Hid _ := hbr1
    clear hbr1 k5 k4 k2 HPA HBR HNE HFI HFA HAD hnp
    go_wp2_with fail
    refine Calls.mono HBR1.out ?_
    rintro _ w4 ⟨rfl, sv4, nv4, ov4, hfr4, hin4⟩
    have G3 : Hid _ := HF.out.trans hfr4
    have G4 : Hid _ := hin4
    clear hfr4 hin4 HBR1
    go_wp2
    go_ret
    rw [HR.out]
    exact ⟨rfl, _, _, _, G3.out, G4.out⟩
  · have q2 : ((T.kind : Int) == 2) = false := ibeq_false (b := 2) k2
    have hfa1 := HFA.out _ T.at_ HI.out
    have HR : Hid (R = (-1, st.tail.fail T.at_)) := by
      have := HPA.out; simp only [if_neg k5, if_neg k4, if_neg k2] at this; exact this
    have HFA1 : Hid _ := hfa1
    clear hfa1 k5 k4 k2 HPA HBR HNE HFI HFA HAD hnp
    go_wp2_with fail
    refine Calls.mono HFA1.out ?_
    rintro _ w4 ⟨rfl, hfr4, hin4⟩
    have G3 : Hid _ := HF.out.trans hfr4
    have G4 : Hid _ := hin4
    clear hfr4 hin4 HFA1
    go_wp2
    go_ret
    rw [HR.out]
    exact ⟨rfl, _, _, _, G3.out, G4.out⟩
end Go.Proofs.YtglkpkmdoohdcaaDoor
