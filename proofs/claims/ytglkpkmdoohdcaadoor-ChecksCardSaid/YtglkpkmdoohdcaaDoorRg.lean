import Derived.Test.YtglkpkmdoohdcaaDoorRf
import Derived.BigRegion
import Derived.BigQuiet
import Derived.Deep.QuietTactic
namespace Go.Proofs.YtglkpkmdoohdcaaDoor
open Go.RowKit

theorem gr_trans {a b c : World} {row : Option Nat} (h : a.grownBy b row) (k : b.grownBy c row) : a.grownBy c row :=
  ⟨k.os.trans h.os, k.tape.trans h.tape, k.output.trans h.output, Nat.le_trans h.size k.size, fun i hi hr => (k.block i (Nat.lt_of_lt_of_le hi h.size) hr).trans (h.block i hi hr)⟩
theorem gr_set (w : World) (p : Addr) (u : Value) : w.grownBy (w.setCell p u) (some p.block) :=
  ⟨rfl, rfl, rfl, by simp [World.setCell], fun k _ hk => Below.heap_setCell _ _ _ _ (fun e => hk (by rw [e]))⟩
theorem gr_alloc (w : World) (o : Obj) (row : Option Nat) : w.grownBy (w.alloc o) row := World.grownBy_alloc w o row
theorem gr_drew (w : World) (row : Option Nat) : w.grownBy w.drew row := ⟨rfl, rfl, rfl, Nat.le_refl _, fun _ _ _ => rfl⟩
theorem gr_new {w w' : World} {b : Nat} {row : Option Nat} (h : w.grownBy w' (some b)) (hb : w.heap.size ≤ b) : w.grownBy w' row :=
  ⟨h.os, h.tape, h.output, h.size, fun k hk _ => h.block k hk (by intro e; cases e; omega)⟩

/-- what is asked of the tokens: a number's letters, a name's -/
structure TokOk (ts : List Tk) : Prop where
  num : ∀ t ∈ ts, t.c = .num → t.s.length ≤ 5
  reg : ∀ t ∈ ts, t.c = .reg → t.s.length ≤ 5
  nam : ∀ t ∈ ts, t.c = .nam → t.s ≠ []

def cntCells (tv : Value) (p ids sites : Nat) : Array Value := #[tv, .int .i64 p, .int .i64 ids, .int .i64 sites]

/-- what a call of build finds -/
structure BIn (ts : List Tk) (gt tc cb p ids sites : Nat) (w : World) : Prop where
  ne : gt ≠ cb
  c : w.heap[cb]? = some (.cells (cntCells (.slice (some ⟨gt, 0, none⟩) ts.length tc) p ids sites) 99 (0, 0))
  tk : w.ownsRow 0 95 3 (.slice (some ⟨gt, 0, none⟩) ts.length tc) ts.length (ts.flatMap tkCells)

/-- what it leaves -/
def BOut (ts : List Tk) (gt tc cb p ids sites : Nat) (w : World) (e : PT) (used : Nat) (v : Ending) (w' : World) : Prop :=
  ∃ b, v = .returned (ptr b) ∧ w'.heap[cb]? = some (.cells (cntCells (.slice (some ⟨gt, 0, none⟩) ts.length tc) (p + used) (ids + e.cnt) (sites + e.prs)) 99 (0, 0)) ∧
    w.grownBy w' (some cb) ∧ IsT w' (fun k => w.heap.size ≤ k ∧ k < w'.heap.size) e ids sites b

theorem leaf_end {w : World} {cb : Nat} {tv : Value} {p ids sites : Nat} (X T : Obj) (hc : w.heap[cb]? = some (.cells (cntCells tv p ids sites) 99 (0, 0))) :
    (((((w.setCell ⟨cb, 2, none⟩ (.int .i64 ((ids : Int) + 1))).setCell ⟨cb, 1, none⟩ (.int .i64 ((p : Int) + 1))).alloc X).alloc T).drew.drew).heap[cb]? = some (.cells (cntCells tv (p + 1) (ids + 1) sites) 99 (0, 0)) ∧
    w.grownBy (((((w.setCell ⟨cb, 2, none⟩ (.int .i64 ((ids : Int) + 1))).setCell ⟨cb, 1, none⟩ (.int .i64 ((p : Int) + 1))).alloc X).alloc T).drew.drew) (some cb) ∧
    (((((w.setCell ⟨cb, 2, none⟩ (.int .i64 ((ids : Int) + 1))).setCell ⟨cb, 1, none⟩ (.int .i64 ((p : Int) + 1))).alloc X).alloc T).drew.drew).heap[w.heap.size]? = some X ∧
    (((((w.setCell ⟨cb, 2, none⟩ (.int .i64 ((ids : Int) + 1))).setCell ⟨cb, 1, none⟩ (.int .i64 ((p : Int) + 1))).alloc X).alloc T).drew.drew).heap.size = w.heap.size + 2 := by
  have e : ((w.setCell ⟨cb, 2, none⟩ (.int .i64 ((ids : Int) + 1))).setCell ⟨cb, 1, none⟩ (.int .i64 ((p : Int) + 1))).heap.size = w.heap.size := by simp [World.setCell]
  refine ⟨?_, ?_, ?_, ?_⟩
  · show ((((w.setCell ⟨cb, 2, none⟩ (.int .i64 ((ids : Int) + 1))).setCell ⟨cb, 1, none⟩ (.int .i64 ((p : Int) + 1))).alloc X).alloc T).heap[cb]? = _
    exact blk_alloc _ (blk_alloc _ (blk_set (blk_set hc 2 _) 1 _))
  · exact gr_trans (gr_trans (gr_trans (gr_trans (gr_trans (gr_set w ⟨cb, 2, none⟩ _) (gr_set _ ⟨cb, 1, none⟩ _)) (gr_alloc _ _ _)) (gr_alloc _ _ _)) (gr_drew _ _)) (gr_drew _ _)
  · show ((((w.setCell ⟨cb, 2, none⟩ (.int .i64 ((ids : Int) + 1))).setCell ⟨cb, 1, none⟩ (.int .i64 ((p : Int) + 1))).alloc X).alloc T).heap[w.heap.size]? = _
    refine blk_alloc _ ?_
    have := blk_new ((w.setCell ⟨cb, 2, none⟩ (.int .i64 ((ids : Int) + 1))).setCell ⟨cb, 1, none⟩ (.int .i64 ((p : Int) + 1))) X
    rw [e] at this; exact this
  · show ((((w.setCell ⟨cb, 2, none⟩ (.int .i64 ((ids : Int) + 1))).setCell ⟨cb, 1, none⟩ (.int .i64 ((p : Int) + 1))).alloc X).alloc T).heap.size = _
    simp [e]

theorem tk_at {ts : List Tk} {gt tc : Nat} {w : World} {t : Tk} {p : Nat} (h : w.ownsRow 0 95 3 (.slice (some ⟨gt, 0, none⟩) ts.length tc) ts.length (ts.flatMap tkCells)) (ht : ts[p]? = some t) :
    w.cell? ⟨gt, p * 3, none⟩ = some (.string (bs t.s)) ∧ w.cell? ⟨gt, p * 3 + 1, none⟩ = some (.int .i64 t.at_) ∧ w.cell? ⟨gt, p * 3 + 2, none⟩ = some (.string (bs t.c.bytes)) := by
  have hp : p < ts.length := by
    rcases Nat.lt_or_ge p ts.length with h1 | h1
    · exact h1
    · rw [List.getElem?_eq_none h1] at ht; cases ht
  refine ⟨?_, ?_, ?_⟩
  · rw [h.cellAt (p * 3) (by omega)]; exact tk_cell ts p t ht 0 (by omega)
  · rw [h.cellAt (p * 3 + 1) (by omega)]; exact tk_cell ts p t ht 1 (by omega)
  · rw [h.cellAt (p * 3 + 2) (by omega)]; exact tk_cell ts p t ht 2 (by omega)

set_option maxRecDepth 100000 in
set_option maxHeartbeats 1000000 in
theorem build_num (ts : List Tk) (hok : TokOk ts) (hl : ts.length ≤ 9000) (gt tc cb p ids sites : Nat) (t : Tk) (w : World) (hin : BIn ts gt tc cb p ids sites w) (ht : ts[p]? = some t) (hp : p < ts.length) (hids : ids ≤ 9000)
    (h1 : t.c = .num) : Calls Tryd.prog 40 #[ptr cb] w (BOut ts gt tc cb p ids sites w (.num t.at_ t.s) 1) := by
  obtain ⟨hne, hc, htk⟩ := hin
  have c0 : w.cell? ⟨cb, 0, none⟩ = some (.slice (some ⟨gt, 0, none⟩) ts.length tc) := by rw [blk_cell hc]; rfl
  have c1 : w.cell? ⟨cb, 1, none⟩ = some (.int .i64 p) := by rw [blk_cell hc]; rfl
  have c2 : w.cell? ⟨cb, 2, none⟩ = some (.int .i64 ids) := by rw [blk_cell hc]; rfl
  have c3 : w.cell? ⟨cb, 3, none⟩ = some (.int .i64 sites) := by rw [blk_cell hc]; rfl
  have f1 : w.frozen? ⟨cb, 1, none⟩ = false := blk_free hc 1
  have f2 : w.frozen? ⟨cb, 2, none⟩ = false := blk_free hc 2
  obtain ⟨t0, t1, t2⟩ := tk_at htk ht
  have hcb := blk_lt hc
  have hgt := (htk.lt gt rfl).2
  have hne' : cb ≠ gt := fun h => hne h.symm
  have HC : Hid _ := hc
  have hsl := hok.num t (List.mem_of_getElem? ht) h1
  have q1 : ((bs t.c.bytes).toList == [78, 85, 77, 66, 69, 82]) = true := by rw [h1, bs_beq]; decide
  have hval := value_any (bs t.s)
  rw [bs_toList] at hval
  clear h1 hc htk ht
  unfold ptr
  go_enter Tryd.func40, Tryd.ntmps40
  go_wp2
  go_region
  go_wp2
  go_region
  go_wp2_with (go_at_call 63; refine (hval _ (by rw [bs_size]; exact hsl)).mono ?_; rintro e w' ⟨rfl, rfl⟩)
  go_ret
  obtain ⟨g1, g2, g3, g4⟩ := leaf_end (.cells (exCells numB t.at_ [] (valueL t.s) (.slice none 0 0) ids ids sites) 82 (0, 0)) (.cells #[.string (bs t.s), .int .i64 t.at_, .string (bs t.c.bytes)] 95) HC.out
  refine ⟨w.heap.size, rfl, g1, g2, ?_⟩
  simp only [IsT]
  exact ⟨⟨Nat.le_refl _, Nat.lt_of_lt_of_eq (by omega : w.heap.size < w.heap.size + 2) g4.symm⟩, g3⟩

set_option maxRecDepth 100000 in
set_option maxHeartbeats 1000000 in
theorem build_name (ts : List Tk) (hl : ts.length ≤ 9000) (gt tc cb p ids sites : Nat) (t : Tk) (w : World) (hin : BIn ts gt tc cb p ids sites w) (ht : ts[p]? = some t) (hp : p < ts.length) (hids : ids ≤ 9000)
    (h1 : t.c = .nam) : Calls Tryd.prog 40 #[ptr cb] w (BOut ts gt tc cb p ids sites w (.name t.at_ t.s) 1) := by
  obtain ⟨hne, hc, htk⟩ := hin
  have c0 : w.cell? ⟨cb, 0, none⟩ = some (.slice (some ⟨gt, 0, none⟩) ts.length tc) := by rw [blk_cell hc]; rfl
  have c1 : w.cell? ⟨cb, 1, none⟩ = some (.int .i64 p) := by rw [blk_cell hc]; rfl
  have c2 : w.cell? ⟨cb, 2, none⟩ = some (.int .i64 ids) := by rw [blk_cell hc]; rfl
  have c3 : w.cell? ⟨cb, 3, none⟩ = some (.int .i64 sites) := by rw [blk_cell hc]; rfl
  have f1 : w.frozen? ⟨cb, 1, none⟩ = false := blk_free hc 1
  have f2 : w.frozen? ⟨cb, 2, none⟩ = false := blk_free hc 2
  obtain ⟨t0, t1, t2⟩ := tk_at htk ht
  have hcb := blk_lt hc
  have hgt := (htk.lt gt rfl).2
  have hne' : cb ≠ gt := fun h => hne h.symm
  have HC : Hid _ := hc
  have q1 : ((bs t.c.bytes).toList == [78, 85, 77, 66, 69, 82]) = false := by rw [h1, bs_beq]; decide
  have q2 : ((bs t.c.bytes).toList == [78, 65, 77, 69]) = true := by rw [h1, bs_beq]; decide
  clear h1 hc htk ht
  unfold ptr
  go_enter Tryd.func40, Tryd.ntmps40
  go_wp2
  go_region
  go_wp2
  go_region
  go_wp2
  go_ret
  obtain ⟨g1, g2, g3, g4⟩ := leaf_end (.cells (exCells nameB t.at_ t.s 0 (.slice none 0 0) ids ids sites) 82 (0, 0)) (.cells #[.string (bs t.s), .int .i64 t.at_, .string (bs t.c.bytes)] 95) HC.out
  refine ⟨w.heap.size, rfl, g1, g2, ?_⟩
  simp only [IsT]
  exact ⟨⟨Nat.le_refl _, Nat.lt_of_lt_of_eq (by omega : w.heap.size < w.heap.size + 2) g4.symm⟩, g3⟩
end Go.Proofs.YtglkpkmdoohdcaaDoor
