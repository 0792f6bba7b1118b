import Derived.Test.YtpicaknklgccoaaGreatDoorP11
namespace Go.Proofs.YtpicaknklgccoaaGreatDoor
open Go.RowKit
set_option maxRecDepth 100000 in
set_option maxHeartbeats 4000000 in
theorem formOf_any (k : Nat) (w : World) (hk : k ≤ 16) : Calls Tryz.prog 189 #[.int .i64 k] w fun v w' => v = .returned (.int .i64 (formN k : Nat)) ∧ w' = w := by
 match k, hk with
 | 0, _ => go_enter Tryz.func189, Tryz.ntmps189; go_wp2; go_ret; exact ⟨rfl, rfl⟩
 | 1, _ => go_enter Tryz.func189, Tryz.ntmps189; go_wp2; go_ret; exact ⟨rfl, rfl⟩
 | 2, _ => go_enter Tryz.func189, Tryz.ntmps189; go_wp2; go_ret; exact ⟨rfl, rfl⟩
 | 3, _ => go_enter Tryz.func189, Tryz.ntmps189; go_wp2; go_ret; exact ⟨rfl, rfl⟩
 | 4, _ => go_enter Tryz.func189, Tryz.ntmps189; go_wp2; go_ret; exact ⟨rfl, rfl⟩
 | 5, _ => go_enter Tryz.func189, Tryz.ntmps189; go_wp2; go_ret; exact ⟨rfl, rfl⟩
 | 6, _ => go_enter Tryz.func189, Tryz.ntmps189; go_wp2; go_ret; exact ⟨rfl, rfl⟩
 | 7, _ => go_enter Tryz.func189, Tryz.ntmps189; go_wp2; go_ret; exact ⟨rfl, rfl⟩
 | 8, _ => go_enter Tryz.func189, Tryz.ntmps189; go_wp2; go_ret; exact ⟨rfl, rfl⟩
 | 9, _ => go_enter Tryz.func189, Tryz.ntmps189; go_wp2; go_ret; exact ⟨rfl, rfl⟩
 | 10, _ => go_enter Tryz.func189, Tryz.ntmps189; go_wp2; go_ret; exact ⟨rfl, rfl⟩
 | 11, _ => go_enter Tryz.func189, Tryz.ntmps189; go_wp2; go_ret; exact ⟨rfl, rfl⟩
 | 12, _ => go_enter Tryz.func189, Tryz.ntmps189; go_wp2; go_ret; exact ⟨rfl, rfl⟩
 | 13, _ => go_enter Tryz.func189, Tryz.ntmps189; go_wp2; go_ret; exact ⟨rfl, rfl⟩
 | 14, _ => go_enter Tryz.func189, Tryz.ntmps189; go_wp2; go_ret; exact ⟨rfl, rfl⟩
 | 15, _ => go_enter Tryz.func189, Tryz.ntmps189; go_wp2; go_ret; exact ⟨rfl, rfl⟩
 | k + 17, h => exact absurd h (by omega)
 | 16, _ => go_enter Tryz.func189, Tryz.ntmps189; go_wp2; go_ret; exact ⟨rfl, rfl⟩
theorem kind_le (len : Nat) (l : List Tk) : (tk1 len l).kind ≤ 16 := by
 unfold tk1
 split
 ·simp
 ·rename_i t _
  show kindN t.c ≤ 16
  cases t.c with
  | kw k => cases k <;> decide
  | _ => decide
theorem ibeq_true {a b : Nat} (h : a = b) : ((a : Int) == (b : Int)) = true := by subst h; simp
theorem ibeq_false {a b : Nat} (h : a ≠ b) : ((a : Int) == (b : Int)) = false := by rw [beq_eq_false_iff_ne]; omega
set_option maxRecDepth 100000 in
set_option maxHeartbeats 8000000 in
theorem fill_any (s : ByteArray) (placed : Bool) (pb : Nat) (pE : PS → Int × PS) (m : Nat) (hs : s.size ≤ 9000) (hE : EOk s placed pb pE m) (hG : GrAll pE m) : FOk s placed pb 190 #[] (fun n st => pFill placed s.size pE n st) m := by
 intro nb w sv nv ov st n h hb hm hbd
 have hlet := fillLet_any s placed pb pE m hs hE hG nb w sv nv ov st n h hb hm hbd
 have hloop := fillLoop_any s placed pb pE m hs hE hG nb w sv nv ov st n h hb hm hbd
 have hreg := fillRegion_any s placed pb m hs nb w sv nv ov st n h hb hm hbd
 have hr1 : ∀ (w : World) (sv nv ov : Value) (st : PS) (n : NR), PIn s placed pb w sv nv ov st → Bk pb nb w sv nv ov (nrO n) → st.l.length ≤ m → Bd1 st → Calls Tryz.prog 201 #[.pointer (some ⟨pb, 0, none⟩), .pointer (some ⟨nb, 0, none⟩), .int .i64 1] w fun v w' => v = .returned (.tuple #[]) ∧
   ∃ sv' nv' ov', PFr pb nb w w' sv nv ov sv' nv' ov' ∧ PIn s placed pb w' sv' nv' ov' (pRow1 pE n st).2 ∧ Bk pb nb w' sv' nv' ov' (nrO (pRow1 pE n st).1) := fun w sv nv ov st n a b c d => fillRow_any s placed pb pE m 1 (by omega) hE hG nb w sv nv ov st n a b c d
 have hr2 : ∀ (w : World) (sv nv ov : Value) (st : PS) (n : NR), PIn s placed pb w sv nv ov st → Bk pb nb w sv nv ov (nrO n) → st.l.length ≤ m → Bd1 st → Calls Tryz.prog 201 #[.pointer (some ⟨pb, 0, none⟩), .pointer (some ⟨nb, 0, none⟩), .int .i64 2] w fun v w' => v = .returned (.tuple #[]) ∧
   ∃ sv' nv' ov', PFr pb nb w w' sv nv ov sv' nv' ov' ∧ PIn s placed pb w' sv' nv' ov' (pRow2 pE n st).2 ∧ Bk pb nb w' sv' nv' ov' (nrO (pRow2 pE n st).1) := fun w sv nv ov st n a b c d => fillRow_any s placed pb pE m 2 (by omega) hE hG nb w sv nv ov st n a b c d
 have hr3 : ∀ (w : World) (sv nv ov : Value) (st : PS) (n : NR), PIn s placed pb w sv nv ov st → Bk pb nb w sv nv ov (nrO n) → st.l.length ≤ m → Bd1 st → Calls Tryz.prog 201 #[.pointer (some ⟨pb, 0, none⟩), .pointer (some ⟨nb, 0, none⟩), .int .i64 3] w fun v w' => v = .returned (.tuple #[]) ∧
   ∃ sv' nv' ov', PFr pb nb w w' sv nv ov sv' nv' ov' ∧ PIn s placed pb w' sv' nv' ov' (pRow3 pE n st).2 ∧ Bk pb nb w' sv' nv' ov' (nrO (pRow3 pE n st).1) := fun w sv nv ov st n a b c d => fillRow_any s placed pb pE m 3 (by omega) hE hG nb w sv nv ov st n a b c d
 have hgr : Gs st (pRegion s.size n st).2 0 0 := gs_expect s.size 6 st
 have hgl : (pRegion s.size n st).2.l.length ≤ m := Nat.le_trans hgr.l hm
 have hgb := hbd.on hgr
 simp only [Array.append_empty] at hlet hloop hreg
 unfold ptr at hlet hloop hreg
 obtain ⟨fr, y1, y2, y3⟩ := h.y
 have c0 : w.cell? ⟨nb, 0, none⟩ = some (.int .i64 n.form) := by rw [blk_cell hb.b]; rfl
 have p1 : w.cell? ⟨pb, 1, none⟩ = some (.bool placed) := by rw [blk_cell y3]; rfl
 simp only [Array.append_empty]
 show Calls _ _ #[Value.pointer (some ⟨pb, 0, none⟩), Value.pointer (some ⟨nb, 0, none⟩)] w _
 clear y1 y2 y3 hE hG hgr
 unfold pFill
 by_cases k3 : n.form = 3
 ·skip
  have q3 : ((n.form : Int) == 3) = true := ibeq_true (b := 3) k3
  have HC : Hid _ := hlet
  simp only [if_pos k3]
  clear k3 hlet hloop hreg hr1 hr2 hr3 hb hbd h hgl hgb
  go_enter Tryz.func190, Tryz.ntmps190
  go_wp2_with fail
  refine Calls.mono HC.out ?_
  rintro _ w1 ⟨rfl, sv1, nv1, ov1, r1, r2, r3⟩
  have H1 : Hid _ := r1
  have H2 : Hid _ := r2
  have H3 : Hid _ := r3
  clear r1 r2 r3
  go_wp2
  refine bodyPost_end (v := .tuple #[]) (by simp [results, Tryz.results190, go_sem]) rfl ⟨rfl, _, _, _, H1.out, H2.out, H3.out⟩
 by_cases k11 : n.form = 11
 ·skip
  have q3 : ((n.form : Int) == 3) = false := ibeq_false (b := 3) k3
  have q11 : ((n.form : Int) == 11) = true := ibeq_true (b := 11) k11
  have HC : Hid _ := hloop
  simp only [if_neg k3, if_pos k11]
  clear k3 k11 hlet hloop hreg hr1 hr2 hr3 hb hbd h hgl hgb
  go_enter Tryz.func190, Tryz.ntmps190
  go_wp2_with fail
  refine Calls.mono HC.out ?_
  rintro _ w1 ⟨rfl, sv1, nv1, ov1, r1, r2, r3⟩
  have H1 : Hid _ := r1
  have H2 : Hid _ := r2
  have H3 : Hid _ := r3
  clear r1 r2 r3
  go_wp2
  refine bodyPost_end (v := .tuple #[]) (by simp [results, Tryz.results190, go_sem]) rfl ⟨rfl, _, _, _, H1.out, H2.out, H3.out⟩
 by_cases k4 : n.form = 4
 ·skip
  have q3 : ((n.form : Int) == 3) = false := ibeq_false (b := 3) k3
  have q11 : ((n.form : Int) == 11) = false := ibeq_false (b := 11) k11
  have q4 : ((n.form : Int) == 4) = true := ibeq_true (b := 4) k4
  cases placed with
  | true =>
   have HC : Hid _ := hreg
   have HR : Hid _ := hr2
   simp only [if_neg k3, if_neg k11, if_pos k4, if_true]
   have HGL : Hid _ := hgl
   have HGB : Hid _ := hgb
   clear k3 k11 k4 hlet hloop hreg hr1 hr2 hr3 hb hbd h hgl hgb
   go_enter Tryz.func190, Tryz.ntmps190
   go_wp2_with fail
   refine Calls.mono HC.out ?_
   rintro _ w1 ⟨rfl, sv1, nv1, ov1, r1, r2, r3⟩
   have hx := HR.out w1 sv1 nv1 ov1 _ _ r2 r3 HGL.out HGB.out
   have H1 : Hid _ := r1
   clear r1 r2 r3 HC HR
   go_wp2_with fail
   refine Calls.mono hx ?_
   rintro _ w2 ⟨rfl, sv2, nv2, ov2, t1, t2, t3⟩
   have G1 : Hid _ := H1.out.trans t1
   have G2 : Hid _ := t2
   have G3 : Hid _ := t3
   clear t1 t2 t3 hx
   go_wp2
   refine bodyPost_end (v := .tuple #[]) (by simp [results, Tryz.results190, go_sem]) rfl ⟨rfl, _, _, _, G1.out, G2.out, G3.out⟩
  | false =>
   have HC : Hid _ := (hr2 w sv nv ov st n h hb hm hbd)
   simp only [if_neg k3, if_neg k11, if_pos k4, Bool.false_eq_true, if_false]
   clear k3 k11 k4 hlet hloop hreg hr1 hr2 hr3 hb hbd h hgl hgb
   go_enter Tryz.func190, Tryz.ntmps190
   go_wp2_with fail
   refine Calls.mono HC.out ?_
   rintro _ w1 ⟨rfl, sv1, nv1, ov1, r1, r2, r3⟩
   have H1 : Hid _ := r1
   have H2 : Hid _ := r2
   have H3 : Hid _ := r3
   clear r1 r2 r3
   go_wp2
   refine bodyPost_end (v := .tuple #[]) (by simp [results, Tryz.results190, go_sem]) rfl ⟨rfl, _, _, _, H1.out, H2.out, H3.out⟩
 by_cases k12 : n.form = 12
 ·skip
  have q3 : ((n.form : Int) == 3) = false := ibeq_false (b := 3) k3
  have q11 : ((n.form : Int) == 11) = false := ibeq_false (b := 11) k11
  have q4 : ((n.form : Int) == 4) = false := ibeq_false (b := 4) k4
  have q12 : ((n.form : Int) == 12) = true := ibeq_true (b := 12) k12
  have HC : Hid _ := hreg
  have HR : Hid _ := hr1
  simp only [if_neg k3, if_neg k11, if_neg k4, if_pos k12]
  have HGL : Hid _ := hgl
  have HGB : Hid _ := hgb
  clear k3 k11 k4 k12 hlet hloop hreg hr1 hr2 hr3 hb hbd h hgl hgb
  go_enter Tryz.func190, Tryz.ntmps190
  go_wp2_with fail
  refine Calls.mono HC.out ?_
  rintro _ w1 ⟨rfl, sv1, nv1, ov1, r1, r2, r3⟩
  have hx := HR.out w1 sv1 nv1 ov1 _ _ r2 r3 HGL.out HGB.out
  have H1 : Hid _ := r1
  clear r1 r2 r3 HC HR
  go_wp2_with fail
  refine Calls.mono hx ?_
  rintro _ w2 ⟨rfl, sv2, nv2, ov2, t1, t2, t3⟩
  have G1 : Hid _ := H1.out.trans t1
  have G2 : Hid _ := t2
  have G3 : Hid _ := t3
  clear t1 t2 t3 hx
  go_wp2
  refine bodyPost_end (v := .tuple #[]) (by simp [results, Tryz.results190, go_sem]) rfl ⟨rfl, _, _, _, G1.out, G2.out, G3.out⟩
 by_cases k5 : n.form = 5
 ·skip
  have q3 : ((n.form : Int) == 3) = false := ibeq_false (b := 3) k3
  have q11 : ((n.form : Int) == 11) = false := ibeq_false (b := 11) k11
  have q4 : ((n.form : Int) == 4) = false := ibeq_false (b := 4) k4
  have q12 : ((n.form : Int) == 12) = false := ibeq_false (b := 12) k12
  have q5 : ((n.form : Int) == 5) = true := ibeq_true (b := 5) k5
  have k56 : n.form = 5 ∨ n.form = 6 := Or.inl k5
  have HC : Hid _ := (hr1 w sv nv ov st n h hb hm hbd)
  simp only [if_neg k3, if_neg k11, if_neg k4, if_neg k12, if_pos k56]
  clear k3 k11 k4 k12 k5 k56 hlet hloop hreg hr1 hr2 hr3 hb hbd h hgl hgb
  go_enter Tryz.func190, Tryz.ntmps190
  go_wp2_with fail
  refine Calls.mono HC.out ?_
  rintro _ w1 ⟨rfl, sv1, nv1, ov1, r1, r2, r3⟩
  have H1 : Hid _ := r1
  have H2 : Hid _ := r2
  have H3 : Hid _ := r3
  clear r1 r2 r3
  go_wp2
  refine bodyPost_end (v := .tuple #[]) (by simp [results, Tryz.results190, go_sem]) rfl ⟨rfl, _, _, _, H1.out, H2.out, H3.out⟩
 by_cases k6 : n.form = 6
 ·skip
  have q3 : ((n.form : Int) == 3) = false := ibeq_false (b := 3) k3
  have q11 : ((n.form : Int) == 11) = false := ibeq_false (b := 11) k11
  have q4 : ((n.form : Int) == 4) = false := ibeq_false (b := 4) k4
  have q12 : ((n.form : Int) == 12) = false := ibeq_false (b := 12) k12
  have q5 : ((n.form : Int) == 5) = false := ibeq_false (b := 5) k5
  have q6 : ((n.form : Int) == 6) = true := ibeq_true (b := 6) k6
  have k56 : n.form = 5 ∨ n.form = 6 := Or.inr k6
  have HC : Hid _ := (hr1 w sv nv ov st n h hb hm hbd)
  simp only [if_neg k3, if_neg k11, if_neg k4, if_neg k12, if_pos k56]
  clear k3 k11 k4 k12 k5 k6 k56 hlet hloop hreg hr1 hr2 hr3 hb hbd h hgl hgb
  go_enter Tryz.func190, Tryz.ntmps190
  go_wp2_with fail
  refine Calls.mono HC.out ?_
  rintro _ w1 ⟨rfl, sv1, nv1, ov1, r1, r2, r3⟩
  have H1 : Hid _ := r1
  have H2 : Hid _ := r2
  have H3 : Hid _ := r3
  clear r1 r2 r3
  go_wp2
  refine bodyPost_end (v := .tuple #[]) (by simp [results, Tryz.results190, go_sem]) rfl ⟨rfl, _, _, _, H1.out, H2.out, H3.out⟩
 have k56 : ¬ (n.form = 5 ∨ n.form = 6) := fun e => e.elim k5 k6
 by_cases k7 : n.form = 7
 ·skip
  have q3 : ((n.form : Int) == 3) = false := ibeq_false (b := 3) k3
  have q11 : ((n.form : Int) == 11) = false := ibeq_false (b := 11) k11
  have q4 : ((n.form : Int) == 4) = false := ibeq_false (b := 4) k4
  have q12 : ((n.form : Int) == 12) = false := ibeq_false (b := 12) k12
  have q5 : ((n.form : Int) == 5) = false := ibeq_false (b := 5) k5
  have q6 : ((n.form : Int) == 6) = false := ibeq_false (b := 6) k6
  have q7 : ((n.form : Int) == 7) = true := ibeq_true (b := 7) k7
  have HC : Hid _ := (hr3 w sv nv ov st n h hb hm hbd)
  simp only [if_neg k3, if_neg k11, if_neg k4, if_neg k12, if_neg k56, if_pos k7]
  clear k3 k11 k4 k12 k5 k6 k56 k7 hlet hloop hreg hr1 hr2 hr3 hb hbd h hgl hgb
  go_enter Tryz.func190, Tryz.ntmps190
  go_wp2_with fail
  refine Calls.mono HC.out ?_
  rintro _ w1 ⟨rfl, sv1, nv1, ov1, r1, r2, r3⟩
  have H1 : Hid _ := r1
  have H2 : Hid _ := r2
  have H3 : Hid _ := r3
  clear r1 r2 r3
  go_wp2
  refine bodyPost_end (v := .tuple #[]) (by simp [results, Tryz.results190, go_sem]) rfl ⟨rfl, _, _, _, H1.out, H2.out, H3.out⟩
 ·skip
  have q3 : ((n.form : Int) == 3) = false := ibeq_false (b := 3) k3
  have q11 : ((n.form : Int) == 11) = false := ibeq_false (b := 11) k11
  have q4 : ((n.form : Int) == 4) = false := ibeq_false (b := 4) k4
  have q12 : ((n.form : Int) == 12) = false := ibeq_false (b := 12) k12
  have q5 : ((n.form : Int) == 5) = false := ibeq_false (b := 5) k5
  have q6 : ((n.form : Int) == 6) = false := ibeq_false (b := 6) k6
  have q7 : ((n.form : Int) == 7) = false := ibeq_false (b := 7) k7
  have HC : Hid _ := (hr2 w sv nv ov st n h hb hm hbd)
  simp only [if_neg k3, if_neg k11, if_neg k4, if_neg k12, if_neg k56, if_neg k7]
  clear k3 k11 k4 k12 k5 k6 k56 k7 hlet hloop hreg hr1 hr2 hr3 hb hbd h hgl hgb
  go_enter Tryz.func190, Tryz.ntmps190
  go_wp2_with fail
  refine Calls.mono HC.out ?_
  rintro _ w1 ⟨rfl, sv1, nv1, ov1, r1, r2, r3⟩
  have H1 : Hid _ := r1
  have H2 : Hid _ := r2
  have H3 : Hid _ := r3
  clear r1 r2 r3
  go_wp2
  refine bodyPost_end (v := .tuple #[]) (by simp [results, Tryz.results190, go_sem]) rfl ⟨rfl, _, _, _, H1.out, H2.out, H3.out⟩
theorem nr_cells10 {w : World} {nb : Nat} {n : NR} (h : w.heap[nb]? = some (nrO n)) :
  w.cell? ⟨nb, 0, none⟩ = some (.int .i64 n.form) ∧ w.cell? ⟨nb, 1, none⟩ = some (.int .i64 n.at_) ∧ w.cell? ⟨nb, 2, none⟩ = some (.int .i64 n.beh) ∧ w.cell? ⟨nb, 3, none⟩ = some (.int .i64 n.num) ∧ w.cell? ⟨nb, 4, none⟩ = some (.string (bs n.word)) ∧
  w.cell? ⟨nb, 5, none⟩ = some (.int .i64 n.region) ∧ w.cell? ⟨nb, 6, none⟩ = some (.int .i64 n.source) ∧ w.cell? ⟨nb, 7, none⟩ = some (.int .i64 n.p0) ∧ w.cell? ⟨nb, 8, none⟩ = some (.int .i64 n.p1) ∧ w.cell? ⟨nb, 9, none⟩ = some (.int .i64 n.p2) :=
 ⟨by rw [blk_cell h]; rfl, by rw [blk_cell h]; rfl, by rw [blk_cell h]; rfl, by rw [blk_cell h]; rfl, by rw [blk_cell h]; rfl, by rw [blk_cell h]; rfl, by rw [blk_cell h]; rfl, by rw [blk_cell h]; rfl, by rw [blk_cell h]; rfl, by rw [blk_cell h]; rfl⟩
theorem PFr.drop {pb nb : Nat} {w w' : World} {X : Obj} {sv nv ov sv' nv' ov' : Value} (h : PFr pb nb (w.alloc X) w' sv nv ov sv' nv' ov') (hn : nb = w.heap.size) : PFr pb pb w w' sv nv ov sv' nv' ov' := by
 have hs : (w.alloc X).heap.size = w.heap.size + 1 := by simp
 have f := h.size
 rw [hs] at f
 have hb : Below w.heap.size w (w.alloc X) := (Below.refl _ w).alloc (Nat.le_refl _) X
 refine ⟨h.os.trans hb.os, h.tape.trans hb.tape, h.output.trans hb.output, by omega, fun k hk hp _ a b c => ?_, fun g hg => ?_, fun g hg => ?_, fun g hg => ?_⟩
 ·rw [h.blk k (by omega) hp (by omega) a b c]; exact hb.block k hk
 ·rcases h.s g hg with e | e
  ·exact Or.inl e
  ·exact Or.inr (by omega)
 ·rcases h.n g hg with e | e
  ·exact Or.inl e
  ·exact Or.inr (by omega)
 ·rcases h.o g hg with e | e
  ·exact Or.inl e
  ·exact Or.inr (by omega)
def BOk (s : ByteArray) (placed : Bool) (pb : Nat) (pB : NR → PS → Int × PS) (m : Nat) : Prop :=
 ∀ (w : World) (sv nv ov : Value) (st : PS) (n : NR), PIn s placed pb w sv nv ov st → st.l.length ≤ m → Bd1 st → Calls Tryz.prog 181 #[ptr pb, nrVal n] w fun v w' => v = .returned (.int .i64 (pB n st).1) ∧
  ∃ sv' nv' ov', PFr pb pb w w' sv nv ov sv' nv' ov' ∧ PIn s placed pb w' sv' nv' ov' (pB n st).2
set_option maxRecDepth 100000 in
set_option maxHeartbeats 8000000 in
theorem bracket_any (s : ByteArray) (placed : Bool) (pb : Nat) (pE : PS → Int × PS) (m : Nat) (hs : s.size ≤ 9000) (hE : EOk s placed pb pE m) (hG : GrAll pE m) : BOk s placed pb (pBracket placed s.size pE) m := by
 intro w sv nv ov st n h hm hbd
 have htk := take_any s placed pb (w.alloc (nrO n)) sv nv ov st hs (h.alloc _)
 have hfi := fun nb w sv nv ov n h hb => fill_any s placed pb pE m hs hE hG nb w sv nv ov st.tail n h hb (Nat.le_trans (tail_len st) hm) (hbd.on (gs_tail st))
 have hfa := fun w a h => fail_any s placed pb w sv nv ov st.tail a h
 have hkl := kind_le s.size st.l
 have hB0 := Bk.new h (nrO n)
 unfold pBracket
 simp only
 obtain ⟨T, hT⟩ : ∃ T, T = tk1 s.size st.l := ⟨_, rfl⟩
 rw [← hT] at htk hkl ⊢
 have hfo := fun w => formOf_any T.kind w hkl
 have hform : ∃ f : Nat, f = formN T.kind := ⟨_, rfl⟩
 obtain ⟨f, hf⟩ := hform
 rw [← hf] at hfo ⊢
 have hgf := gs_fill hG placed s.size { n with form := f } st.tail (Nat.le_trans (tail_len st) hm)
 have hex := fun w sv nv ov h => expect_any s placed pb w sv nv ov (pFill placed s.size pE { n with form := f } st.tail).2 3 hs h
 have hge := gs_expect s.size 3 (pFill placed s.size pE { n with form := f } st.tail).2
 have hnl : ((pFill placed s.size pE { n with form := f } st.tail).2.expect s.size 3).nodes.length ≤ 9000 := by
  have := hgf.nd; have := hge.nd; have := (gs_tail st).nd; have := hbd.2.1; omega
 have had := fun w sv nv ov n' h => add_any s placed pb w sv nv ov ((pFill placed s.size pE { n with form := f } st.tail).2.expect s.size 3) n' hnl h
 unfold tnVal ptr at htk hex
 unfold ptr at hfa had
 simp only [Array.append_empty] at hfi
 unfold ptr at hfi
 clear hgf hge hnl hE hG hbd hm hkl hT hf
 have HH : Hid _ := h
 have HB0 : Hid _ := hB0
 clear h hB0
 unfold nrVal at had
 show Calls _ _ #[Value.pointer (some ⟨pb, 0, none⟩), Value.agg #[.int .i64 n.form, .int .i64 n.at_, .int .i64 n.beh, .int .i64 n.num, .string (bs n.word), .int .i64 n.region, .int .i64 n.source, .int .i64 n.p0, .int .i64 n.p1, .int .i64 n.p2]] w _
 by_cases hc : f = 0 ∨ (f = 12 ∧ placed = false)
 ·simp only [if_pos hc]
  go_enter Tryz.func181, Tryz.ntmps181
  go_wp2_with fail
  refine Calls.mono htk ?_
  rintro _ w1 ⟨rfl, hfr, hin⟩
  have hb1 := HB0.out.keep hfr
  obtain ⟨c0, _⟩ := nr_cells10 hb1.b
  have f0 := blk_free hb1.b 0
  have hnb := blk_lt hb1.b
  obtain ⟨s1, s2, s3⟩ := hb1.set hin 0 (.int .i64 f)
  have hfa1 := hfa _ T.at_ (s2.alloc (tnO T))
  have HF : Hid _ := ((hfr.nb (nb := w.heap.size)).trans s1).alloc (tnO T)
  obtain ⟨fr, y1, y2, y3⟩ := s2.y
  have p1 : w1.cell? ⟨pb, 1, none⟩ = some (.bool placed) := by
   obtain ⟨fr, y1, y2, y3⟩ := hin.y
   rw [blk_cell y3]; rfl
  have hpn : w.heap.size ≠ pb := hb1.ne
  have hpl : pb < w1.heap.size := hin.slt.2.2.2
  have hpn' : pb ≠ w.heap.size := fun e => hb1.ne e.symm
  unfold tnO tnC at hfa1
  clear s1 s2 s3 hfr hin hb1 htk hfa HB0 hex had hfi y1 y2 y3
  rcases hc with hc | ⟨hc, hp⟩
  ·have q0 : ((f : Int) == 0) = true := ibeq_true (b := 0) hc
   have HFz : Hid _ := hc
   clear hc
   go_wp2_with (first
    | (go_at_call 189; refine (hfo _).mono ?_; rintro e w' ⟨rfl, rfl⟩)
    | (go_at_call 154; refine Calls.mono hfa1 ?_; rintro e w' ⟨rfl, hfr2, hin2⟩))
   go_ret
   exact ⟨rfl, sv, nv, ov, (HF.out.trans (hfr2.nb (nb := w.heap.size))).drop rfl, hin2⟩
  ·have q0 : ((f : Int) == 0) = false := ibeq_false (b := 0) (by omega)
   have q12 : ((f : Int) == 12) = true := ibeq_true (b := 12) hc
   subst hp
   have HFz : Hid _ := hc
   clear hc
   go_wp2_with (first
    | (go_at_call 189; refine (hfo _).mono ?_; rintro e w' ⟨rfl, rfl⟩)
    | (go_at_call 154; refine Calls.mono hfa1 ?_; rintro e w' ⟨rfl, hfr2, hin2⟩))
   go_ret
   exact ⟨rfl, sv, nv, ov, (HF.out.trans (hfr2.nb (nb := w.heap.size))).drop rfl, hin2⟩
 ·simp only [if_neg hc]
  generalize hX : pFill placed s.size pE { n with form := f } st.tail = X at *
  obtain ⟨T2, hT2⟩ : ∃ T2, T2 = tk1 s.size X.2.l := ⟨_, rfl⟩
  rw [← hT2] at hex ⊢
  have hfi' := fun nb w sv nv ov h hb => hfi nb w sv nv ov { n with form := f } h hb
  rw [hX] at hfi'
  generalize X.2.expect s.size 3 = S3 at *
  have q0 : ((f : Int) == 0) = false := ibeq_false (b := 0) (fun e => hc (Or.inl e))
  have hq : (((f : Int) == 12) = true ∧ placed = true) ∨ ((f : Int) == 12) = false := by
   by_cases e : f = 12
   ·left
    refine ⟨ibeq_true (b := 12) e, ?_⟩
    cases placed with
    | true => rfl
    | false => exact absurd (Or.inr ⟨e, rfl⟩) hc
   ·exact Or.inr (ibeq_false (b := 12) e)
  have HFI : Hid _ := hfi'
  have HEX : Hid _ := hex
  have HAD : Hid _ := had
  have HQ : Hid _ := hq
  clear hfi hfi' hex had hfa hc hX hT2 hq
  go_enter Tryz.func181, Tryz.ntmps181
  go_wp2_with fail
  refine Calls.mono htk ?_
  rintro _ w1 ⟨rfl, hfr, hin⟩
  have hb1 := HB0.out.keep hfr
  obtain ⟨c0, _⟩ := nr_cells10 hb1.b
  have f0 := blk_free hb1.b 0
  have hnb := blk_lt hb1.b
  obtain ⟨s1, s2, s3⟩ := hb1.set hin 0 (.int .i64 f)
  have hfil := HFI.out w.heap.size _ _ _ _ (s2.alloc (tnO T)) (s3.alloc (tnO T))
  have HF : Hid _ := ((hfr.nb (nb := w.heap.size)).trans s1).alloc (tnO T)
  have p1 : w1.cell? ⟨pb, 1, none⟩ = some (.bool placed) := by
   obtain ⟨fr, y1, y2, y3⟩ := hin.y
   rw [blk_cell y3]; rfl
  have hpn : w.heap.size ≠ pb := hb1.ne
  have hpl : pb < w1.heap.size := hin.slt.2.2.2
  have hpn' : pb ≠ w.heap.size := fun e => hb1.ne e.symm
  unfold tnO tnC at hfil
  have HFIL : Hid _ := hfil
  clear s1 s2 s3 hfr hin hb1 htk HB0 HFI hfil
  have hq := HQ.out
  clear HQ
  rcases hq with ⟨q12, hp⟩ | q12
  ·rw [hp] at p1
   go_wp2_with (go_at_call 189; refine (hfo _).mono ?_; rintro e w' ⟨rfl, rfl⟩)
   refine Calls.mono HFIL.out ?_
   rintro _ w2 ⟨rfl, sv2, nv2, ov2, r1, r2, r3⟩
   have hex1 := HEX.out _ _ _ _ r2
   have G1 : Hid _ := HF.out.trans r1
   have HB2 : Hid _ := r3
   clear r1 r2 r3 HFIL HEX p1 c0 f0
   go_wp2_with fail
   refine Calls.mono hex1 ?_
   rintro _ w3 ⟨rfl, hfr3, hin3⟩
   have hb3 := HB2.out.keep hfr3
   obtain ⟨c0, c1, c2, c3, c4, c5, c6, c7, c8, c9⟩ := nr_cells10 hb3.b
   have f2 := blk_free hb3.b 2
   have hnb3 := blk_lt hb3.b
   obtain ⟨t1, t2, t3⟩ := hb3.set hin3 2 (.int .i64 T2.beh)
   have had1 := HAD.out _ _ _ _ { X.1 with beh := T2.beh } (t2.alloc (tnO T2))
   have G2 : Hid _ := ((G1.out.trans (hfr3.nb (nb := w.heap.size))).trans t1).alloc (tnO T2)
   unfold tnO tnC at had1
   have HAD1 : Hid _ := had1
   clear t1 t2 t3 hfr3 hin3 hb3 hex1 HAD HB2 G1 had1
   go_wp2_with fail
   refine Calls.mono HAD1.out ?_
   rintro _ w4 ⟨rfl, nv4, hfr4, hin4⟩
   have G3 : Hid _ := (G2.out.trans (hfr4.nb (nb := w.heap.size))).drop rfl
   have G4 : Hid _ := hin4
   clear hfr4 hin4 HAD1 G2
   go_wp2
   go_ret
   exact ⟨rfl, _, _, _, G3.out, G4.out⟩
  ·go_wp2_with (go_at_call 189; refine (hfo _).mono ?_; rintro e w' ⟨rfl, rfl⟩)
   refine Calls.mono HFIL.out ?_
   rintro _ w2 ⟨rfl, sv2, nv2, ov2, r1, r2, r3⟩
   have hex1 := HEX.out _ _ _ _ r2
   have G1 : Hid _ := HF.out.trans r1
   have HB2 : Hid _ := r3
   clear r1 r2 r3 HFIL HEX p1 c0 f0
   go_wp2_with fail
   refine Calls.mono hex1 ?_
   rintro _ w3 ⟨rfl, hfr3, hin3⟩
   have hb3 := HB2.out.keep hfr3
   obtain ⟨c0, c1, c2, c3, c4, c5, c6, c7, c8, c9⟩ := nr_cells10 hb3.b
   have f2 := blk_free hb3.b 2
   have hnb3 := blk_lt hb3.b
   obtain ⟨t1, t2, t3⟩ := hb3.set hin3 2 (.int .i64 T2.beh)
   have had1 := HAD.out _ _ _ _ { X.1 with beh := T2.beh } (t2.alloc (tnO T2))
   have G2 : Hid _ := ((G1.out.trans (hfr3.nb (nb := w.heap.size))).trans t1).alloc (tnO T2)
   unfold tnO tnC at had1
   have HAD1 : Hid _ := had1
   clear t1 t2 t3 hfr3 hin3 hb3 hex1 HAD HB2 G1 had1
   go_wp2_with fail
   refine Calls.mono HAD1.out ?_
   rintro _ w4 ⟨rfl, nv4, hfr4, hin4⟩
   have G3 : Hid _ := (G2.out.trans (hfr4.nb (nb := w.heap.size))).drop rfl
   have G4 : Hid _ := hin4
   clear hfr4 hin4 HAD1 G2
   go_wp2
   go_ret
   exact ⟨rfl, _, _, _, G3.out, G4.out⟩
set_option maxHeartbeats 400000 in
theorem noParts_any (w : World) : Calls Tryz.prog 125 #[] w fun v w' => v = .returned (.agg #[.int .i64 (-1), .int .i64 (-1), .int .i64 (-1)]) ∧ Below w.heap.size w w' := by
 go_enter Tryz.func125, Tryz.ntmps125
 go_wp2
 refine bodyPost_ret (v := .agg #[.int .i64 (-1), .int .i64 (-1), .int .i64 (-1)]) (by simp [results, Tryz.results125, go_sem]) rfl ⟨rfl, (Below.refl _ _).alloc (Nat.le_refl _) _⟩
theorem cells10 {w : World} {g : Nat} {t : TypeId} {a0 a1 a2 a3 a4 a5 a6 a7 a8 a9 : Value} (h : w.heap[g]? = some (.cells #[a0, a1, a2, a3, a4, a5, a6, a7, a8, a9] t (0, 0))) :
  w.cell? ⟨g, 0, none⟩ = some a0 ∧ w.cell? ⟨g, 1, none⟩ = some a1 ∧ w.cell? ⟨g, 2, none⟩ = some a2 ∧ w.cell? ⟨g, 3, none⟩ = some a3 ∧ w.cell? ⟨g, 4, none⟩ = some a4 ∧ w.cell? ⟨g, 5, none⟩ = some a5 ∧ w.cell? ⟨g, 6, none⟩ = some a6 ∧ w.cell? ⟨g, 7, none⟩ = some a7 ∧ w.cell? ⟨g, 8, none⟩ = some a8 ∧ w.cell? ⟨g, 9, none⟩ = some a9 :=
 ⟨by rw [blk_cell h]; rfl, by rw [blk_cell h]; rfl, by rw [blk_cell h]; rfl, by rw [blk_cell h]; rfl, by rw [blk_cell h]; rfl, by rw [blk_cell h]; rfl, by rw [blk_cell h]; rfl, by rw [blk_cell h]; rfl, by rw [blk_cell h]; rfl, by rw [blk_cell h]; rfl⟩
theorem free10 {w : World} {g : Nat} {t : TypeId} {cs : Array Value} (h : w.heap[g]? = some (.cells cs t (0, 0))) :
  w.frozen? ⟨g, 0, none⟩ = false ∧ w.frozen? ⟨g, 1, none⟩ = false ∧ w.frozen? ⟨g, 2, none⟩ = false ∧ w.frozen? ⟨g, 3, none⟩ = false ∧ w.frozen? ⟨g, 4, none⟩ = false ∧ w.frozen? ⟨g, 5, none⟩ = false ∧ w.frozen? ⟨g, 6, none⟩ = false ∧ w.frozen? ⟨g, 7, none⟩ = false ∧ w.frozen? ⟨g, 8, none⟩ = false ∧ w.frozen? ⟨g, 9, none⟩ = false :=
 ⟨blk_free h 0, blk_free h 1, blk_free h 2, blk_free h 3, blk_free h 4, blk_free h 5, blk_free h 6, blk_free h 7, blk_free h 8, blk_free h 9⟩
theorem kept_b {w w2 : World} {A : Obj} (hb : Below (w.alloc A).drew.heap.size (w.alloc A).drew w2) : w2.heap[w.heap.size]? = some A := by
 rw [hb.block w.heap.size (by show w.heap.size < (w.alloc A).heap.size; simp)]
 exact blk_new w A
theorem kept_a {w w2 : World} {A B : Obj} (hb : Below ((w.alloc A).alloc B).drew.heap.size ((w.alloc A).alloc B).drew w2) : w2.heap[w.heap.size]? = some A := by
 rw [hb.block w.heap.size (by show w.heap.size < ((w.alloc A).alloc B).heap.size; simp; omega)]
 exact blk_alloc _ (blk_new w A)
theorem PFr.outer {pb nb : Nat} {w w' : World} {sv nv ov sv' nv' ov' : Value} (h : PFr pb nb w w' sv nv ov sv' nv' ov') (hn : w.heap.size ≤ nb) : PFr pb pb w w' sv nv ov sv' nv' ov' :=
 ⟨h.os, h.tape, h.output, h.size, fun k hk hp _ a b c => h.blk k hk hp (by omega) a b c, h.s, h.n, h.o⟩
def NodeAt (w1 : World) (T : TN) (t4 : Value) (wx : World) : Prop := ∃ g, w1.heap.size < g ∧ t4 = .pointer (some ⟨g, 0, none⟩) ∧ wx.heap[g]? = some (nrO (nodeT T)) ∧ Below (w1.alloc (tnO T)).heap.size (w1.alloc (tnO T)) wx
theorem node_meet_b {w1 w2 : World} {T : TN} (hb : Below (w1.alloc (tnO T)).drew.heap.size (w1.alloc (tnO T)).drew w2) : NodeAt w1 T (.pointer (some ⟨w2.heap.size, 0, none⟩)) (w2.alloc (.cells #[.int .i64 0, .int .i64 T.at_, .int .i64 T.beh, .int .i64 0, .string ⟨#[]⟩, .int .i64 0, .int .i64 (-1), .int .i64 (-1), .int .i64 (-1), .int .i64 (-1)] 160)) := by
 have hs : w1.heap.size + 1 ≤ w2.heap.size := by have := hb.size; simpa using this
 refine ⟨w2.heap.size, by omega, rfl, blk_new _ _, ?_⟩
 have h1 : Below (w1.alloc (tnO T)).heap.size (w1.alloc (tnO T)) w2 := (⟨rfl, rfl, rfl, Nat.le_refl _, fun _ _ => rfl⟩ : Below (w1.alloc (tnO T)).heap.size (w1.alloc (tnO T)) (w1.alloc (tnO T)).drew).trans hb
 exact h1.alloc (by simp; omega) _
theorem node_meet_a {w1 w2 : World} {T : TN} {a0 a1 a2 a3 a4 a5 a6 a7 a8 a9 : Value} (hb : Below ((w1.alloc (tnO T)).alloc (.cells #[a0, a1, a2, a3, a4, a5, a6, a7, a8, a9] 160)).drew.heap.size ((w1.alloc (tnO T)).alloc (.cells #[a0, a1, a2, a3, a4, a5, a6, a7, a8, a9] 160)).drew w2) :
  NodeAt w1 T (.pointer (some ⟨w1.heap.size + 1, 0, none⟩)) ((((((((((w2.setCell ⟨w1.heap.size + 1, 0, none⟩ (.int .i64 0)).setCell ⟨w1.heap.size + 1, 1, none⟩ (.int .i64 T.at_)).setCell ⟨w1.heap.size + 1, 2, none⟩ (.int .i64 T.beh)).setCell ⟨w1.heap.size + 1, 3, none⟩ (.int .i64 0)).setCell ⟨w1.heap.size + 1, 4, none⟩ (.string ⟨#[]⟩)).setCell ⟨w1.heap.size + 1, 5, none⟩ (.int .i64 0)).setCell ⟨w1.heap.size + 1, 6, none⟩ (.int .i64 (-1))).setCell ⟨w1.heap.size + 1, 7, none⟩ (.int .i64 (-1))).setCell ⟨w1.heap.size + 1, 8, none⟩ (.int .i64 (-1))).setCell ⟨w1.heap.size + 1, 9, none⟩ (.int .i64 (-1))) := by
 have hq := alloc2_kept hb
 have e1 : (w1.alloc (tnO T)).heap.size = w1.heap.size + 1 := by simp
 refine ⟨w1.heap.size + 1, by omega, rfl, ?_, ?_⟩
 ·have h0 : (w2.setCell ⟨w1.heap.size + 1, 0, none⟩ (.int .i64 0)).heap[w1.heap.size + 1]? = some (.cells #[.int .i64 0, a1, a2, a3, a4, a5, a6, a7, a8, a9] 160 (0, 0)) := blk_set hq 0 _
  have h1 : ((w2.setCell ⟨w1.heap.size + 1, 0, none⟩ (.int .i64 0)).setCell ⟨w1.heap.size + 1, 1, none⟩ (.int .i64 T.at_)).heap[w1.heap.size + 1]? = some (.cells #[.int .i64 0, .int .i64 T.at_, a2, a3, a4, a5, a6, a7, a8, a9] 160 (0, 0)) := blk_set h0 1 _
  have h2 : (((w2.setCell ⟨w1.heap.size + 1, 0, none⟩ (.int .i64 0)).setCell ⟨w1.heap.size + 1, 1, none⟩ (.int .i64 T.at_)).setCell ⟨w1.heap.size + 1, 2, none⟩ (.int .i64 T.beh)).heap[w1.heap.size + 1]? = some (.cells #[.int .i64 0, .int .i64 T.at_, .int .i64 T.beh, a3, a4, a5, a6, a7, a8, a9] 160 (0, 0)) := blk_set h1 2 _
  have h3 : ((((w2.setCell ⟨w1.heap.size + 1, 0, none⟩ (.int .i64 0)).setCell ⟨w1.heap.size + 1, 1, none⟩ (.int .i64 T.at_)).setCell ⟨w1.heap.size + 1, 2, none⟩ (.int .i64 T.beh)).setCell ⟨w1.heap.size + 1, 3, none⟩ (.int .i64 0)).heap[w1.heap.size + 1]? = some (.cells #[.int .i64 0, .int .i64 T.at_, .int .i64 T.beh, .int .i64 0, a4, a5, a6, a7, a8, a9] 160 (0, 0)) := blk_set h2 3 _
  have h4 : (((((w2.setCell ⟨w1.heap.size + 1, 0, none⟩ (.int .i64 0)).setCell ⟨w1.heap.size + 1, 1, none⟩ (.int .i64 T.at_)).setCell ⟨w1.heap.size + 1, 2, none⟩ (.int .i64 T.beh)).setCell ⟨w1.heap.size + 1, 3, none⟩ (.int .i64 0)).setCell ⟨w1.heap.size + 1, 4, none⟩ (.string ⟨#[]⟩)).heap[w1.heap.size + 1]? = some (.cells #[.int .i64 0, .int .i64 T.at_, .int .i64 T.beh, .int .i64 0, .string ⟨#[]⟩, a5, a6, a7, a8, a9] 160 (0, 0)) := blk_set h3 4 _
  have h5 : ((((((w2.setCell ⟨w1.heap.size + 1, 0, none⟩ (.int .i64 0)).setCell ⟨w1.heap.size + 1, 1, none⟩ (.int .i64 T.at_)).setCell ⟨w1.heap.size + 1, 2, none⟩ (.int .i64 T.beh)).setCell ⟨w1.heap.size + 1, 3, none⟩ (.int .i64 0)).setCell ⟨w1.heap.size + 1, 4, none⟩ (.string ⟨#[]⟩)).setCell ⟨w1.heap.size + 1, 5, none⟩ (.int .i64 0)).heap[w1.heap.size + 1]? = some (.cells #[.int .i64 0, .int .i64 T.at_, .int .i64 T.beh, .int .i64 0, .string ⟨#[]⟩, .int .i64 0, a6, a7, a8, a9] 160 (0, 0)) := blk_set h4 5 _
  have h6 : (((((((w2.setCell ⟨w1.heap.size + 1, 0, none⟩ (.int .i64 0)).setCell ⟨w1.heap.size + 1, 1, none⟩ (.int .i64 T.at_)).setCell ⟨w1.heap.size + 1, 2, none⟩ (.int .i64 T.beh)).setCell ⟨w1.heap.size + 1, 3, none⟩ (.int .i64 0)).setCell ⟨w1.heap.size + 1, 4, none⟩ (.string ⟨#[]⟩)).setCell ⟨w1.heap.size + 1, 5, none⟩ (.int .i64 0)).setCell ⟨w1.heap.size + 1, 6, none⟩ (.int .i64 (-1))).heap[w1.heap.size + 1]? = some (.cells #[.int .i64 0, .int .i64 T.at_, .int .i64 T.beh, .int .i64 0, .string ⟨#[]⟩, .int .i64 0, .int .i64 (-1), a7, a8, a9] 160 (0, 0)) := blk_set h5 6 _
  have h7 : ((((((((w2.setCell ⟨w1.heap.size + 1, 0, none⟩ (.int .i64 0)).setCell ⟨w1.heap.size + 1, 1, none⟩ (.int .i64 T.at_)).setCell ⟨w1.heap.size + 1, 2, none⟩ (.int .i64 T.beh)).setCell ⟨w1.heap.size + 1, 3, none⟩ (.int .i64 0)).setCell ⟨w1.heap.size + 1, 4, none⟩ (.string ⟨#[]⟩)).setCell ⟨w1.heap.size + 1, 5, none⟩ (.int .i64 0)).setCell ⟨w1.heap.size + 1, 6, none⟩ (.int .i64 (-1))).setCell ⟨w1.heap.size + 1, 7, none⟩ (.int .i64 (-1))).heap[w1.heap.size + 1]? = some (.cells #[.int .i64 0, .int .i64 T.at_, .int .i64 T.beh, .int .i64 0, .string ⟨#[]⟩, .int .i64 0, .int .i64 (-1), .int .i64 (-1), a8, a9] 160 (0, 0)) := blk_set h6 7 _
  have h8 : (((((((((w2.setCell ⟨w1.heap.size + 1, 0, none⟩ (.int .i64 0)).setCell ⟨w1.heap.size + 1, 1, none⟩ (.int .i64 T.at_)).setCell ⟨w1.heap.size + 1, 2, none⟩ (.int .i64 T.beh)).setCell ⟨w1.heap.size + 1, 3, none⟩ (.int .i64 0)).setCell ⟨w1.heap.size + 1, 4, none⟩ (.string ⟨#[]⟩)).setCell ⟨w1.heap.size + 1, 5, none⟩ (.int .i64 0)).setCell ⟨w1.heap.size + 1, 6, none⟩ (.int .i64 (-1))).setCell ⟨w1.heap.size + 1, 7, none⟩ (.int .i64 (-1))).setCell ⟨w1.heap.size + 1, 8, none⟩ (.int .i64 (-1))).heap[w1.heap.size + 1]? = some (.cells #[.int .i64 0, .int .i64 T.at_, .int .i64 T.beh, .int .i64 0, .string ⟨#[]⟩, .int .i64 0, .int .i64 (-1), .int .i64 (-1), .int .i64 (-1), a9] 160 (0, 0)) := blk_set h7 8 _
  have h9 : ((((((((((w2.setCell ⟨w1.heap.size + 1, 0, none⟩ (.int .i64 0)).setCell ⟨w1.heap.size + 1, 1, none⟩ (.int .i64 T.at_)).setCell ⟨w1.heap.size + 1, 2, none⟩ (.int .i64 T.beh)).setCell ⟨w1.heap.size + 1, 3, none⟩ (.int .i64 0)).setCell ⟨w1.heap.size + 1, 4, none⟩ (.string ⟨#[]⟩)).setCell ⟨w1.heap.size + 1, 5, none⟩ (.int .i64 0)).setCell ⟨w1.heap.size + 1, 6, none⟩ (.int .i64 (-1))).setCell ⟨w1.heap.size + 1, 7, none⟩ (.int .i64 (-1))).setCell ⟨w1.heap.size + 1, 8, none⟩ (.int .i64 (-1))).setCell ⟨w1.heap.size + 1, 9, none⟩ (.int .i64 (-1))).heap[w1.heap.size + 1]? = some (.cells #[.int .i64 0, .int .i64 T.at_, .int .i64 T.beh, .int .i64 0, .string ⟨#[]⟩, .int .i64 0, .int .i64 (-1), .int .i64 (-1), .int .i64 (-1), .int .i64 (-1)] 160 (0, 0)) := blk_set h8 9 _
  exact h9
 ·have h1 : Below (w1.alloc (tnO T)).heap.size (w1.alloc (tnO T)) ((w1.alloc (tnO T)).alloc (.cells #[a0, a1, a2, a3, a4, a5, a6, a7, a8, a9] 160)).drew := ((Below.refl _ _).alloc (Nat.le_refl _) (.cells #[a0, a1, a2, a3, a4, a5, a6, a7, a8, a9] 160)).trans ⟨rfl, rfl, rfl, Nat.le_refl _, fun _ _ => rfl⟩
  have h2 := h1.trans (hb.mono (by show (w1.alloc (tnO T)).heap.size ≤ ((w1.alloc (tnO T)).alloc (.cells #[a0, a1, a2, a3, a4, a5, a6, a7, a8, a9] 160)).heap.size; simp))
  rw [e1] at h2 ⊢
  exact (((((((((h2.setCell (p := ⟨w1.heap.size + 1, 0, none⟩) (by simp) _).setCell (p := ⟨w1.heap.size + 1, 1, none⟩) (by simp) _).setCell (p := ⟨w1.heap.size + 1, 2, none⟩) (by simp) _).setCell (p := ⟨w1.heap.size + 1, 3, none⟩) (by simp) _).setCell (p := ⟨w1.heap.size + 1, 4, none⟩) (by simp) _).setCell (p := ⟨w1.heap.size + 1, 5, none⟩) (by simp) _).setCell (p := ⟨w1.heap.size + 1, 6, none⟩) (by simp) _).setCell (p := ⟨w1.heap.size + 1, 7, none⟩) (by simp) _).setCell (p := ⟨w1.heap.size + 1, 8, none⟩) (by simp) _).setCell (p := ⟨w1.heap.size + 1, 9, none⟩) (by simp) _
def BdA (st : PS) : Prop := st.scope.length + st.l.length ≤ 9000 ∧ st.nodes.length + st.l.length ≤ 9000 ∧ st.opened.length + 4 * st.l.length ≤ 50001
end Go.Proofs.YtpicaknklgccoaaGreatDoor
