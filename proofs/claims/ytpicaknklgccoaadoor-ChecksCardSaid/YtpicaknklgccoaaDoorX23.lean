import Derived.Test.YtpicaknklgccoaaDoorX22
namespace Go.Proofs.YtpicaknklgccoaaDoor
open Go.RowKit

set_option maxRecDepth 100000 in
set_option maxHeartbeats 4000000 in
theorem readPlain_long (s : ByteArray) (w : World) (hs : 3000 < s.size) (hm : s.size ≤ maxLen) : Calls Tryd.prog 13 #[.string s] w fun v w' => v = .returned (.tuple #[treeV (.slice none 0 0) (.slice none 0 0), .int .i64 1, .int .i64 0]) ∧ Below w.heap.size w w' := by
  unfold maxLen at hm
  unfold treeV
  go_enter Tryd.func13, Tryd.ntmps13
  go_wp2
  refine bodyPost_ret (v := .tuple #[.agg #[.slice none 0 0, .slice none 0 0], .int .i64 1, .int .i64 0]) (by simp [results, Tryd.results13, go_sem]) rfl ⟨rfl, (Below.refl _ _).alloc (Nat.le_refl _) _⟩

theorem kept1 {w w2 : World} {A : Obj} (hb : Below (w.alloc A).heap.size (w.alloc A) w2) : w2.heap[w.heap.size]? = some A := by
  rw [hb.block w.heap.size (by simp)]; exact blk_new w A
theorem below1 {w w2 : World} {A : Obj} (hb : Below (w.alloc A).heap.size (w.alloc A) w2) : Below w.heap.size w w2 := ((Below.refl _ w).alloc (Nat.le_refl _) A).trans (hb.mono (by simp))

set_option maxRecDepth 100000 in
set_option maxHeartbeats 4000000 in
theorem readPlain_form (s : ByteArray) (w : World) (hs : s.size ≤ 3000) (q : Nat) (hq : formOf false s.data.toList = some q) : Calls Tryd.prog 13 #[.string s] w fun v w' => v = .returned (.tuple #[treeV (.slice none 0 0) (.slice none 0 0), .int .i64 2, .int .i64 q]) ∧ Below w.heap.size w w' := by
  have hfl : (pProg false s.size (tokens s.data.toList)).fl = some q := by
    unfold formOf at hq
    rw [size_list] at hq
    exact prog_no hq
  have hpp := fun w => ParsePlain_any s w (by omega)
  have HFL : Hid _ := hfl
  clear hfl hq
  unfold treeV
  go_enter Tryd.func13, Tryd.ntmps13
  go_wp2_with fail
  refine (hpp _).mono ?_
  rintro v w1 ⟨hb, hv⟩
  have hr := kept1 hb
  have r0 : w1.cell? ⟨w.heap.size, 0, none⟩ = some (.slice none 0 0) := by rw [blk_cell hr]; rfl
  have r1 : w1.cell? ⟨w.heap.size, 1, none⟩ = some (.slice none 0 0) := by rw [blk_cell hr]; rfl
  have f0 := blk_free hr 0
  have f1 := blk_free hr 1
  have hlt := blk_lt hr
  have HB : Hid _ := below1 hb
  rcases hv with ⟨q', hq', rfl⟩ | ⟨hq', _⟩
  · have e : q' = q := by rw [HFL.out] at hq'; cases hq'; rfl
    subst e
    unfold treeV
    have hW := blk_alloc (.cells #[.slice none 0 0, .slice none 0 0] 36) (blk_set (blk_set hr 0 (.slice none 0 0)) 1 (.slice none 0 0))
    have s0 : (((w1.setCell ⟨w.heap.size, 0, none⟩ (.slice none 0 0)).setCell ⟨w.heap.size, 1, none⟩ (.slice none 0 0)).alloc (.cells #[.slice none 0 0, .slice none 0 0] 36)).cell? ⟨w.heap.size, 0, none⟩ = some (.slice none 0 0) := by rw [blk_cell hW]; rfl
    have s1 : (((w1.setCell ⟨w.heap.size, 0, none⟩ (.slice none 0 0)).setCell ⟨w.heap.size, 1, none⟩ (.slice none 0 0)).alloc (.cells #[.slice none 0 0, .slice none 0 0] 36)).cell? ⟨w.heap.size, 1, none⟩ = some (.slice none 0 0) := by rw [blk_cell hW]; rfl
    have S0 : Hid _ := s0
    have S1 : Hid _ := s1
    clear hq' hb hr hpp HFL hW s0 s1
    go_wp2
    refine bodyPost_ret (v := .tuple #[.agg #[.slice none 0 0, .slice none 0 0], .int .i64 2, .int .i64 q']) (by have s0 := S0.out; have s1 := S1.out; simp [results, Tryd.results13, go_sem, s0, s1]) rfl ⟨rfl, ?_⟩
    exact ((HB.out.setCell (p := ⟨w.heap.size, 0, none⟩) (Nat.le_refl _) _).setCell (p := ⟨w.heap.size, 1, none⟩) (Nat.le_refl _) _).alloc (by have := HB.out.size; simp [World.setCell]; omega) _
  · rw [HFL.out] at hq'; cases hq'

set_option maxRecDepth 100000 in
set_option maxHeartbeats 4000000 in
theorem readPlain_tree (s : ByteArray) (w : World) (hs : s.size ≤ 3000) (e : PT) (hp : PE false (tokens s.data.toList) e []) : Calls Tryd.prog 13 #[.string s] w fun v w' => ∃ x1 n1 c1 x2 n2 c2, v = .returned (.tuple #[treeV (.slice x1 n1 c1) (.slice x2 n2 c2), .int .i64 (chkAns e).1, .int .i64 (chkAns e).2]) ∧ Below w.heap.size w w' := by
  obtain ⟨ns, hna, hpg⟩ := prog_yes (len := s.size) hp
  have hcnt := Study_len hp
  have hnl := hna.len
  have hpp := fun w => ParsePlain_any s w (by omega)
  have hpr := fun (w : World) (nv ov : Value) (h : TreeIn w nv ov ns (opn e 0)) => Program_any w nv ov ns (opn e 0) h (op_ok hna) (by omega) (hna.small (fun _ h => by simp at h) (by omega)) (fun j n hj => by have := hna.back j n hj; simpa using this)
  rw [prog_ans hna] at hpr
  have HPG : Hid _ := hpg
  have HPR : Hid _ := hpr
  clear hp hna hpg hpr hnl
  generalize chkAns e = ans at *
  go_enter Tryd.func13, Tryd.ntmps13
  go_wp2_with fail
  refine (hpp _).mono ?_
  rintro v w1 ⟨hb, hv⟩
  have hr := kept1 hb
  have hlt := blk_lt hr
  have HB : Hid _ := below1 hb
  have HR : Hid _ := hr
  rcases hv with ⟨q', hq', _⟩ | ⟨_, nv, ov, rfl, hT⟩
  · rw [HPG.out] at hq'; cases hq'
  · rw [HPG.out] at hT
    simp only at hT
    obtain ⟨x1, c1, e1⟩ := slice_any hT.nd
    obtain ⟨x2, c2, e2⟩ := slice_any hT.op
    have hpr := HPR.out (w1.alloc (.cells #[nv, ov] 36)) nv ov (hT.below ((Below.refl _ w1).alloc (Nat.le_refl _) _))
    subst e1
    subst e2
    unfold treeV at hpr
    unfold treeV
    clear hT hb hr hpp
    go_wp2_with fail
    refine hpr.mono ?_
    rintro _ w2 ⟨rfl, hb2⟩
    have hk := kept1 hb2
    have k0 : w2.cell? ⟨w1.heap.size, 0, none⟩ = some (.slice x1 ns.length c1) := by rw [blk_cell hk]; rfl
    have k1 : w2.cell? ⟨w1.heap.size, 1, none⟩ = some (.slice x2 (opn e 0).length c2) := by rw [blk_cell hk]; rfl
    have hr2 : w2.heap[w.heap.size]? = some (.cells #[.slice none 0 0, .slice none 0 0] 36 (0, 0)) := by
      rw [hb2.block _ (by simp; omega)]; exact blk_alloc _ HR.out
    have r0 : w2.cell? ⟨w.heap.size, 0, none⟩ = some (.slice none 0 0) := by rw [blk_cell hr2]; rfl
    have r1 : w2.cell? ⟨w.heap.size, 1, none⟩ = some (.slice none 0 0) := by rw [blk_cell hr2]; rfl
    have f0 := blk_free hr2 0
    have f1 := blk_free hr2 1
    have hB2 : Below w.heap.size w w2 := HB.out.trans ((below1 hb2).mono HB.out.size)
    have HB2 : Hid _ := hB2
    have hne : w.heap.size ≠ w1.heap.size := by omega
    clear hk hr2 hb2 hB2 hpr
    go_wp2
    refine bodyPost_ret (v := .tuple #[.agg #[.slice x1 ns.length c1, .slice x2 (opn e 0).length c2], .int .i64 ans.1, .int .i64 ans.2]) (by simp [results, Tryd.results13, go_sem, r0, r1]) rfl ⟨x1, ns.length, c1, x2, (opn e 0).length, c2, rfl, ?_⟩
    exact (HB2.out.setCell (p := ⟨w.heap.size, 0, none⟩) (Nat.le_refl _) _).setCell (p := ⟨w.heap.size, 1, none⟩) (Nat.le_refl _) _
end Go.Proofs.YtpicaknklgccoaaDoor

/- leaseref.Check. -/
namespace Go.Proofs.YtpicaknklgccoaaDoor
open Go.RowKit

set_option maxHeartbeats 400000 in
theorem Check_long (s : ByteArray) (w : World) (hs : 3000 < s.size) (hm : s.size ≤ maxLen) :
    Calls Tryd.prog 7 #[.string s] w fun v w' => v = .returned (.tuple #[.int .i64 1, .int .i64 0]) ∧ Below w.heap.size w w' := by
  have hst := fun w => Study_long s w hs hm
  go_enter Tryd.func7, Tryd.ntmps7
  go_wp2_with (go_at_call 14; refine (hst _).mono ?_; rintro e w1 ⟨rfl, hb1⟩)
  refine bodyPost_ret (v := .tuple #[.int .i64 1, .int .i64 0]) (by simp [results, Tryd.results7, go_sem]) rfl ⟨rfl, hb1⟩

set_option maxHeartbeats 400000 in
theorem Check_form (s : ByteArray) (w : World) (hs : s.size ≤ 3000) (q : Nat) (hq : formOf false s.data.toList = some q) :
    Calls Tryd.prog 7 #[.string s] w fun v w' => v = .returned (.tuple #[.int .i64 2, .int .i64 q]) ∧ Below w.heap.size w w' := by
  have hst := fun w => Study_form s w hs q hq
  go_enter Tryd.func7, Tryd.ntmps7
  go_wp2_with (go_at_call 14; refine (hst _).mono ?_; rintro e w1 ⟨rfl, hb1⟩)
  refine bodyPost_ret (v := .tuple #[.int .i64 2, .int .i64 q]) (by simp [results, Tryd.results7, go_sem]) rfl ⟨rfl, hb1⟩

set_option maxHeartbeats 400000 in
theorem Check_tree (s : ByteArray) (w : World) (hs : s.size ≤ 3000) (e : PT) (hp : PE false (tokens s.data.toList) e []) (hn : formOf false s.data.toList = none) :
    Calls Tryd.prog 7 #[.string s] w fun v w' => v = .returned (.tuple #[.int .i64 (chkAns e).1, .int .i64 (chkAns e).2]) ∧ Below w.heap.size w w' := by
  by_cases hm : 100 < e.prs
  · have hst := fun w => Study_many s w hs e hp hn hm
    have HC : Hid (chkAns e = (3, ((e.prl[100]?).map (·.1)).getD 0)) := by unfold chkAns; rw [if_pos hm]; exact rfl
    go_enter Tryd.func7, Tryd.ntmps7
    go_wp2_with (go_at_call 14; refine (hst _).mono ?_; rintro e w1 ⟨q, rfl, hq, hb1⟩)
    refine bodyPost_ret (v := .tuple #[.int .i64 3, .int .i64 q]) (by simp [results, Tryd.results7, go_sem]) rfl ⟨?_, hb1⟩
    rw [HC.out, hq]; rfl
  · have hst := fun w => Study_ok s w hs e hp hn (by omega)
    have HC : Hid (chkAns e = ((tyFind (List.range e.prs) e 0 0 [] (st0 e)).2.e, (tyFind (List.range e.prs) e 0 0 [] (st0 e)).2.at_)) := by unfold chkAns; rw [if_neg hm]; exact rfl
    generalize (tyFind (List.range e.prs) e 0 0 [] (st0 e)).2 = R at hst HC
    unfold ptr at hst
    go_enter Tryd.func7, Tryd.ntmps7
    go_wp2_with (go_at_call 14; refine (hst _).mono ?_; rintro e w1 ⟨b, yb, rfl, hb1, _⟩)
    refine bodyPost_ret (v := .tuple #[.int .i64 R.e, .int .i64 R.at_]) (by simp [results, Tryd.results7, go_sem]) rfl ⟨?_, hb1⟩
    rw [HC.out]
end Go.Proofs.YtpicaknklgccoaaDoor

/- lease.Check, and the statement Checks. -/
namespace Go.Proofs.YtpicaknklgccoaaDoor
open Go.RowKit

/-- what Check answers -/
theorem leaseCheck_any (s : ByteArray) (w : World) (x y : Nat) (hrd : ∀ w, Calls Tryd.prog 13 #[.string s] w fun v w' => ∃ x1 n1 c1 x2 n2 c2, v = .returned (.tuple #[treeV (.slice x1 n1 c1) (.slice x2 n2 c2), .int .i64 x, .int .i64 y]) ∧ Below w.heap.size w w') :
    Calls Tryd.prog 6 #[.string s] w fun v w' => v = .returned (.tuple #[.int .i64 x, .int .i64 y]) ∧ Below w.heap.size w w' := by
  unfold treeV at hrd
  go_enter Tryd.func6, Tryd.ntmps6
  go_wp2_with fail
  refine (hrd _).mono ?_
  rintro _ w1 ⟨x1, n1, c1, x2, n2, c2, rfl, hb⟩
  have HB : Hid _ := hb
  clear hb hrd
  go_wp2
  refine bodyPost_ret (v := .tuple #[.int .i64 x, .int .i64 y]) (by simp [results, Tryd.results6, go_sem]) rfl ⟨rfl, HB.out.alloc HB.out.size _⟩

theorem Checks_of (s : ByteArray) (w : World) (x y : Nat) (h1 : ∀ w, Calls Tryd.prog 6 #[.string s] w fun v w' => v = .returned (.tuple #[.int .i64 x, .int .i64 y]) ∧ Below w.heap.size w w')
    (h2 : ∀ w, Calls Tryd.prog 7 #[.string s] w fun v w' => v = .returned (.tuple #[.int .i64 x, .int .i64 y]) ∧ Below w.heap.size w w') :
    Calls Tryd.prog 3 #[.string s] w fun v w' => v = .returned (.bool true) ∧ Below w.heap.size w w' := by
  have e1 : ((x : Int) == (x : Int)) = true := by simp
  have e2 : ((y : Int) == (y : Int)) = true := by simp
  go_enter Tryd.func3, Tryd.ntmps3
  go_wp2_with fail
  refine (h1 _).mono ?_
  rintro _ w1 ⟨rfl, hb1⟩
  have HB1 : Hid _ := hb1
  clear hb1 h1
  go_wp2_with fail
  refine (h2 _).mono ?_
  rintro _ w2 ⟨rfl, hb2⟩
  have HB2 : Hid _ := HB1.out.trans (hb2.mono HB1.out.size)
  clear hb2 h2 HB1
  go_wp2
  go_ret
  exact ⟨rfl, HB2.out⟩

theorem Checks_any (s : ByteArray) (w : World) (hm : s.size ≤ maxLen) : Calls Tryd.prog 3 #[.string s] w fun v w' => v = .returned (.bool true) ∧ Below w.heap.size w w' := by
  by_cases hs : 3000 < s.size
  · refine Checks_of s w 1 0 (fun w => leaseCheck_any s w 1 0 (fun w => ?_)) (fun w => Check_long s w hs hm)
    exact (readPlain_long s w hs hm).mono (fun _ _ h => ⟨_, _, _, _, _, _, h.1, h.2⟩)
  · cases hf : formOf false s.data.toList with
    | some q =>
      refine Checks_of s w 2 q (fun w => leaseCheck_any s w 2 q (fun w => ?_)) (fun w => Check_form s w (by omega) q hf)
      exact (readPlain_form s w (by omega) q hf).mono (fun _ _ h => ⟨_, _, _, _, _, _, h.1, h.2⟩)
    | none =>
      obtain ⟨e, hp⟩ := form_none hf
      exact Checks_of s w (chkAns e).1 (chkAns e).2 (fun w => leaseCheck_any s w _ _ (fun w => readPlain_tree s w (by omega) e hp)) (fun w => Check_tree s w (by omega) e hp hf)
end Go.Proofs.YtpicaknklgccoaaDoor
