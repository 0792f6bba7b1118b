import Derived.Test.YtglkpkmdoohdcaaDoorX7
import Derived.Test.YtglkpkmdoohdcaaDoorX3
namespace Go.Proofs.YtglkpkmdoohdcaaDoor
open Go.RowKit

theorem PIn.setO {s : ByteArray} {placed : Bool} {pb : Nat} {w : World} {sv nv : Value} {st : PS} {g cap : Nat} (h : PIn s placed pb w sv nv (.slice (some ⟨g, 0, none⟩) st.opened.length cap) st) (k : Nat) (x : Int) :
    PFr pb pb w (w.setCell ⟨g, k, none⟩ (intV x)) sv nv (.slice (some ⟨g, 0, none⟩) st.opened.length cap) sv nv (.slice (some ⟨g, 0, none⟩) st.opened.length cap) ∧
    PIn s placed pb (w.setCell ⟨g, k, none⟩ (intV x)) sv nv (.slice (some ⟨g, 0, none⟩) st.opened.length cap) { st with opened := st.opened.set k x } := by
  obtain ⟨fr, y1, y2, y3⟩ := h.y
  have hgp : g ≠ pb := fun e => h.oy (by rw [e]; rfl)
  have kp : ∀ k', k' ≠ g → (w.setCell ⟨g, k, none⟩ (intV x)).heap[k']? = w.heap[k']? := fun k' hk => blk_other _ _ (by simpa using hk)
  have hst := (h.op.stored k (intV x)).1
  refine ⟨⟨rfl, rfl, rfl, by simp only [World.setCell, Array.size_modify]; omega, fun k' _ _ _ _ _ ho => kp k' (fun e => ho (by rw [e]; rfl)), fun _ h => Or.inl h, fun _ h => Or.inl h, fun _ h => Or.inl h⟩, ?_⟩
  refine ⟨⟨fr, y1, y2, by rw [kp pb (fun e => hgp e.symm)]; exact y3⟩, owns_blk h.sc (fun k' hk => kp k' (fun e => h.so k' hk (by rw [e]; rfl))), owns_blk h.nd (fun k' hk => kp k' (fun e => h.no k' hk (by rw [e]; rfl))), ?_, h.sy, h.ny, h.oy, h.sn, h.so, h.no⟩
  have e : (st.opened.set k x).map intV = (st.opened.map intV).set k (intV x) := by rw [List.map_set]
  simp only [List.length_set]
  rw [e]; exact hst

set_option maxRecDepth 100000 in
set_option maxHeartbeats 8000000 in
theorem expr_of (s : ByteArray) (placed : Bool) (pb : Nat) (f : PS → Int × PS) (w : World) (sv nv ov : Value) (st : PS) (h : PIn s placed pb w sv nv ov st) (hl : st.opened.length ≤ 50000)
    (hA : ∀ (w : World) (ov : Value), PIn s placed pb w sv nv ov { st with opened := st.opened ++ [-1] } → Calls Tryd.prog 95 #[ptr pb] w fun v w' => v = .returned (.int .i64 (f { st with opened := st.opened ++ [-1] }).1) ∧
      ∃ sv' nv' ov', PFr pb pb w w' sv nv ov sv' nv' ov' ∧ PIn s placed pb w' sv' nv' ov' (f { st with opened := st.opened ++ [-1] }).2)
    (hup : st.opened.length + 1 ≤ (f { st with opened := st.opened ++ [-1] }).2.opened.length) :
    Calls Tryd.prog 74 #[ptr pb] w fun v w' => v = .returned (.int .i64 (pSeat f st).1) ∧ ∃ sv' nv' ov', PFr pb pb w w' sv nv ov sv' nv' ov' ∧ PIn s placed pb w' sv' nv' ov' (pSeat f st).2 := by
  obtain ⟨i0, hi, hz0, hz1, hz2⟩ := info_parts Tryd.infoInt
  have HI : Hid _ := hi
  have HZ0 : Hid _ := hz0
  have HZ1 : Hid _ := hz1
  have HZ2 : Hid _ := hz2
  clear hi hz0 hz1 hz2
  have HPS : Hid (pSeat f st = ((f { st with opened := st.opened ++ [-1] }).1, { (f { st with opened := st.opened ++ [-1] }).2 with opened := (f { st with opened := st.opened ++ [-1] }).2.opened.set st.opened.length (f { st with opened := st.opened ++ [-1] }).1 })) := rfl
  obtain ⟨R, hR⟩ : ∃ R, R = pSeat f st := ⟨_, rfl⟩
  rw [← hR] at HPS ⊢
  clear hR
  generalize f { st with opened := st.opened ++ [-1] } = X at *
  obtain ⟨fr, hf1, hf2, hf3⟩ := h.y
  have hpb := blk_lt hf3
  have hop0 := h.op
  obtain ⟨n, hn⟩ : ∃ n, n = st.opened.length := ⟨_, rfl⟩
  obtain ⟨ao, oc, rfl⟩ : ∃ ao oc, ov = .slice ao n oc := by
    rcases hop0.2 with ⟨h1, h2⟩ | ⟨g, cap, cur, h1, _⟩
    · exact ⟨none, 0, by rw [h1, hn, h2]⟩
    · exact ⟨_, _, by rw [h1, hn]⟩
  have y7 : w.cell? ⟨pb, 7, none⟩ = some (.slice ao n oc) := by rw [blk_cell hf3]; rfl
  have hW : Below w.heap.size w (w.alloc (.cells #[.int .i64 (-1)] 3)) := (Below.refl _ w).alloc (Nat.le_refl _) _
  have HW : Hid _ := hW
  have HOWN : Hid ((w.alloc (.cells #[.int .i64 (-1)] 3)).ownsRow 0 3 1 (.slice ao n oc) n (st.opened.map intV)) := by
    have := owns_below hop0 hW
    rw [← hn] at this; exact this
  have HYW : Hid ((w.alloc (.cells #[.int .i64 (-1)] 3)).heap[pb]? = some (.cells (psCells s placed fr st.fl.isSome (st.fl.getD 0) sv nv (.slice ao n oc)) 120 (0, 0))) := blk_alloc _ hf3
  have HH : Hid _ := h
  have HN : Hid _ := hn
  have HC2 : Hid (∀ u ∈ [intV (-1)], u.oneCell' = true) := by intro v hv; simp only [List.mem_singleton] at hv; subst hv; rfl
  unfold ptr at hA
  have HA : Hid _ := hA
  rw [← hn] at hup hl
  clear hf1 hf2 hf3 h hW hop0 hA hn
  show Calls _ _ #[Value.pointer (some ⟨pb, 0, none⟩)] w _
  go_enter Tryd.func74, Tryd.ntmps74
  go_wp2_with (at_builtin; go_must (refine app_own _ rfl (.tmp 16) (.tmp 17) 33 rfl 3 i0 _ 1 8 Tryd.undInts HI.out HZ0.out HZ1.out HZ2.out rfl (by decide) (.slice ao n oc) n (st.opened.map intV) rfl HOWN.out ⟨w.heap.size, 0, none⟩ 1 1 [intV (-1)] rfl rfl ?c1 HC2.out (by decide) ?c3 ?c4 ?_))
  case c1 =>
    intro j v hj
    rw [← hj]
    first | rfl | exact alloc_cell_at _ _ _ _
  case c3 => unfold maxLen; omega
  case c4 => omega
  intro g cap w' hown hgrow hor
  have hpb' := grown_blk hgrow HYW.out HH.out.oy
  have c7 : w'.cell? ⟨pb, 7, none⟩ = some (.slice ao n oc) := by rw [blk_cell hpb']; rfl
  have f7 := blk_free hpb' 7
  have hadd := PIn.addO (g := g) (cap := cap) HH.out (-1) HW.out hgrow (by rw [← HN.out]; exact hown) (by rw [show (w.alloc (.cells #[.int .i64 (-1)] 3)).heap.size = w.heap.size + 1 from by simp]; exact hor)
  rw [← HN.out] at hadd
  have hA1 := HA.out _ _ hadd.2
  have HADD : Hid _ := hadd.1
  clear hown hgrow hor hpb' hadd
  go_wp2_with fail
  refine hA1.mono ?_
  rintro _ w2 ⟨rfl, sv2, nv2, ov2, hfr2, hin2⟩
  obtain ⟨g2, cap2, rfl⟩ : ∃ g2 cap2, ov2 = .slice (some ⟨g2, 0, none⟩) X.2.opened.length cap2 := by
    rcases hin2.op.2 with ⟨h1, h2⟩ | ⟨g, cap, cur, h1, _⟩
    · omega
    · exact ⟨_, _, h1⟩
  obtain ⟨fr2, _, _, hy2⟩ := hin2.y
  have d7 : w2.cell? ⟨pb, 7, none⟩ = some (.slice (some ⟨g2, 0, none⟩) X.2.opened.length cap2) := by rw [blk_cell hy2]; rfl
  have o1 := hin2.op
  have hoc : w2.cell? ⟨g2, n, none⟩ = some (intV (X.2.opened[n]'(by omega))) := by
    rw [o1.cellAt n (by omega), List.getElem?_map, List.getElem?_eq_getElem (by omega)]; rfl
  have hfz : w2.frozen? ⟨g2, n, none⟩ = false := o1.frozenAt n
  have hset := PIn.setO hin2 n X.1
  have HF2 : Hid _ := HADD.out.trans (hfr2.trans hset.1)
  have HI2 : Hid _ := hset.2
  unfold intV at hoc
  clear hfr2 hin2 hA1 hset o1 hy2
  go_wp2
  go_ret
  rw [HPS.out]
  exact ⟨rfl, _, _, _, HF2.out, by rw [← HN.out]; exact HI2.out⟩

theorem eok_all (s : ByteArray) (placed : Bool) (pb : Nat) (hs : s.size ≤ 9000) : ∀ n : Nat, EOk s placed pb (pExpr placed s.size n) n := by
  intro n
  induction n with
  | zero =>
    intro w sv nv ov st h hl hb
    have hl0 : st.l = [] := List.length_eq_zero_iff.1 (by omega)
    have hbr : ∀ n : NR, ({ st with opened := st.opened ++ [-1] } : PS).l ≠ [] → Gs ({ st with opened := st.opened ++ [-1] } : PS).tail ((fun (_ : NR) (st : PS) => ((-1 : Int), st)) n ({ st with opened := st.opened ++ [-1] } : PS).tail).2 3 1 := fun _ hne => absurd hl0 hne
    have hg := gr_any s.size { st with opened := st.opened ++ [-1] } hbr
    unfold pExpr
    refine expr_of s placed pb _ w sv nv ov st h (by have := hb.2.2; omega) (fun w ov h' => any_any s placed pb _ hs w sv nv ov _ h' ⟨hb.1, hb.2.1, by simp; have := hb.2.2; omega⟩ (fun hne => absurd hl0 hne)) ?_
    have := hg.2.2.2.2
    simpa using this
  | succ m ih =>
    intro w sv nv ov st h hl hb
    have hG := gr_expr placed s.size m
    have htl : st.tail.l.length ≤ m := by simp [PS.tail]; omega
    have hbr : ∀ n : NR, ({ st with opened := st.opened ++ [-1] } : PS).l ≠ [] → Gs ({ st with opened := st.opened ++ [-1] } : PS).tail (pBracket placed s.size (pExpr placed s.size m) n ({ st with opened := st.opened ++ [-1] } : PS).tail).2 3 1 := fun n _ => gs_bracket hG placed s.size n _ htl
    have hg := gr_any s.size { st with opened := st.opened ++ [-1] } hbr
    unfold pExpr
    refine expr_of s placed pb _ w sv nv ov st h (by have := hb.2.2; omega) (fun w ov h' => any_any s placed pb _ hs w sv nv ov _ h' ⟨hb.1, hb.2.1, by simp; have := hb.2.2; omega⟩ (fun hne w n h'' => ?_)) ?_
    · have hne' : 0 < st.l.length := List.length_pos_iff.2 hne
      refine bracket_any s placed pb (pExpr placed s.size m) m hs ih hG w sv nv ov _ n h'' htl ⟨?_, ?_, ?_⟩
      · show st.scope.length + st.l.tail.length ≤ 8999
        have := hb.1; simp; omega
      · show st.nodes.length + st.l.tail.length ≤ 8999
        have := hb.2.1; simp; omega
      · show (st.opened ++ [-1]).length + 4 * st.l.tail.length ≤ 49997
        have := hb.2.2; simp; omega
    · have := hg.2.2.2.2
      simpa using this

def treeV (nv ov : Value) : Value := .agg #[nv, ov]

theorem ps_cells {s : ByteArray} {placed : Bool} {fr a : Nat} {fl : Bool} {w : World} {pb : Nat} {sv nv ov : Value} {t : TypeId} (h : w.heap[pb]? = some (.cells (psCells s placed fr fl a sv nv ov) t (0, 0))) :
    w.cell? ⟨pb, 3, none⟩ = some (.bool fl) ∧ w.cell? ⟨pb, 4, none⟩ = some (.int .i64 a) ∧ w.cell? ⟨pb, 6, none⟩ = some nv ∧ w.cell? ⟨pb, 7, none⟩ = some ov :=
  ⟨by rw [blk_cell h]; rfl, by rw [blk_cell h]; rfl, by rw [blk_cell h]; rfl, by rw [blk_cell h]; rfl⟩

set_option maxRecDepth 100000 in
set_option maxHeartbeats 8000000 in
theorem program_any (s : ByteArray) (placed : Bool) (pb : Nat) (hs : s.size ≤ 9000) (w : World) (sv nv ov : Value) (l : List Tk) (hl : l.length ≤ 9000) (h : PIn s placed pb w sv nv ov (ps0 l)) :
    Calls Tryd.prog 53 #[ptr pb] w fun v w' => ∃ sv' nv' ov', PFr pb pb w w' sv nv ov sv' nv' ov' ∧ PIn s placed pb w' sv' nv' ov' (pProg placed s.size l) ∧
      ((∃ q : Nat, (pProg placed s.size l).fl = some q ∧ v = .returned (.tuple #[treeV (.slice none 0 0) (.slice none 0 0), .int .i64 q, .bool false])) ∨
       ((pProg placed s.size l).fl = none ∧ v = .returned (.tuple #[treeV nv' ov', .int .i64 0, .bool true]))) := by
  have hE := eok_all s placed pb hs l.length (w.alloc (.cells #[.slice none 0 0, .slice none 0 0] 49)) sv nv ov (ps0 l) (h.alloc _) (Nat.le_refl _) ⟨by simp [ps0]; omega, by simp [ps0]; omega, by simp [ps0]; omega⟩
  have hex := fun w sv nv ov h => expect_any s placed pb w sv nv ov (pExpr placed s.size l.length (ps0 l)).2 0 hs h
  have hPP : (pExpr placed s.size l.length (ps0 l)).2.expect s.size 0 = pProg placed s.size l := rfl
  rw [hPP] at hex
  have hnew := Bk.new h (.cells #[.slice none 0 0, .slice none 0 0] 49)
  unfold tnVal ptr at hex
  unfold ptr at hE
  have HNEW : Hid _ := hnew
  have HEX : Hid _ := hex
  have HH : Hid _ := h
  clear hPP hex hnew h
  generalize pProg placed s.size l = P at *
  show Calls _ _ #[Value.pointer (some ⟨pb, 0, none⟩)] w _
  go_enter Tryd.func53, Tryd.ntmps53
  go_wp2_with fail
  refine hE.mono ?_
  rintro _ w1 ⟨rfl, sv1, nv1, ov1, hfr1, hin1⟩
  have hx := HEX.out _ _ _ _ hin1
  have HB1 : Hid _ := HNEW.out.keep hfr1
  have HF1 : Hid _ := hfr1
  clear hfr1 hin1 hE HNEW HEX
  go_wp2_with fail
  refine hx.mono ?_
  rintro _ w2 ⟨rfl, hfr2, hin2⟩
  have hB2 := HB1.out.keep hfr2
  have hF2 := HF1.out.trans hfr2
  obtain ⟨fr, y1, y2, y3⟩ := hin2.y
  obtain ⟨p3, p4, p6, p7⟩ := ps_cells y3
  have r0 : w2.cell? ⟨w.heap.size, 0, none⟩ = some (.slice none 0 0) := by rw [blk_cell hB2.b]; rfl
  have r1 : w2.cell? ⟨w.heap.size, 1, none⟩ = some (.slice none 0 0) := by rw [blk_cell hB2.b]; rfl
  have f0 := blk_free hB2.b 0
  have f1 := blk_free hB2.b 1
  have hne := hB2.ne
  have hne' : pb ≠ w.heap.size := fun e => hB2.ne e.symm
  have HB2 : Hid _ := hB2
  have HI2 : Hid _ := hin2
  have HF2 : Hid _ := hF2
  clear hfr2 hin2 hB2 hF2 y1 y2 y3 HB1 HF1 hx
  cases hfl : P.fl with
  | some q =>
    rw [hfl] at p3 p4
    simp only [Option.isSome_some, Option.getD_some] at p3 p4
    have HFL : Hid _ := hfl
    clear hfl
    go_wp2
    go_region
    all_goals
      go_wp2
      obtain ⟨a1, a2, a3⟩ := HB2.out.set HI2.out 0 (.slice none 0 0)
      obtain ⟨b1, b2, b3⟩ := a3.set a2 1 (.slice none 0 0)
      have hdr : Below ((w2.setCell ⟨w.heap.size, 0, none⟩ (.slice none 0 0)).setCell ⟨w.heap.size, 1, none⟩ (.slice none 0 0)).heap.size ((w2.setCell ⟨w.heap.size, 0, none⟩ (.slice none 0 0)).setCell ⟨w.heap.size, 1, none⟩ (.slice none 0 0)) ((w2.setCell ⟨w.heap.size, 0, none⟩ (.slice none 0 0)).setCell ⟨w.heap.size, 1, none⟩ (.slice none 0 0)).drew := ⟨rfl, rfl, rfl, Nat.le_refl _, fun _ _ => rfl⟩
      have hF := ((((HF2.out.nb (nb := w.heap.size)).trans a1).trans b1).trans (PFr.below pb w.heap.size sv1 nv1 ov1 hdr)).drop rfl
      refine bodyPost_ret (v := .tuple #[.agg #[.slice none 0 0, .slice none 0 0], .int .i64 q, .bool false]) (by simp [results, Tryd.results53, go_sem, r0, r1]) rfl ⟨sv1, nv1, ov1, hF, b2.below hdr, Or.inl ⟨q, HFL.out, rfl⟩⟩
  | none =>
    rw [hfl] at p3 p4
    simp only [Option.isSome_none, Option.getD_none] at p3 p4
    have HFL : Hid _ := hfl
    clear hfl
    obtain ⟨x6, n6, c6, e6⟩ : ∃ a n c, nv1 = .slice a n c := by
      rcases HI2.out.nd.2 with ⟨h1, _⟩ | ⟨g, cap, cur, h1, _⟩
      · exact ⟨_, _, _, h1⟩
      · exact ⟨_, _, _, h1⟩
    obtain ⟨x7, n7, c7, e7⟩ : ∃ a n c, ov1 = .slice a n c := by
      rcases HI2.out.op.2 with ⟨h1, _⟩ | ⟨g, cap, cur, h1, _⟩
      · exact ⟨_, _, _, h1⟩
      · exact ⟨_, _, _, h1⟩
    subst e6
    subst e7
    obtain ⟨a1, a2, a3⟩ := HB2.out.set HI2.out 0 (.slice x6 n6 c6)
    obtain ⟨b1, b2, b3⟩ := a3.set a2 1 (.slice x7 n7 c7)
    have hF := (((HF2.out.nb (nb := w.heap.size)).trans a1).trans b1).drop rfl
    have HF3 : Hid _ := hF
    have HI3 : Hid _ := b2
    clear a1 a2 a3 b1 b2 b3 hF
    go_wp2
    refine bodyPost_ret (v := .tuple #[.agg #[.slice x6 n6 c6, .slice x7 n7 c7], .int .i64 0, .bool true]) (by simp [results, Tryd.results53, go_sem, r0, r1]) rfl ⟨sv1, _, _, HF3.out, HI3.out, Or.inr ⟨HFL.out, rfl⟩⟩

theorem tksAt_zero (s : ByteArray) : tksAt s.data.toList 0 = tokens s.data.toList := by unfold tksAt tokens; simp
theorem tokens_len (s : ByteArray) (hs : s.size ≤ 9000) : (tokens s.data.toList).length ≤ 9000 := by
  have := toks_len s.data.toList.length 0 s.data.toList
  unfold tokens
  rw [size_list] at this ⊢
  omega

/-- a program read: its rows -/
structure TreeIn (w : World) (nv ov : Value) (ns : List NR) (op : List Int) : Prop where
  nd : w.ownsRow 0 130 10 nv ns.length (ns.flatMap nrL)
  op : w.ownsRow 0 3 1 ov op.length (op.map intV)
theorem TreeIn.below {w w' : World} {nv ov : Value} {ns : List NR} {op : List Int} (h : TreeIn w nv ov ns op) (hb : Below w.heap.size w w') : TreeIn w' nv ov ns op := ⟨owns_below h.nd hb, owns_below h.op hb⟩

theorem parse0 (s : ByteArray) (placed : Bool) (w : World) (R : Obj) : PIn s placed (w.heap.size + 1) ((w.alloc R).alloc (.cells (psCells s placed 0 false 0 (.slice none 0 0) (.slice none 0 0) (.slice none 0 0)) 120)) (.slice none 0 0) (.slice none 0 0) (.slice none 0 0) (ps0 (tokens s.data.toList)) := by
  refine ⟨⟨0, Nat.zero_le _, tksAt_zero s, ?_⟩, World.ownsRow_nil _ _ _ _, World.ownsRow_nil _ _ _ _, World.ownsRow_nil _ _ _ _, by simp [Value.ownBlock], by simp [Value.ownBlock], by simp [Value.ownBlock], fun g hg => by simp [Value.ownBlock] at hg, fun g hg => by simp [Value.ownBlock] at hg, fun g hg => by simp [Value.ownBlock] at hg⟩
  have h := blk_new (w.alloc R) (.cells (psCells s placed 0 false 0 (.slice none 0 0) (.slice none 0 0) (.slice none 0 0)) 120)
  have e : (w.alloc R).heap.size = w.heap.size + 1 := by simp
  rw [e] at h
  exact h

/-- what ParsePlain, ParsePlaced answer -/
def ParseAns (s : ByteArray) (placed : Bool) (w : World) (v : Ending) (w' : World) : Prop :=
  Below w.heap.size w w' ∧
  ((∃ q : Nat, (pProg placed s.size (tokens s.data.toList)).fl = some q ∧ v = .returned (.tuple #[treeV (.slice none 0 0) (.slice none 0 0), .int .i64 q, .bool false])) ∨
   ((pProg placed s.size (tokens s.data.toList)).fl = none ∧ ∃ nv ov, v = .returned (.tuple #[treeV nv ov, .int .i64 0, .bool true]) ∧ TreeIn w' nv ov (pProg placed s.size (tokens s.data.toList)).nodes (pProg placed s.size (tokens s.data.toList)).opened))

theorem PFr.toBelow {w w' : World} {A B : Obj} {sv' nv' ov' : Value} (h : PFr (w.heap.size + 1) (w.heap.size + 1) ((w.alloc A).alloc B) w' (.slice none 0 0) (.slice none 0 0) (.slice none 0 0) sv' nv' ov') : Below w.heap.size w w' ∧ w'.heap[w.heap.size]? = some A ∧ w.heap.size + 2 ≤ w'.heap.size := by
  have e : ((w.alloc A).alloc B).heap.size = w.heap.size + 2 := by simp
  have hs := h.size
  rw [e] at hs
  have hb : Below w.heap.size w ((w.alloc A).alloc B) := ((Below.refl _ w).alloc (Nat.le_refl _) A).alloc (by simp) B
  refine ⟨⟨h.os.trans hb.os, h.tape.trans hb.tape, h.output.trans hb.output, by omega, fun k hk => ?_⟩, ?_, hs⟩
  · rw [h.blk k (by omega) (by omega) (by omega) (by simp [Value.ownBlock]) (by simp [Value.ownBlock]) (by simp [Value.ownBlock])]
    exact hb.block k hk
  · rw [h.blk w.heap.size (by omega) (by omega) (by omega) (by simp [Value.ownBlock]) (by simp [Value.ownBlock]) (by simp [Value.ownBlock])]
    exact blk_alloc _ (blk_new w A)

set_option maxRecDepth 100000 in
set_option maxHeartbeats 8000000 in
theorem ParsePlain_any (s : ByteArray) (w : World) (hs : s.size ≤ 9000) : Calls Tryd.prog 31 #[.string s] w fun v w' => ParseAns s false w v w' := by
  have hpr := program_any s false (w.heap.size + 1) hs _ _ _ _ _ (tokens_len s hs) (parse0 s false w (.cells #[.slice none 0 0, .slice none 0 0] 49))
  unfold ptr psCells at hpr
  unfold ParseAns
  generalize pProg false s.size (tokens s.data.toList) = P at *
  go_enter Tryd.func31, Tryd.ntmps31
  go_wp2_with fail
  refine hpr.mono ?_
  rintro v w1 ⟨sv1, nv1, ov1, hfr, hin, hv⟩
  obtain ⟨hb, hr, hsz⟩ := hfr.toBelow
  have r0 : w1.cell? ⟨w.heap.size, 0, none⟩ = some (.slice none 0 0) := by rw [blk_cell hr]; rfl
  have r1 : w1.cell? ⟨w.heap.size, 1, none⟩ = some (.slice none 0 0) := by rw [blk_cell hr]; rfl
  have f0 := blk_free hr 0
  have f1 := blk_free hr 1
  have HB : Hid _ := hb
  rcases hv with ⟨q, hfl, rfl⟩ | ⟨hfl, rfl⟩
  · have HFL : Hid _ := hfl
    unfold treeV
    clear hfl hfr hin hb hr hpr
    go_wp2
    refine bodyPost_ret (v := .tuple #[.agg #[.slice none 0 0, .slice none 0 0], .int .i64 q, .bool false]) (by simp [results, Tryd.results31, go_sem, r0, r1]) rfl ⟨?_, Or.inl ⟨q, HFL.out, rfl⟩⟩
    exact (HB.out.setCell (p := ⟨w.heap.size, 0, none⟩) (Nat.le_refl _) _).setCell (p := ⟨w.heap.size, 1, none⟩) (Nat.le_refl _) _
  · have HFL : Hid _ := hfl
    obtain ⟨x6, n6, c6, e6⟩ : ∃ a n c, nv1 = .slice a n c := by
      rcases hin.nd.2 with ⟨h1, _⟩ | ⟨g, cap, cur, h1, _⟩
      · exact ⟨_, _, _, h1⟩
      · exact ⟨_, _, _, h1⟩
    obtain ⟨x7, n7, c7, e7⟩ : ∃ a n c, ov1 = .slice a n c := by
      rcases hin.op.2 with ⟨h1, _⟩ | ⟨g, cap, cur, h1, _⟩
      · exact ⟨_, _, _, h1⟩
      · exact ⟨_, _, _, h1⟩
    have hrn : ∀ k, nv1.ownBlock = some k → k ≠ w.heap.size := fun k hk => by
      rcases hfr.n k hk with e | e
      · simp [Value.ownBlock] at e
      · simp at e; omega
    have hro : ∀ k, ov1.ownBlock = some k → k ≠ w.heap.size := fun k hk => by
      rcases hfr.o k hk with e | e
      · simp [Value.ownBlock] at e
      · simp at e; omega
    subst e6
    subst e7
    have HT : Hid (TreeIn ((w1.setCell ⟨w.heap.size, 0, none⟩ (.slice x6 n6 c6)).setCell ⟨w.heap.size, 1, none⟩ (.slice x7 n7 c7)) (.slice x6 n6 c6) (.slice x7 n7 c7) P.nodes P.opened) := by
      refine ⟨owns_blk hin.nd (fun k hk => ?_), owns_blk hin.op (fun k hk => ?_)⟩
      · rw [blk_other _ _ (by simpa using hrn k hk), blk_other _ _ (by simpa using hrn k hk)]
      · rw [blk_other _ _ (by simpa using hro k hk), blk_other _ _ (by simpa using hro k hk)]
    unfold treeV
    clear hfl hfr hin hb hr hpr hrn hro
    go_wp2
    refine bodyPost_ret (v := .tuple #[.agg #[.slice x6 n6 c6, .slice x7 n7 c7], .int .i64 0, .bool true]) (by simp [results, Tryd.results31, go_sem, r0, r1]) rfl ⟨?_, Or.inr ⟨HFL.out, _, _, rfl, HT.out⟩⟩
    exact (HB.out.setCell (p := ⟨w.heap.size, 0, none⟩) (Nat.le_refl _) _).setCell (p := ⟨w.heap.size, 1, none⟩) (Nat.le_refl _) _
end Go.Proofs.YtglkpkmdoohdcaaDoor
