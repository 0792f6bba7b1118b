import Derived.Test.YtpicaknklgccoaaGreatDoorP14
import Derived.Test.YtpicaknklgccoaaGreatDoorP13
namespace Go.Proofs.YtpicaknklgccoaaGreatDoor
def pairAt (NS : List NR) (i : Int) : Option Nat := match NS[i.toNat]? with
 | some n => if n.form = 4 then some n.at_ else none
 | none => none
theorem formK_pair (k : Kw) : formK k = 4 ↔ k = .pair := by cases k <;> decide
mutual
theorem opn_pairs (NS : List NR) : ∀ (t : PT) (scope : Sc) (base : Nat) (ns : List NR), NA scope t base ns → (∀ j, j < ns.length → NS[base + j]? = ns[j]?) → (opn t base).filterMap (pairAt NS) = t.prl.map (·.1)
 | .num p s, scope, base, ns, h, hN => by
  simp only [NA] at h
  subst h
  have := hN 0 (by simp)
  simp only [Nat.add_zero] at this
  simp [opn, pairAt, this, PT.prl]
 | .name p s, scope, base, ns, h, hN => by
  simp only [NA] at h
  subst h
  have := hN 0 (by simp)
  simp only [Nat.add_zero] at this
  simp [opn, pairAt, this, PT.prl]
 | .node p k nm rg kids, scope, base, ns, h, hN => by
  simp only [NA] at h
  obtain ⟨ks, beh, h1, rfl⟩ := h
  have hl := h1.len
  have hk := opnL_pairs NS kids scope nm (bodK k) base ks h1 (fun j hj => by rw [hN j (by simp; omega), List.getElem?_append_left hj])
  have hs := hN ks.length (by simp)
  rw [hl, ← hl, List.getElem?_append_right (Nat.le_refl _)] at hs
  simp only [Nat.sub_self, List.getElem?_cons_zero] at hs
  simp only [opn, List.filterMap_cons, PT.prl]
  have hp : pairAt NS ((base + cntL kids : Nat) : Int) = if k = .pair then some p else none := by
   unfold pairAt
   rw [Int.toNat_natCast, ← hl, hs]
   simp only [formK_pair]
  rw [hp, hk]
  by_cases hkp : k = .pair
  ·simp [hkp]
  ·simp [hkp]
theorem opnL_pairs (NS : List NR) : ∀ (ts : List PT) (scope : Sc) (nm : List UInt8) (bs : List Bool) (base : Nat) (ns : List NR), NAs scope nm ts bs base ns → (∀ j, j < ns.length → NS[base + j]? = ns[j]?) → (opnL ts base).filterMap (pairAt NS) = (prlL ts).map (·.1)
 | [], _, _, _, _, _, _, _ => by simp [opnL, prlL]
 | _ :: _, _, _, [], _, _, h, _ => by simp [NAs] at h
 | t :: r, scope, nm, b :: bs, base, ns, h, hN => by
  simp only [NAs] at h
  obtain ⟨a, c, h1, h2, rfl⟩ := h
  have hl := h1.len
  have e1 := opn_pairs NS t _ base a h1 (fun j hj => by rw [hN j (by simp; omega), List.getElem?_append_left hj])
  have e2 := opnL_pairs NS r scope nm bs (base + t.cnt) c h2 (fun j hj => by
   have := hN (t.cnt + j) (by simp; omega)
   rw [← Nat.add_assoc] at this
   rw [this, List.getElem?_append_right (by omega)]
   congr 1; omega)
  simp only [opnL, prlL, List.filterMap_append, e1, e2, List.map_append]
end
open Go.RowKit
theorem PIn.setO {s : ByteArray} {placed : Bool} {pb : Nat} {w : World} {sv nv : Value} {st : PS} {g cap : Nat} (h : PIn s placed pb w sv nv (.slice (some ⟨g, 0, none⟩) st.opened.length cap) st) (k : Nat) (x : Int) :
  PFr pb pb w (w.setCell ⟨g, k, none⟩ (intV x)) sv nv (.slice (some ⟨g, 0, none⟩) st.opened.length cap) sv nv (.slice (some ⟨g, 0, none⟩) st.opened.length cap) ∧
  PIn s placed pb (w.setCell ⟨g, k, none⟩ (intV x)) sv nv (.slice (some ⟨g, 0, none⟩) st.opened.length cap) { st with opened := st.opened.set k x } := by
 obtain ⟨fr, y1, y2, y3⟩ := h.y
 have hgp : g ≠ pb := fun e => h.oy (by rw [e]; rfl)
 have kp : ∀ k', k' ≠ g → (w.setCell ⟨g, k, none⟩ (intV x)).heap[k']? = w.heap[k']? := fun k' hk => blk_other _ _ (by simpa using hk)
 have hst := (h.op.stored k (intV x)).1
 refine ⟨⟨rfl, rfl, rfl, by simp only [World.setCell, Array.size_modify]; omega, fun k' _ _ _ _ _ ho => kp k' (fun e => ho (by rw [e]; rfl)), fun _ h => Or.inl h, fun _ h => Or.inl h, fun _ h => Or.inl h⟩, ?_⟩
 refine ⟨⟨fr, y1, y2, by rw [kp pb (fun e => hgp e.symm)]; exact y3⟩, owns_blk h.sc (fun k' hk => kp k' (fun e => h.so k' hk (by rw [e]; rfl))), owns_blk h.nd (fun k' hk => kp k' (fun e => h.no k' hk (by rw [e]; rfl))), ?_, h.sy, h.ny, h.oy, h.sn, h.so, h.no⟩
 have e : (st.opened.set k x).map intV = (st.opened.map intV).set k (intV x) := by rw [List.map_set]
 simp only [List.length_set]
 rw [e]; exact hst
set_option maxRecDepth 100000 in
set_option maxHeartbeats 8000000 in
theorem expr_of (s : ByteArray) (placed : Bool) (pb : Nat) (f : PS → Int × PS) (w : World) (sv nv ov : Value) (st : PS) (h : PIn s placed pb w sv nv ov st) (hl : st.opened.length ≤ 50000)
  (hA : ∀ (w : World) (ov : Value), PIn s placed pb w sv nv ov { st with opened := st.opened ++ [-1] } → Calls Tryz.prog 152 #[ptr pb] w fun v w' => v = .returned (.int .i64 (f { st with opened := st.opened ++ [-1] }).1) ∧
   ∃ sv' nv' ov', PFr pb pb w w' sv nv ov sv' nv' ov' ∧ PIn s placed pb w' sv' nv' ov' (f { st with opened := st.opened ++ [-1] }).2)
  (hup : st.opened.length + 1 ≤ (f { st with opened := st.opened ++ [-1] }).2.opened.length) :
  Calls Tryz.prog 123 #[ptr pb] w fun v w' => v = .returned (.int .i64 (pSeat f st).1) ∧ ∃ sv' nv' ov', PFr pb pb w w' sv nv ov sv' nv' ov' ∧ PIn s placed pb w' sv' nv' ov' (pSeat f st).2 := by
 obtain ⟨i0, hi, hz0, hz1, hz2⟩ := info_parts Tryz.infoInt
 have HI : Hid _ := hi
 have HZ0 : Hid _ := hz0
 have HZ1 : Hid _ := hz1
 have HZ2 : Hid _ := hz2
 clear hi hz0 hz1 hz2
 have HPS : Hid (pSeat f st = ((f { st with opened := st.opened ++ [-1] }).1, { (f { st with opened := st.opened ++ [-1] }).2 with opened := (f { st with opened := st.opened ++ [-1] }).2.opened.set st.opened.length (f { st with opened := st.opened ++ [-1] }).1 })) := rfl
 obtain ⟨R, hR⟩ : ∃ R, R = pSeat f st := ⟨_, rfl⟩
 rw [← hR] at HPS ⊢
 clear hR
 generalize f { st with opened := st.opened ++ [-1] } = X at *
 obtain ⟨fr, hf1, hf2, hf3⟩ := h.y
 have hpb := blk_lt hf3
 have hop0 := h.op
 obtain ⟨n, hn⟩ : ∃ n, n = st.opened.length := ⟨_, rfl⟩
 obtain ⟨ao, oc, rfl⟩ : ∃ ao oc, ov = .slice ao n oc := by
  rcases hop0.2 with ⟨h1, h2⟩ | ⟨g, cap, cur, h1, _⟩
  ·exact ⟨none, 0, by rw [h1, hn, h2]⟩
  ·exact ⟨_, _, by rw [h1, hn]⟩
 have y7 : w.cell? ⟨pb, 7, none⟩ = some (.slice ao n oc) := by rw [blk_cell hf3]; rfl
 have hW : Below w.heap.size w (w.alloc (.cells #[.int .i64 (-1)] 3)) := (Below.refl _ w).alloc (Nat.le_refl _) _
 have HW : Hid _ := hW
 have HOWN : Hid ((w.alloc (.cells #[.int .i64 (-1)] 3)).ownsRow 0 3 1 (.slice ao n oc) n (st.opened.map intV)) := by
  have := owns_below hop0 hW
  rw [← hn] at this; exact this
 have HYW : Hid ((w.alloc (.cells #[.int .i64 (-1)] 3)).heap[pb]? = some (.cells (psCells s placed fr st.fl.isSome (st.fl.getD 0) sv nv (.slice ao n oc)) 150 (0, 0))) := blk_alloc _ hf3
 have HH : Hid _ := h
 have HN : Hid _ := hn
 have HC2 : Hid (∀ u ∈ [intV (-1)], u.oneCell' = true) := by intro v hv; simp only [List.mem_singleton] at hv; subst hv; rfl
 unfold ptr at hA
 have HA : Hid _ := hA
 rw [← hn] at hup hl
 clear hf1 hf2 hf3 h hW hop0 hA hn
 show Calls _ _ #[Value.pointer (some ⟨pb, 0, none⟩)] w _
 go_enter Tryz.func123, Tryz.ntmps123
 go_wp2_with (at_builtin; go_must (refine app_own _ rfl (.tmp 16) (.tmp 17) 42 rfl 3 i0 _ 1 8 Tryz.undInts HI.out HZ0.out HZ1.out HZ2.out rfl (by decide) (.slice ao n oc) n (st.opened.map intV) rfl HOWN.out ⟨w.heap.size, 0, none⟩ 1 1 [intV (-1)] rfl rfl ?c1 HC2.out (by decide) ?c3 ?c4 ?_))
 case c1 =>
  intro j v hj
  rw [← hj]
  first | rfl | exact alloc_cell_at _ _ _ _
 case c3 => unfold maxLen; omega
 case c4 => omega
 intro g cap w' hown hgrow hor
 have hpb' := grown_blk hgrow HYW.out HH.out.oy
 have c7 : w'.cell? ⟨pb, 7, none⟩ = some (.slice ao n oc) := by rw [blk_cell hpb']; rfl
 have f7 := blk_free hpb' 7
 have hadd := PIn.addO (g := g) (cap := cap) HH.out (-1) HW.out hgrow (by rw [← HN.out]; exact hown) (by rw [show (w.alloc (.cells #[.int .i64 (-1)] 3)).heap.size = w.heap.size + 1 from by simp]; exact hor)
 rw [← HN.out] at hadd
 have hA1 := HA.out _ _ hadd.2
 have HADD : Hid _ := hadd.1
 clear hown hgrow hor hpb' hadd
 go_wp2_with fail
 refine hA1.mono ?_
 rintro _ w2 ⟨rfl, sv2, nv2, ov2, hfr2, hin2⟩
 obtain ⟨g2, cap2, rfl⟩ : ∃ g2 cap2, ov2 = .slice (some ⟨g2, 0, none⟩) X.2.opened.length cap2 := by
  rcases hin2.op.2 with ⟨h1, h2⟩ | ⟨g, cap, cur, h1, _⟩
  ·omega
  ·exact ⟨_, _, h1⟩
 obtain ⟨fr2, _, _, hy2⟩ := hin2.y
 have d7 : w2.cell? ⟨pb, 7, none⟩ = some (.slice (some ⟨g2, 0, none⟩) X.2.opened.length cap2) := by rw [blk_cell hy2]; rfl
 have o1 := hin2.op
 have hoc : w2.cell? ⟨g2, n, none⟩ = some (intV (X.2.opened[n]'(by omega))) := by
  rw [o1.cellAt n (by omega), List.getElem?_map, List.getElem?_eq_getElem (by omega)]; rfl
 have hfz : w2.frozen? ⟨g2, n, none⟩ = false := o1.frozenAt n
 have hset := PIn.setO hin2 n X.1
 have HF2 : Hid _ := HADD.out.trans (hfr2.trans hset.1)
 have HI2 : Hid _ := hset.2
 unfold intV at hoc
 clear hfr2 hin2 hA1 hset o1 hy2
 go_wp2
 go_ret
 rw [HPS.out]
 exact ⟨rfl, _, _, _, HF2.out, by rw [← HN.out]; exact HI2.out⟩
theorem eok_all (s : ByteArray) (placed : Bool) (pb : Nat) (hs : s.size ≤ 9000) : ∀ n : Nat, EOk s placed pb (pExpr placed s.size n) n := by
 intro n
 induction n with
 | zero =>
  intro w sv nv ov st h hl hb
  have hl0 : st.l = [] := List.length_eq_zero_iff.1 (by omega)
  have hbr : ∀ n : NR, ({ st with opened := st.opened ++ [-1] } : PS).l ≠ [] → Gs ({ st with opened := st.opened ++ [-1] } : PS).tail ((fun (_ : NR) (st : PS) => ((-1 : Int), st)) n ({ st with opened := st.opened ++ [-1] } : PS).tail).2 3 1 := fun _ hne => absurd hl0 hne
  have hg := gr_any s.size { st with opened := st.opened ++ [-1] } hbr
  unfold pExpr
  refine expr_of s placed pb _ w sv nv ov st h (by have := hb.2.2; omega) (fun w ov h' => any_any s placed pb _ hs w sv nv ov _ h' ⟨hb.1, hb.2.1, by simp; have := hb.2.2; omega⟩ (fun hne => absurd hl0 hne)) ?_
  have := hg.2.2.2.2
  simpa using this
 | succ m ih =>
  intro w sv nv ov st h hl hb
  have hG := gr_expr placed s.size m
  have htl : st.tail.l.length ≤ m := by simp [PS.tail]; omega
  have hbr : ∀ n : NR, ({ st with opened := st.opened ++ [-1] } : PS).l ≠ [] → Gs ({ st with opened := st.opened ++ [-1] } : PS).tail (pBracket placed s.size (pExpr placed s.size m) n ({ st with opened := st.opened ++ [-1] } : PS).tail).2 3 1 := fun n _ => gs_bracket hG placed s.size n _ htl
  have hg := gr_any s.size { st with opened := st.opened ++ [-1] } hbr
  unfold pExpr
  refine expr_of s placed pb _ w sv nv ov st h (by have := hb.2.2; omega) (fun w ov h' => any_any s placed pb _ hs w sv nv ov _ h' ⟨hb.1, hb.2.1, by simp; have := hb.2.2; omega⟩ (fun hne w n h'' => ?_)) ?_
  ·have hne' : 0 < st.l.length := List.length_pos_iff.2 hne
   refine bracket_any s placed pb (pExpr placed s.size m) m hs ih hG w sv nv ov _ n h'' htl ⟨?_, ?_, ?_⟩
   ·show st.scope.length + st.l.tail.length ≤ 8999
    have := hb.1; simp; omega
   ·show st.nodes.length + st.l.tail.length ≤ 8999
    have := hb.2.1; simp; omega
   ·show (st.opened ++ [-1]).length + 4 * st.l.tail.length ≤ 49997
    have := hb.2.2; simp; omega
  ·have := hg.2.2.2.2
   simpa using this
def treeV (nv ov : Value) : Value := .agg #[nv, ov]
theorem ps_cells {s : ByteArray} {placed : Bool} {fr a : Nat} {fl : Bool} {w : World} {pb : Nat} {sv nv ov : Value} {t : TypeId} (h : w.heap[pb]? = some (.cells (psCells s placed fr fl a sv nv ov) t (0, 0))) :
  w.cell? ⟨pb, 3, none⟩ = some (.bool fl) ∧ w.cell? ⟨pb, 4, none⟩ = some (.int .i64 a) ∧ w.cell? ⟨pb, 6, none⟩ = some nv ∧ w.cell? ⟨pb, 7, none⟩ = some ov :=
 ⟨by rw [blk_cell h]; rfl, by rw [blk_cell h]; rfl, by rw [blk_cell h]; rfl, by rw [blk_cell h]; rfl⟩
set_option maxRecDepth 100000 in
set_option maxHeartbeats 8000000 in
theorem program_any (s : ByteArray) (placed : Bool) (pb : Nat) (hs : s.size ≤ 9000) (w : World) (sv nv ov : Value) (l : List Tk) (hl : l.length ≤ 9000) (h : PIn s placed pb w sv nv ov (ps0 l)) :
  Calls Tryz.prog 91 #[ptr pb] w fun v w' => ∃ sv' nv' ov', PFr pb pb w w' sv nv ov sv' nv' ov' ∧ PIn s placed pb w' sv' nv' ov' (pProg placed s.size l) ∧
   ((∃ q : Nat, (pProg placed s.size l).fl = some q ∧ v = .returned (.tuple #[treeV (.slice none 0 0) (.slice none 0 0), .int .i64 q, .bool false])) ∨
    ((pProg placed s.size l).fl = none ∧ v = .returned (.tuple #[treeV nv' ov', .int .i64 0, .bool true]))) := by
 have hE := eok_all s placed pb hs l.length (w.alloc (.cells #[.slice none 0 0, .slice none 0 0] 59)) sv nv ov (ps0 l) (h.alloc _) (Nat.le_refl _) ⟨by simp [ps0]; omega, by simp [ps0]; omega, by simp [ps0]; omega⟩
 have hex := fun w sv nv ov h => expect_any s placed pb w sv nv ov (pExpr placed s.size l.length (ps0 l)).2 0 hs h
 have hPP : (pExpr placed s.size l.length (ps0 l)).2.expect s.size 0 = pProg placed s.size l := rfl
 rw [hPP] at hex
 have hnew := Bk.new h (.cells #[.slice none 0 0, .slice none 0 0] 59)
 unfold tnVal ptr at hex
 unfold ptr at hE
 have HNEW : Hid _ := hnew
 have HEX : Hid _ := hex
 have HH : Hid _ := h
 clear hPP hex hnew h
 generalize pProg placed s.size l = P at *
 show Calls _ _ #[Value.pointer (some ⟨pb, 0, none⟩)] w _
 go_enter Tryz.func91, Tryz.ntmps91
 go_wp2_with fail
 refine hE.mono ?_
 rintro _ w1 ⟨rfl, sv1, nv1, ov1, hfr1, hin1⟩
 have hx := HEX.out _ _ _ _ hin1
 have HB1 : Hid _ := HNEW.out.keep hfr1
 have HF1 : Hid _ := hfr1
 clear hfr1 hin1 hE HNEW HEX
 go_wp2_with fail
 refine hx.mono ?_
 rintro _ w2 ⟨rfl, hfr2, hin2⟩
 have hB2 := HB1.out.keep hfr2
 have hF2 := HF1.out.trans hfr2
 obtain ⟨fr, y1, y2, y3⟩ := hin2.y
 obtain ⟨p3, p4, p6, p7⟩ := ps_cells y3
 have r0 : w2.cell? ⟨w.heap.size, 0, none⟩ = some (.slice none 0 0) := by rw [blk_cell hB2.b]; rfl
 have r1 : w2.cell? ⟨w.heap.size, 1, none⟩ = some (.slice none 0 0) := by rw [blk_cell hB2.b]; rfl
 have f0 := blk_free hB2.b 0
 have f1 := blk_free hB2.b 1
 have hne := hB2.ne
 have hne' : pb ≠ w.heap.size := fun e => hB2.ne e.symm
 have HB2 : Hid _ := hB2
 have HI2 : Hid _ := hin2
 have HF2 : Hid _ := hF2
 clear hfr2 hin2 hB2 hF2 y1 y2 y3 HB1 HF1 hx
 cases hfl : P.fl with
 | some q =>
  rw [hfl] at p3 p4
  simp only [Option.isSome_some, Option.getD_some] at p3 p4
  have HFL : Hid _ := hfl
  clear hfl
  go_wp2
  go_region
  all_goals
   go_wp2
   obtain ⟨a1, a2, a3⟩ := HB2.out.set HI2.out 0 (.slice none 0 0)
   obtain ⟨b1, b2, b3⟩ := a3.set a2 1 (.slice none 0 0)
   have hdr : Below ((w2.setCell ⟨w.heap.size, 0, none⟩ (.slice none 0 0)).setCell ⟨w.heap.size, 1, none⟩ (.slice none 0 0)).heap.size ((w2.setCell ⟨w.heap.size, 0, none⟩ (.slice none 0 0)).setCell ⟨w.heap.size, 1, none⟩ (.slice none 0 0)) ((w2.setCell ⟨w.heap.size, 0, none⟩ (.slice none 0 0)).setCell ⟨w.heap.size, 1, none⟩ (.slice none 0 0)).drew := ⟨rfl, rfl, rfl, Nat.le_refl _, fun _ _ => rfl⟩
   have hF := ((((HF2.out.nb (nb := w.heap.size)).trans a1).trans b1).trans (PFr.below pb w.heap.size sv1 nv1 ov1 hdr)).drop rfl
   refine bodyPost_ret (v := .tuple #[.agg #[.slice none 0 0, .slice none 0 0], .int .i64 q, .bool false]) (by simp [results, Tryz.results91, go_sem, r0, r1]) rfl ⟨sv1, nv1, ov1, hF, b2.below hdr, Or.inl ⟨q, HFL.out, rfl⟩⟩
 | none =>
  rw [hfl] at p3 p4
  simp only [Option.isSome_none, Option.getD_none] at p3 p4
  have HFL : Hid _ := hfl
  clear hfl
  obtain ⟨x6, n6, c6, e6⟩ : ∃ a n c, nv1 = .slice a n c := by
   rcases HI2.out.nd.2 with ⟨h1, _⟩ | ⟨g, cap, cur, h1, _⟩
   ·exact ⟨_, _, _, h1⟩
   ·exact ⟨_, _, _, h1⟩
  obtain ⟨x7, n7, c7, e7⟩ : ∃ a n c, ov1 = .slice a n c := by
   rcases HI2.out.op.2 with ⟨h1, _⟩ | ⟨g, cap, cur, h1, _⟩
   ·exact ⟨_, _, _, h1⟩
   ·exact ⟨_, _, _, h1⟩
  subst e6
  subst e7
  obtain ⟨a1, a2, a3⟩ := HB2.out.set HI2.out 0 (.slice x6 n6 c6)
  obtain ⟨b1, b2, b3⟩ := a3.set a2 1 (.slice x7 n7 c7)
  have hF := (((HF2.out.nb (nb := w.heap.size)).trans a1).trans b1).drop rfl
  have HF3 : Hid _ := hF
  have HI3 : Hid _ := b2
  clear a1 a2 a3 b1 b2 b3 hF
  go_wp2
  refine bodyPost_ret (v := .tuple #[.agg #[.slice x6 n6 c6, .slice x7 n7 c7], .int .i64 0, .bool true]) (by simp [results, Tryz.results91, go_sem, r0, r1]) rfl ⟨sv1, _, _, HF3.out, HI3.out, Or.inr ⟨HFL.out, rfl⟩⟩
theorem tksAt_zero (s : ByteArray) : tksAt s.data.toList 0 = tokens s.data.toList := by unfold tksAt tokens; simp
theorem tokens_len (s : ByteArray) (hs : s.size ≤ 9000) : (tokens s.data.toList).length ≤ 9000 := by
 have := toks_len s.data.toList.length 0 s.data.toList
 unfold tokens
 rw [size_list] at this ⊢
 omega
structure TreeIn (w : World) (nv ov : Value) (ns : List NR) (op : List Int) : Prop where
 nd : w.ownsRow 0 160 10 nv ns.length (ns.flatMap nrL)
 op : w.ownsRow 0 3 1 ov op.length (op.map intV)
theorem TreeIn.below {w w' : World} {nv ov : Value} {ns : List NR} {op : List Int} (h : TreeIn w nv ov ns op) (hb : Below w.heap.size w w') : TreeIn w' nv ov ns op := ⟨owns_below h.nd hb, owns_below h.op hb⟩
theorem parse0 (s : ByteArray) (placed : Bool) (w : World) (R : Obj) : PIn s placed (w.heap.size + 1) ((w.alloc R).alloc (.cells (psCells s placed 0 false 0 (.slice none 0 0) (.slice none 0 0) (.slice none 0 0)) 150)) (.slice none 0 0) (.slice none 0 0) (.slice none 0 0) (ps0 (tokens s.data.toList)) := by
 refine ⟨⟨0, Nat.zero_le _, tksAt_zero s, ?_⟩, World.ownsRow_nil _ _ _ _, World.ownsRow_nil _ _ _ _, World.ownsRow_nil _ _ _ _, by simp [Value.ownBlock], by simp [Value.ownBlock], by simp [Value.ownBlock], fun g hg => by simp [Value.ownBlock] at hg, fun g hg => by simp [Value.ownBlock] at hg, fun g hg => by simp [Value.ownBlock] at hg⟩
 have h := blk_new (w.alloc R) (.cells (psCells s placed 0 false 0 (.slice none 0 0) (.slice none 0 0) (.slice none 0 0)) 150)
 have e : (w.alloc R).heap.size = w.heap.size + 1 := by simp
 rw [e] at h
 exact h
def ParseAns (s : ByteArray) (placed : Bool) (w : World) (v : Ending) (w' : World) : Prop :=
 Below w.heap.size w w' ∧
 ((∃ q : Nat, (pProg placed s.size (tokens s.data.toList)).fl = some q ∧ v = .returned (.tuple #[treeV (.slice none 0 0) (.slice none 0 0), .int .i64 q, .bool false])) ∨
  ((pProg placed s.size (tokens s.data.toList)).fl = none ∧ ∃ nv ov, v = .returned (.tuple #[treeV nv ov, .int .i64 0, .bool true]) ∧ TreeIn w' nv ov (pProg placed s.size (tokens s.data.toList)).nodes (pProg placed s.size (tokens s.data.toList)).opened))
theorem PFr.toBelow {w w' : World} {A B : Obj} {sv' nv' ov' : Value} (h : PFr (w.heap.size + 1) (w.heap.size + 1) ((w.alloc A).alloc B) w' (.slice none 0 0) (.slice none 0 0) (.slice none 0 0) sv' nv' ov') : Below w.heap.size w w' ∧ w'.heap[w.heap.size]? = some A ∧ w.heap.size + 2 ≤ w'.heap.size := by
 have e : ((w.alloc A).alloc B).heap.size = w.heap.size + 2 := by simp
 have hs := h.size
 rw [e] at hs
 have hb : Below w.heap.size w ((w.alloc A).alloc B) := ((Below.refl _ w).alloc (Nat.le_refl _) A).alloc (by simp) B
 refine ⟨⟨h.os.trans hb.os, h.tape.trans hb.tape, h.output.trans hb.output, by omega, fun k hk => ?_⟩, ?_, hs⟩
 ·rw [h.blk k (by omega) (by omega) (by omega) (by simp [Value.ownBlock]) (by simp [Value.ownBlock]) (by simp [Value.ownBlock])]
  exact hb.block k hk
 ·rw [h.blk w.heap.size (by omega) (by omega) (by omega) (by simp [Value.ownBlock]) (by simp [Value.ownBlock]) (by simp [Value.ownBlock])]
  exact blk_alloc _ (blk_new w A)
set_option maxRecDepth 100000 in
set_option maxHeartbeats 8000000 in
theorem ParsePlain_any (s : ByteArray) (w : World) (hs : s.size ≤ 9000) : Calls Tryz.prog 57 #[.string s] w fun v w' => ParseAns s false w v w' := by
 have hpr := program_any s false (w.heap.size + 1) hs _ _ _ _ _ (tokens_len s hs) (parse0 s false w (.cells #[.slice none 0 0, .slice none 0 0] 59))
 unfold ptr psCells at hpr
 unfold ParseAns
 generalize pProg false s.size (tokens s.data.toList) = P at *
 go_enter Tryz.func57, Tryz.ntmps57
 go_wp2_with fail
 refine hpr.mono ?_
 rintro v w1 ⟨sv1, nv1, ov1, hfr, hin, hv⟩
 obtain ⟨hb, hr, hsz⟩ := hfr.toBelow
 have r0 : w1.cell? ⟨w.heap.size, 0, none⟩ = some (.slice none 0 0) := by rw [blk_cell hr]; rfl
 have r1 : w1.cell? ⟨w.heap.size, 1, none⟩ = some (.slice none 0 0) := by rw [blk_cell hr]; rfl
 have f0 := blk_free hr 0
 have f1 := blk_free hr 1
 have HB : Hid _ := hb
 rcases hv with ⟨q, hfl, rfl⟩ | ⟨hfl, rfl⟩
 ·have HFL : Hid _ := hfl
  unfold treeV
  clear hfl hfr hin hb hr hpr
  go_wp2
  refine bodyPost_ret (v := .tuple #[.agg #[.slice none 0 0, .slice none 0 0], .int .i64 q, .bool false]) (by simp [results, Tryz.results57, go_sem, r0, r1]) rfl ⟨?_, Or.inl ⟨q, HFL.out, rfl⟩⟩
  exact (HB.out.setCell (p := ⟨w.heap.size, 0, none⟩) (Nat.le_refl _) _).setCell (p := ⟨w.heap.size, 1, none⟩) (Nat.le_refl _) _
 ·have HFL : Hid _ := hfl
  obtain ⟨x6, n6, c6, e6⟩ : ∃ a n c, nv1 = .slice a n c := by
   rcases hin.nd.2 with ⟨h1, _⟩ | ⟨g, cap, cur, h1, _⟩
   ·exact ⟨_, _, _, h1⟩
   ·exact ⟨_, _, _, h1⟩
  obtain ⟨x7, n7, c7, e7⟩ : ∃ a n c, ov1 = .slice a n c := by
   rcases hin.op.2 with ⟨h1, _⟩ | ⟨g, cap, cur, h1, _⟩
   ·exact ⟨_, _, _, h1⟩
   ·exact ⟨_, _, _, h1⟩
  have hrn : ∀ k, nv1.ownBlock = some k → k ≠ w.heap.size := fun k hk => by
   rcases hfr.n k hk with e | e
   ·simp [Value.ownBlock] at e
   ·simp at e; omega
  have hro : ∀ k, ov1.ownBlock = some k → k ≠ w.heap.size := fun k hk => by
   rcases hfr.o k hk with e | e
   ·simp [Value.ownBlock] at e
   ·simp at e; omega
  subst e6
  subst e7
  have HT : Hid (TreeIn ((w1.setCell ⟨w.heap.size, 0, none⟩ (.slice x6 n6 c6)).setCell ⟨w.heap.size, 1, none⟩ (.slice x7 n7 c7)) (.slice x6 n6 c6) (.slice x7 n7 c7) P.nodes P.opened) := by
   refine ⟨owns_blk hin.nd (fun k hk => ?_), owns_blk hin.op (fun k hk => ?_)⟩
   ·rw [blk_other _ _ (by simpa using hrn k hk), blk_other _ _ (by simpa using hrn k hk)]
   ·rw [blk_other _ _ (by simpa using hro k hk), blk_other _ _ (by simpa using hro k hk)]
  unfold treeV
  clear hfl hfr hin hb hr hpr hrn hro
  go_wp2
  refine bodyPost_ret (v := .tuple #[.agg #[.slice x6 n6 c6, .slice x7 n7 c7], .int .i64 0, .bool true]) (by simp [results, Tryz.results57, go_sem, r0, r1]) rfl ⟨?_, Or.inr ⟨HFL.out, _, _, rfl, HT.out⟩⟩
  exact (HB.out.setCell (p := ⟨w.heap.size, 0, none⟩) (Nat.le_refl _) _).setCell (p := ⟨w.heap.size, 1, none⟩) (Nat.le_refl _) _
theorem nrL_len (n : NR) : (nrL n).length = 10 := rfl
theorem flat10 : ∀ (l : List NR) (i j : Nat), j < 10 → (l.flatMap nrL)[i * 10 + j]? = (l[i]?).bind (fun n => (nrL n)[j]?)
 | [], i, j, _ => by simp
 | x :: l, 0, j, hj => by
  rw [List.flatMap_cons, List.getElem?_append_left (by rw [nrL_len]; omega)]
  simp
 | x :: l, i + 1, j, hj => by
  have := flat10 l i j hj
  rw [List.flatMap_cons, show (i + 1) * 10 + j = (nrL x).length + (i * 10 + j) from by rw [nrL_len]; omega, List.getElem?_append_right (by omega), Nat.add_sub_cancel_left]
  simpa using this
theorem slice_of {w : World} {base : Nat} {e : TypeId} {size : Nat} {v : Value} {n : Nat} {xs : List Value} (h : w.ownsRow base e size v n xs) (hn : 0 < n) : ∃ g cap, v = .slice (some ⟨g, 0, none⟩) n cap := by
 rcases h.2 with ⟨_, h2⟩ | ⟨g, cap, cur, h1, _⟩
 ·omega
 ·exact ⟨_, _, h1⟩
theorem slice_any {w : World} {base : Nat} {e : TypeId} {size : Nat} {v : Value} {n : Nat} {xs : List Value} (h : w.ownsRow base e size v n xs) : ∃ a cap, v = .slice a n cap := by
 rcases h.2 with ⟨h1, h2⟩ | ⟨g, cap, cur, h1, _⟩
 ·exact ⟨none, 0, by rw [h1, h2]⟩
 ·exact ⟨_, _, h1⟩
set_option maxRecDepth 100000 in
set_option maxHeartbeats 2000000 in
theorem Len_any (w : World) (nv ov : Value) (ns : List NR) (op : List Int) (h : TreeIn w nv ov ns op) : Calls Tryz.prog 93 #[treeV nv ov] w fun v w' => v = .returned (.int .i64 ns.length) ∧ Below w.heap.size w w' := by
 obtain ⟨a, cap, rfl⟩ := slice_any h.nd
 obtain ⟨a', cap', rfl⟩ := slice_any h.op
 clear h
 unfold treeV
 go_enter Tryz.func93, Tryz.ntmps93
 go_wp2
 go_ret
 exact ⟨rfl, (Below.refl _ _).alloc (Nat.le_refl _) _⟩
theorem node_cells {w : World} {ns : List NR} {g cap : Nat} (h : w.ownsRow 0 160 10 (.slice (some ⟨g, 0, none⟩) ns.length cap) ns.length (ns.flatMap nrL)) (k : Nat) (hk : k < ns.length) :
  w.cell? ⟨g, k * 10, none⟩ = some (.int .i64 ns[k].form) ∧ w.cell? ⟨g, k * 10 + 1, none⟩ = some (.int .i64 ns[k].at_) ∧ w.cell? ⟨g, k * 10 + 2, none⟩ = some (.int .i64 ns[k].beh) ∧ w.cell? ⟨g, k * 10 + 3, none⟩ = some (.int .i64 ns[k].num) ∧ w.cell? ⟨g, k * 10 + 4, none⟩ = some (.string (bs ns[k].word)) ∧
  w.cell? ⟨g, k * 10 + 5, none⟩ = some (.int .i64 ns[k].region) ∧ w.cell? ⟨g, k * 10 + 6, none⟩ = some (.int .i64 ns[k].source) ∧ w.cell? ⟨g, k * 10 + 7, none⟩ = some (.int .i64 ns[k].p0) ∧ w.cell? ⟨g, k * 10 + 8, none⟩ = some (.int .i64 ns[k].p1) ∧ w.cell? ⟨g, k * 10 + 9, none⟩ = some (.int .i64 ns[k].p2) := by
 have key : ∀ j, j < 10 → w.cell? ⟨g, k * 10 + j, none⟩ = (nrL ns[k])[j]? := by
  intro j hj
  rw [h.cellAt (k * 10 + j) (by omega), flat10 ns k j hj, List.getElem?_eq_getElem hk]; rfl
 exact ⟨key 0 (by omega), key 1 (by omega), key 2 (by omega), key 3 (by omega), key 4 (by omega), key 5 (by omega), key 6 (by omega), key 7 (by omega), key 8 (by omega), key 9 (by omega)⟩
set_option maxRecDepth 100000 in
set_option maxHeartbeats 2000000 in
theorem Node_in (w : World) (nv ov : Value) (ns : List NR) (op : List Int) (h : TreeIn w nv ov ns op) (k : Nat) (hk : k < ns.length) (hl : ns.length ≤ 9000) : Calls Tryz.prog 94 #[treeV nv ov, .int .i64 k] w fun v w' => v = .returned (nrVal ns[k]) ∧ Below w.heap.size w w' := by
 obtain ⟨g, cap, rfl⟩ := slice_of h.nd (by omega)
 obtain ⟨a', cap', rfl⟩ := slice_any h.op
 obtain ⟨c0, c1, c2, c3, c4, c5, c6, c7, c8, c9⟩ := node_cells h.nd k hk
 have hg : g < w.heap.size := (h.nd.lt g rfl).2
 generalize ns[k] = n at *
 generalize ns.length = m at *
 clear h
 unfold treeV nrVal
 go_enter Tryz.func94, Tryz.ntmps94
 go_wp2
 refine bodyPost_ret (v := .agg #[.int .i64 n.form, .int .i64 n.at_, .int .i64 n.beh, .int .i64 n.num, .string (bs n.word), .int .i64 n.region, .int .i64 n.source, .int .i64 n.p0, .int .i64 n.p1, .int .i64 n.p2]) (by simp [results, Tryz.results94, go_sem]) rfl ⟨rfl, ((Below.refl _ _).alloc (Nat.le_refl _) _).alloc (by simp) _⟩
theorem below2d {w w2 : World} {A B : Obj} (hb : Below ((w.alloc A).alloc B).drew.heap.size ((w.alloc A).alloc B).drew w2) : Below w.heap.size w w2 := by
 have h1 : Below w.heap.size w ((w.alloc A).alloc B).drew := (((Below.refl _ w).alloc (Nat.le_refl _) A).alloc (by simp) B).trans ⟨rfl, rfl, rfl, Nat.le_refl _, fun _ _ => rfl⟩
 exact h1.trans (hb.mono (by show w.heap.size ≤ ((w.alloc A).alloc B).heap.size; simp; omega))
theorem open_cell {w : World} {op : List Int} {g cap : Nat} (h : w.ownsRow 0 3 1 (.slice (some ⟨g, 0, none⟩) op.length cap) op.length (op.map intV)) (k : Nat) (hk : k < op.length) : w.cell? ⟨g, k, none⟩ = some (.int .i64 op[k]) := by
 rw [h.cellAt k (by omega), List.getElem?_map, List.getElem?_eq_getElem hk]; rfl
set_option maxRecDepth 100000 in
set_option maxHeartbeats 4000000 in
theorem Opened_in (w : World) (nv ov : Value) (ns : List NR) (op : List Int) (h : TreeIn w nv ov ns op) (k i : Nat) (hk : k < op.length) (hi : i < ns.length) (hki : op[k] = (i : Int)) (hl : ns.length ≤ 9000) (hl2 : op.length ≤ 60000) : Calls Tryz.prog 120 #[treeV nv ov, .int .i64 k] w fun v w' => v = .returned (nrVal ns[i]) ∧ Below w.heap.size w w' := by
 have hno := fun (w' : World) (hb : Below w.heap.size w w') => Node_in w' nv ov ns op (h.below hb) i hi hl
 obtain ⟨g0, cap0, rfl⟩ := slice_of h.nd (by omega)
 obtain ⟨g, cap, rfl⟩ := slice_of h.op (by omega)
 have c0 := open_cell h.op k hk
 rw [hki] at c0
 have hg : g < w.heap.size := (h.op.lt g rfl).2
 clear h hki
 generalize ns[i] = n at *
 generalize ns.length = m at *
 generalize op.length = m2 at *
 unfold treeV nrVal at hno
 unfold treeV nrVal
 have HNO : Hid _ := hno
 clear hno
 go_enter Tryz.func120, Tryz.ntmps120
 go_wp2
 go_region_with (go_at_call 94; refine (HNO.out _ ?_).mono ?_; exact (((Below.refl _ w).alloc (Nat.le_refl _) _).alloc (by simp) _).trans ⟨rfl, rfl, rfl, Nat.le_refl _, fun _ _ => rfl⟩; rintro e w2 ⟨rfl, hb2⟩; (have hqn := alloc2_kept hb2; obtain ⟨c0, c1, c2, c3, c4, c5, c6, c7, c8, c9⟩ := cells10 hqn; obtain ⟨f0, f1, f2, f3, f4, f5, f6, f7, f8, f9⟩ := free10 hqn))
 all_goals go_wp2
 all_goals
  have hB := below2d hb2
  refine bodyPost_ret (v := .agg #[.int .i64 n.form, .int .i64 n.at_, .int .i64 n.beh, .int .i64 n.num, .string (bs n.word), .int .i64 n.region, .int .i64 n.source, .int .i64 n.p0, .int .i64 n.p1, .int .i64 n.p2]) (by simp [results, Tryz.results120, go_sem, c0, c1, c2, c3, c4, c5, c6, c7, c8, c9]) rfl ⟨rfl, ((((((((((hB.setCell (p := ⟨w.heap.size + 1, 0, none⟩) (by simp) _).setCell (p := ⟨w.heap.size + 1, 1, none⟩) (by simp) _).setCell (p := ⟨w.heap.size + 1, 2, none⟩) (by simp) _).setCell (p := ⟨w.heap.size + 1, 3, none⟩) (by simp) _).setCell (p := ⟨w.heap.size + 1, 4, none⟩) (by simp) _).setCell (p := ⟨w.heap.size + 1, 5, none⟩) (by simp) _).setCell (p := ⟨w.heap.size + 1, 6, none⟩) (by simp) _).setCell (p := ⟨w.heap.size + 1, 7, none⟩) (by simp) _).setCell (p := ⟨w.heap.size + 1, 8, none⟩) (by simp) _).setCell (p := ⟨w.heap.size + 1, 9, none⟩) (by simp) _)⟩
theorem Node_in' (w : World) (nv ov : Value) (ns : List NR) (op : List Int) (h : TreeIn w nv ov ns op) (k : Nat) (n : NR) (hk : ns[k]? = some n) (hl : ns.length ≤ 9000) : Calls Tryz.prog 94 #[treeV nv ov, .int .i64 k] w fun v w' => v = .returned (nrVal n) ∧ Below w.heap.size w w' := by
 obtain ⟨h1, h2⟩ := List.getElem?_eq_some_iff.1 hk
 rw [← h2]; exact Node_in w nv ov ns op h k h1 hl
theorem Opened_in' (w : World) (nv ov : Value) (ns : List NR) (op : List Int) (h : TreeIn w nv ov ns op) (k i : Nat) (n : NR) (hk : op[k]? = some (i : Int)) (hi : ns[i]? = some n) (hl : ns.length ≤ 9000) (hl2 : op.length ≤ 60000) : Calls Tryz.prog 120 #[treeV nv ov, .int .i64 k] w fun v w' => v = .returned (nrVal n) ∧ Below w.heap.size w w' := by
 obtain ⟨h1, h2⟩ := List.getElem?_eq_some_iff.1 hk
 obtain ⟨h3, h4⟩ := List.getElem?_eq_some_iff.1 hi
 rw [← h4]; exact Opened_in w nv ov ns op h k i h1 h3 h2 hl hl2
def OpOk (ns : List NR) (op : List Int) : Prop := op.length = ns.length ∧ ∀ x ∈ op, 0 ≤ x ∧ x.toNat < ns.length
def manyAns (ns : List NR) (op : List Int) : Nat × Nat := if 100 < (op.filterMap (pairAt ns)).length then (3, ((op.filterMap (pairAt ns))[100]?).getD 0) else (0, 0)
theorem box_cells {w W : World} {a b : Value} {t : TypeId} (h : Below (w.alloc (.cells #[a, b] t)).heap.size (w.alloc (.cells #[a, b] t)) W) : W.cell? ⟨w.heap.size, 0, none⟩ = some a ∧ W.cell? ⟨w.heap.size, 1, none⟩ = some b ∧ w.heap.size < W.heap.size := by
 have hb : W.heap[w.heap.size]? = some (.cells #[a, b] t (0, 0)) := by rw [h.block _ (by simp)]; exact blk_new _ _
 exact ⟨by rw [blk_cell hb]; rfl, by rw [blk_cell hb]; rfl, blk_lt hb⟩
set_option maxRecDepth 100000 in
set_option maxHeartbeats 4000000 in
theorem manyPairs_any (w : World) (nv ov : Value) (ns : List NR) (op : List Int) (h : TreeIn w nv ov ns op) (ho : OpOk ns op) (hl : ns.length ≤ 9000) :
  Calls Tryz.prog 92 #[treeV nv ov] w fun v w' => v = .returned (.tuple #[.int .i64 (manyAns ns op).1, .int .i64 (manyAns ns op).2]) ∧ Below w.heap.size w w' := by
 have hlen := fun (w' : World) (hb : Below w.heap.size w w') => Len_any w' nv ov ns op (h.below hb)
 have hopn := fun (w' : World) (hb : Below w.heap.size w w') (k i : Nat) (n : NR) (hk : op[k]? = some (i : Int)) (hi : ns[i]? = some n) => Opened_in' w' nv ov ns op (h.below hb) k i n hk hi hl (by rw [ho.1]; omega)
 obtain ⟨a0, cap0, e0⟩ := slice_any h.nd
 obtain ⟨a1, cap1, e1⟩ := slice_any h.op
 rw [ho.1] at e1
 obtain ⟨m, hm⟩ : ∃ m, m = ns.length := ⟨_, rfl⟩
 rw [← hm] at e0 e1 hl
 subst e0
 subst e1
 have HO : Hid _ := ho
 have HM : Hid _ := hm
 unfold treeV at hlen hopn
 unfold treeV
 unfold nrVal at hopn
 rw [← hm] at hlen
 have HLEN : Hid _ := hlen
 have HOPN : Hid _ := hopn
 obtain ⟨ans, hans⟩ : ∃ ans, ans = manyAns ns op := ⟨_, rfl⟩
 rw [← hans]
 have HANS : Hid _ := hans
 clear hlen hopn ho h hm hans
 have hBx : Below w.heap.size w (w.alloc (.cells #[.slice a0 m cap0, .slice a1 m cap1] 59)) := (Below.refl _ w).alloc (Nat.le_refl _) _
 have HBX : Hid _ := hBx
 clear hBx
 go_enter Tryz.func92, Tryz.ntmps92
 go_wp2
 go_loopw [4, 5, 6] (fun c i _ wr => ∃ k p : Nat, k ≤ m ∧ i = .int .i64 k ∧ c = .int .i64 p ∧ p ≤ 100 ∧ Hid (p = ((op.take k).filterMap (pairAt ns)).length) ∧ Below (w.alloc (.cells #[.slice a0 m cap0, .slice a1 m cap1] 59)).heap.size (w.alloc (.cells #[.slice a0 m cap0, .slice a1 m cap1] 59)) wr) (fun _ i _ _ => m - (intOf i).toNat)
 case atStart => exact ⟨0, 0, by omega, rfl, rfl, by omega, (by simp : (0 : Nat) = ((op.take 0).filterMap (pairAt ns)).length), Below.refl _ _⟩
 case round =>
  obtain ⟨k, p, hk, rfl, rfl, hp, HP, hbr⟩ := hrel
  obtain ⟨b0, b1, bl⟩ := box_cells hbr
  have hbw : Below w.heap.size w wr := HBX.out.trans (hbr.mono (by simp))
  have hln := HLEN.out wr hbw
  have hws := hbw.size
  have hbrs := hbr.size
  by_cases hlt : k < m
  ·have hkl : k < op.length := by have := HO.out.1; have := HM.out; omega
   obtain ⟨x0, x1⟩ := HO.out.2 op[k] (List.getElem_mem hkl)
   obtain ⟨i, hi⟩ : ∃ i : Nat, op[k] = (i : Int) := ⟨op[k].toNat, by omega⟩
   have hil : i < ns.length := by omega
   obtain ⟨n, hn⟩ : ∃ n, ns[i]? = some n := ⟨ns[i], List.getElem?_eq_getElem hil⟩
   have hopk : op[k]? = some (i : Int) := by rw [List.getElem?_eq_getElem hkl, hi]
   have hpa : pairAt ns (i : Int) = if n.form = 4 then some n.at_ else none := by unfold pairAt; rw [Int.toNat_natCast, hn]
   have htk : (op.take (k + 1)).filterMap (pairAt ns) = (op.take k).filterMap (pairAt ns) ++ (pairAt ns (i : Int)).toList := by
    rw [List.take_succ_eq_append_getElem hkl, List.filterMap_append, hi]
    cases hc : pairAt ns (i : Int) <;> simp [hc]
   rw [hpa] at htk
   have HTK : Hid _ := htk
   have HN : Hid _ := hn
   have HOPK : Hid _ := hopk
   clear x0 x1 hi hil hn hopk hpa htk hkl
   go_wp2_with fail
   refine hln.mono ?_
   rintro _ w1 ⟨rfl, hb1⟩
   have hbr1 := hbr.trans (hb1.mono hbrs)
   obtain ⟨d0, d1, dl⟩ := box_cells hbr1
   have hopn := HOPN.out w1 (HBX.out.trans (hbr1.mono (by simp))) k i n HOPK.out HN.out
   have HBR1 : Hid _ := hbr1
   clear hbr1 hb1 hln b0 b1 hbr
   go_wp2_with fail
   refine hopn.mono ?_
   rintro _ w2 ⟨rfl, hb2⟩
   have hbr2 := HBR1.out.trans (hb2.mono HBR1.out.size)
   have HBR2 : Hid _ := hbr2.alloc hbr2.size (nrO n)
   clear hbr2 hb2 hopn HBR1 d0 d1
   unfold nrO nrC at HBR2
   by_cases h4 : n.form = 4
   ·have q4 : ((n.form : Int) == 4) = true := ibeq_true (b := 4) h4
    have htk := HTK.out
    rw [if_pos h4] at htk
    have HTK2 : Hid _ := htk
    clear htk HTK h4
    by_cases hpp : p < 100
    ·go_wp2
     go_roundw
     case rel => exact ⟨k + 1, p + 1, by omega, by go_num, by go_num, by omega, (by rw [HTK2.out, List.length_append, ← HP.out]; rfl : p + 1 = ((op.take (k + 1)).filterMap (pairAt ns)).length), HBR2.out⟩
     case measure => simp [intOf]; omega
    ·have hp100 : p = 100 := by omega
     have HA : Hid (ans = (3, n.at_)) := by
      have e : op.filterMap (pairAt ns) = ((op.take k).filterMap (pairAt ns) ++ [n.at_]) ++ (op.drop (k + 1)).filterMap (pairAt ns) := by
       have h1 := List.take_append_drop (k + 1) op
       conv => lhs; rw [← h1]
       rw [List.filterMap_append, HTK2.out]; rfl
      have hlen : ((op.take k).filterMap (pairAt ns)).length = 100 := by rw [← HP.out]; exact hp100
      have h100 : (op.filterMap (pairAt ns))[100]? = some n.at_ := by
       rw [e, List.getElem?_append_left (by simp [hlen]), List.getElem?_append_right (by omega), hlen]; rfl
      have hbig : 100 < (op.filterMap (pairAt ns)).length := (List.getElem?_eq_some_iff.1 h100).1
      rw [HANS.out]; unfold manyAns; rw [if_pos hbig, h100]; exact rfl
     clear hp100
     go_wp2
     go_quiet (fail)
     go_wp2
     refine bodyPost_ret (v := .tuple #[.int .i64 3, .int .i64 n.at_]) (by simp [results, Tryz.results92, go_sem]) rfl ⟨by rw [HA.out]; rfl, ?_⟩
     exact (HBX.out.trans (HBR2.out.mono (by simp))).trans ⟨rfl, rfl, rfl, Nat.le_refl _, fun _ _ => rfl⟩
   ·have q4 : ((n.form : Int) == 4) = false := ibeq_false (b := 4) h4
    have htk := HTK.out
    rw [if_neg h4] at htk
    have HTK2 : Hid _ := htk
    clear htk HTK h4
    go_wp2
    go_roundw
    case rel => exact ⟨k + 1, p, by omega, by go_num, rfl, by omega, (by rw [HTK2.out, Option.toList_none, List.append_nil]; exact HP.out : p = ((op.take (k + 1)).filterMap (pairAt ns)).length), HBR2.out⟩
    case measure => simp [intOf]; omega
  ·have HA : Hid (ans = (0, 0)) := by
    have hkm : op.take k = op := List.take_of_length_le (by have := HO.out.1; have := HM.out; omega)
    have h1 := HP.out
    rw [hkm] at h1
    rw [HANS.out]; unfold manyAns; rw [if_neg (by omega)]; exact rfl
   have HBR : Hid _ := hbr
   clear hbr
   go_wp2_with fail
   refine hln.mono ?_
   rintro _ w1 ⟨rfl, hb1⟩
   have HB1 : Hid _ := HBX.out.trans ((HBR.out.trans (hb1.mono hbrs)).mono (by simp))
   clear hb1 hln
   go_wp2
   refine bodyPost_ret (v := .tuple #[.int .i64 0, .int .i64 0]) (by simp [results, Tryz.results92, go_sem]) rfl ⟨by rw [HA.out]; rfl, HB1.out⟩
structure TP where
 r : Nat
 a : Nat
 b : Nat
 sz : Nat
 deriving DecidableEq
def tpL (p : TP) : List Value := [.int .i64 p.r, .int .i64 p.a, .int .i64 p.b, .int .i64 p.sz]
def tpVal (p : TP) : Value := .agg #[.int .i64 p.r, .int .i64 p.a, .int .i64 p.b, .int .i64 p.sz]
def atP (tb : List TP) (k : Nat) : TP := if k = 0 then ⟨0, 0, 0, 0⟩ else (tb[k - 1]?).getD ⟨0, 0, 0, 0⟩
theorem flat4 : ∀ (l : List TP) (i j : Nat), j < 4 → (l.flatMap tpL)[i * 4 + j]? = (l[i]?).bind (fun n => (tpL n)[j]?)
 | [], i, j, _ => by simp
 | x :: l, 0, j, hj => by
  rw [List.flatMap_cons, List.getElem?_append_left (by show 0 * 4 + j < 4; omega)]
  simp
 | x :: l, i + 1, j, hj => by
  have := flat4 l i j hj
  rw [List.flatMap_cons, show (i + 1) * 4 + j = (tpL x).length + (i * 4 + j) from by show _ = 4 + _; omega, List.getElem?_append_right (by omega), Nat.add_sub_cancel_left]
  simpa using this
theorem tp_cells {w : World} {tb : List TP} {g cap : Nat} (h : w.ownsRow 0 212 4 (.slice (some ⟨g, 0, none⟩) tb.length cap) tb.length (tb.flatMap tpL)) (k : Nat) (p : TP) (hk : tb[k]? = some p) :
  w.cell? ⟨g, k * 4, none⟩ = some (.int .i64 p.r) ∧ w.cell? ⟨g, k * 4 + 1, none⟩ = some (.int .i64 p.a) ∧ w.cell? ⟨g, k * 4 + 2, none⟩ = some (.int .i64 p.b) ∧ w.cell? ⟨g, k * 4 + 3, none⟩ = some (.int .i64 p.sz) := by
 have hkl := (List.getElem?_eq_some_iff.1 hk).1
 have key : ∀ j, j < 4 → w.cell? ⟨g, k * 4 + j, none⟩ = (tpL p)[j]? := by
  intro j hj
  rw [h.cellAt (k * 4 + j) (by omega), flat4 tb k j hj, hk]; rfl
 exact ⟨key 0 (by omega), key 1 (by omega), key 2 (by omega), key 3 (by omega)⟩
set_option maxRecDepth 100000 in
set_option maxHeartbeats 4000000 in
theorem AtO_any (w : World) (cb o : Nat) (pv : Value) (tb : List TP) (k : Nat) (hc : w.cell? ⟨cb, o, none⟩ = some pv) (hr : w.ownsRow 0 212 4 pv tb.length (tb.flatMap tpL)) (hl : tb.length ≤ 9000) (hk : k ≤ 10000) :
  Calls Tryz.prog 128 #[.pointer (some ⟨cb, o, none⟩), .int .i64 k] w fun v w' => v = .returned (tpVal (atP tb k)) ∧ Below w.heap.size w w' := by
 have hcb := World.block_lt_of_cell? _ _ hc
 show Calls _ _ #[Value.pointer (some ⟨cb, o, none⟩), _] w _
 by_cases h0 : k = 0 ∨ tb.length < k
 ·have e : atP tb k = ⟨0, 0, 0, 0⟩ := by
   unfold atP
   split
   ·rfl
   ·rw [List.getElem?_eq_none (by omega)]; rfl
  rw [e]
  obtain ⟨a, cap, rfl⟩ := slice_any hr
  generalize tb.length = m at *
  clear hr e
  unfold tpVal
  rcases h0 with h0 | h0
  ·have h0' : k < 1 := by omega
   clear h0
   go_enter Tryz.func128, Tryz.ntmps128
   go_wp2
   refine bodyPost_ret (v := .agg #[.int .i64 0, .int .i64 0, .int .i64 0, .int .i64 0]) (by simp [results, Tryz.results128, go_sem]) rfl ⟨rfl, (Below.refl _ _).alloc (Nat.le_refl _) _⟩
  ·have h1 : 1 ≤ k := by omega
   go_enter Tryz.func128, Tryz.ntmps128
   go_wp2
   refine bodyPost_ret (v := .agg #[.int .i64 0, .int .i64 0, .int .i64 0, .int .i64 0]) (by simp [results, Tryz.results128, go_sem]) rfl ⟨rfl, (Below.refl _ _).alloc (Nat.le_refl _) _⟩
 ·obtain ⟨g, cap, rfl⟩ := slice_of hr (by omega)
  obtain ⟨j, rfl⟩ : ∃ j, k = j + 1 := ⟨k - 1, by omega⟩
  have hj : j < tb.length := by omega
  obtain ⟨p, hp⟩ : ∃ p, tb[j]? = some p := ⟨tb[j], List.getElem?_eq_getElem hj⟩
  have e : atP tb (j + 1) = p := by unfold atP; rw [if_neg (by omega), Nat.add_sub_cancel, hp]; rfl
  rw [e]
  obtain ⟨c0, c1, c2, c3⟩ := tp_cells hr j p hp
  have hg : g < w.heap.size := (hr.lt g rfl).2
  have ej : ((j + 1 : Nat) : Int) = (j : Int) + 1 := by omega
  have ej2 : (j : Int) + 1 - 1 = (j : Int) := by omega
  generalize tb.length = m at *
  clear hr e hp h0
  unfold tpVal
  rw [ej]
  go_enter Tryz.func128, Tryz.ntmps128
  go_wp2
  refine bodyPost_ret (v := .agg #[.int .i64 p.r, .int .i64 p.a, .int .i64 p.b, .int .i64 p.sz]) (by simp [results, Tryz.results128, go_sem]) rfl ⟨rfl, (Below.refl _ _).alloc (Nat.le_refl _) _⟩
theorem At_any (w : World) (cb : Nat) (pv : Value) (tb : List TP) (k : Nat) (hc : w.cell? ⟨cb, 0, none⟩ = some pv) (hr : w.ownsRow 0 212 4 pv tb.length (tb.flatMap tpL)) (hl : tb.length ≤ 9000) (hk : k ≤ 10000) :
  Calls Tryz.prog 128 #[ptr cb, .int .i64 k] w fun v w' => v = .returned (tpVal (atP tb k)) ∧ Below w.heap.size w w' :=
 AtO_any w cb 0 pv tb k hc hr hl hk
structure CIn (cb : Nat) (w : World) (pv tv : Value) (tb : List TP) (K : List Nat) : Prop where
 y : w.heap[cb]? = some (.cells #[pv, tv] 156 (0, 0))
 p : w.ownsRow 0 212 4 pv tb.length (tb.flatMap tpL)
 t : w.ownsRow 0 3 1 tv K.length (K.map fun (k : Nat) => Value.int .i64 k)
 py : pv.ownBlock ≠ some cb
 ty : tv.ownBlock ≠ some cb
 pt : apart pv tv
theorem CIn.below {cb : Nat} {w w' : World} {pv tv : Value} {tb : List TP} {K : List Nat} (h : CIn cb w pv tv tb K) (hb : Below w.heap.size w w') : CIn cb w' pv tv tb K :=
 ⟨by rw [hb.block cb (blk_lt h.y)]; exact h.y, owns_below h.p hb, owns_below h.t hb, h.py, h.ty, h.pt⟩
def knownK (K : List Nat) (i : Int) : Nat := if 0 ≤ i then (K[i.toNat]?).getD 0 else 0
structure CInO (cb o : Nat) (A : Array Value) (T : TypeId) (w : World) (pv tv : Value) (tb : List TP) (K : List Nat) : Prop where
 y : w.heap[cb]? = some (.cells A T (0, 0))
 a : A[o]? = some pv
 b : A[o + 1]? = some tv
 p : w.ownsRow 0 212 4 pv tb.length (tb.flatMap tpL)
 t : w.ownsRow 0 3 1 tv K.length (K.map fun (k : Nat) => Value.int .i64 k)
 py : pv.ownBlock ≠ some cb
 ty : tv.ownBlock ≠ some cb
 pt : apart pv tv
theorem CInO.below {cb o : Nat} {A : Array Value} {T : TypeId} {w w' : World} {pv tv : Value} {tb : List TP} {K : List Nat} (h : CInO cb o A T w pv tv tb K) (hb : Below w.heap.size w w') : CInO cb o A T w' pv tv tb K :=
 ⟨by rw [hb.block cb (blk_lt h.y)]; exact h.y, h.a, h.b, owns_below h.p hb, owns_below h.t hb, h.py, h.ty, h.pt⟩
theorem CInO.c0 {cb o : Nat} {A : Array Value} {T : TypeId} {w : World} {pv tv : Value} {tb : List TP} {K : List Nat} (h : CInO cb o A T w pv tv tb K) : w.cell? ⟨cb, o, none⟩ = some pv := by rw [blk_cell h.y]; exact h.a
theorem CInO.c1 {cb o : Nat} {A : Array Value} {T : TypeId} {w : World} {pv tv : Value} {tb : List TP} {K : List Nat} (h : CInO cb o A T w pv tv tb K) : w.cell? ⟨cb, o + 1, none⟩ = some tv := by rw [blk_cell h.y]; exact h.b
theorem set_self {A : Array Value} {o : Nat} {v : Value} (h : A[o]? = some v) : A.setIfInBounds o v = A := by
 apply Array.ext_getElem?
 intro i
 rw [Array.getElem?_setIfInBounds]
 split
 ·next e => subst e; split; exact h.symm; next hn => rw [Array.getElem?_eq_none (by omega)]
 ·rfl
theorem CInO.self {cb o : Nat} {A : Array Value} {T : TypeId} {w : World} {pv tv : Value} {tb : List TP} {K : List Nat} (h : CInO cb o A T w pv tv tb K) : CInO cb o (A.setIfInBounds o pv) T w pv tv tb K := by rw [set_self h.a]; exact h
theorem CIn.toO {cb : Nat} {w : World} {pv tv : Value} {tb : List TP} {K : List Nat} (h : CIn cb w pv tv tb K) : CInO cb 0 #[pv, tv] 156 w pv tv tb K := ⟨h.y, rfl, rfl, h.p, h.t, h.py, h.ty, h.pt⟩
theorem CInO.toC {cb : Nat} {w : World} {pv tv : Value} {tb : List TP} {K : List Nat} (h : CInO cb 0 #[pv, tv] 156 w pv tv tb K) : CIn cb w pv tv tb K := ⟨h.y, h.p, h.t, h.py, h.ty, h.pt⟩
set_option maxRecDepth 100000 in
set_option maxHeartbeats 4000000 in
theorem knownO_any (w : World) (cb o : Nat) (tv : Value) (K : List Nat) (i : Int) (y1 : w.cell? ⟨cb, o + 1, none⟩ = some tv) (ht : w.ownsRow 0 3 1 tv K.length (K.map fun (k : Nat) => Value.int .i64 k)) (hl : K.length ≤ 9000) (hi : -10 ≤ i ∧ i ≤ 10000) :
  Calls Tryz.prog 127 #[.pointer (some ⟨cb, o, none⟩), .int .i64 i] w fun v w' => v = .returned (.int .i64 (knownK K i)) ∧ w' = w := by
 show Calls _ _ #[Value.pointer (some ⟨cb, o, none⟩), _] w _
 by_cases h0 : i < 0
 ·have e : knownK K i = 0 := by unfold knownK; rw [if_neg (by omega)]
  rw [e]
  obtain ⟨a, cap, rfl⟩ := slice_any ht
  clear ht e
  go_enter Tryz.func127, Tryz.ntmps127
  go_wp2
  go_ret
  exact ⟨rfl, rfl⟩
 ·obtain ⟨j, rfl⟩ : ∃ j : Nat, i = (j : Int) := ⟨i.toNat, by omega⟩
  by_cases hj : j < K.length
  ·obtain ⟨g, cap, rfl⟩ := slice_of ht (by omega)
   have e : knownK K (j : Int) = K[j] := by unfold knownK; rw [if_pos (by omega), Int.toNat_natCast, List.getElem?_eq_getElem hj]; rfl
   rw [e]
   have c : w.cell? ⟨g, j, none⟩ = some (.int .i64 K[j]) := by rw [ht.cellAt j (by omega), List.getElem?_map, List.getElem?_eq_getElem hj]; rfl
   generalize K[j] = x at *
   generalize K.length = m at *
   clear ht e
   go_enter Tryz.func127, Tryz.ntmps127
   go_wp2
   go_ret
   exact ⟨rfl, rfl⟩
  ·have e : knownK K (j : Int) = 0 := by unfold knownK; rw [if_pos (by omega), Int.toNat_natCast, List.getElem?_eq_none (by omega)]; rfl
   rw [e]
   obtain ⟨a, cap, rfl⟩ := slice_any ht
   clear ht e
   go_enter Tryz.func127, Tryz.ntmps127
   go_wp2
   go_ret
   exact ⟨rfl, rfl⟩
theorem known_any (w : World) (cb : Nat) (pv tv : Value) (tb : List TP) (K : List Nat) (i : Int) (h : CIn cb w pv tv tb K) (hl : K.length ≤ 9000) (hi : -10 ≤ i ∧ i ≤ 10000) :
  Calls Tryz.prog 127 #[ptr cb, .int .i64 i] w fun v w' => v = .returned (.int .i64 (knownK K i)) ∧ w' = w :=
 knownO_any w cb 0 tv K i (by rw [blk_cell h.y]; rfl) h.t hl hi
def natVs (E : List Nat) : List Value := E.map fun (k : Nat) => Value.int .i64 k
theorem natVs_at {w : World} {E : List Nat} {g cap base : Nat} (h : w.ownsRow base 3 1 (.slice (some ⟨g, 0, none⟩) E.length cap) E.length (natVs E)) (k : Nat) (hk : k < E.length) : w.cell? ⟨g, k, none⟩ = some (.int .i64 E[k]) := by
 rw [h.cellAt k (by omega)]; unfold natVs; rw [List.getElem?_map, List.getElem?_eq_getElem hk]; rfl
set_option maxRecDepth 100000 in
set_option maxHeartbeats 4000000 in
theorem first_any (w : World) (sb base : Nat) (ev : Value) (E : List Nat) (p : Nat) (hc : w.cell? ⟨sb, 2, none⟩ = some ev) (hr : w.ownsRow base 3 1 ev E.length (natVs E)) (hl : E.length ≤ 9000) (hp : p ≤ 10000) :
  Calls Tryz.prog 106 #[ptr sb, .int .i64 p] w fun v w' => v = .returned (.int .i64 (fst' E p)) ∧ w' = w := by
 have hsb := World.block_lt_of_cell? _ _ hc
 obtain ⟨ans, hans⟩ : ∃ ans, ans = fst' E p := ⟨_, rfl⟩
 rw [← hans]
 have HA : Hid _ := hans
 clear hans
 show Calls _ _ #[Value.pointer (some ⟨sb, 0, none⟩), _] w _
 rcases hr.2 with ⟨hv, hn⟩ | ⟨g, cap, cur, hv, hx⟩
 ·subst hv
  have HE : Hid (ans = p) := (show ans = p by rw [HA.out, fst_step, List.getElem?_eq_none (by omega)])
  clear hr HA
  go_enter Tryz.func106, Tryz.ntmps106
  go_wp2
  go_loopw [1] (fun i wr => i = .int .i64 p ∧ wr = w) (fun _ _ => 0)
  case atStart => exact ⟨rfl, rfl⟩
  case round =>
   obtain ⟨rfl, rfl⟩ := hrel
   go_wp2
   go_ret
   exact ⟨by rw [HE.out]; first | done | rfl, rfl⟩
 ·subst hv
  have hgl : g < w.heap.size := (hr.lt g rfl).2
  have HC : Hid (∀ k (hk : k < E.length), w.cell? ⟨g, k, none⟩ = some (.int .i64 E[k])) := fun k hk => natVs_at hr k hk
  obtain ⟨m, hm⟩ : ∃ m, m = E.length := ⟨_, rfl⟩
  rw [← hm] at hc hl
  have HM : Hid _ := hm
  clear hr hx hm
  go_enter Tryz.func106, Tryz.ntmps106
  go_wp2
  go_loopw [1] (fun i wr => ∃ k : Nat, i = .int .i64 k ∧ k ≤ 10000 ∧ wr = w ∧ Hid (fst' E p = fst' E k)) (fun i _ => (intOf i).toNat)
  case atStart => exact ⟨p, rfl, hp, rfl, (rfl : fst' E p = fst' E p)⟩
  case round =>
   obtain ⟨k, rfl, hk, rfl, HF⟩ := hrel
   by_cases hlt : k < m
   ·have hkl : k < E.length := by have := HM.out; omega
    have c0 := HC.out k hkl
    have hst := fst_step E k
    rw [List.getElem?_eq_getElem hkl] at hst
    simp only at hst
    obtain ⟨x, hx⟩ : ∃ x, x = E[k] := ⟨_, rfl⟩
    rw [← hx] at c0 hst
    clear hx
    by_cases hxk : x < k
    ·have HF2 : Hid (fst' E p = fst' E x) := (show fst' E p = _ by rw [HF.out, hst, if_pos hxk])
     have hz : (x : Int) < (k : Int) := by omega
     clear hst
     go_wp2
     go_roundw
     case rel => exact ⟨x, rfl, by omega, by first | rfl | trivial, HF2.out⟩
     case measure => simp [intOf]; omega
    ·have HE : Hid (ans = k) := (show ans = k by rw [HA.out, HF.out, hst, if_neg hxk])
     have hz : ¬ (x : Int) < (k : Int) := by omega
     clear hst
     go_wp2
     go_ret
     exact ⟨by rw [HE.out]; first | done | rfl, rfl⟩
   ·have HE : Hid (ans = k) := (show ans = k by rw [HA.out, HF.out, fst_step, List.getElem?_eq_none (by have := HM.out; omega)])
    go_wp2
    go_ret
    exact ⟨by rw [HE.out]; first | done | rfl, rfl⟩
def idxF (row : List Nat) (x : Nat) : Int := match row.findIdx? (· == x) with
 | some i => (i : Int)
 | none => -1
theorem idx_drop (row : List Nat) (x k : Nat) (hk : k < row.length) (hf : ∀ i y, i < k → row[i]? = some y → y ≠ x) : (row[k] = x → idxF row x = (k : Int)) := by
 intro e
 unfold idxF
 have : row.findIdx? (· == x) = some k := by
  rw [List.findIdx?_eq_some_iff_getElem]
  refine ⟨hk, by simpa using e, fun j hj => ?_⟩
  have := hf j row[j] hj (List.getElem?_eq_getElem (by omega))
  simpa using this
 rw [this]
theorem idx_none (row : List Nat) (x : Nat) (hf : ∀ i y, i < row.length → row[i]? = some y → y ≠ x) : idxF row x = -1 := by
 unfold idxF
 have : row.findIdx? (· == x) = none := by
  rw [List.findIdx?_eq_none_iff]
  intro y hy
  obtain ⟨i, hi⟩ := List.getElem?_of_mem hy
  have := hf i y (List.getElem?_eq_some_iff.1 hi).1 hi
  simpa using this
 rw [this]
set_option maxRecDepth 100000 in
set_option maxHeartbeats 4000000 in
theorem indexOf_any (w : World) (base : Nat) (ev : Value) (E : List Nat) (x : Nat) (hr : w.ownsRow base 3 1 ev E.length (natVs E)) (hl : E.length ≤ 9000) :
  Calls Tryz.prog 107 #[ev, .int .i64 x] w fun v w' => v = .returned (.int .i64 (idxF E x)) ∧ w' = w := by
 obtain ⟨ans, hans⟩ : ∃ ans, ans = idxF E x := ⟨_, rfl⟩
 rw [← hans]
 have HA : Hid _ := hans
 clear hans
 rcases hr.2 with ⟨hv, hn⟩ | ⟨g, cap, cur, hv, hx⟩
 ·subst hv
  have HE : Hid (ans = -1) := (show ans = -1 by rw [HA.out]; exact idx_none E x (fun i y hi => by omega))
  clear hr HA
  go_enter Tryz.func107, Tryz.ntmps107
  go_wp2
  go_loopw [5] (fun i wr => i = .int .i64 0 ∧ wr = w) (fun _ _ => 0)
  case atStart => exact ⟨rfl, rfl⟩
  case round =>
   obtain ⟨rfl, rfl⟩ := hrel
   go_wp2
   go_ret
   exact ⟨by rw [HE.out]; first | done | rfl, rfl⟩
 ·subst hv
  have hgl : g < w.heap.size := (hr.lt g rfl).2
  have HC : Hid (∀ k (hk : k < E.length), w.cell? ⟨g, k, none⟩ = some (.int .i64 E[k])) := fun k hk => natVs_at hr k hk
  obtain ⟨m, hm⟩ : ∃ m, m = E.length := ⟨_, rfl⟩
  rw [← hm] at hl ⊢
  have HM : Hid _ := hm
  clear hr hx hm
  go_enter Tryz.func107, Tryz.ntmps107
  go_wp2
  go_loopw [5] (fun i wr => ∃ k : Nat, i = .int .i64 k ∧ k ≤ m ∧ wr = w ∧ Hid (∀ i y, i < k → E[i]? = some y → y ≠ x)) (fun i _ => m - (intOf i).toNat)
  case atStart => exact ⟨0, rfl, Nat.zero_le _, rfl, (fun i y h => by omega : ∀ i y, i < 0 → E[i]? = some y → y ≠ x)⟩
  case round =>
   obtain ⟨k, rfl, hk, rfl, HF⟩ := hrel
   by_cases hlt : k < m
   ·have hkl : k < E.length := by have := HM.out; omega
    have c0 := HC.out k hkl
    have hi := idx_drop E x k hkl HF.out
    have hnx : E[k] ≠ x → ∀ i y, i < k + 1 → E[i]? = some y → y ≠ x := by
     intro hne i y hi hy
     by_cases e : i = k
     ·subst e; rw [List.getElem?_eq_getElem hkl] at hy; rw [← Option.some.inj hy]; exact hne
     ·exact HF.out i y (by omega) hy
    obtain ⟨z, hz⟩ : ∃ z, z = E[k] := ⟨_, rfl⟩
    rw [← hz] at c0 hi hnx
    clear hz
    by_cases hzx : z = x
    ·have q : ((z : Int) == (x : Int)) = true := by rw [hzx]; simp
     have HE : Hid (ans = (k : Int)) := (show ans = k by rw [HA.out, hi hzx])
     clear hi hnx hzx
     go_wp2
     go_ret
     exact ⟨by rw [HE.out]; first | done | rfl, rfl⟩
    ·have q : ((z : Int) == (x : Int)) = false := by rw [beq_eq_false_iff_ne]; omega
     have HF2 : Hid _ := hnx hzx
     clear hi hnx hzx
     go_wp2
     go_roundw
     case rel => exact ⟨k + 1, by go_num, by omega, by first | rfl | trivial, HF2.out⟩
     case measure => simp [intOf]; omega
   ·have HE : Hid (ans = -1) := (show ans = -1 by rw [HA.out]; exact idx_none E x (fun i y hi hy => HF.out i y (by have := HM.out; omega) hy))
    go_wp2
    go_ret
    exact ⟨by rw [HE.out]; first | done | rfl, rfl⟩
end Go.Proofs.YtpicaknklgccoaaGreatDoor
