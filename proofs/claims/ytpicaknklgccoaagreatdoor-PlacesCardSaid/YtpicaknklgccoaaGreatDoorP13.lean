import Derived.Test.YtpicaknklgccoaaGreatDoorP12
namespace Go.Proofs.YtpicaknklgccoaaGreatDoor
open Go.RowKit
set_option maxRecDepth 100000 in
set_option maxHeartbeats 16000000 in
theorem any_any (s : ByteArray) (placed : Bool) (pb : Nat) (pB : NR → PS → Int × PS) (hs : s.size ≤ 9000) (w : World) (sv nv ov : Value) (st : PS) (h : PIn s placed pb w sv nv ov st) (hbd : BdA st)
  (hBr : st.l ≠ [] → ∀ (w : World) (n : NR), PIn s placed pb w sv nv ov st.tail → Calls Tryz.prog 181 #[ptr pb, nrVal n] w fun v w' => v = .returned (.int .i64 (pB n st.tail).1) ∧ ∃ sv' nv' ov', PFr pb pb w w' sv nv ov sv' nv' ov' ∧ PIn s placed pb w' sv' nv' ov' (pB n st.tail).2) :
  Calls Tryz.prog 152 #[ptr pb] w fun v w' => v = .returned (.int .i64 (pAny s.size pB st).1) ∧
   ∃ sv' nv' ov', PFr pb pb w w' sv nv ov sv' nv' ov' ∧ PIn s placed pb w' sv' nv' ov' (pAny s.size pB st).2 := by
 have htk := take_any s placed pb w sv nv ov st hs h
 have hfa := fun w a h => fail_any s placed pb w sv nv ov st.tail a h
 have hfi := fun w u h => find_any s placed pb w sv nv ov st.tail u (by show st.scope.length ≤ 9000; have := hbd.1; omega) h
 have had := fun w n h => add_any s placed pb w sv nv ov st.tail n (by show st.nodes.length ≤ 9000; have := hbd.2.1; omega) h
 have hne : (tk1 s.size st.l).kind = 2 → st.l ≠ [] := by
  intro e e'; rw [e'] at e; simp [tk1] at e
 have hsc : st.tail.scope = st.scope := rfl
 have hnd : st.tail.nodes = st.nodes := rfl
 rw [hsc] at hfi
 rw [hnd] at had
 have HPA : Hid (pAny s.size pB st = (let t := tk1 s.size st.l
  if t.kind = 5 then ((st.nodes.length : Int), st.tail.add { nodeT t with form := 1, num := t.num })
  else if t.kind = 4 then ((st.nodes.length : Int), st.tail.add { nodeT t with form := 2, word := t.word, source := findS st.scope t.word })
  else if t.kind = 2 then pB (nodeT t) st.tail
  else (-1, st.tail.fail t.at_))) := rfl
 obtain ⟨T, hT⟩ : ∃ T, T = tk1 s.size st.l := ⟨_, rfl⟩
 rw [← hT] at htk HPA hne
 obtain ⟨R, hR⟩ : ∃ R, R = pAny s.size pB st := ⟨_, rfl⟩
 rw [← hR] at HPA ⊢
 unfold tnVal ptr at htk
 unfold ptr at hfa hfi had hBr
 unfold nrVal at had hBr
 have HBR : Hid _ := hBr
 have HNE : Hid _ := hne
 have HFI : Hid _ := hfi
 have HFA : Hid _ := hfa
 have HAD : Hid _ := had
 have hnp := noParts_any
 clear hT h hR hBr hne hfi hfa had hbd hsc hnd
 show Calls _ _ #[Value.pointer (some ⟨pb, 0, none⟩)] w _
 go_enter Tryz.func152, Tryz.ntmps152
 go_upto_region 2 with (go_at_call 153; refine Calls.mono htk ?_; rintro _ w1 ⟨rfl, hfr, hin⟩)
 go_cut [4] from 7 to 12 (fun t4 wx => NodeAt w1 T t4 wx)
 case first =>
  go_region_with (go_at_call 125; refine (hnp _).mono ?_; rintro e w2 ⟨rfl, hb2⟩; (try (have hqa := kept_a hb2; have hlt1 := blk_lt hqa; have hne1 := Nat.ne_of_lt hlt1; obtain ⟨t0, t1, t2, t3, t4⟩ := tok_cells hqa)); (try (have hqb := kept_b hb2; have hlt1 := blk_lt hqb; have hne1 := Nat.ne_of_lt hlt1; obtain ⟨t0, t1, t2, t3, t4⟩ := tok_cells hqb)); (try (have hqn := alloc2_kept hb2; have hlt2 := blk_lt hqn; obtain ⟨c0, c1, c2, c3, c4, c5, c6, c7, c8, c9⟩ := cells10 hqn; obtain ⟨f0, f1, f2, f3, f4, f5, f6, f7, f8, f9⟩ := free10 hqn)))
  all_goals (go_wp2_with fail; go_meet)
  all_goals first
   | exact node_meet_b hb2
   | exact node_meet_a hb2
 case rest =>
 obtain ⟨g, hg, rfl, hgb, hbc⟩ := hcut
 have hsz : w.heap.size ≤ w1.heap.size := hfr.size
 have hlt := hin.slt
 have e1 : (w1.alloc (tnO T)).heap.size = w1.heap.size + 1 := by simp
 have hTb : wc.heap[w1.heap.size]? = some (tnO T) := by rw [hbc.block _ (by simp)]; exact blk_new _ _
 obtain ⟨t0, t1, t2, t3, t4⟩ := tok_cells hTb
 have hB : Bk pb g wc sv nv ov (nrO (nodeT T)) := ⟨hgb, by have := hlt.2.2.2; omega, fun e => by have := hlt.1 _ e; omega, fun e => by have := hlt.2.1 _ e; omega, fun e => by have := hlt.2.2.1 _ e; omega⟩
 have hI : PIn s placed pb wc sv nv ov st.tail := (hin.alloc (tnO T)).below hbc
 have hF : PFr pb pb w wc sv nv ov sv nv ov := (hfr.alloc (tnO T)).trans (PFr.below pb pb sv nv ov hbc)
 have hTne : w1.heap.size ≠ g := by omega
 have HB : Hid _ := hB
 have HI : Hid _ := hI
 have HF : Hid _ := hF
 have hgw := blk_lt hgb
 clear hgb hbc hTb hB hI hF hlt hin hfr htk e1
 by_cases k5 : T.kind = 5
 ·have q5 : ((T.kind : Int) == 5) = true := ibeq_true (b := 5) k5
  obtain ⟨c0, c1, c2, c3, c4, c5, c6, c7, c8, c9⟩ := nr_cells10 HB.out.b
  have f0 := blk_free HB.out.b 0
  have f3 := blk_free HB.out.b 3
  obtain ⟨a1, a2, a3⟩ := HB.out.set HI.out 0 (.int .i64 1)
  obtain ⟨b1, b2, b3⟩ := a3.set a2 3 (.int .i64 T.num)
  have had1 := HAD.out _ { nodeT T with form := 1, num := T.num } b2
  have HR : Hid (R = ((st.nodes.length : Int), st.tail.add { nodeT T with form := 1, num := T.num })) := by
   have := HPA.out; simp only [if_pos k5] at this; exact this
  have HG : Hid (PFr pb g w _ sv nv ov sv nv ov) := ((HF.out.nb (nb := g)).trans a1).trans b1
  have HAD1 : Hid _ := had1
  clear a1 a2 a3 b1 b2 b3 had1 k5 HPA HBR HNE HFI HFA HAD hnp
  go_wp2_with fail
  refine Calls.mono HAD1.out ?_
  rintro _ w4 ⟨rfl, nv4, hfr4, hin4⟩
  have G3 : Hid _ := (HG.out.trans (hfr4.nb (nb := g))).outer (by omega)
  have G4 : Hid _ := hin4
  clear hfr4 hin4 HAD1
  go_wp2
  go_ret
  rw [HR.out]
  exact ⟨rfl, _, _, _, G3.out, G4.out⟩
 have q5 : ((T.kind : Int) == 5) = false := ibeq_false (b := 5) k5
 by_cases k4 : T.kind = 4
 ·have q4 : ((T.kind : Int) == 4) = true := ibeq_true (b := 4) k4
  obtain ⟨c0, c1, c2, c3, c4, c5, c6, c7, c8, c9⟩ := nr_cells10 HB.out.b
  have f0 := blk_free HB.out.b 0
  have f4 := blk_free HB.out.b 4
  have f6 := blk_free HB.out.b 6
  obtain ⟨a1, a2, a3⟩ := HB.out.set HI.out 0 (.int .i64 2)
  obtain ⟨b1, b2, b3⟩ := a3.set a2 4 (.string (bs T.word))
  have hfi1 := HFI.out _ T.word b2
  obtain ⟨d1, d2, d3⟩ := b3.set b2 6 (.int .i64 (findS st.scope T.word))
  have had1 := HAD.out _ { nodeT T with form := 2, word := T.word, source := findS st.scope T.word } d2
  have HR : Hid (R = ((st.nodes.length : Int), st.tail.add { nodeT T with form := 2, word := T.word, source := findS st.scope T.word })) := by
   have := HPA.out; simp only [if_neg k5, if_pos k4] at this; exact this
  have HG : Hid (PFr pb g w _ sv nv ov sv nv ov) := (((HF.out.nb (nb := g)).trans a1).trans b1).trans d1
  have HAD1 : Hid _ := had1
  have HFI1 : Hid _ := hfi1
  clear a1 a2 a3 b1 b2 b3 d1 d2 d3 had1 hfi1 k5 k4 HPA HBR HNE HFI HFA HAD hnp
  go_wp2_with fail
  refine Calls.mono HFI1.out ?_
  rintro _ w3 ⟨rfl, rfl⟩
  go_wp2_with fail
  refine Calls.mono HAD1.out ?_
  rintro _ w4 ⟨rfl, nv4, hfr4, hin4⟩
  have G3 : Hid _ := (HG.out.trans (hfr4.nb (nb := g))).outer (by omega)
  have G4 : Hid _ := hin4
  clear hfr4 hin4 HAD1
  go_wp2
  go_ret
  rw [HR.out]
  exact ⟨rfl, _, _, _, G3.out, G4.out⟩
 have q4 : ((T.kind : Int) == 4) = false := ibeq_false (b := 4) k4
 by_cases k2 : T.kind = 2
 ·have q2 : ((T.kind : Int) == 2) = true := ibeq_true (b := 2) k2
  obtain ⟨c0, c1, c2, c3, c4, c5, c6, c7, c8, c9⟩ := nr_cells10 HB.out.b
  have hbr1 := HBR.out (HNE.out k2) _ (nodeT T) HI.out
  have HR : Hid (R = pB (nodeT T) st.tail) := by
   have := HPA.out; simp only [if_neg k5, if_neg k4, if_pos k2] at this; exact this
  have HBR1 : Hid _ := hbr1
  clear hbr1 k5 k4 k2 HPA HBR HNE HFI HFA HAD hnp
  go_wp2_with fail
  refine Calls.mono HBR1.out ?_
  rintro _ w4 ⟨rfl, sv4, nv4, ov4, hfr4, hin4⟩
  have G3 : Hid _ := HF.out.trans hfr4
  have G4 : Hid _ := hin4
  clear hfr4 hin4 HBR1
  go_wp2
  go_ret
  rw [HR.out]
  exact ⟨rfl, _, _, _, G3.out, G4.out⟩
 ·have q2 : ((T.kind : Int) == 2) = false := ibeq_false (b := 2) k2
  have hfa1 := HFA.out _ T.at_ HI.out
  have HR : Hid (R = (-1, st.tail.fail T.at_)) := by
   have := HPA.out; simp only [if_neg k5, if_neg k4, if_neg k2] at this; exact this
  have HFA1 : Hid _ := hfa1
  clear hfa1 k5 k4 k2 HPA HBR HNE HFI HFA HAD hnp
  go_wp2_with fail
  refine Calls.mono HFA1.out ?_
  rintro _ w4 ⟨rfl, hfr4, hin4⟩
  have G3 : Hid _ := HF.out.trans hfr4
  have G4 : Hid _ := hin4
  clear hfr4 hin4 HFA1
  go_wp2
  go_ret
  rw [HR.out]
  exact ⟨rfl, _, _, _, G3.out, G4.out⟩
end Go.Proofs.YtpicaknklgccoaaGreatDoor
