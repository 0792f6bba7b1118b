import Derived.Test.YtpicaknklgccoaaGreatDoorP18
namespace Go.Proofs.YtpicaknklgccoaaGreatDoor
open Go.RowKit
set_option maxRecDepth 100000 in
set_option maxHeartbeats 16000000 in
theorem typeOfO_any (w : World) (cb o : Nat) (A : Array Value) (T : TypeId) (pv tv : Value) (tb : List TP) (K : List Nat) (n : NR) (ri : Int) (r : Nat) (hr : n.form = 4 → ri = r) (h : CInO cb o A T w pv tv tb K) (ok : TOk tb K n) :
  Calls Tryz.prog 126 #[.pointer (some ⟨cb, o, none⟩), nrVal n, .int .i64 ri] w fun v w' => v = .returned (.int .i64 (tyK tb K n r).1) ∧ ∃ pv', CFr cb w w' pv tv pv' tv ∧ CInO cb o (A.setIfInBounds o pv') T w' pv' tv (tyK tb K n r).2 K := by
 have hbx : Below w.heap.size w (w.alloc (nrO n)) := (Below.refl _ _).alloc (Nat.le_refl _) _
 have hin := h.below hbx
 have hk := fun (w' : World) (hb : Below w.heap.size w w') (i : Int) (hi : -10 ≤ i ∧ i ≤ 10000) => knownO_any w' cb o tv K i (h.below hb).c1 (h.below hb).t ok.hK hi
 have hk0 := knownO_any (w.alloc (nrO n)) cb o tv K n.p0 hin.c1 hin.t ok.hK ok.p0
 have hk1 := knownO_any (w.alloc (nrO n)) cb o tv K n.p1 hin.c1 hin.t ok.hK ok.p1
 have hat := AtO_any (w.alloc (nrO n)) cb o pv tb (knownK K n.p0) hin.c0 hin.p (by have := ok.hl; omega) (by have := ok.kn n.p0; omega)
 have hsr := fun (w' : World) (hb : Below w.heap.size w w') => knownO_any w' cb o tv K n.source (h.below hb).c1 (h.below hb).t ok.hK ok.s
 have hpr := fun (w' : World) (hb : Below w.heap.size w w') => PairO_any w' cb o A T pv tv tb K r (knownK K n.p0) (knownK K n.p1) (h.below hb) ok.hl (ok.kn _) (ok.kn _) ⟨ok.sz _, ok.sz _⟩
 have HBX : Hid _ := hbx
 have HH : Hid _ := h
 have HTK : Hid (tyK tb K n r = (if n.form = 2 then (knownK K n.source, tb)
  else if n.form = 12 then (knownK K n.p0, tb)
  else if n.form = 3 then (knownK K n.p1, tb)
  else if n.form = 7 then (knownK K n.p1, tb)
  else if n.form = 11 then (knownK K n.p1, tb)
  else if n.form = 4 then pairF tb r (knownK K n.p0) (knownK K n.p1)
  else if n.form = 5 then ((atP tb (knownK K n.p0)).a, tb)
  else if n.form = 6 then ((atP tb (knownK K n.p0)).b, tb)
  else (0, tb))) := rfl
 obtain ⟨R, hR⟩ : ∃ R, R = tyK tb K n r := ⟨_, rfl⟩
 rw [← hR] at HTK ⊢
 clear hR h hin hbx ok hk
 unfold tpVal at hat
 unfold nrVal
 unfold nrO nrC at hk0 hk1 hat HBX
 have HK0 : Hid _ := hk0
 have HK1 : Hid _ := hk1
 have HAT : Hid _ := hat
 have HSR : Hid _ := hsr
 have HPR : Hid _ := hpr
 clear hk0 hk1 hat hsr hpr
 generalize knownK K n.p0 = ka at *
 generalize knownK K n.p1 = kb at *
 generalize knownK K n.source = ks at *
 generalize atP tb ka = P at *
 show Calls _ _ #[Value.pointer (some ⟨cb, o, none⟩), _, _] w _
 go_enter Tryz.func126, Tryz.ntmps126
 go_wp2_with fail
 refine Calls.mono HK0.out ?_
 rintro _ _ ⟨rfl, rfl⟩
 go_wp2_with fail
 refine Calls.mono HK1.out ?_
 rintro _ _ ⟨rfl, rfl⟩
 go_wp2_with fail
 refine Calls.mono HAT.out ?_
 rintro _ w1 ⟨rfl, hb1⟩
 have hnb : w1.heap[w.heap.size]? = some (nrO n) := by rw [hb1.block _ (by simp)]; exact blk_new _ _
 obtain ⟨d0, d1, d2, d3, d4, d5, d6, d7, d8, d9⟩ := nr_cells10 hnb
 have hnl := blk_lt hnb
 have hB := (HBX.out.trans (hb1.mono (by simp))).alloc (by have := hb1.size; simp at this; omega) (.cells #[.int .i64 P.r, .int .i64 P.a, .int .i64 P.b, .int .i64 P.sz] 212)
 have HB : Hid _ := hB
 clear hb1 hB hnb
 by_cases k2 : n.form = 2
 ·skip
  have q2 : ((n.form : Int) == 2) = true := ibeq_true (b := 2) k2
  have HR : Hid (R = (ks, tb)) := by have := HTK.out; simp only [if_pos k2] at this; exact this
  clear k2
  go_wp2_with fail
  refine Calls.mono (HSR.out _ HB.out) ?_
  rintro _ _ ⟨rfl, rfl⟩
  go_wp2
  go_ret
  exact ⟨by rw [HR.out]; rfl, pv, CFr.below cb pv tv HB.out, by rw [HR.out]; exact (HH.out.below HB.out).self⟩
 by_cases k12 : n.form = 12
 ·skip
  have q2 : ((n.form : Int) == 2) = false := ibeq_false (b := 2) k2
  have q12 : ((n.form : Int) == 12) = true := ibeq_true (b := 12) k12
  have HR : Hid (R = (ka, tb)) := by have := HTK.out; simp only [if_neg k2, if_pos k12] at this; exact this
  clear k2 k12
  go_wp2
  go_ret
  exact ⟨by rw [HR.out]; rfl, pv, CFr.below cb pv tv HB.out, by rw [HR.out]; exact (HH.out.below HB.out).self⟩
 by_cases k3 : n.form = 3
 ·skip
  have q2 : ((n.form : Int) == 2) = false := ibeq_false (b := 2) k2
  have q12 : ((n.form : Int) == 12) = false := ibeq_false (b := 12) k12
  have q3 : ((n.form : Int) == 3) = true := ibeq_true (b := 3) k3
  have HR : Hid (R = (kb, tb)) := by have := HTK.out; simp only [if_neg k2, if_neg k12, if_pos k3] at this; exact this
  clear k2 k12 k3
  go_wp2
  go_ret
  exact ⟨by rw [HR.out]; rfl, pv, CFr.below cb pv tv HB.out, by rw [HR.out]; exact (HH.out.below HB.out).self⟩
 by_cases k7 : n.form = 7
 ·skip
  have q2 : ((n.form : Int) == 2) = false := ibeq_false (b := 2) k2
  have q12 : ((n.form : Int) == 12) = false := ibeq_false (b := 12) k12
  have q3 : ((n.form : Int) == 3) = false := ibeq_false (b := 3) k3
  have q7 : ((n.form : Int) == 7) = true := ibeq_true (b := 7) k7
  have HR : Hid (R = (kb, tb)) := by have := HTK.out; simp only [if_neg k2, if_neg k12, if_neg k3, if_pos k7] at this; exact this
  clear k2 k12 k3 k7
  go_wp2
  go_ret
  exact ⟨by rw [HR.out]; rfl, pv, CFr.below cb pv tv HB.out, by rw [HR.out]; exact (HH.out.below HB.out).self⟩
 by_cases k11 : n.form = 11
 ·skip
  have q2 : ((n.form : Int) == 2) = false := ibeq_false (b := 2) k2
  have q12 : ((n.form : Int) == 12) = false := ibeq_false (b := 12) k12
  have q3 : ((n.form : Int) == 3) = false := ibeq_false (b := 3) k3
  have q7 : ((n.form : Int) == 7) = false := ibeq_false (b := 7) k7
  have q11 : ((n.form : Int) == 11) = true := ibeq_true (b := 11) k11
  have HR : Hid (R = (kb, tb)) := by have := HTK.out; simp only [if_neg k2, if_neg k12, if_neg k3, if_neg k7, if_pos k11] at this; exact this
  clear k2 k12 k3 k7 k11
  go_wp2
  go_ret
  exact ⟨by rw [HR.out]; rfl, pv, CFr.below cb pv tv HB.out, by rw [HR.out]; exact (HH.out.below HB.out).self⟩
 by_cases k4 : n.form = 4
 ·skip
  have q2 : ((n.form : Int) == 2) = false := ibeq_false (b := 2) k2
  have q12 : ((n.form : Int) == 12) = false := ibeq_false (b := 12) k12
  have q3 : ((n.form : Int) == 3) = false := ibeq_false (b := 3) k3
  have q7 : ((n.form : Int) == 7) = false := ibeq_false (b := 7) k7
  have q11 : ((n.form : Int) == 11) = false := ibeq_false (b := 11) k11
  have q4 : ((n.form : Int) == 4) = true := ibeq_true (b := 4) k4
  have HR : Hid (R = pairF tb r ka kb) := by have := HTK.out; simp only [if_neg k2, if_neg k12, if_neg k3, if_neg k7, if_neg k11, if_pos k4] at this; exact this
  have hri := hr k4
  subst hri
  clear k2 k12 k3 k7 k11 k4
  go_wp2_with fail
  refine Calls.mono (HPR.out _ HB.out) ?_
  rintro _ w2 ⟨rfl, pv2, hfr, hin⟩
  have HF : Hid _ := (CFr.below cb pv tv HB.out).trans hfr
  have HI : Hid _ := hin
  clear hfr hin
  generalize pairF tb r ka kb = Q at *
  go_wp2
  go_ret
  exact ⟨by rw [HR.out]; rfl, pv2, HF.out, by rw [HR.out]; exact HI.out⟩
 by_cases k5 : n.form = 5
 ·skip
  have q2 : ((n.form : Int) == 2) = false := ibeq_false (b := 2) k2
  have q12 : ((n.form : Int) == 12) = false := ibeq_false (b := 12) k12
  have q3 : ((n.form : Int) == 3) = false := ibeq_false (b := 3) k3
  have q7 : ((n.form : Int) == 7) = false := ibeq_false (b := 7) k7
  have q11 : ((n.form : Int) == 11) = false := ibeq_false (b := 11) k11
  have q4 : ((n.form : Int) == 4) = false := ibeq_false (b := 4) k4
  have q5 : ((n.form : Int) == 5) = true := ibeq_true (b := 5) k5
  have HR : Hid (R = (P.a, tb)) := by have := HTK.out; simp only [if_neg k2, if_neg k12, if_neg k3, if_neg k7, if_neg k11, if_neg k4, if_pos k5] at this; exact this
  clear k2 k12 k3 k7 k11 k4 k5
  go_wp2
  go_ret
  exact ⟨by rw [HR.out]; rfl, pv, CFr.below cb pv tv HB.out, by rw [HR.out]; exact (HH.out.below HB.out).self⟩
 by_cases k6 : n.form = 6
 ·skip
  have q2 : ((n.form : Int) == 2) = false := ibeq_false (b := 2) k2
  have q12 : ((n.form : Int) == 12) = false := ibeq_false (b := 12) k12
  have q3 : ((n.form : Int) == 3) = false := ibeq_false (b := 3) k3
  have q7 : ((n.form : Int) == 7) = false := ibeq_false (b := 7) k7
  have q11 : ((n.form : Int) == 11) = false := ibeq_false (b := 11) k11
  have q4 : ((n.form : Int) == 4) = false := ibeq_false (b := 4) k4
  have q5 : ((n.form : Int) == 5) = false := ibeq_false (b := 5) k5
  have q6 : ((n.form : Int) == 6) = true := ibeq_true (b := 6) k6
  have HR : Hid (R = (P.b, tb)) := by have := HTK.out; simp only [if_neg k2, if_neg k12, if_neg k3, if_neg k7, if_neg k11, if_neg k4, if_neg k5, if_pos k6] at this; exact this
  clear k2 k12 k3 k7 k11 k4 k5 k6
  go_wp2
  go_ret
  exact ⟨by rw [HR.out]; rfl, pv, CFr.below cb pv tv HB.out, by rw [HR.out]; exact (HH.out.below HB.out).self⟩
 have q2 : ((n.form : Int) == 2) = false := ibeq_false (b := 2) k2
 have q12 : ((n.form : Int) == 12) = false := ibeq_false (b := 12) k12
 have q3 : ((n.form : Int) == 3) = false := ibeq_false (b := 3) k3
 have q7 : ((n.form : Int) == 7) = false := ibeq_false (b := 7) k7
 have q11 : ((n.form : Int) == 11) = false := ibeq_false (b := 11) k11
 have q4 : ((n.form : Int) == 4) = false := ibeq_false (b := 4) k4
 have q5 : ((n.form : Int) == 5) = false := ibeq_false (b := 5) k5
 have q6 : ((n.form : Int) == 6) = false := ibeq_false (b := 6) k6
 have HR : Hid (R = (0, tb)) := by have := HTK.out; simp only [if_neg k2, if_neg k12, if_neg k3, if_neg k7, if_neg k11, if_neg k4, if_neg k5, if_neg k6] at this; exact this
 clear k2 k12 k3 k7 k11 k4 k5 k6
 go_wp2
 go_ret
 exact ⟨by rw [HR.out]; rfl, pv, CFr.below cb pv tv HB.out, by rw [HR.out]; exact (HH.out.below HB.out).self⟩
end Go.Proofs.YtpicaknklgccoaaGreatDoor
