import Derived.Test.YtfnplohaokeljaaDoorX17
namespace Go.Proofs.YtfnplohaokeljaaDoor
open Go.RowKit

structure TOk (tb : List TP) (K : List Nat) (n : NR) : Prop where
  hl : tb.length ≤ 8999
  hK : K.length ≤ 9000
  kn : ∀ i, knownK K i ≤ 9500
  sz : ∀ k, (atP tb k).sz ≤ 10000
  s : -10 ≤ n.source ∧ n.source ≤ 10000
  p0 : -10 ≤ n.p0 ∧ n.p0 ≤ 10000
  p1 : -10 ≤ n.p1 ∧ n.p1 ≤ 10000
  p2 : -10 ≤ n.p2 ∧ n.p2 ≤ 10000

set_option maxRecDepth 100000 in
set_option maxHeartbeats 16000000 in
theorem typeOf_any (w : World) (cb : Nat) (pv tv : Value) (tb : List TP) (K : List Nat) (n : NR) (h : CIn cb w pv tv tb K) (ok : TOk tb K n) :
    Calls Tryd.prog 32 #[ptr cb, nrVal n] w fun v w' => v = .returned (.tuple #[.int .i64 (typeK tb K n).1.1, .int .i64 (typeK tb K n).1.2]) ∧ ∃ pv', CFr cb w w' pv tv pv' tv ∧ CIn cb w' pv' tv (typeK tb K n).2 K := by
  have hbx : Below w.heap.size w (w.alloc (nrO n)) := (Below.refl _ _).alloc (Nat.le_refl _) _
  have hin := h.below hbx
  have hk0 := known_any (w.alloc (nrO n)) cb pv tv tb K n.p0 hin ok.hK ok.p0
  have hk1 := known_any (w.alloc (nrO n)) cb pv tv tb K n.p1 hin ok.hK ok.p1
  have hk2 := known_any (w.alloc (nrO n)) cb pv tv tb K n.p2 hin ok.hK ok.p2
  have hna := typeOfName_any (w.alloc (nrO n)) cb pv tv tb K n hin ok.hK ok.s
  have hpt := fun f => typeOfPart_any (w.alloc (nrO n)) cb pv tv tb K f (knownK K n.p0) hin (by have := ok.hl; omega) (by have := ok.kn n.p0; omega)
  have hpr := typeOfPair_any (w.alloc (nrO n)) cb pv tv tb K (knownK K n.p0) (knownK K n.p1) hin ok.hl (ok.kn _) (ok.kn _) ⟨ok.sz _, ok.sz _⟩
  have hun := fun b w => unless_any b w
  have HF0 : Hid _ := CFr.below cb pv tv hbx
  have HI0 : Hid _ := hin
  have HTK : Hid (typeK tb K n = (if n.form = 2 then ((if n.source = -1 then (0, 4) else (knownK K n.source, 0)), tb)
    else if n.form = 12 then ((knownK K n.p0, 0), tb)
    else if n.form = 3 then ((knownK K n.p1, 0), tb)
    else if n.form = 4 then ((if 63 < (atP (pairF tb 0 (knownK K n.p0) (knownK K n.p1)).2 (pairF tb 0 (knownK K n.p0) (knownK K n.p1)).1).sz then (0, 6) else ((pairF tb 0 (knownK K n.p0) (knownK K n.p1)).1, 0)), (pairF tb 0 (knownK K n.p0) (knownK K n.p1)).2)
    else if n.form = 5 then ((if knownK K n.p0 = 0 then (0, 5) else ((atP tb (knownK K n.p0)).a, 0)), tb)
    else if n.form = 6 then ((if knownK K n.p0 = 0 then (0, 5) else ((atP tb (knownK K n.p0)).b, 0)), tb)
    else if n.form = 7 ∨ n.form = 11 then ((knownK K n.p1, if knownK K n.p0 = 0 ∧ knownK K n.p1 = knownK K n.p2 then 0 else 5), tb)
    else if n.form = 8 ∨ n.form = 9 ∨ n.form = 10 then ((0, if knownK K n.p0 = 0 ∧ knownK K n.p1 = 0 then 0 else 5), tb)
    else ((0, 0), tb))) := rfl
  obtain ⟨R, hR⟩ : ∃ R, R = typeK tb K n := ⟨_, rfl⟩
  rw [← hR] at HTK ⊢
  clear hR h hin hbx ok
  unfold ptr at hk0 hk1 hk2 hna hpt hpr
  unfold nrVal at hna
  unfold nrVal
  unfold nrO nrC at hk0 hk1 hk2 hna hpt hpr
  have HK0 : Hid _ := hk0
  have HK1 : Hid _ := hk1
  have HK2 : Hid _ := hk2
  have HNA : Hid _ := hna
  have HPT : Hid _ := hpt
  have HPR : Hid _ := hpr
  clear hk0 hk1 hk2 hna hpt hpr
  generalize knownK K n.p0 = ka at *
  generalize knownK K n.p1 = kb at *
  generalize knownK K n.p2 = kc at *
  show Calls _ _ #[Value.pointer (some ⟨cb, 0, none⟩), _] w _
  by_cases k2 : n.form = 2
  · skip
    have q2 : ((n.form : Int) == 2) = true := ibeq_true (b := 2) k2
    have HR : Hid (R = ((if n.source = -1 then (0, 4) else (knownK K n.source, 0)), tb)) := by have := HTK.out; simp only [if_pos k2] at this; exact this
    clear k2
    generalize (if n.source = -1 then ((0 : Nat), (4 : Nat)) else (knownK K n.source, 0)) = X at *
    go_enter Tryd.func32, Tryd.ntmps32
    go_wp2_with fail
    refine Calls.mono HK0.out ?_
    rintro _ _ ⟨rfl, rfl⟩
    go_wp2_with fail
    refine Calls.mono HK1.out ?_
    rintro _ _ ⟨rfl, rfl⟩
    go_wp2_with fail
    refine Calls.mono HK2.out ?_
    rintro _ _ ⟨rfl, rfl⟩
    go_wp2_with fail
    refine Calls.mono HNA.out ?_
    rintro _ w1 ⟨rfl, hb1⟩
    have HB : Hid _ := hb1
    clear hb1
    go_wp2
    refine bodyPost_ret (v := .tuple #[.int .i64 X.1, .int .i64 X.2]) (by simp [results, Tryd.results32, go_sem]) rfl ⟨by rw [HR.out], pv, HF0.out.trans (CFr.below cb pv tv HB.out), by rw [HR.out]; exact HI0.out.below HB.out⟩
  by_cases k12 : n.form = 12
  · skip
    have q2 : ((n.form : Int) == 2) = false := ibeq_false (b := 2) k2
    have q12 : ((n.form : Int) == 12) = true := ibeq_true (b := 12) k12
    have HR : Hid (R = ((ka, 0), tb)) := by have := HTK.out; simp only [if_neg k2, if_pos k12] at this; exact this
    clear k2 k12
    go_enter Tryd.func32, Tryd.ntmps32
    go_wp2_with fail
    refine Calls.mono HK0.out ?_
    rintro _ _ ⟨rfl, rfl⟩
    go_wp2_with fail
    refine Calls.mono HK1.out ?_
    rintro _ _ ⟨rfl, rfl⟩
    go_wp2_with fail
    refine Calls.mono HK2.out ?_
    rintro _ _ ⟨rfl, rfl⟩
    go_wp2
    refine bodyPost_ret (v := .tuple #[.int .i64 (ka), .int .i64 (0)]) (by simp [results, Tryd.results32, go_sem]) rfl ⟨by rw [HR.out]; rfl, pv, HF0.out, by rw [HR.out]; exact HI0.out⟩
  by_cases k3 : n.form = 3
  · skip
    have q2 : ((n.form : Int) == 2) = false := ibeq_false (b := 2) k2
    have q12 : ((n.form : Int) == 12) = false := ibeq_false (b := 12) k12
    have q3 : ((n.form : Int) == 3) = true := ibeq_true (b := 3) k3
    have HR : Hid (R = ((kb, 0), tb)) := by have := HTK.out; simp only [if_neg k2, if_neg k12, if_pos k3] at this; exact this
    clear k2 k12 k3
    go_enter Tryd.func32, Tryd.ntmps32
    go_wp2_with fail
    refine Calls.mono HK0.out ?_
    rintro _ _ ⟨rfl, rfl⟩
    go_wp2_with fail
    refine Calls.mono HK1.out ?_
    rintro _ _ ⟨rfl, rfl⟩
    go_wp2_with fail
    refine Calls.mono HK2.out ?_
    rintro _ _ ⟨rfl, rfl⟩
    go_wp2
    refine bodyPost_ret (v := .tuple #[.int .i64 (kb), .int .i64 (0)]) (by simp [results, Tryd.results32, go_sem]) rfl ⟨by rw [HR.out]; rfl, pv, HF0.out, by rw [HR.out]; exact HI0.out⟩
  by_cases k4 : n.form = 4
  · skip
    have q2 : ((n.form : Int) == 2) = false := ibeq_false (b := 2) k2
    have q12 : ((n.form : Int) == 12) = false := ibeq_false (b := 12) k12
    have q3 : ((n.form : Int) == 3) = false := ibeq_false (b := 3) k3
    have q4 : ((n.form : Int) == 4) = true := ibeq_true (b := 4) k4
    have HR : Hid (R = ((if 63 < (atP (pairF tb 0 ka kb).2 (pairF tb 0 ka kb).1).sz then (0, 6) else ((pairF tb 0 ka kb).1, 0)), (pairF tb 0 ka kb).2)) := by have := HTK.out; simp only [if_neg k2, if_neg k12, if_neg k3, if_pos k4] at this; exact this
    clear k2 k12 k3 k4
    generalize pairF tb 0 ka kb = P at *
    generalize (if 63 < (atP P.2 P.1).sz then ((0 : Nat), (6 : Nat)) else (P.1, 0)) = X at *
    go_enter Tryd.func32, Tryd.ntmps32
    go_wp2_with fail
    refine Calls.mono HK0.out ?_
    rintro _ _ ⟨rfl, rfl⟩
    go_wp2_with fail
    refine Calls.mono HK1.out ?_
    rintro _ _ ⟨rfl, rfl⟩
    go_wp2_with fail
    refine Calls.mono HK2.out ?_
    rintro _ _ ⟨rfl, rfl⟩
    go_wp2_with fail
    refine Calls.mono HPR.out ?_
    rintro _ w1 ⟨rfl, pv1, hfr, hin⟩
    have HF1 : Hid _ := hfr
    have HI1 : Hid _ := hin
    clear hfr hin
    go_wp2
    refine bodyPost_ret (v := .tuple #[.int .i64 X.1, .int .i64 X.2]) (by simp [results, Tryd.results32, go_sem]) rfl ⟨by rw [HR.out], pv1, HF0.out.trans HF1.out, by rw [HR.out]; exact HI1.out⟩
  by_cases k5 : n.form = 5
  · skip
    have q2 : ((n.form : Int) == 2) = false := ibeq_false (b := 2) k2
    have q12 : ((n.form : Int) == 12) = false := ibeq_false (b := 12) k12
    have q3 : ((n.form : Int) == 3) = false := ibeq_false (b := 3) k3
    have q4 : ((n.form : Int) == 4) = false := ibeq_false (b := 4) k4
    have q5 : ((n.form : Int) == 5) = true := ibeq_true (b := 5) k5
    have HR : Hid (R = ((if ka = 0 then (0, 5) else ((atP tb ka).a, 0)), tb)) := by have := HTK.out; simp only [if_neg k2, if_neg k12, if_neg k3, if_neg k4, if_pos k5] at this; exact this
    have hp := HPT.out n.form
    rw [if_pos k5] at hp
    have HP : Hid _ := hp
    clear hp
    clear k2 k12 k3 k4 k5
    generalize (if ka = 0 then ((0 : Nat), (5 : Nat)) else ((atP tb ka).a, 0)) = X at *
    go_enter Tryd.func32, Tryd.ntmps32
    go_wp2_with fail
    refine Calls.mono HK0.out ?_
    rintro _ _ ⟨rfl, rfl⟩
    go_wp2_with fail
    refine Calls.mono HK1.out ?_
    rintro _ _ ⟨rfl, rfl⟩
    go_wp2_with fail
    refine Calls.mono HK2.out ?_
    rintro _ _ ⟨rfl, rfl⟩
    go_wp2_with fail
    refine Calls.mono HP.out ?_
    rintro _ w1 ⟨rfl, hb1⟩
    have HB : Hid _ := hb1
    clear hb1
    go_wp2
    refine bodyPost_ret (v := .tuple #[.int .i64 X.1, .int .i64 X.2]) (by simp [results, Tryd.results32, go_sem]) rfl ⟨by rw [HR.out], pv, HF0.out.trans (CFr.below cb pv tv HB.out), by rw [HR.out]; exact HI0.out.below HB.out⟩
  by_cases k6 : n.form = 6
  · skip
    have q2 : ((n.form : Int) == 2) = false := ibeq_false (b := 2) k2
    have q12 : ((n.form : Int) == 12) = false := ibeq_false (b := 12) k12
    have q3 : ((n.form : Int) == 3) = false := ibeq_false (b := 3) k3
    have q4 : ((n.form : Int) == 4) = false := ibeq_false (b := 4) k4
    have q5 : ((n.form : Int) == 5) = false := ibeq_false (b := 5) k5
    have q6 : ((n.form : Int) == 6) = true := ibeq_true (b := 6) k6
    have HR : Hid (R = ((if ka = 0 then (0, 5) else ((atP tb ka).b, 0)), tb)) := by have := HTK.out; simp only [if_neg k2, if_neg k12, if_neg k3, if_neg k4, if_neg k5, if_pos k6] at this; exact this
    have hp := HPT.out n.form
    rw [if_neg k5] at hp
    have HP : Hid _ := hp
    clear hp
    clear k2 k12 k3 k4 k5 k6
    generalize (if ka = 0 then ((0 : Nat), (5 : Nat)) else ((atP tb ka).b, 0)) = X at *
    go_enter Tryd.func32, Tryd.ntmps32
    go_wp2_with fail
    refine Calls.mono HK0.out ?_
    rintro _ _ ⟨rfl, rfl⟩
    go_wp2_with fail
    refine Calls.mono HK1.out ?_
    rintro _ _ ⟨rfl, rfl⟩
    go_wp2_with fail
    refine Calls.mono HK2.out ?_
    rintro _ _ ⟨rfl, rfl⟩
    go_wp2_with fail
    refine Calls.mono HP.out ?_
    rintro _ w1 ⟨rfl, hb1⟩
    have HB : Hid _ := hb1
    clear hb1
    go_wp2
    refine bodyPost_ret (v := .tuple #[.int .i64 X.1, .int .i64 X.2]) (by simp [results, Tryd.results32, go_sem]) rfl ⟨by rw [HR.out], pv, HF0.out.trans (CFr.below cb pv tv HB.out), by rw [HR.out]; exact HI0.out.below HB.out⟩
  by_cases k7 : n.form = 7
  · skip
    have q2 : ((n.form : Int) == 2) = false := ibeq_false (b := 2) k2
    have q12 : ((n.form : Int) == 12) = false := ibeq_false (b := 12) k12
    have q3 : ((n.form : Int) == 3) = false := ibeq_false (b := 3) k3
    have q4 : ((n.form : Int) == 4) = false := ibeq_false (b := 4) k4
    have q5 : ((n.form : Int) == 5) = false := ibeq_false (b := 5) k5
    have q6 : ((n.form : Int) == 6) = false := ibeq_false (b := 6) k6
    have q7 : ((n.form : Int) == 7) = true := ibeq_true (b := 7) k7
    have kor : n.form = 7 ∨ n.form = 11 := Or.inl k7
    have e0 := nbeq ka 0
    have e1 := nbeq kb kc
    by_cases ha : ka = 0
    · have qa : ((ka : Int) == 0) = true := ibeq_true (b := 0) ha
      by_cases hb : kb = kc
      · have qb : ((kb : Int) == (kc : Int)) = true := ibeq_true hb
        have HR : Hid (R = ((kb, 0), tb)) := by have := HTK.out; simp only [if_neg k2, if_neg k12, if_neg k3, if_neg k4, if_neg k5, if_neg k6, if_pos kor] at this; rw [if_pos ⟨ha, hb⟩] at this; exact this
        clear k2 k12 k3 k4 k5 k6 k7 kor e0 e1
        clear ha hb
        go_enter Tryd.func32, Tryd.ntmps32
        go_wp2_with fail
        refine Calls.mono HK0.out ?_
        rintro _ _ ⟨rfl, rfl⟩
        go_wp2_with fail
        refine Calls.mono HK1.out ?_
        rintro _ _ ⟨rfl, rfl⟩
        go_wp2_with fail
        refine Calls.mono HK2.out ?_
        rintro _ _ ⟨rfl, rfl⟩
        go_wp2_with (go_at_call 49; refine (hun _ _).mono ?_; rintro e w' ⟨rfl, rfl⟩)
        refine bodyPost_ret (v := .tuple #[.int .i64 ((kb : Int)), .int .i64 0]) (by simp [results, Tryd.results32, go_sem]) rfl ⟨by rw [HR.out]; rfl, pv, HF0.out, by rw [HR.out]; exact HI0.out⟩
      · have qb : ((kb : Int) == (kc : Int)) = false := ibeq_false hb
        have HR : Hid (R = ((kb, 5), tb)) := by have := HTK.out; simp only [if_neg k2, if_neg k12, if_neg k3, if_neg k4, if_neg k5, if_neg k6, if_pos kor] at this; rw [if_neg (fun e => hb e.2)] at this; exact this
        clear k2 k12 k3 k4 k5 k6 k7 kor e0 e1
        clear ha hb
        go_enter Tryd.func32, Tryd.ntmps32
        go_wp2_with fail
        refine Calls.mono HK0.out ?_
        rintro _ _ ⟨rfl, rfl⟩
        go_wp2_with fail
        refine Calls.mono HK1.out ?_
        rintro _ _ ⟨rfl, rfl⟩
        go_wp2_with fail
        refine Calls.mono HK2.out ?_
        rintro _ _ ⟨rfl, rfl⟩
        go_wp2_with (go_at_call 49; refine (hun _ _).mono ?_; rintro e w' ⟨rfl, rfl⟩)
        refine bodyPost_ret (v := .tuple #[.int .i64 ((kb : Int)), .int .i64 5]) (by simp [results, Tryd.results32, go_sem]) rfl ⟨by rw [HR.out]; rfl, pv, HF0.out, by rw [HR.out]; exact HI0.out⟩
    · have qa : ((ka : Int) == 0) = false := ibeq_false (b := 0) ha
      have HR : Hid (R = ((kb, 5), tb)) := by have := HTK.out; simp only [if_neg k2, if_neg k12, if_neg k3, if_neg k4, if_neg k5, if_neg k6, if_pos kor] at this; rw [if_neg (fun e => ha e.1)] at this; exact this
      clear k2 k12 k3 k4 k5 k6 k7 kor e0 e1
      clear ha
      go_enter Tryd.func32, Tryd.ntmps32
      go_wp2_with fail
      refine Calls.mono HK0.out ?_
      rintro _ _ ⟨rfl, rfl⟩
      go_wp2_with fail
      refine Calls.mono HK1.out ?_
      rintro _ _ ⟨rfl, rfl⟩
      go_wp2_with fail
      refine Calls.mono HK2.out ?_
      rintro _ _ ⟨rfl, rfl⟩
      go_wp2_with (go_at_call 49; refine (hun _ _).mono ?_; rintro e w' ⟨rfl, rfl⟩)
      refine bodyPost_ret (v := .tuple #[.int .i64 ((kb : Int)), .int .i64 5]) (by simp [results, Tryd.results32, go_sem]) rfl ⟨by rw [HR.out]; rfl, pv, HF0.out, by rw [HR.out]; exact HI0.out⟩
  by_cases k11 : n.form = 11
  · skip
    have q2 : ((n.form : Int) == 2) = false := ibeq_false (b := 2) k2
    have q12 : ((n.form : Int) == 12) = false := ibeq_false (b := 12) k12
    have q3 : ((n.form : Int) == 3) = false := ibeq_false (b := 3) k3
    have q4 : ((n.form : Int) == 4) = false := ibeq_false (b := 4) k4
    have q5 : ((n.form : Int) == 5) = false := ibeq_false (b := 5) k5
    have q6 : ((n.form : Int) == 6) = false := ibeq_false (b := 6) k6
    have q7 : ((n.form : Int) == 7) = false := ibeq_false (b := 7) k7
    have q11 : ((n.form : Int) == 11) = true := ibeq_true (b := 11) k11
    have kor : n.form = 7 ∨ n.form = 11 := Or.inr k11
    have e0 := nbeq ka 0
    have e1 := nbeq kb kc
    by_cases ha : ka = 0
    · have qa : ((ka : Int) == 0) = true := ibeq_true (b := 0) ha
      by_cases hb : kb = kc
      · have qb : ((kb : Int) == (kc : Int)) = true := ibeq_true hb
        have HR : Hid (R = ((kb, 0), tb)) := by have := HTK.out; simp only [if_neg k2, if_neg k12, if_neg k3, if_neg k4, if_neg k5, if_neg k6, if_pos kor] at this; rw [if_pos ⟨ha, hb⟩] at this; exact this
        clear k2 k12 k3 k4 k5 k6 k7 k11 kor e0 e1
        clear ha hb
        go_enter Tryd.func32, Tryd.ntmps32
        go_wp2_with fail
        refine Calls.mono HK0.out ?_
        rintro _ _ ⟨rfl, rfl⟩
        go_wp2_with fail
        refine Calls.mono HK1.out ?_
        rintro _ _ ⟨rfl, rfl⟩
        go_wp2_with fail
        refine Calls.mono HK2.out ?_
        rintro _ _ ⟨rfl, rfl⟩
        go_wp2_with (go_at_call 49; refine (hun _ _).mono ?_; rintro e w' ⟨rfl, rfl⟩)
        refine bodyPost_ret (v := .tuple #[.int .i64 ((kb : Int)), .int .i64 0]) (by simp [results, Tryd.results32, go_sem]) rfl ⟨by rw [HR.out]; rfl, pv, HF0.out, by rw [HR.out]; exact HI0.out⟩
      · have qb : ((kb : Int) == (kc : Int)) = false := ibeq_false hb
        have HR : Hid (R = ((kb, 5), tb)) := by have := HTK.out; simp only [if_neg k2, if_neg k12, if_neg k3, if_neg k4, if_neg k5, if_neg k6, if_pos kor] at this; rw [if_neg (fun e => hb e.2)] at this; exact this
        clear k2 k12 k3 k4 k5 k6 k7 k11 kor e0 e1
        clear ha hb
        go_enter Tryd.func32, Tryd.ntmps32
        go_wp2_with fail
        refine Calls.mono HK0.out ?_
        rintro _ _ ⟨rfl, rfl⟩
        go_wp2_with fail
        refine Calls.mono HK1.out ?_
        rintro _ _ ⟨rfl, rfl⟩
        go_wp2_with fail
        refine Calls.mono HK2.out ?_
        rintro _ _ ⟨rfl, rfl⟩
        go_wp2_with (go_at_call 49; refine (hun _ _).mono ?_; rintro e w' ⟨rfl, rfl⟩)
        refine bodyPost_ret (v := .tuple #[.int .i64 ((kb : Int)), .int .i64 5]) (by simp [results, Tryd.results32, go_sem]) rfl ⟨by rw [HR.out]; rfl, pv, HF0.out, by rw [HR.out]; exact HI0.out⟩
    · have qa : ((ka : Int) == 0) = false := ibeq_false (b := 0) ha
      have HR : Hid (R = ((kb, 5), tb)) := by have := HTK.out; simp only [if_neg k2, if_neg k12, if_neg k3, if_neg k4, if_neg k5, if_neg k6, if_pos kor] at this; rw [if_neg (fun e => ha e.1)] at this; exact this
      clear k2 k12 k3 k4 k5 k6 k7 k11 kor e0 e1
      clear ha
      go_enter Tryd.func32, Tryd.ntmps32
      go_wp2_with fail
      refine Calls.mono HK0.out ?_
      rintro _ _ ⟨rfl, rfl⟩
      go_wp2_with fail
      refine Calls.mono HK1.out ?_
      rintro _ _ ⟨rfl, rfl⟩
      go_wp2_with fail
      refine Calls.mono HK2.out ?_
      rintro _ _ ⟨rfl, rfl⟩
      go_wp2_with (go_at_call 49; refine (hun _ _).mono ?_; rintro e w' ⟨rfl, rfl⟩)
      refine bodyPost_ret (v := .tuple #[.int .i64 ((kb : Int)), .int .i64 5]) (by simp [results, Tryd.results32, go_sem]) rfl ⟨by rw [HR.out]; rfl, pv, HF0.out, by rw [HR.out]; exact HI0.out⟩
  have kio : ¬ (n.form = 7 ∨ n.form = 11) := fun e => e.elim k7 k11
  by_cases k8 : n.form = 8
  · skip
    have q2 : ((n.form : Int) == 2) = false := ibeq_false (b := 2) k2
    have q12 : ((n.form : Int) == 12) = false := ibeq_false (b := 12) k12
    have q3 : ((n.form : Int) == 3) = false := ibeq_false (b := 3) k3
    have q4 : ((n.form : Int) == 4) = false := ibeq_false (b := 4) k4
    have q5 : ((n.form : Int) == 5) = false := ibeq_false (b := 5) k5
    have q6 : ((n.form : Int) == 6) = false := ibeq_false (b := 6) k6
    have q7 : ((n.form : Int) == 7) = false := ibeq_false (b := 7) k7
    have q11 : ((n.form : Int) == 11) = false := ibeq_false (b := 11) k11
    have q8 : ((n.form : Int) == 8) = true := ibeq_true (b := 8) k8
    have kor : n.form = 8 ∨ n.form = 9 ∨ n.form = 10 := Or.inl k8
    have e0 := nbeq ka 0
    have e1 := nbeq kb 0
    by_cases ha : ka = 0
    · have qa : ((ka : Int) == 0) = true := ibeq_true (b := 0) ha
      by_cases hb : kb = 0
      · have qb : ((kb : Int) == 0) = true := ibeq_true hb
        have HR : Hid (R = ((0, 0), tb)) := by have := HTK.out; simp only [if_neg k2, if_neg k12, if_neg k3, if_neg k4, if_neg k5, if_neg k6, if_neg kio, if_pos kor] at this; rw [if_pos ⟨ha, hb⟩] at this; exact this
        clear k2 k12 k3 k4 k5 k6 k7 k11 k8 kor e0 e1 kio
        clear ha hb
        go_enter Tryd.func32, Tryd.ntmps32
        go_wp2_with fail
        refine Calls.mono HK0.out ?_
        rintro _ _ ⟨rfl, rfl⟩
        go_wp2_with fail
        refine Calls.mono HK1.out ?_
        rintro _ _ ⟨rfl, rfl⟩
        go_wp2_with fail
        refine Calls.mono HK2.out ?_
        rintro _ _ ⟨rfl, rfl⟩
        go_wp2_with (go_at_call 49; refine (hun _ _).mono ?_; rintro e w' ⟨rfl, rfl⟩)
        refine bodyPost_ret (v := .tuple #[.int .i64 (0), .int .i64 0]) (by simp [results, Tryd.results32, go_sem]) rfl ⟨by rw [HR.out]; rfl, pv, HF0.out, by rw [HR.out]; exact HI0.out⟩
      · have qb : ((kb : Int) == 0) = false := ibeq_false hb
        have HR : Hid (R = ((0, 5), tb)) := by have := HTK.out; simp only [if_neg k2, if_neg k12, if_neg k3, if_neg k4, if_neg k5, if_neg k6, if_neg kio, if_pos kor] at this; rw [if_neg (fun e => hb e.2)] at this; exact this
        clear k2 k12 k3 k4 k5 k6 k7 k11 k8 kor e0 e1 kio
        clear ha hb
        go_enter Tryd.func32, Tryd.ntmps32
        go_wp2_with fail
        refine Calls.mono HK0.out ?_
        rintro _ _ ⟨rfl, rfl⟩
        go_wp2_with fail
        refine Calls.mono HK1.out ?_
        rintro _ _ ⟨rfl, rfl⟩
        go_wp2_with fail
        refine Calls.mono HK2.out ?_
        rintro _ _ ⟨rfl, rfl⟩
        go_wp2_with (go_at_call 49; refine (hun _ _).mono ?_; rintro e w' ⟨rfl, rfl⟩)
        refine bodyPost_ret (v := .tuple #[.int .i64 (0), .int .i64 5]) (by simp [results, Tryd.results32, go_sem]) rfl ⟨by rw [HR.out]; rfl, pv, HF0.out, by rw [HR.out]; exact HI0.out⟩
    · have qa : ((ka : Int) == 0) = false := ibeq_false (b := 0) ha
      have HR : Hid (R = ((0, 5), tb)) := by have := HTK.out; simp only [if_neg k2, if_neg k12, if_neg k3, if_neg k4, if_neg k5, if_neg k6, if_neg kio, if_pos kor] at this; rw [if_neg (fun e => ha e.1)] at this; exact this
      clear k2 k12 k3 k4 k5 k6 k7 k11 k8 kor e0 e1 kio
      clear ha
      go_enter Tryd.func32, Tryd.ntmps32
      go_wp2_with fail
      refine Calls.mono HK0.out ?_
      rintro _ _ ⟨rfl, rfl⟩
      go_wp2_with fail
      refine Calls.mono HK1.out ?_
      rintro _ _ ⟨rfl, rfl⟩
      go_wp2_with fail
      refine Calls.mono HK2.out ?_
      rintro _ _ ⟨rfl, rfl⟩
      go_wp2_with (go_at_call 49; refine (hun _ _).mono ?_; rintro e w' ⟨rfl, rfl⟩)
      refine bodyPost_ret (v := .tuple #[.int .i64 (0), .int .i64 5]) (by simp [results, Tryd.results32, go_sem]) rfl ⟨by rw [HR.out]; rfl, pv, HF0.out, by rw [HR.out]; exact HI0.out⟩
  by_cases k9 : n.form = 9
  · skip
    have q2 : ((n.form : Int) == 2) = false := ibeq_false (b := 2) k2
    have q12 : ((n.form : Int) == 12) = false := ibeq_false (b := 12) k12
    have q3 : ((n.form : Int) == 3) = false := ibeq_false (b := 3) k3
    have q4 : ((n.form : Int) == 4) = false := ibeq_false (b := 4) k4
    have q5 : ((n.form : Int) == 5) = false := ibeq_false (b := 5) k5
    have q6 : ((n.form : Int) == 6) = false := ibeq_false (b := 6) k6
    have q7 : ((n.form : Int) == 7) = false := ibeq_false (b := 7) k7
    have q11 : ((n.form : Int) == 11) = false := ibeq_false (b := 11) k11
    have q8 : ((n.form : Int) == 8) = false := ibeq_false (b := 8) k8
    have q9 : ((n.form : Int) == 9) = true := ibeq_true (b := 9) k9
    have kor : n.form = 8 ∨ n.form = 9 ∨ n.form = 10 := Or.inr (Or.inl k9)
    have e0 := nbeq ka 0
    have e1 := nbeq kb 0
    by_cases ha : ka = 0
    · have qa : ((ka : Int) == 0) = true := ibeq_true (b := 0) ha
      by_cases hb : kb = 0
      · have qb : ((kb : Int) == 0) = true := ibeq_true hb
        have HR : Hid (R = ((0, 0), tb)) := by have := HTK.out; simp only [if_neg k2, if_neg k12, if_neg k3, if_neg k4, if_neg k5, if_neg k6, if_neg kio, if_pos kor] at this; rw [if_pos ⟨ha, hb⟩] at this; exact this
        clear k2 k12 k3 k4 k5 k6 k7 k11 k8 k9 kor e0 e1 kio
        clear ha hb
        go_enter Tryd.func32, Tryd.ntmps32
        go_wp2_with fail
        refine Calls.mono HK0.out ?_
        rintro _ _ ⟨rfl, rfl⟩
        go_wp2_with fail
        refine Calls.mono HK1.out ?_
        rintro _ _ ⟨rfl, rfl⟩
        go_wp2_with fail
        refine Calls.mono HK2.out ?_
        rintro _ _ ⟨rfl, rfl⟩
        go_wp2_with (go_at_call 49; refine (hun _ _).mono ?_; rintro e w' ⟨rfl, rfl⟩)
        refine bodyPost_ret (v := .tuple #[.int .i64 (0), .int .i64 0]) (by simp [results, Tryd.results32, go_sem]) rfl ⟨by rw [HR.out]; rfl, pv, HF0.out, by rw [HR.out]; exact HI0.out⟩
      · have qb : ((kb : Int) == 0) = false := ibeq_false hb
        have HR : Hid (R = ((0, 5), tb)) := by have := HTK.out; simp only [if_neg k2, if_neg k12, if_neg k3, if_neg k4, if_neg k5, if_neg k6, if_neg kio, if_pos kor] at this; rw [if_neg (fun e => hb e.2)] at this; exact this
        clear k2 k12 k3 k4 k5 k6 k7 k11 k8 k9 kor e0 e1 kio
        clear ha hb
        go_enter Tryd.func32, Tryd.ntmps32
        go_wp2_with fail
        refine Calls.mono HK0.out ?_
        rintro _ _ ⟨rfl, rfl⟩
        go_wp2_with fail
        refine Calls.mono HK1.out ?_
        rintro _ _ ⟨rfl, rfl⟩
        go_wp2_with fail
        refine Calls.mono HK2.out ?_
        rintro _ _ ⟨rfl, rfl⟩
        go_wp2_with (go_at_call 49; refine (hun _ _).mono ?_; rintro e w' ⟨rfl, rfl⟩)
        refine bodyPost_ret (v := .tuple #[.int .i64 (0), .int .i64 5]) (by simp [results, Tryd.results32, go_sem]) rfl ⟨by rw [HR.out]; rfl, pv, HF0.out, by rw [HR.out]; exact HI0.out⟩
    · have qa : ((ka : Int) == 0) = false := ibeq_false (b := 0) ha
      have HR : Hid (R = ((0, 5), tb)) := by have := HTK.out; simp only [if_neg k2, if_neg k12, if_neg k3, if_neg k4, if_neg k5, if_neg k6, if_neg kio, if_pos kor] at this; rw [if_neg (fun e => ha e.1)] at this; exact this
      clear k2 k12 k3 k4 k5 k6 k7 k11 k8 k9 kor e0 e1 kio
      clear ha
      go_enter Tryd.func32, Tryd.ntmps32
      go_wp2_with fail
      refine Calls.mono HK0.out ?_
      rintro _ _ ⟨rfl, rfl⟩
      go_wp2_with fail
      refine Calls.mono HK1.out ?_
      rintro _ _ ⟨rfl, rfl⟩
      go_wp2_with fail
      refine Calls.mono HK2.out ?_
      rintro _ _ ⟨rfl, rfl⟩
      go_wp2_with (go_at_call 49; refine (hun _ _).mono ?_; rintro e w' ⟨rfl, rfl⟩)
      refine bodyPost_ret (v := .tuple #[.int .i64 (0), .int .i64 5]) (by simp [results, Tryd.results32, go_sem]) rfl ⟨by rw [HR.out]; rfl, pv, HF0.out, by rw [HR.out]; exact HI0.out⟩
  by_cases k10 : n.form = 10
  · skip
    have q2 : ((n.form : Int) == 2) = false := ibeq_false (b := 2) k2
    have q12 : ((n.form : Int) == 12) = false := ibeq_false (b := 12) k12
    have q3 : ((n.form : Int) == 3) = false := ibeq_false (b := 3) k3
    have q4 : ((n.form : Int) == 4) = false := ibeq_false (b := 4) k4
    have q5 : ((n.form : Int) == 5) = false := ibeq_false (b := 5) k5
    have q6 : ((n.form : Int) == 6) = false := ibeq_false (b := 6) k6
    have q7 : ((n.form : Int) == 7) = false := ibeq_false (b := 7) k7
    have q11 : ((n.form : Int) == 11) = false := ibeq_false (b := 11) k11
    have q8 : ((n.form : Int) == 8) = false := ibeq_false (b := 8) k8
    have q9 : ((n.form : Int) == 9) = false := ibeq_false (b := 9) k9
    have q10 : ((n.form : Int) == 10) = true := ibeq_true (b := 10) k10
    have kor : n.form = 8 ∨ n.form = 9 ∨ n.form = 10 := Or.inr (Or.inr k10)
    have e0 := nbeq ka 0
    have e1 := nbeq kb 0
    by_cases ha : ka = 0
    · have qa : ((ka : Int) == 0) = true := ibeq_true (b := 0) ha
      by_cases hb : kb = 0
      · have qb : ((kb : Int) == 0) = true := ibeq_true hb
        have HR : Hid (R = ((0, 0), tb)) := by have := HTK.out; simp only [if_neg k2, if_neg k12, if_neg k3, if_neg k4, if_neg k5, if_neg k6, if_neg kio, if_pos kor] at this; rw [if_pos ⟨ha, hb⟩] at this; exact this
        clear k2 k12 k3 k4 k5 k6 k7 k11 k8 k9 k10 kor e0 e1 kio
        clear ha hb
        go_enter Tryd.func32, Tryd.ntmps32
        go_wp2_with fail
        refine Calls.mono HK0.out ?_
        rintro _ _ ⟨rfl, rfl⟩
        go_wp2_with fail
        refine Calls.mono HK1.out ?_
        rintro _ _ ⟨rfl, rfl⟩
        go_wp2_with fail
        refine Calls.mono HK2.out ?_
        rintro _ _ ⟨rfl, rfl⟩
        go_wp2_with (go_at_call 49; refine (hun _ _).mono ?_; rintro e w' ⟨rfl, rfl⟩)
        refine bodyPost_ret (v := .tuple #[.int .i64 (0), .int .i64 0]) (by simp [results, Tryd.results32, go_sem]) rfl ⟨by rw [HR.out]; rfl, pv, HF0.out, by rw [HR.out]; exact HI0.out⟩
      · have qb : ((kb : Int) == 0) = false := ibeq_false hb
        have HR : Hid (R = ((0, 5), tb)) := by have := HTK.out; simp only [if_neg k2, if_neg k12, if_neg k3, if_neg k4, if_neg k5, if_neg k6, if_neg kio, if_pos kor] at this; rw [if_neg (fun e => hb e.2)] at this; exact this
        clear k2 k12 k3 k4 k5 k6 k7 k11 k8 k9 k10 kor e0 e1 kio
        clear ha hb
        go_enter Tryd.func32, Tryd.ntmps32
        go_wp2_with fail
        refine Calls.mono HK0.out ?_
        rintro _ _ ⟨rfl, rfl⟩
        go_wp2_with fail
        refine Calls.mono HK1.out ?_
        rintro _ _ ⟨rfl, rfl⟩
        go_wp2_with fail
        refine Calls.mono HK2.out ?_
        rintro _ _ ⟨rfl, rfl⟩
        go_wp2_with (go_at_call 49; refine (hun _ _).mono ?_; rintro e w' ⟨rfl, rfl⟩)
        refine bodyPost_ret (v := .tuple #[.int .i64 (0), .int .i64 5]) (by simp [results, Tryd.results32, go_sem]) rfl ⟨by rw [HR.out]; rfl, pv, HF0.out, by rw [HR.out]; exact HI0.out⟩
    · have qa : ((ka : Int) == 0) = false := ibeq_false (b := 0) ha
      have HR : Hid (R = ((0, 5), tb)) := by have := HTK.out; simp only [if_neg k2, if_neg k12, if_neg k3, if_neg k4, if_neg k5, if_neg k6, if_neg kio, if_pos kor] at this; rw [if_neg (fun e => ha e.1)] at this; exact this
      clear k2 k12 k3 k4 k5 k6 k7 k11 k8 k9 k10 kor e0 e1 kio
      clear ha
      go_enter Tryd.func32, Tryd.ntmps32
      go_wp2_with fail
      refine Calls.mono HK0.out ?_
      rintro _ _ ⟨rfl, rfl⟩
      go_wp2_with fail
      refine Calls.mono HK1.out ?_
      rintro _ _ ⟨rfl, rfl⟩
      go_wp2_with fail
      refine Calls.mono HK2.out ?_
      rintro _ _ ⟨rfl, rfl⟩
      go_wp2_with (go_at_call 49; refine (hun _ _).mono ?_; rintro e w' ⟨rfl, rfl⟩)
      refine bodyPost_ret (v := .tuple #[.int .i64 (0), .int .i64 5]) (by simp [results, Tryd.results32, go_sem]) rfl ⟨by rw [HR.out]; rfl, pv, HF0.out, by rw [HR.out]; exact HI0.out⟩
  · skip
    have kar : ¬ (n.form = 8 ∨ n.form = 9 ∨ n.form = 10) := fun e => e.elim k8 (fun e => e.elim k9 k10)
    have q2 : ((n.form : Int) == 2) = false := ibeq_false (b := 2) k2
    have q12 : ((n.form : Int) == 12) = false := ibeq_false (b := 12) k12
    have q3 : ((n.form : Int) == 3) = false := ibeq_false (b := 3) k3
    have q4 : ((n.form : Int) == 4) = false := ibeq_false (b := 4) k4
    have q5 : ((n.form : Int) == 5) = false := ibeq_false (b := 5) k5
    have q6 : ((n.form : Int) == 6) = false := ibeq_false (b := 6) k6
    have q7 : ((n.form : Int) == 7) = false := ibeq_false (b := 7) k7
    have q11 : ((n.form : Int) == 11) = false := ibeq_false (b := 11) k11
    have q8 : ((n.form : Int) == 8) = false := ibeq_false (b := 8) k8
    have q9 : ((n.form : Int) == 9) = false := ibeq_false (b := 9) k9
    have q10 : ((n.form : Int) == 10) = false := ibeq_false (b := 10) k10
    have HR : Hid (R = ((0, 0), tb)) := by have := HTK.out; simp only [if_neg k2, if_neg k12, if_neg k3, if_neg k4, if_neg k5, if_neg k6, if_neg kio, if_neg kar] at this; exact this
    clear k2 k12 k3 k4 k5 k6 k7 k11 k8 k9 k10 kio kar
    go_enter Tryd.func32, Tryd.ntmps32
    go_wp2_with fail
    refine Calls.mono HK0.out ?_
    rintro _ _ ⟨rfl, rfl⟩
    go_wp2_with fail
    refine Calls.mono HK1.out ?_
    rintro _ _ ⟨rfl, rfl⟩
    go_wp2_with fail
    refine Calls.mono HK2.out ?_
    rintro _ _ ⟨rfl, rfl⟩
    go_wp2
    refine bodyPost_ret (v := .tuple #[.int .i64 (0), .int .i64 (0)]) (by simp [results, Tryd.results32, go_sem]) rfl ⟨by rw [HR.out]; rfl, pv, HF0.out, by rw [HR.out]; exact HI0.out⟩
end Go.Proofs.YtfnplohaokeljaaDoor
