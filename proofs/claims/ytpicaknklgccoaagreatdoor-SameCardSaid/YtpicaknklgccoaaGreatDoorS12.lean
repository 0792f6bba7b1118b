import Derived.Test.YtpicaknklgccoaaGreatDoorS11
set_option maxHeartbeats 32000000
set_option maxRecDepth 100000
namespace Go.Proofs.YtpicaknklgccoaaGreatDoor
open Go.RowKit
theorem eV {a b : Nat} (h : a ≠ b) : ((a : Int) != (b : Int)) = true := by simp; omega
theorem dL {a b : Nat} (h : a = b) : ((a : Int) != (b : Int)) = false := by simp; omega
theorem Bo (w : World) (cb : Nat) (pv tv : Value) (tb : List TP) (K : List Nat) (n : NR) (kind : Nat) (h : zN cb w pv tv tb K) (hl : tb.length <= 9000) (hK : K.length <= 9000) (Xu : kind <= 10000) (oA : -10 <= n.p0 /\ n.p0 <= 10000) (gu : -10 <= n.p1 /\ n.p1 <= 10000) (uE : -10 <= n.p2 /\ n.p2 <= 10000) :
  Calls Tryz.prog 96 #[aI n, .int .i64 kind, ptr cb] w fun v w' => v = .returned (.int .i64 (Uy tb K n kind)) /\ Below w.heap.size w w' := by
 have hbx : Below w.heap.size w (w.alloc (bR n)) := (Below.refl _ _).alloc (Nat.le_refl _) _
 have hin := h.below hbx
 have o9 := j8 (w.alloc (bR n)) cb pv tv tb K n.p0 hin hK oA
 have hk1 := j8 (w.alloc (bR n)) cb pv tv tb K n.p1 hin hK gu
 have hk2 := j8 (w.alloc (bR n)) cb pv tv tb K n.p2 hin hK uE
 have hat := Q3 (w.alloc (bR n)) cb pv tb kind (by rw [aa hin.y]; rfl) hin.p hl Xu
 have dK : Hid _ := hbx
 have iH : Hid (Uy tb K n kind = (if n.form = 2 then (if n.source = -1 then 4 else 0)
  else if n.form = 4 then (if 63 < (fo tb kind).sz then 6 else 0)
  else if n.form = 5 then (if aq K n.p0 = 0 then 5 else 0)
  else if n.form = 6 then (if aq K n.p0 = 0 then 5 else 0)
  else if n.form = 7 then (if aq K n.p0 = 0 /\ aq K n.p1 = aq K n.p2 then 0 else 5)
  else if n.form = 11 then (if aq K n.p0 = 0 /\ aq K n.p1 = aq K n.p2 then 0 else 5)
  else if n.form = 8 then (if aq K n.p0 = 0 /\ aq K n.p1 = 0 then 0 else 5)
  else if n.form = 9 then (if aq K n.p0 = 0 /\ aq K n.p1 = 0 then 0 else 5)
  else if n.form = 10 then (if aq K n.p0 = 0 /\ aq K n.p1 = 0 then 0 else 5)
  else 0)) := rfl
 obtain ⟨R, hR⟩ : ∃ R, R = Uy tb K n kind := ⟨_, rfl⟩
 rw [<- hR] at iH ⊢
 clear hR h hin hbx
 unfold ptr at o9 hk1 hk2 hat
 unfold tL at hat
 unfold aI
 unfold bR xS at o9 hk1 hk2 hat dK
 have JQ : Hid _ := o9
 have DN : Hid _ := hk1
 have nk : Hid _ := hk2
 have JR : Hid _ := hat
 clear o9 hk1 hk2 hat
 generalize aq K n.p0 = ka at *
 generalize aq K n.p1 = kb at *
 generalize aq K n.p2 = kc at *
 generalize fo tb kind = P at *
 show Calls _ _ #[_, _, Value.pointer (some ⟨cb, 0, none⟩)] w _
 go_enter Tryz.func96, Tryz.ntmps96
 go_wp2_with fail
 refine Calls.mono JQ.out ?_
 rintro _ _ ⟨rfl, rfl⟩
 go_wp2_with fail
 refine Calls.mono DN.out ?_
 rintro _ _ ⟨rfl, rfl⟩
 go_wp2_with fail
 refine Calls.mono nk.out ?_
 rintro _ _ ⟨rfl, rfl⟩
 go_wp2_with fail
 refine Calls.mono JR.out ?_
 rintro _ w1 ⟨rfl, hb1⟩
 have hnb : w1.heap[w.heap.size]? = some (bR n) := by rw [hb1.block _ (by simp)]; exact aj _ _
 obtain ⟨d0, d1, d2, d3, d4, d5, d6, d7, d8, d9⟩ := aC hnb
 have lg := af hnb
 have hB := (dK.out.trans (hb1.mono (by simp))).alloc (by have := hb1.size; simp at this; omega) (.cells #[.int .i64 P.r, .int .i64 P.a, .int .i64 P.b, .int .i64 P.sz] 212)
 have HB : Hid _ := hB
 clear hb1 hB hnb
 by_cases k2 : n.form = 2
 ·skip
  have q2 : ((n.form : Int) == 2) = true := aH (b := 2) k2
  have hr : R = (if n.source = -1 then 4 else 0) := by have := iH.out; simp only [if_pos k2] at this; exact this
  clear iH k2
  by_cases hc : n.source = -1
  ·have e1 : (n.source == -1) = true := by rw [hc]; rfl
   have HR : Hid (R = 4) := by rw [hr, if_pos hc]; exact rfl
   clear hc hr
   go_wp2
   go_ret
   exact ⟨by rw [HR.out]; first | done | rfl, HB.out⟩
  ·have e1 : (n.source == -1) = false := by rw [beq_eq_false_iff_ne]; exact hc
   have HR : Hid (R = 0) := by rw [hr, if_neg hc]; exact rfl
   clear hc hr
   go_wp2
   go_ret
   exact ⟨by rw [HR.out]; first | done | rfl, HB.out⟩
 by_cases k4 : n.form = 4
 ·skip
  have q2 : ((n.form : Int) == 2) = false := ah (b := 2) k2
  have q4 : ((n.form : Int) == 4) = true := aH (b := 4) k4
  have hr : R = (if 63 < P.sz then 6 else 0) := by have := iH.out; simp only [if_neg k2, if_pos k4] at this; exact this
  clear iH k2 k4
  by_cases hc : 63 < P.sz
  ·have HR : Hid (R = 6) := by rw [hr, if_pos hc]; exact rfl
   clear hr
   go_wp2
   go_ret
   exact ⟨by rw [HR.out]; first | done | rfl, HB.out⟩
  ·have HR : Hid (R = 0) := by rw [hr, if_neg hc]; exact rfl
   clear hr
   go_wp2
   go_ret
   exact ⟨by rw [HR.out]; first | done | rfl, HB.out⟩
 by_cases k5 : n.form = 5
 ·skip
  have q2 : ((n.form : Int) == 2) = false := ah (b := 2) k2
  have q4 : ((n.form : Int) == 4) = false := ah (b := 4) k4
  have q5 : ((n.form : Int) == 5) = true := aH (b := 5) k5
  have hr : R = (if ka = 0 then 5 else 0) := by have := iH.out; simp only [if_neg k2, if_neg k4, if_pos k5] at this; exact this
  clear iH k2 k4 k5
  by_cases hc : ka = 0
  ·have e1 : ((ka : Int) == 0) = true := aH (b := 0) hc
   have HR : Hid (R = 5) := by rw [hr, if_pos hc]; exact rfl
   clear hc hr
   go_wp2
   go_ret
   exact ⟨by rw [HR.out]; first | done | rfl, HB.out⟩
  ·have e1 : ((ka : Int) == 0) = false := ah (b := 0) hc
   have HR : Hid (R = 0) := by rw [hr, if_neg hc]; exact rfl
   clear hc hr
   go_wp2
   go_ret
   exact ⟨by rw [HR.out]; first | done | rfl, HB.out⟩
 by_cases k6 : n.form = 6
 ·skip
  have q2 : ((n.form : Int) == 2) = false := ah (b := 2) k2
  have q4 : ((n.form : Int) == 4) = false := ah (b := 4) k4
  have q5 : ((n.form : Int) == 5) = false := ah (b := 5) k5
  have q6 : ((n.form : Int) == 6) = true := aH (b := 6) k6
  have hr : R = (if ka = 0 then 5 else 0) := by have := iH.out; simp only [if_neg k2, if_neg k4, if_neg k5, if_pos k6] at this; exact this
  clear iH k2 k4 k5 k6
  by_cases hc : ka = 0
  ·have e1 : ((ka : Int) == 0) = true := aH (b := 0) hc
   have HR : Hid (R = 5) := by rw [hr, if_pos hc]; exact rfl
   clear hc hr
   go_wp2
   go_ret
   exact ⟨by rw [HR.out]; first | done | rfl, HB.out⟩
  ·have e1 : ((ka : Int) == 0) = false := ah (b := 0) hc
   have HR : Hid (R = 0) := by rw [hr, if_neg hc]; exact rfl
   clear hc hr
   go_wp2
   go_ret
   exact ⟨by rw [HR.out]; first | done | rfl, HB.out⟩
 by_cases k7 : n.form = 7
 ·skip
  have q2 : ((n.form : Int) == 2) = false := ah (b := 2) k2
  have q4 : ((n.form : Int) == 4) = false := ah (b := 4) k4
  have q5 : ((n.form : Int) == 5) = false := ah (b := 5) k5
  have q6 : ((n.form : Int) == 6) = false := ah (b := 6) k6
  have q7 : ((n.form : Int) == 7) = true := aH (b := 7) k7
  have hr : R = (if ka = 0 /\ kb = kc then 0 else 5) := by have := iH.out; simp only [if_neg k2, if_neg k4, if_neg k5, if_neg k6, if_pos k7] at this; exact this
  clear iH k2 k4 k5 k6 k7
  by_cases hc : ka = 0
  ·have e1 : ((ka : Int) != 0) = false := dL (b := 0) hc
   by_cases hd : kb = kc
   ·have e2 : ((kb : Int) != (kc : Int)) = false := dL (b := kc) hd
    have HR : Hid (R = 0) := by rw [hr, if_pos ⟨hc, hd⟩]; exact rfl
    clear hc hd hr
    go_wp2
    go_ret
    exact ⟨by rw [HR.out]; first | done | rfl, HB.out⟩
   ·have e2 : ((kb : Int) != (kc : Int)) = true := eV (b := kc) hd
    have HR : Hid (R = 5) := by rw [hr, if_neg (fun e => hd e.2)]; exact rfl
    clear hc hd hr
    go_wp2
    go_ret
    exact ⟨by rw [HR.out]; first | done | rfl, HB.out⟩
  ·have e1 : ((ka : Int) != 0) = true := eV (b := 0) hc
   have HR : Hid (R = 5) := by rw [hr, if_neg (fun e => hc e.1)]; exact rfl
   clear hc hr
   go_wp2
   go_ret
   exact ⟨by rw [HR.out]; first | done | rfl, HB.out⟩
 by_cases k11 : n.form = 11
 ·skip
  have q2 : ((n.form : Int) == 2) = false := ah (b := 2) k2
  have q4 : ((n.form : Int) == 4) = false := ah (b := 4) k4
  have q5 : ((n.form : Int) == 5) = false := ah (b := 5) k5
  have q6 : ((n.form : Int) == 6) = false := ah (b := 6) k6
  have q7 : ((n.form : Int) == 7) = false := ah (b := 7) k7
  have xT : ((n.form : Int) == 11) = true := aH (b := 11) k11
  have hr : R = (if ka = 0 /\ kb = kc then 0 else 5) := by have := iH.out; simp only [if_neg k2, if_neg k4, if_neg k5, if_neg k6, if_neg k7, if_pos k11] at this; exact this
  clear iH k2 k4 k5 k6 k7 k11
  by_cases hc : ka = 0
  ·have e1 : ((ka : Int) != 0) = false := dL (b := 0) hc
   by_cases hd : kb = kc
   ·have e2 : ((kb : Int) != (kc : Int)) = false := dL (b := kc) hd
    have HR : Hid (R = 0) := by rw [hr, if_pos ⟨hc, hd⟩]; exact rfl
    clear hc hd hr
    go_wp2
    go_ret
    exact ⟨by rw [HR.out]; first | done | rfl, HB.out⟩
   ·have e2 : ((kb : Int) != (kc : Int)) = true := eV (b := kc) hd
    have HR : Hid (R = 5) := by rw [hr, if_neg (fun e => hd e.2)]; exact rfl
    clear hc hd hr
    go_wp2
    go_ret
    exact ⟨by rw [HR.out]; first | done | rfl, HB.out⟩
  ·have e1 : ((ka : Int) != 0) = true := eV (b := 0) hc
   have HR : Hid (R = 5) := by rw [hr, if_neg (fun e => hc e.1)]; exact rfl
   clear hc hr
   go_wp2
   go_ret
   exact ⟨by rw [HR.out]; first | done | rfl, HB.out⟩
 by_cases k8 : n.form = 8
 ·skip
  have q2 : ((n.form : Int) == 2) = false := ah (b := 2) k2
  have q4 : ((n.form : Int) == 4) = false := ah (b := 4) k4
  have q5 : ((n.form : Int) == 5) = false := ah (b := 5) k5
  have q6 : ((n.form : Int) == 6) = false := ah (b := 6) k6
  have q7 : ((n.form : Int) == 7) = false := ah (b := 7) k7
  have xT : ((n.form : Int) == 11) = false := ah (b := 11) k11
  have q8 : ((n.form : Int) == 8) = true := aH (b := 8) k8
  have hr : R = (if ka = 0 /\ kb = 0 then 0 else 5) := by have := iH.out; simp only [if_neg k2, if_neg k4, if_neg k5, if_neg k6, if_neg k7, if_neg k11, if_pos k8] at this; exact this
  clear iH k2 k4 k5 k6 k7 k11 k8
  by_cases hc : ka = 0
  ·have e1 : ((ka : Int) != 0) = false := dL (b := 0) hc
   by_cases hd : kb = 0
   ·have e2 : ((kb : Int) != 0) = false := dL (b := 0) hd
    have HR : Hid (R = 0) := by rw [hr, if_pos ⟨hc, hd⟩]; exact rfl
    clear hc hd hr
    go_wp2
    go_ret
    exact ⟨by rw [HR.out]; first | done | rfl, HB.out⟩
   ·have e2 : ((kb : Int) != 0) = true := eV (b := 0) hd
    have HR : Hid (R = 5) := by rw [hr, if_neg (fun e => hd e.2)]; exact rfl
    clear hc hd hr
    go_wp2
    go_ret
    exact ⟨by rw [HR.out]; first | done | rfl, HB.out⟩
  ·have e1 : ((ka : Int) != 0) = true := eV (b := 0) hc
   have HR : Hid (R = 5) := by rw [hr, if_neg (fun e => hc e.1)]; exact rfl
   clear hc hr
   go_wp2
   go_ret
   exact ⟨by rw [HR.out]; first | done | rfl, HB.out⟩
 by_cases k9 : n.form = 9
 ·skip
  have q2 : ((n.form : Int) == 2) = false := ah (b := 2) k2
  have q4 : ((n.form : Int) == 4) = false := ah (b := 4) k4
  have q5 : ((n.form : Int) == 5) = false := ah (b := 5) k5
  have q6 : ((n.form : Int) == 6) = false := ah (b := 6) k6
  have q7 : ((n.form : Int) == 7) = false := ah (b := 7) k7
  have xT : ((n.form : Int) == 11) = false := ah (b := 11) k11
  have q8 : ((n.form : Int) == 8) = false := ah (b := 8) k8
  have q9 : ((n.form : Int) == 9) = true := aH (b := 9) k9
  have hr : R = (if ka = 0 /\ kb = 0 then 0 else 5) := by have := iH.out; simp only [if_neg k2, if_neg k4, if_neg k5, if_neg k6, if_neg k7, if_neg k11, if_neg k8, if_pos k9] at this; exact this
  clear iH k2 k4 k5 k6 k7 k11 k8 k9
  by_cases hc : ka = 0
  ·have e1 : ((ka : Int) != 0) = false := dL (b := 0) hc
   by_cases hd : kb = 0
   ·have e2 : ((kb : Int) != 0) = false := dL (b := 0) hd
    have HR : Hid (R = 0) := by rw [hr, if_pos ⟨hc, hd⟩]; exact rfl
    clear hc hd hr
    go_wp2
    go_ret
    exact ⟨by rw [HR.out]; first | done | rfl, HB.out⟩
   ·have e2 : ((kb : Int) != 0) = true := eV (b := 0) hd
    have HR : Hid (R = 5) := by rw [hr, if_neg (fun e => hd e.2)]; exact rfl
    clear hc hd hr
    go_wp2
    go_ret
    exact ⟨by rw [HR.out]; first | done | rfl, HB.out⟩
  ·have e1 : ((ka : Int) != 0) = true := eV (b := 0) hc
   have HR : Hid (R = 5) := by rw [hr, if_neg (fun e => hc e.1)]; exact rfl
   clear hc hr
   go_wp2
   go_ret
   exact ⟨by rw [HR.out]; first | done | rfl, HB.out⟩
 by_cases k10 : n.form = 10
 ·skip
  have q2 : ((n.form : Int) == 2) = false := ah (b := 2) k2
  have q4 : ((n.form : Int) == 4) = false := ah (b := 4) k4
  have q5 : ((n.form : Int) == 5) = false := ah (b := 5) k5
  have q6 : ((n.form : Int) == 6) = false := ah (b := 6) k6
  have q7 : ((n.form : Int) == 7) = false := ah (b := 7) k7
  have xT : ((n.form : Int) == 11) = false := ah (b := 11) k11
  have q8 : ((n.form : Int) == 8) = false := ah (b := 8) k8
  have q9 : ((n.form : Int) == 9) = false := ah (b := 9) k9
  have q10 : ((n.form : Int) == 10) = true := aH (b := 10) k10
  have hr : R = (if ka = 0 /\ kb = 0 then 0 else 5) := by have := iH.out; simp only [if_neg k2, if_neg k4, if_neg k5, if_neg k6, if_neg k7, if_neg k11, if_neg k8, if_neg k9, if_pos k10] at this; exact this
  clear iH k2 k4 k5 k6 k7 k11 k8 k9 k10
  by_cases hc : ka = 0
  ·have e1 : ((ka : Int) != 0) = false := dL (b := 0) hc
   by_cases hd : kb = 0
   ·have e2 : ((kb : Int) != 0) = false := dL (b := 0) hd
    have HR : Hid (R = 0) := by rw [hr, if_pos ⟨hc, hd⟩]; exact rfl
    clear hc hd hr
    go_wp2
    go_ret
    exact ⟨by rw [HR.out]; first | done | rfl, HB.out⟩
   ·have e2 : ((kb : Int) != 0) = true := eV (b := 0) hd
    have HR : Hid (R = 5) := by rw [hr, if_neg (fun e => hd e.2)]; exact rfl
    clear hc hd hr
    go_wp2
    go_ret
    exact ⟨by rw [HR.out]; first | done | rfl, HB.out⟩
  ·have e1 : ((ka : Int) != 0) = true := eV (b := 0) hc
   have HR : Hid (R = 5) := by rw [hr, if_neg (fun e => hc e.1)]; exact rfl
   clear hc hr
   go_wp2
   go_ret
   exact ⟨by rw [HR.out]; first | done | rfl, HB.out⟩
 have q2 : ((n.form : Int) == 2) = false := ah (b := 2) k2
 have q4 : ((n.form : Int) == 4) = false := ah (b := 4) k4
 have q5 : ((n.form : Int) == 5) = false := ah (b := 5) k5
 have q6 : ((n.form : Int) == 6) = false := ah (b := 6) k6
 have q7 : ((n.form : Int) == 7) = false := ah (b := 7) k7
 have xT : ((n.form : Int) == 11) = false := ah (b := 11) k11
 have q8 : ((n.form : Int) == 8) = false := ah (b := 8) k8
 have q9 : ((n.form : Int) == 9) = false := ah (b := 9) k9
 have q10 : ((n.form : Int) == 10) = false := ah (b := 10) k10
 have HR : Hid (R = 0) := by have := iH.out; simp only [if_neg k2, if_neg k4, if_neg k5, if_neg k6, if_neg k7, if_neg k11, if_neg k8, if_neg k9, if_neg k10] at this; exact this
 clear iH k2 k4 k5 k6 k7 k11 k8 k9 k10
 go_wp2
 go_ret
 exact ⟨by rw [HR.out]; first | done | rfl, HB.out⟩
theorem tK.toBelow {cb B : Nat} {w0 w w' : World} {pv tv mf pj : Value} (h : tK cb w w' pv tv mf pj) (hb : Below B w0 w) (hc : B <= cb) (hB : B <= w.heap.size) (hp : ∀ g, pv.ownBlock = some g -> B <= g) (ht : ∀ g, tv.ownBlock = some g -> B <= g) :
  Below B w0 w' /\ (∀ g, mf.ownBlock = some g -> B <= g) /\ (∀ g, pj.ownBlock = some g -> B <= g) := by
 refine ⟨⟨h.os.trans hb.os, h.tape.trans hb.tape, h.output.trans hb.output, Nat.le_trans hb.size h.size, fun k hk => ?_⟩, fun g hg => ?_, fun g hg => ?_⟩
 ·rw [h.blk k (by omega) (by omega) (fun e => by have := hp k e; omega) (fun e => by have := ht k e; omega)]
  exact hb.block k hk
 ·rcases h.p g hg with e | e
  ·exact hp g e
  ·omega
 ·rcases h.t g hg with e | e
  ·exact ht g e
  ·omega
theorem fA.Yt {cb o : Nat} {A : Array Value} {T : TypeId} {w W0 w' : World} {pv tv : Value} {tb : List TP} {K : List Nat} (h : fA cb o A T w pv tv tb K) (x : Nat) {g cap : Nat} (hW : Below w.heap.size w W0) (hg : W0.grownBy w' tv.ownBlock)
  (hown : w'.ownsRow 0 3 1 (.slice (some ⟨g, 0, none⟩) (K.length + 1) cap) (K.length + 1) ((K.map fun (k : Nat) => Value.int .i64 k) ++ [.int .i64 x])) (gP : tv.ownBlock = some g \/ W0.heap.size <= g) :
  tK cb w (w'.setCell ⟨cb, o + 1, none⟩ (.slice (some ⟨g, 0, none⟩) (K.length + 1) cap)) pv tv pv (.slice (some ⟨g, 0, none⟩) (K.length + 1) cap) /\ fA cb o (A.setIfInBounds (o + 1) (.slice (some ⟨g, 0, none⟩) (K.length + 1) cap)) T (w'.setCell ⟨cb, o + 1, none⟩ (.slice (some ⟨g, 0, none⟩) (K.length + 1) cap)) pv (.slice (some ⟨g, 0, none⟩) (K.length + 1) cap) tb (K ++ [x]) := by
 obtain ⟨l1, l2, l3⟩ := h.lt
 have lh := hW.size
 have hgs := hg.size
 have yW : W0.heap[cb]? = some (.cells A T (0, 0)) := by rw [hW.block cb l3]; exact h.y
 have yw := cu hg yW h.ty
 have nI : g ≠ cb := by
  rcases gP with e | e
  ·intro e'; rw [e'] at e; exact h.ty e
  ·omega
 have kp : ∀ k, k < w.heap.size -> k ≠ cb -> tv.ownBlock ≠ some k -> (w'.setCell ⟨cb, o + 1, none⟩ (.slice (some ⟨g, 0, none⟩) (K.length + 1) cap)).heap[k]? = w.heap[k]? := by
  intro k hk hkp hne
  rw [ak _ _ (by simpa using hkp), hg.block k (by omega) (fun e => hne e.symm), hW.block k hk]
 refine ⟨⟨hg.os.trans hW.os, hg.tape.trans hW.tape, hg.output.trans hW.output, by simp only [World.setCell, Array.size_modify]; omega, fun k hk hp _ hs => kp k hk hp hs, fun _ h => Or.inl h, fun g' hg' => by simp only [Value.ownBlock, Option.some.injEq] at hg'; subst hg'; rcases gP with e | e; exact Or.inl e; exact Or.inr (by omega)⟩, ?_⟩
 refine ⟨az yw (o + 1) _, by rw [Array.getElem?_setIfInBounds, if_neg (by omega)]; exact h.a, by rw [Array.getElem?_setIfInBounds, if_pos rfl, if_pos (Array.getElem?_eq_some_iff.1 h.b).1], ax h.p (fun k hk => kp k (l1 k hk) (fun e => h.py (by rw [hk, e])) (fun e => h.pt k hk e)), by have := ax (w' := w'.setCell ⟨cb, o + 1, none⟩ (.slice (some ⟨g, 0, none⟩) (K.length + 1) cap)) hown (fun k hk => by simp only [Value.ownBlock, Option.some.injEq] at hk; subst hk; exact ak _ _ (by simpa using nI)); simpa using this, h.py, by simp only [Value.ownBlock, ne_eq, Option.some.injEq]; exact nI, fun k hk hk' => by
   simp only [Value.ownBlock, Option.some.injEq] at hk'
   rcases gP with e | e
   ·rw [hk'] at e; exact h.pt k hk e
   ·have := l1 k hk; omega⟩
theorem vm (w : World) (cb o : Nat) (A : Array Value) (T : TypeId) (pv tv : Value) (tb : List TP) (K : List Nat) (n : NR) (ri : Int) (r : Nat) (hr : n.form = 4 -> ri = r) (h : fA cb o A T w pv tv tb K) (ok : Q1 tb K n) :
  Calls Tryz.prog 95 #[.pointer (some ⟨cb, o, none⟩), aI n, .int .i64 ri] w fun v w' => v = .returned (.int .i64 (gM tb K n r).1) /\ ∃ mf pj, tK cb w w' pv tv mf pj /\ fA cb o ((A.setIfInBounds o mf).setIfInBounds (o + 1) pj) T w' mf pj (gM tb K n r).2 (K ++ [(gM tb K n r).1]) := by
 obtain ⟨i0, hi, hz0, hz1, hz2⟩ := info_parts Tryz.oB
 have HI : Hid _ := hi
 have pq : Hid _ := hz0
 have pz : Hid _ := hz1
 have pF : Hid _ := hz2
 clear hi hz0 hz1 hz2
 have hbx : Below w.heap.size w (w.alloc (bR n)) := (Below.refl _ _).alloc (Nat.le_refl _) _
 have hty := Bn (w.alloc (bR n)) cb o A T pv tv tb K n ri r hr (h.below hbx) ok
 have DP := ok.hK
 have dK : Hid _ := tK.below cb pv tv hbx
 unfold aI at hty
 unfold bR xS at hty dK
 unfold aI
 have Nz : Hid _ := hty
 clear hty h ok hr hbx
 obtain ⟨X, hX⟩ : ∃ X, X = gM tb K n r := ⟨_, rfl⟩
 rw [<- hX] at Nz ⊢
 clear hX
 show Calls _ _ #[Value.pointer (some ⟨cb, o, none⟩), _, _] w _
 go_enter Tryz.func95, Tryz.ntmps95
 go_wp2_with fail
 refine Calls.mono Nz.out ?_
 rintro _ w3 ⟨rfl, Hc, bM, Dv⟩
 have Q4 := Dv.y
 have Q5 := Dv.t
 have ui := af Q4
 obtain ⟨ao, oc, Xw⟩ := aF Q5
 have t1 : w3.cell? ⟨cb, o + 1, none⟩ = some (.slice ao K.length oc) := by rw [Dv.c1, <- Xw]
 have dS : Hid ((w3.alloc (.cells #[.int .i64 X.1] 3)).ownsRow 0 3 1 (.slice ao K.length oc) K.length (K.map fun (k : Nat) => Value.int .i64 k)) := by
  have := Q5.alloc (.cells #[.int .i64 X.1] 3)
  rw [Xw] at this; exact this
 have Dw : Hid ((w3.alloc (.cells #[.int .i64 X.1] 3)).heap[cb]? = some (.cells (A.setIfInBounds o Hc) T (0, 0))) := aL _ Q4
 have vo : Hid (∀ u ∈ ([.int .i64 X.1] : List Value), u.oneCell' = true) := by intro v hv; simp only [List.mem_singleton] at hv; subst hv; rfl
 have Xx : Hid _ := Xw
 have Hd : Hid _ := Dv
 have dC : Hid _ := dK.out.trans bM
 clear Q4 Q5 Xw Dv bM Nz
 go_wp2_with (at_builtin; go_must (refine oC _ rfl (.tmp 16) (.tmp 18) 42 rfl 3 i0 _ 1 8 Tryz.oD HI.out pq.out pz.out pF.out rfl (by decide) (.slice ao K.length oc) K.length (K.map fun (k : Nat) => Value.int .i64 k) rfl dS.out ⟨w3.heap.size, 0, none⟩ 1 1 [.int .i64 X.1] rfl rfl ?c1 vo.out (by decide) ?c3 ?c4 ?_))
 case c1 =>
  intro j v hj
  rw [<- hj]
  first | rfl | exact bH _ _ _ _
 case c3 => unfold maxLen; omega
 case c4 => omega
 intro g cap w4 hown hgrow gP
 have vp := cu hgrow Dw.out (by have := Hd.out.ty; rw [Xx.out] at this; exact this)
 have z1 : w4.cell? ⟨cb, o + 1, none⟩ = some (.slice ao K.length oc) := by rw [aa vp, <- Xx.out]; exact Hd.out.b
 have zf := ag vp (o + 1)
 have zl := af vp
 have hadd := fA.Yt (g := g) (cap := cap) Hd.out X.1 ((Below.refl _ w3).alloc (Nat.le_refl _) (.cells #[.int .i64 X.1] 3)) (by rw [Xx.out]; exact hgrow) hown (by rw [Xx.out, show (w3.alloc (.cells #[.int .i64 X.1] 3)).heap.size = w3.heap.size + 1 from by simp]; exact gP)
 have HAD : Hid _ := hadd.2
 have pV : Hid _ := dC.out.trans hadd.1
 clear hown hgrow gP vp hadd
 go_wp2
 go_ret
 exact ⟨rfl, Hc, _, pV.out, HAD.out⟩
theorem Fz (w : World) (cb : Nat) (pv tv : Value) (tb : List TP) (K : List Nat) (n : NR) (ri : Int) (r : Nat) (hr : n.form = 4 -> ri = r) (h : zN cb w pv tv tb K) (ok : Q1 tb K n) :
  Calls Tryz.prog 95 #[ptr cb, aI n, .int .i64 ri] w fun v w' => v = .returned (.int .i64 (gM tb K n r).1) /\ ∃ mf pj, tK cb w w' pv tv mf pj /\ zN cb w' mf pj (gM tb K n r).2 (K ++ [(gM tb K n r).1]) :=
 (vm w cb 0 _ _ pv tv tb K n ri r hr h.toO ok).mono fun _ _ ⟨e, mf, pj, f, g⟩ => ⟨e, mf, pj, f, g.toC⟩
def mh (ns : List NR) (op : List Int) : Nat × Nat := if (fp ns op).1 ≠ 0 then fp ns op else P3 [] [] ns
theorem nJ (w : World) (nv ov : Value) (ns : List NR) (op : List Int) (h : bh w nv ov ns op) (ho : vq ns op) (hl : ns.length <= 9000) (sj : ∀ n ∈ ns, n.small) (hbk : ∀ (j : Nat) (n : NR), ns[j]? = some n -> n.p0 < j /\ n.p1 < j /\ n.p2 < j) :
  Calls Tryz.prog 58 #[aK nv ov] w fun v w' => v = .returned (.tuple #[.int .i64 (mh ns op).1, .int .i64 (mh ns op).2]) /\ Below w.heap.size w w' := by
 have hlen := fun (w' : World) (hb : Below w.heap.size w w') => gx w' nv ov ns op (h.below hb)
 have mi := fun (w' : World) (hb : Below w.heap.size w w') (k : Nat) (n : NR) (hk : ns[k]? = some n) => dZ w' nv ov ns op (h.below hb) k n hk hl
 have Q6 := fun (w' : World) (hb : Below w.heap.size w w') => xU w' nv ov ns op (h.below hb) ho hl
 obtain ⟨a0, jS, e0⟩ := aF h.nd
 obtain ⟨a1, kE, e1⟩ := aF h.op
 rw [ho.1] at e1
 obtain ⟨m, hm⟩ : ∃ m, m = ns.length := ⟨_, rfl⟩
 rw [<- hm] at e0 e1 hl
 subst e0
 subst e1
 unfold aK at hlen mi Q6
 unfold aK
 unfold aI at mi
 rw [<- hm] at hlen
 have lH : Hid _ := hlen
 have DQ : Hid _ := mi
 have Uz : Hid _ := Q6
 have HM : Hid _ := hm
 have Q7 : Hid _ := sj
 have Yu : Hid _ := hbk
 obtain ⟨ans, cN⟩ : ∃ ans, ans = mh ns op := ⟨_, rfl⟩
 rw [<- cN]
 have jT : Hid _ := cN
 clear hlen mi Q6 ho h hm cN sj hbk
 have A7 : Below w.heap.size w (w.alloc (.cells #[.slice a0 m jS, .slice a1 m kE] 59)) := (Below.refl _ w).alloc (Nat.le_refl _) _
 have dK : Hid _ := A7
 have hmn := Uz.out _ A7
 clear A7 Uz
 go_enter Tryz.func58, Tryz.ntmps58
 go_wp2_with fail
 refine hmn.mono ?_
 rintro _ wb ⟨rfl, qO⟩
 have Dx : Hid _ := qO
 obtain ⟨b0, b1, bl⟩ := cX qO
 clear qO hmn
 by_cases hm0 : (fp ns op).1 ≠ 0
 ·have HA : Hid (ans = fp ns op) := by rw [jT.out]; unfold mh; rw [if_pos hm0]; exact rfl
  have q : (((fp ns op).1 : Int) != 0) = true := by simp; omega
  generalize fp ns op = M at *
  clear hm0
  go_wp2
  refine bodyPost_ret (v := .tuple #[.int .i64 M.1, .int .i64 M.2]) (by simp [results, Tryz.results58, go_sem]) rfl ⟨by rw [HA.out], dK.out.trans (Dx.out.mono (by simp))⟩
 ·have HA : Hid (ans = P3 [] [] ns) := by rw [jT.out]; unfold mh; rw [if_neg hm0]; exact rfl
  have q : (((fp ns op).1 : Int) != 0) = false := by simp; omega
  generalize fp ns op = M at *
  clear hm0
  have xV : Below w.heap.size w wb := dK.out.trans (Dx.out.mono (by simp))
  have xK : Hid _ := xV
  have zO := xV.size
  have hC0 : zN wb.heap.size (wb.alloc (.cells #[.slice none 0 0, .slice none 0 0] 156)) (.slice none 0 0) (.slice none 0 0) [] [] := ⟨aj _ _, World.ownsRow_nil _ _ _ _, World.ownsRow_nil _ _ _ _, by simp [Value.ownBlock], by simp [Value.ownBlock], fun g hg => by simp [Value.ownBlock] at hg⟩
  have UC : Hid _ := hC0
  clear hC0 xV
  go_wp2
  go_loopw [7, 8, 9, 10] (fun i _ _ _ wr => ∃ k : Nat, k <= m /\ i = .int .i64 k /\ ∃ pv tv tb D K T, zN wb.heap.size wr pv tv tb K /\ Rel tb D K T /\ K.length = k /\ tb.length <= k /\ P3 [] [] ns = P3 tb K (ns.drop k) /\ Below wb.heap.size wb wr /\ wb.heap.size < wr.heap.size /\ (∀ g, pv.ownBlock = some g -> wb.heap.size <= g) /\ (∀ g, tv.ownBlock = some g -> wb.heap.size <= g)) (fun i _ _ _ _ => m - (intOf i).toNat)
  case atStart => exact ⟨0, by omega, rfl, _, _, [], [], [], [], UC.out, JO, rfl, by simp, by simp, (Below.refl _ wb).alloc (Nat.le_refl _) _, by simp, by simp [Value.ownBlock], by simp [Value.ownBlock]⟩
  case round =>
   obtain ⟨k, hk, rfl, pv, tv, tb, D, K, T, hC, jE, DP, htl, pW, dw, hbs, qP, FA⟩ := hrel
   have pX : Below w.heap.size w wr := xK.out.trans (dw.mono zO)
   have DR := Dx.out.trans (dw.mono Dx.out.size)
   obtain ⟨x0, x1, xl⟩ := cX DR
   have gQ := lH.out wr pX
   have Bp := dw.size
   by_cases hlt : k < m
   ·have hkl : k < ns.length := by have := HM.out; omega
    obtain ⟨n, hn⟩ : ∃ n, ns[k]? = some n := ⟨ns[k], List.getElem?_eq_getElem hkl⟩
    have dM := Q7.out n (List.mem_of_getElem? hn)
    have nn : ns.drop k = n :: ns.drop (k + 1) := by
     rw [List.drop_eq_getElem_cons hkl]; rw [List.getElem?_eq_getElem hkl] at hn; simp only [Option.some.injEq] at hn; rw [hn]
    rw [nn] at pW
    simp only [P3] at pW
    have hst := Bl jE n
    have htk := Ha tb K n
    have hok : Q1 tb K n := ⟨by omega, by omega, fun i => by have := (jE.known i).2.1; omega, fun j => by have := jE.Fx j; omega, ⟨by have := dM.1; omega, by have := dM.1; omega⟩, ⟨by have := dM.2.1; omega, by have := dM.2.1; omega⟩, ⟨by have := dM.2.2.1; omega, by have := dM.2.2.1; omega⟩, ⟨by have := dM.2.2.2; omega, by have := dM.2.2.2; omega⟩⟩
    have hback := Yu.out k n hn
    have hnew := G9 tb K n (by rw [DP]; exact hback)
    have hpl := lV tb 0 (aq K n.p0) (aq K n.p1)
    have uj : (gM tb K n 0).2.length <= k + 1 /\ (gM tb K n 0).1 <= 10000 := by
     have o9 := hok.kn n.p0
     have hk1 := hok.kn n.p1
     have hks := hok.kn n.source
     have hab := jE.JM (aq K n.p0)
     unfold gM
     split
     ·exact ⟨by simp only; omega, by simp only; omega⟩
     split
     ·exact ⟨by simp only; omega, by simp only; omega⟩
     split
     ·exact ⟨by simp only; omega, by simp only; omega⟩
     split
     ·exact ⟨by simp only; omega, by simp only; omega⟩
     split
     ·exact ⟨by simp only; omega, by simp only; omega⟩
     split
     ·exact ⟨by omega, by omega⟩
     split
     ·exact ⟨by simp only; omega, by simp only; omega⟩
     split
     ·exact ⟨by simp only; omega, by simp only; omega⟩
     ·exact ⟨by simp only; omega, by simp only; omega⟩
    have hty := fun (w' : World) (hb : Below wr.heap.size wr w') => Fz w' wb.heap.size pv tv tb K n 0 0 (fun _ => rfl) (hC.below hb) hok
    have hfa := fun (w' : World) (mf pj : Value) (Yv : zN wb.heap.size w' mf pj (gM tb K n 0).2 (K ++ [(gM tb K n 0).1])) => Bo w' wb.heap.size mf pj (gM tb K n 0).2 (K ++ [(gM tb K n 0).1]) n (gM tb K n 0).1 Yv (by omega) (by simp; omega) uj.2 hok.p0 hok.p1 hok.p2
    rw [hnew.1] at hfa
    unfold ptr aI at hty hfa
    have Nz : Hid _ := hty
    have JS : Hid _ := hfa
    have NB : Hid _ := hnew.2
    have HN : Hid _ := hn
    have UD : Hid _ := pW
    have iQ : Hid _ := hst
    have gW : Hid _ := dw
    have HC : Hid _ := hC
    have P4 : Hid _ := qP
    have Jt : Hid _ := FA
    have UE : Hid _ := DP
    have P5 : Hid _ := uj.1
    clear hn dM nn pW hst htk hok hty jE hC dw DR qP FA hkl DP htl hfa hnew hback uj hpl
    go_wp2_with fail
    refine gQ.mono ?_
    rintro _ w1 ⟨rfl, hb1⟩
    have UF := Dx.out.trans ((gW.out.trans (hb1.mono Bp)).mono Dx.out.size)
    obtain ⟨d0, d1, dl⟩ := cX UF
    have hno := DQ.out w1 (xK.out.trans ((gW.out.trans (hb1.mono Bp)).mono zO)) k n HN.out
    have dF : Hid _ := hb1
    clear hb1 UF gQ x0 x1
    go_wp2_with fail
    refine hno.mono ?_
    rintro _ w2 ⟨rfl, hb2⟩
    have ez : Below wr.heap.size wr w2 := dF.out.trans (hb2.mono dF.out.size)
    have rm := ez.alloc ez.size (bR n)
    have hty := Nz.out _ rm
    have Dy : Hid _ := rm
    have Yw := ez.size
    clear hb2 ez hno d0 d1 rm Nz
    unfold bR xS at hty
    go_wp2_with fail
    refine hty.mono ?_
    rintro _ w3 ⟨rfl, Hc, M4, bM, Dv⟩
    have hnb : w3.heap[w2.heap.size]? = some (bR n) := by
     rw [bM.blk w2.heap.size (by simp) (by omega) (fun e => by have := (HC.out.lt.1 _ e); omega) (fun e => by have := (HC.out.lt.2.1 _ e); omega)]
     exact aj _ _
    have Dz : Below wb.heap.size wb (w2.alloc (bR n)) := gW.out.trans (Dy.out.mono Bp)
    obtain ⟨g1, g2, g3⟩ := bM.toBelow Dz (Nat.le_refl _) (by simp; omega) P4.out Jt.out
    have Q8 := bM.size
    have Yx : wb.heap.size < w3.heap.size := by simp at Q8; omega
    have hfa := JS.out w3 Hc M4 Dv
    obtain ⟨d0, d1, d2, d3, d4, d5, d6, d7, d8, d9⟩ := aC hnb
    have lg := af hnb
    have Hd : Hid _ := Dv
    have Q9 : Hid _ := g1
    have HG2 : Hid _ := g2
    have UG : Hid _ := g3
    have Ju : Hid _ := hnb
    clear bM Dv hnb Dz g1 g2 g3 hty Dy JS
    go_wp2_with fail
    refine hfa.mono ?_
    rintro _ w4 ⟨rfl, hb4⟩
    have c1 : w4.cell? ⟨w2.heap.size, 1, none⟩ = some (.int .i64 n.at_) := by rw [hb4.cell (p := ⟨w2.heap.size, 1, none⟩) lg]; exact d1
    have oF : Hid _ := hb4
    have Ra := hb4.size
    clear hb4 hfa d0 d1 d2 d3 d4 d5 d6 d7 d8 d9
    generalize jI tb K n = X at *
    by_cases hf : X.1.2 = 0
    ·have q2 : ((X.1.2 : Int) != 0) = false := by simp; omega
     have pW := UD.out
     rw [if_neg (by omega)] at pW
     obtain ⟨D', gX⟩ := iQ.out.2 (by rw [<- iQ.out.1]; exact hf)
     have hX := NB.out hf
     have Rb := Hd.out
     have Yy := P5.out
     rw [hX] at Rb Yy
     have UH : Hid _ := Rb.below oF.out
     have Yz : Hid _ := Yy
     have Rc : Hid _ := pW
     have JT : Hid _ := gX
     clear hf pW gX hX Rb Yy Hd P5
     go_wp2
     go_roundw
     case rel => exact ⟨k + 1, by omega, by go_num, Hc, M4, X.2, D', K ++ [X.1.1], _, UH.out, JT.out, by simp [UE.out], Yz.out, Rc.out, Q9.out.trans (oF.out.mono (by omega)), by omega, HG2.out, UG.out⟩
     case measure => simp [intOf]; omega
    ·have q2 : ((X.1.2 : Int) != 0) = true := by simp; omega
     have pW := UD.out
     rw [if_pos hf] at pW
     have JU : Hid (ans = (X.1.2, n.at_)) := by rw [HA.out]; exact pW
     clear hf pW
     go_wp2
     go_quiet (fail)
     go_wp2
     refine bodyPost_ret (v := .tuple #[.int .i64 X.1.2, .int .i64 n.at_]) (by simp [results, Tryz.results58, go_sem]) rfl ⟨by rw [JU.out], ?_⟩
     exact (xK.out.trans ((Q9.out.trans (oF.out.mono (by omega))).mono zO)).trans ⟨rfl, rfl, rfl, Nat.le_refl _, fun _ _ => rfl⟩
   ·have JU : Hid (ans = (0, 0)) := by
     have hd : ns.drop k = [] := List.drop_eq_nil_of_le (by have := HM.out; omega)
     rw [hd] at pW
     rw [HA.out, pW]; exact rfl
    have gW : Hid _ := dw
    clear dw hC jE pW DR qP FA
    go_wp2_with fail
    refine gQ.mono ?_
    rintro _ w1 ⟨rfl, hb1⟩
    have dF : Hid _ := xK.out.trans ((gW.out.trans (hb1.mono Bp)).mono zO)
    clear hb1 gQ
    go_wp2
    refine bodyPost_ret (v := .tuple #[.int .i64 0, .int .i64 0]) (by simp [results, Tryz.results58, go_sem]) rfl ⟨by rw [JU.out]; rfl, dF.out⟩
theorem rp : ∀ (f p : Nat) (l : List UInt8) (t : Tk), t ∈ toks f p l -> ∃ l', l' ≠ [] /\ t.s = l'.take (aJ l').1 /\ t.c = (aJ l').2
 | 0, _, _, t, h => by simp [toks] at h
 | _ + 1, _, [], t, h => by simp [toks] at h
 | f + 1, p, c :: r, t, h => by
  simp only [toks] at h
  split at h
  ·exact rp f _ r t h
  ·rcases List.mem_cons.1 h with h | h
   ·subst h; exact ⟨c :: r, by simp, rfl, rfl⟩
   ·exact rp f _ _ t h
theorem PW.nK {ae : Bool} : ∀ {ws : List Wt} {l : List Tk} {nm rg : List UInt8} {kids : List PT} {r : List Tk}, PW ae ws l nm rg kids r -> kids.length = JI ws
 | _, _, _, _, _, _, .nil => rfl
 | _, _, _, _, _, _, .close _ h1 => by have := PW.nK h1; simpa [JI] using this
 | _, _, _, _, _, _, .name _ h1 => by have := PW.nK h1; simpa [JI] using this
 | _, _, _, _, _, _, .region _ h1 => by have := PW.nK h1; simpa [JI] using this
 | _, _, _, _, _, _, .e _ h1 => by have := PW.nK h1; simp [JI] at this ⊢; exact this
mutual
def PT.wf : PT -> Prop
 | .num _ _ => True
 | .name _ _ => True
 | .node _ k _ _ kids => kids.length = arity k /\ oG kids
def oG : List PT -> Prop
 | [] => True
 | t :: r => t.wf /\ oG r
end
theorem zP : ∀ {ts : List PT}, oG ts -> ∀ t ∈ ts, t.wf
 | [], _, t, h => by simp at h
 | a :: r, hw, t, h => by
  simp only [oG] at hw
  rcases List.mem_cons.1 h with h | h
  ·subst h; exact hw.1
  ·exact zP hw.2 t h
open Go.Lib (decDigits)
inductive Vl where
 | n (k : Nat)
 | p (a b : Vl)
def Vl.txt : Vl -> List UInt8
 | .n k => decDigits k
 | .p a b => 91 :: (a.txt ++ (32 :: (b.txt ++ [93])))
def Vl.num : Vl -> Nat
 | .n k => k
 | .p _ _ => 0
def Vl.fst : Vl -> Vl
 | .p a _ => a
 | .n _ => .n 0
def Vl.snd : Vl -> Vl
 | .p _ b => b
 | .n _ => .n 0
def Vl.size : Vl -> Nat
 | .n _ => 0
 | .p a b => a.size + b.size + 1
def Vl.has : Vl -> Ty -> Prop
 | .n k, .n => k <= 9999
 | .p a b, .p _ x y => a.has x /\ b.has y
 | _, _ => False
structure cd where
 steps : Nat
 cells : Nat
 e : Nat
abbrev dU := List (List UInt8 × Vl)
def mP (env : dU) (s : List UInt8) : Vl := ((env.reverse.find? (fun x => x.1 == s)).map (·.2)).getD (.n 0)
def turns (f : Vl -> cd -> Vl × cd) : Nat -> Vl -> cd -> Vl × cd
 | 0, v, st => (v, st)
 | k + 1, v, st => if st.e ≠ 0 then (v, st) else turns f k (f v st).1 (f v st).2
def ct (k : Kw) (vs : List Vl) (st : cd) : Vl × cd :=
 match k, vs with
 | .pair, [a, b] => (.p a b, { st with cells := st.cells + 1 })
 | .fst, [a] => (a.fst, st)
 | .snd, [a] => (a.snd, st)
 | .add, [a, b] => (.n ((a.num + b.num) % 10000), st)
 | .sub, [a, b] => (.n ((a.num + 10000 - b.num) % 10000), st)
 | .less, [a, b] => (.n (if a.num < b.num then 1 else 0), st)
 | _, _ => (.n 0, st)
def begun (fuel : Nat) (st : cd) (f : cd -> Vl × cd) : Vl × cd :=
 if st.e ≠ 0 then (.n 0, st) else if st.steps = fuel then (.n 0, { st with e := 12 }) else f { st with steps := st.steps + 1 }
mutual
def ev (fuel : Nat) : PT -> dU -> cd -> Vl × cd
 | .num _ s, _, st => begun fuel st (fun st => (.n (au s).toNat, st))
 | .name _ s, env, st => begun fuel st (fun st => (mP env s, st))
 | .node _ k nm _ kids, env, st => begun fuel st (fun st =>
   if k = .bb then iR fuel nm kids env st
   else if k = .fH then ml fuel kids env st
   else if k = .loop then eD fuel nm kids env st
   else
    let x := cw fuel kids env st
    if x.2.e ≠ 0 then (.n 0, x.2) else ct k x.1 x.2)
def cw (fuel : Nat) : List PT -> dU -> cd -> List Vl × cd
 | [], _, st => ([], st)
 | a :: r, env, st =>
  let x := ev fuel a env st
  let y := cw fuel r env x.2
  (x.1 :: y.1, y.2)
def iR (fuel : Nat) (nm : List UInt8) : List PT -> dU -> cd -> Vl × cd
 | [a, b], env, st =>
  let x := ev fuel a env st
  ev fuel b (env ++ [(nm, x.1)]) x.2
 | _, _, st => (.n 0, st)
def ml (fuel : Nat) : List PT -> dU -> cd -> Vl × cd
 | [a, b, c], env, st =>
  let x := ev fuel a env st
  if x.1.num ≠ 0 then ev fuel b env x.2 else ev fuel c env x.2
 | _, _, st => (.n 0, st)
def eD (fuel : Nat) (nm : List UInt8) : List PT -> dU -> cd -> Vl × cd
 | [a, b, c], env, st =>
  let x := ev fuel a env st
  let y := ev fuel b env x.2
  turns (fun v st => ev fuel c (env ++ [(nm, v)]) st) x.1.num y.1 y.2
 | _, _, st => (.n 0, st)
end
inductive WT : aQ -> PT -> Ty -> Prop
 | num {G : aQ} {p : Nat} {s : List UInt8} : WT G (.num p s) .n
 | name {G : aQ} {p : Nat} {s : List UInt8} {T : Ty} (h : look G s = some T) : WT G (.name p s) T
 | bb {G : aQ} {p : Nat} {nm rg : List UInt8} {a b : PT} {A B : Ty} (ha : WT G a A) (hb : WT (G ++ [(nm, A)]) b B) : WT G (.node p .bb nm rg [a, b]) B
 | pair {G : aQ} {p : Nat} {nm rg : List UInt8} {a b : PT} {A B : Ty} (ha : WT G a A) (hb : WT G b B) (hs : (Ty.p 0 A B).size <= 63) : WT G (.node p .pair nm rg [a, b]) (.p 0 A B)
 | fst {G : aQ} {p : Nat} {nm rg : List UInt8} {a : PT} {A B : Ty} (ha : WT G a (.p 0 A B)) : WT G (.node p .fst nm rg [a]) A
 | snd {G : aQ} {p : Nat} {nm rg : List UInt8} {a : PT} {A B : Ty} (ha : WT G a (.p 0 A B)) : WT G (.node p .snd nm rg [a]) B
 | fH {G : aQ} {p : Nat} {nm rg : List UInt8} {a b c : PT} {T : Ty} (ha : WT G a .n) (hb : WT G b T) (hc : WT G c T) : WT G (.node p .fH nm rg [a, b, c]) T
 | two {G : aQ} {p : Nat} {k : Kw} {nm rg : List UInt8} {a b : PT} (hk : k = .add \/ k = .sub \/ k = .less) (ha : WT G a .n) (hb : WT G b .n) : WT G (.node p k nm rg [a, b]) .n
 | loop {G : aQ} {p : Nat} {nm rg : List UInt8} {a b c : PT} {T : Ty} (ha : WT G a .n) (hb : WT G b T) (hc : WT (G ++ [(nm, T)]) c T) : WT G (.node p .loop nm rg [a, b, c]) T
 | new {G : aQ} {p : Nat} {nm rg : List UInt8} {a : PT} {T : Ty} (ha : WT G a T) : WT G (.node p .new nm rg [a]) T
def fV (env : aQ) : aQ := env.map (fun x => (x.1, x.2.bare))
theorem eE (t : Ty) : t.bare.size = t.size := by induction t <;> simp [Ty.bare, Ty.size, *]
theorem oH (env : aQ) (s : List UInt8) : look (fV env) s = (look env s).map Ty.bare := by
 unfold look fV
 rw [<- List.map_reverse, List.find?_map]
 simp only [Function.comp_def, Option.map_map]
theorem iW (env : aQ) (nm : List UInt8) (T : Ty) : fV (env ++ [(nm, T)]) = fV env ++ [(nm, T.bare)] := by simp [fV]
theorem j9 {st : dD} {e p : Nat} (he : e ≠ 0) (h : (cS st e p).e = 0) : False := sD st e p he h
theorem vw {id p : Nat} {x : Ty × dD} (h : (fin id p x).2.e = 0) : x.2.e = 0 /\ x.1.size <= 63 := by
 unfold fin at h
 simp only at h
 split at h
 ·exact (j9 (by decide) h).elim
 ·rename_i hn
  refine ⟨h, ?_⟩
  rcases Nat.lt_or_ge 63 x.1.size with h1 | h1
  ·exact absurd ⟨h, h1⟩ hn
  ·exact h1
theorem DS (id p : Nat) (x : Ty × dD) : (fin id p x).1 = x.1 := by unfold fin; rfl
def NC (G : aQ) : List PT -> List Ty -> Prop
 | [], [] => True
 | a :: r, T :: Ts => WT G a T /\ NC G r Ts
 | _, _ => False
theorem ND {cls : List Nat} {k : Kw} {p site : Nat} {ks : List Ty} {st : dD} {G : aQ} {nm rg : List UInt8} {kids : List PT} (hk1 : k ≠ .bb) (hk2 : k ≠ .loop) (hw : kids.length = arity k) (hks : NC G kids (ks.map Ty.bare))
  (h0 : (bB cls k p site ks st).2.e = 0) (hsz : (bB cls k p site ks st).1.size <= 63) : WT G (.node p k nm rg kids) (bB cls k p site ks st).1.bare := by
 unfold bB at h0 hsz ⊢
 split at h0
 ·match kids, hw, hks with
  | [a], _, hks => simp only [List.map_cons, NC] at hks; exact .new hks.1
 ·match kids, hw, hks with
  | [a, b], _, hks =>
   simp only [List.map_cons, List.map_nil, NC] at hks
   simp only [Ty.size] at hsz
   exact .pair hks.1 hks.2.1 (by simp only [Ty.size, eE]; omega)
 ·match kids, hw, hks with
  | [a], _, hks => simp only [List.map_cons, NC, Ty.bare] at hks; exact .fst hks.1
 ·match kids, hw, hks with
  | [a], _, hks => simp only [List.map_cons, NC, Ty.bare] at hks; exact .snd hks.1
 ·match kids, hw, hks with
  | [a, b, c], _, hks =>
   simp only [List.map_cons, List.map_nil, NC] at hks
   split at h0
   ·rename_i hc
    simp only [if_pos hc]
    rw [hc.1] at hks
    exact .fH hks.1 hks.2.1 (by rw [hc.2]; exact hks.2.2.1)
   ·exact (j9 (by decide) h0).elim
 ·exact absurd rfl hk2
 all_goals first
  | (exact (j9 (by decide) h0).elim)
  | (match kids, hw, hks with
     | [a, b], _, hks =>
      simp only [List.map_cons, List.map_nil, NC] at hks
      split at h0
      ·rename_i hc
       simp only [if_pos hc]
       rw [hc.1, hc.2] at hks
       exact .two (by simp) hks.1 hks.2.1
      ·exact (j9 (by decide) h0).elim)
mutual
theorem iX (cls : List Nat) : ∀ (t : PT) (id site : Nat) (env : aQ) (st : dD), t.wf -> (aD cls t id site env st).2.e = 0 -> st.e = 0 /\ (aD cls t id site env st).1.size <= 63 /\ WT (fV env) t (aD cls t id site env st).1.bare
 | .num p s, id, site, env, st, _, h => by
  simp only [aD] at h ⊢
  have := vw h
  rw [DS]
  exact ⟨this.1, this.2, .num⟩
 | .name p s, id, site, env, st, _, h => by
  simp only [aD] at h ⊢
  have hz := vw h
  rw [DS]
  split at hz
  ·rename_i t ht
   exact ⟨hz.1, hz.2, .name (by rw [oH, ht]; rfl)⟩
  ·exact (j9 (by decide) hz.1).elim
 | .node p k nm rg kids, id, site, env, st, hw, h => by
  simp only [PT.wf] at hw
  simp only [aD] at h ⊢
  have hz := vw h
  rw [DS]
  by_cases hk : k = .bb
  ·subst hk
   simp only [if_pos] at hz ⊢
   have := JV cls nm p rg kids (id + 1) site env st hw.1 hw.2 hz.1
   exact ⟨this.1, hz.2, this.2⟩
  ·simp only [if_neg hk] at hz ⊢
   by_cases hl : k = .loop
   ·subst hl
    simp only [if_pos] at hz ⊢
    split at hz
    ·rename_i hne; exact absurd hz.1 hne
    ·rename_i hne
     rw [if_neg hne]
     have h0 : (aT cls nm kids (id + 1) site env st).2.e = 0 := by simpa using hne
     have := He cls nm p rg kids (id + 1) site env st hw.1 hw.2 h0 p site hz.1
     exact ⟨this.1, hz.2, this.2⟩
   ·simp only [if_neg hl] at hz ⊢
    have hks := yB cls kids (id + 1) (site + if k = .pair then 1 else 0) env st hw.2
    generalize ba cls kids (id + 1) (site + if k = .pair then 1 else 0) env st = x at hks hz ⊢
    by_cases hne : x.2.e ≠ 0
    ·rw [if_pos hne] at hz; exact absurd hz.1 hne
    ·rw [if_neg hne] at hz ⊢
     have hks := hks (by simpa using hne)
     exact ⟨hks.1, hz.2, ND hk hl hw.1 hks.2 hz.1 hz.2⟩
theorem yB (cls : List Nat) : ∀ (ts : List PT) (id site : Nat) (env : aQ) (st : dD), oG ts -> (ba cls ts id site env st).2.e = 0 -> st.e = 0 /\ NC (fV env) ts ((ba cls ts id site env st).1.map Ty.bare)
 | [], _, _, _, st, _, h => by simp only [ba] at h ⊢; exact ⟨h, trivial⟩
 | a :: r, id, site, env, st, hw, h => by
  simp only [oG] at hw
  simp only [ba] at h ⊢
  have h2 := yB cls r (id + a.cnt) (site + a.bJ) env _ hw.2 h
  have h1 := iX cls a id site env st hw.1 h2.1
  exact ⟨h1.1, h1.2.2, h2.2⟩
theorem JV (cls : List Nat) (nm : List UInt8) (p : Nat) (rg : List UInt8) : ∀ (ts : List PT) (id site : Nat) (env : aQ) (st : dD), ts.length = arity .bb -> oG ts -> (dx cls nm ts id site env st).2.e = 0 -> st.e = 0 /\ WT (fV env) (.node p .bb nm rg ts) (dx cls nm ts id site env st).1.bare
 | [a, b], id, site, env, st, _, hw, h => by
  simp only [oG] at hw
  simp only [dx] at h ⊢
  have h2 := iX cls b (id + a.cnt) (site + a.bJ) _ _ hw.2.1 h
  have h1 := iX cls a id site env st hw.1 h2.1
  rw [iW] at h2
  exact ⟨h1.1, .bb h1.2.2 h2.2.2⟩
 | [], _, _, _, _, hl, _, _ => by simp [arity] at hl
 | [_], _, _, _, _, hl, _, _ => by simp [arity] at hl
 | _ :: _ :: _ :: _, _, _, _, _, hl, _, _ => by simp [arity] at hl
theorem He (cls : List Nat) (nm : List UInt8) (p : Nat) (rg : List UInt8) : ∀ (ts : List PT) (id site : Nat) (env : aQ) (st : dD), ts.length = arity .loop -> oG ts -> (aT cls nm ts id site env st).2.e = 0 ->
  ∀ q s, (bB cls .loop q s (aT cls nm ts id site env st).1 (aT cls nm ts id site env st).2).2.e = 0 -> st.e = 0 /\ WT (fV env) (.node p .loop nm rg ts) (bB cls .loop q s (aT cls nm ts id site env st).1 (aT cls nm ts id site env st).2).1.bare
 | [a, b, c], id, site, env, st, _, hw, h, q, s, hm => by
  simp only [oG] at hw
  simp only [aT] at h hm ⊢
  have h3 := iX cls c (id + a.cnt + b.cnt) (site + a.bJ + b.bJ) _ _ hw.2.2.1 h
  have h2 := iX cls b (id + a.cnt) (site + a.bJ) env _ hw.2.1 h3.1
  have h1 := iX cls a id site env st hw.1 h2.1
  rw [iW] at h3
  simp only [bB] at hm ⊢
  split at hm
  ·rename_i hc
   rw [if_pos hc]
   refine ⟨h1.1, ?_⟩
   have ha := h1.2.2
   rw [hc.1] at ha
   exact .loop ha h2.2.2 (by have := h3.2.2; rw [<- hc.2] at this; exact this)
  ·exact (j9 (by decide) hm).elim
 | [], _, _, _, _, hl, _, _, _, _, _ => by simp [arity] at hl
 | [_], _, _, _, _, hl, _, _, _, _, _ => by simp [arity] at hl
 | [_, _], _, _, _, _, hl, _, _, _, _, _ => by simp [arity] at hl
 | _ :: _ :: _ :: _ :: _, _, _, _, _, hl, _, _, _, _, _ => by simp [arity] at hl
end
def um (l : List UInt8) : Int := l.foldl (fun n c => 10 * n + (c.toNat : Int) - 48) 0
theorem sE (l : List UInt8) (c : UInt8) : um (l ++ [c]) = 10 * um l + (c.toNat : Int) - 48 := by
 unfold um; rw [List.foldl_append]; rfl
theorem vz (u : Nat) : um (decDigits u) = u := by
 induction u using Nat.strongRecOn with
 | _ u ih =>
  have key : ∀ k, k < 10 -> ((UInt8.ofNat (48 + k)).toNat : Int) = 48 + k := by
   intro k hk
   have : (UInt8.ofNat (48 + k)).toNat = 48 + k := by simp; omega
   omega
  rw [decDigits]
  split
  ·rename_i h
   show 10 * (0 : Int) + ((UInt8.ofNat (48 + u)).toNat : Int) - 48 = u
   rw [key u h]; omega
  ·rw [sE, ih (u / 10) (by omega), key _ (by omega)]; omega
theorem NF : ∀ (l : List UInt8) (a b : Int), a <= 0 -> 0 <= b -> l.length <= 5 -> ∀ k, k <= l.length -> -(30 * 10 ^ k - 30) <= um (l.take k) /\ um (l.take k) <= 30 * 10 ^ k - 30 := by
 intro l a b _ _ hl k
 induction k with
 | zero => intro _; simp [um]
 | succ k ih =>
  intro hk
  have hlt : k < l.length := by omega
  have h := ih (by omega)
  rw [List.take_succ_eq_append_getElem hlt, sE]
  have hc : (l[k].toNat : Int) < 256 := by have := l[k].toNat_lt; omega
  have hp : (10 : Int) ^ (k + 1) = 10 * 10 ^ k := by rw [Int.pow_succ]; omega
  rw [hp]
  omega
def Ty.xW : Ty -> List Nat
 | .n => []
 | .p r a b => r :: (a.xW ++ b.xW)
theorem JW {c : UInt8} (h : vA c = true) : c ≠ 60 /\ c ≠ 58 := by
 constructor <;> (intro e; subst e; revert h; decide)
theorem JX (u : Nat) (r : List UInt8) : (decDigits u ++ 58 :: r).takeWhile (fun c => c != 58) = decDigits u := by
 have hd := yC u
 generalize decDigits u = l at *
 induction l with
 | nil => simp
 | cons c l ih =>
  have := (JW (hd c (by simp))).2
  simp only [List.cons_append, List.takeWhile_cons]
  rw [if_pos (by simpa using this), ih (fun x hx => hd x (by simp [hx]))]
end Go.Proofs.YtpicaknklgccoaaGreatDoor
