import Derived.Test.YtpicaknklgccoaaGreatDoorP19
import Derived.Test.YtpicaknklgccoaaGreatDoorP16
namespace Go.Proofs.YtpicaknklgccoaaGreatDoor
open Go.RowKit
theorem ibne_true {a b : Nat} (h : a ≠ b) : ((a : Int) != (b : Int)) = true := by simp; omega
theorem ibne_false {a b : Nat} (h : a = b) : ((a : Int) != (b : Int)) = false := by simp; omega
set_option maxRecDepth 100000 in
set_option maxHeartbeats 32000000 in
theorem faultOf_any (w : World) (cb : Nat) (pv tv : Value) (tb : List TP) (K : List Nat) (n : NR) (kind : Nat) (h : CIn cb w pv tv tb K) (hl : tb.length ≤ 9000) (hK : K.length ≤ 9000) (hkd : kind ≤ 10000) (hp0 : -10 ≤ n.p0 ∧ n.p0 ≤ 10000) (hp1 : -10 ≤ n.p1 ∧ n.p1 ≤ 10000) (hp2 : -10 ≤ n.p2 ∧ n.p2 ≤ 10000) :
  Calls Tryz.prog 96 #[nrVal n, .int .i64 kind, ptr cb] w fun v w' => v = .returned (.int .i64 (ftK tb K n kind)) ∧ Below w.heap.size w w' := by
 have hbx : Below w.heap.size w (w.alloc (nrO n)) := (Below.refl _ _).alloc (Nat.le_refl _) _
 have hin := h.below hbx
 have hk0 := known_any (w.alloc (nrO n)) cb pv tv tb K n.p0 hin hK hp0
 have hk1 := known_any (w.alloc (nrO n)) cb pv tv tb K n.p1 hin hK hp1
 have hk2 := known_any (w.alloc (nrO n)) cb pv tv tb K n.p2 hin hK hp2
 have hat := At_any (w.alloc (nrO n)) cb pv tb kind (by rw [blk_cell hin.y]; rfl) hin.p hl hkd
 have HBX : Hid _ := hbx
 have HTK : Hid (ftK tb K n kind = (if n.form = 2 then (if n.source = -1 then 4 else 0)
  else if n.form = 4 then (if 63 < (atP tb kind).sz then 6 else 0)
  else if n.form = 5 then (if knownK K n.p0 = 0 then 5 else 0)
  else if n.form = 6 then (if knownK K n.p0 = 0 then 5 else 0)
  else if n.form = 7 then (if knownK K n.p0 = 0 ∧ knownK K n.p1 = knownK K n.p2 then 0 else 5)
  else if n.form = 11 then (if knownK K n.p0 = 0 ∧ knownK K n.p1 = knownK K n.p2 then 0 else 5)
  else if n.form = 8 then (if knownK K n.p0 = 0 ∧ knownK K n.p1 = 0 then 0 else 5)
  else if n.form = 9 then (if knownK K n.p0 = 0 ∧ knownK K n.p1 = 0 then 0 else 5)
  else if n.form = 10 then (if knownK K n.p0 = 0 ∧ knownK K n.p1 = 0 then 0 else 5)
  else 0)) := rfl
 obtain ⟨R, hR⟩ : ∃ R, R = ftK tb K n kind := ⟨_, rfl⟩
 rw [← hR] at HTK ⊢
 clear hR h hin hbx
 unfold ptr at hk0 hk1 hk2 hat
 unfold tpVal at hat
 unfold nrVal
 unfold nrO nrC at hk0 hk1 hk2 hat HBX
 have HK0 : Hid _ := hk0
 have HK1 : Hid _ := hk1
 have HK2 : Hid _ := hk2
 have HAT : Hid _ := hat
 clear hk0 hk1 hk2 hat
 generalize knownK K n.p0 = ka at *
 generalize knownK K n.p1 = kb at *
 generalize knownK K n.p2 = kc at *
 generalize atP tb kind = P at *
 show Calls _ _ #[_, _, Value.pointer (some ⟨cb, 0, none⟩)] w _
 go_enter Tryz.func96, Tryz.ntmps96
 go_wp2_with fail
 refine Calls.mono HK0.out ?_
 rintro _ _ ⟨rfl, rfl⟩
 go_wp2_with fail
 refine Calls.mono HK1.out ?_
 rintro _ _ ⟨rfl, rfl⟩
 go_wp2_with fail
 refine Calls.mono HK2.out ?_
 rintro _ _ ⟨rfl, rfl⟩
 go_wp2_with fail
 refine Calls.mono HAT.out ?_
 rintro _ w1 ⟨rfl, hb1⟩
 have hnb : w1.heap[w.heap.size]? = some (nrO n) := by rw [hb1.block _ (by simp)]; exact blk_new _ _
 obtain ⟨d0, d1, d2, d3, d4, d5, d6, d7, d8, d9⟩ := nr_cells10 hnb
 have hnl := blk_lt hnb
 have hB := (HBX.out.trans (hb1.mono (by simp))).alloc (by have := hb1.size; simp at this; omega) (.cells #[.int .i64 P.r, .int .i64 P.a, .int .i64 P.b, .int .i64 P.sz] 212)
 have HB : Hid _ := hB
 clear hb1 hB hnb
 by_cases k2 : n.form = 2
 ·skip
  have q2 : ((n.form : Int) == 2) = true := ibeq_true (b := 2) k2
  have hr : R = (if n.source = -1 then 4 else 0) := by have := HTK.out; simp only [if_pos k2] at this; exact this
  clear HTK k2
  by_cases hc : n.source = -1
  ·have e1 : (n.source == -1) = true := by rw [hc]; rfl
   have HR : Hid (R = 4) := by rw [hr, if_pos hc]; exact rfl
   clear hc hr
   go_wp2
   go_ret
   exact ⟨by rw [HR.out]; first | done | rfl, HB.out⟩
  ·have e1 : (n.source == -1) = false := by rw [beq_eq_false_iff_ne]; exact hc
   have HR : Hid (R = 0) := by rw [hr, if_neg hc]; exact rfl
   clear hc hr
   go_wp2
   go_ret
   exact ⟨by rw [HR.out]; first | done | rfl, HB.out⟩
 by_cases k4 : n.form = 4
 ·skip
  have q2 : ((n.form : Int) == 2) = false := ibeq_false (b := 2) k2
  have q4 : ((n.form : Int) == 4) = true := ibeq_true (b := 4) k4
  have hr : R = (if 63 < P.sz then 6 else 0) := by have := HTK.out; simp only [if_neg k2, if_pos k4] at this; exact this
  clear HTK k2 k4
  by_cases hc : 63 < P.sz
  ·have HR : Hid (R = 6) := by rw [hr, if_pos hc]; exact rfl
   clear hr
   go_wp2
   go_ret
   exact ⟨by rw [HR.out]; first | done | rfl, HB.out⟩
  ·have HR : Hid (R = 0) := by rw [hr, if_neg hc]; exact rfl
   clear hr
   go_wp2
   go_ret
   exact ⟨by rw [HR.out]; first | done | rfl, HB.out⟩
 by_cases k5 : n.form = 5
 ·skip
  have q2 : ((n.form : Int) == 2) = false := ibeq_false (b := 2) k2
  have q4 : ((n.form : Int) == 4) = false := ibeq_false (b := 4) k4
  have q5 : ((n.form : Int) == 5) = true := ibeq_true (b := 5) k5
  have hr : R = (if ka = 0 then 5 else 0) := by have := HTK.out; simp only [if_neg k2, if_neg k4, if_pos k5] at this; exact this
  clear HTK k2 k4 k5
  by_cases hc : ka = 0
  ·have e1 : ((ka : Int) == 0) = true := ibeq_true (b := 0) hc
   have HR : Hid (R = 5) := by rw [hr, if_pos hc]; exact rfl
   clear hc hr
   go_wp2
   go_ret
   exact ⟨by rw [HR.out]; first | done | rfl, HB.out⟩
  ·have e1 : ((ka : Int) == 0) = false := ibeq_false (b := 0) hc
   have HR : Hid (R = 0) := by rw [hr, if_neg hc]; exact rfl
   clear hc hr
   go_wp2
   go_ret
   exact ⟨by rw [HR.out]; first | done | rfl, HB.out⟩
 by_cases k6 : n.form = 6
 ·skip
  have q2 : ((n.form : Int) == 2) = false := ibeq_false (b := 2) k2
  have q4 : ((n.form : Int) == 4) = false := ibeq_false (b := 4) k4
  have q5 : ((n.form : Int) == 5) = false := ibeq_false (b := 5) k5
  have q6 : ((n.form : Int) == 6) = true := ibeq_true (b := 6) k6
  have hr : R = (if ka = 0 then 5 else 0) := by have := HTK.out; simp only [if_neg k2, if_neg k4, if_neg k5, if_pos k6] at this; exact this
  clear HTK k2 k4 k5 k6
  by_cases hc : ka = 0
  ·have e1 : ((ka : Int) == 0) = true := ibeq_true (b := 0) hc
   have HR : Hid (R = 5) := by rw [hr, if_pos hc]; exact rfl
   clear hc hr
   go_wp2
   go_ret
   exact ⟨by rw [HR.out]; first | done | rfl, HB.out⟩
  ·have e1 : ((ka : Int) == 0) = false := ibeq_false (b := 0) hc
   have HR : Hid (R = 0) := by rw [hr, if_neg hc]; exact rfl
   clear hc hr
   go_wp2
   go_ret
   exact ⟨by rw [HR.out]; first | done | rfl, HB.out⟩
 by_cases k7 : n.form = 7
 ·skip
  have q2 : ((n.form : Int) == 2) = false := ibeq_false (b := 2) k2
  have q4 : ((n.form : Int) == 4) = false := ibeq_false (b := 4) k4
  have q5 : ((n.form : Int) == 5) = false := ibeq_false (b := 5) k5
  have q6 : ((n.form : Int) == 6) = false := ibeq_false (b := 6) k6
  have q7 : ((n.form : Int) == 7) = true := ibeq_true (b := 7) k7
  have hr : R = (if ka = 0 ∧ kb = kc then 0 else 5) := by have := HTK.out; simp only [if_neg k2, if_neg k4, if_neg k5, if_neg k6, if_pos k7] at this; exact this
  clear HTK k2 k4 k5 k6 k7
  by_cases hc : ka = 0
  ·have e1 : ((ka : Int) != 0) = false := ibne_false (b := 0) hc
   by_cases hd : kb = kc
   ·have e2 : ((kb : Int) != (kc : Int)) = false := ibne_false (b := kc) hd
    have HR : Hid (R = 0) := by rw [hr, if_pos ⟨hc, hd⟩]; exact rfl
    clear hc hd hr
    go_wp2
    go_ret
    exact ⟨by rw [HR.out]; first | done | rfl, HB.out⟩
   ·have e2 : ((kb : Int) != (kc : Int)) = true := ibne_true (b := kc) hd
    have HR : Hid (R = 5) := by rw [hr, if_neg (fun e => hd e.2)]; exact rfl
    clear hc hd hr
    go_wp2
    go_ret
    exact ⟨by rw [HR.out]; first | done | rfl, HB.out⟩
  ·have e1 : ((ka : Int) != 0) = true := ibne_true (b := 0) hc
   have HR : Hid (R = 5) := by rw [hr, if_neg (fun e => hc e.1)]; exact rfl
   clear hc hr
   go_wp2
   go_ret
   exact ⟨by rw [HR.out]; first | done | rfl, HB.out⟩
 by_cases k11 : n.form = 11
 ·skip
  have q2 : ((n.form : Int) == 2) = false := ibeq_false (b := 2) k2
  have q4 : ((n.form : Int) == 4) = false := ibeq_false (b := 4) k4
  have q5 : ((n.form : Int) == 5) = false := ibeq_false (b := 5) k5
  have q6 : ((n.form : Int) == 6) = false := ibeq_false (b := 6) k6
  have q7 : ((n.form : Int) == 7) = false := ibeq_false (b := 7) k7
  have q11 : ((n.form : Int) == 11) = true := ibeq_true (b := 11) k11
  have hr : R = (if ka = 0 ∧ kb = kc then 0 else 5) := by have := HTK.out; simp only [if_neg k2, if_neg k4, if_neg k5, if_neg k6, if_neg k7, if_pos k11] at this; exact this
  clear HTK k2 k4 k5 k6 k7 k11
  by_cases hc : ka = 0
  ·have e1 : ((ka : Int) != 0) = false := ibne_false (b := 0) hc
   by_cases hd : kb = kc
   ·have e2 : ((kb : Int) != (kc : Int)) = false := ibne_false (b := kc) hd
    have HR : Hid (R = 0) := by rw [hr, if_pos ⟨hc, hd⟩]; exact rfl
    clear hc hd hr
    go_wp2
    go_ret
    exact ⟨by rw [HR.out]; first | done | rfl, HB.out⟩
   ·have e2 : ((kb : Int) != (kc : Int)) = true := ibne_true (b := kc) hd
    have HR : Hid (R = 5) := by rw [hr, if_neg (fun e => hd e.2)]; exact rfl
    clear hc hd hr
    go_wp2
    go_ret
    exact ⟨by rw [HR.out]; first | done | rfl, HB.out⟩
  ·have e1 : ((ka : Int) != 0) = true := ibne_true (b := 0) hc
   have HR : Hid (R = 5) := by rw [hr, if_neg (fun e => hc e.1)]; exact rfl
   clear hc hr
   go_wp2
   go_ret
   exact ⟨by rw [HR.out]; first | done | rfl, HB.out⟩
 by_cases k8 : n.form = 8
 ·skip
  have q2 : ((n.form : Int) == 2) = false := ibeq_false (b := 2) k2
  have q4 : ((n.form : Int) == 4) = false := ibeq_false (b := 4) k4
  have q5 : ((n.form : Int) == 5) = false := ibeq_false (b := 5) k5
  have q6 : ((n.form : Int) == 6) = false := ibeq_false (b := 6) k6
  have q7 : ((n.form : Int) == 7) = false := ibeq_false (b := 7) k7
  have q11 : ((n.form : Int) == 11) = false := ibeq_false (b := 11) k11
  have q8 : ((n.form : Int) == 8) = true := ibeq_true (b := 8) k8
  have hr : R = (if ka = 0 ∧ kb = 0 then 0 else 5) := by have := HTK.out; simp only [if_neg k2, if_neg k4, if_neg k5, if_neg k6, if_neg k7, if_neg k11, if_pos k8] at this; exact this
  clear HTK k2 k4 k5 k6 k7 k11 k8
  by_cases hc : ka = 0
  ·have e1 : ((ka : Int) != 0) = false := ibne_false (b := 0) hc
   by_cases hd : kb = 0
   ·have e2 : ((kb : Int) != 0) = false := ibne_false (b := 0) hd
    have HR : Hid (R = 0) := by rw [hr, if_pos ⟨hc, hd⟩]; exact rfl
    clear hc hd hr
    go_wp2
    go_ret
    exact ⟨by rw [HR.out]; first | done | rfl, HB.out⟩
   ·have e2 : ((kb : Int) != 0) = true := ibne_true (b := 0) hd
    have HR : Hid (R = 5) := by rw [hr, if_neg (fun e => hd e.2)]; exact rfl
    clear hc hd hr
    go_wp2
    go_ret
    exact ⟨by rw [HR.out]; first | done | rfl, HB.out⟩
  ·have e1 : ((ka : Int) != 0) = true := ibne_true (b := 0) hc
   have HR : Hid (R = 5) := by rw [hr, if_neg (fun e => hc e.1)]; exact rfl
   clear hc hr
   go_wp2
   go_ret
   exact ⟨by rw [HR.out]; first | done | rfl, HB.out⟩
 by_cases k9 : n.form = 9
 ·skip
  have q2 : ((n.form : Int) == 2) = false := ibeq_false (b := 2) k2
  have q4 : ((n.form : Int) == 4) = false := ibeq_false (b := 4) k4
  have q5 : ((n.form : Int) == 5) = false := ibeq_false (b := 5) k5
  have q6 : ((n.form : Int) == 6) = false := ibeq_false (b := 6) k6
  have q7 : ((n.form : Int) == 7) = false := ibeq_false (b := 7) k7
  have q11 : ((n.form : Int) == 11) = false := ibeq_false (b := 11) k11
  have q8 : ((n.form : Int) == 8) = false := ibeq_false (b := 8) k8
  have q9 : ((n.form : Int) == 9) = true := ibeq_true (b := 9) k9
  have hr : R = (if ka = 0 ∧ kb = 0 then 0 else 5) := by have := HTK.out; simp only [if_neg k2, if_neg k4, if_neg k5, if_neg k6, if_neg k7, if_neg k11, if_neg k8, if_pos k9] at this; exact this
  clear HTK k2 k4 k5 k6 k7 k11 k8 k9
  by_cases hc : ka = 0
  ·have e1 : ((ka : Int) != 0) = false := ibne_false (b := 0) hc
   by_cases hd : kb = 0
   ·have e2 : ((kb : Int) != 0) = false := ibne_false (b := 0) hd
    have HR : Hid (R = 0) := by rw [hr, if_pos ⟨hc, hd⟩]; exact rfl
    clear hc hd hr
    go_wp2
    go_ret
    exact ⟨by rw [HR.out]; first | done | rfl, HB.out⟩
   ·have e2 : ((kb : Int) != 0) = true := ibne_true (b := 0) hd
    have HR : Hid (R = 5) := by rw [hr, if_neg (fun e => hd e.2)]; exact rfl
    clear hc hd hr
    go_wp2
    go_ret
    exact ⟨by rw [HR.out]; first | done | rfl, HB.out⟩
  ·have e1 : ((ka : Int) != 0) = true := ibne_true (b := 0) hc
   have HR : Hid (R = 5) := by rw [hr, if_neg (fun e => hc e.1)]; exact rfl
   clear hc hr
   go_wp2
   go_ret
   exact ⟨by rw [HR.out]; first | done | rfl, HB.out⟩
 by_cases k10 : n.form = 10
 ·skip
  have q2 : ((n.form : Int) == 2) = false := ibeq_false (b := 2) k2
  have q4 : ((n.form : Int) == 4) = false := ibeq_false (b := 4) k4
  have q5 : ((n.form : Int) == 5) = false := ibeq_false (b := 5) k5
  have q6 : ((n.form : Int) == 6) = false := ibeq_false (b := 6) k6
  have q7 : ((n.form : Int) == 7) = false := ibeq_false (b := 7) k7
  have q11 : ((n.form : Int) == 11) = false := ibeq_false (b := 11) k11
  have q8 : ((n.form : Int) == 8) = false := ibeq_false (b := 8) k8
  have q9 : ((n.form : Int) == 9) = false := ibeq_false (b := 9) k9
  have q10 : ((n.form : Int) == 10) = true := ibeq_true (b := 10) k10
  have hr : R = (if ka = 0 ∧ kb = 0 then 0 else 5) := by have := HTK.out; simp only [if_neg k2, if_neg k4, if_neg k5, if_neg k6, if_neg k7, if_neg k11, if_neg k8, if_neg k9, if_pos k10] at this; exact this
  clear HTK k2 k4 k5 k6 k7 k11 k8 k9 k10
  by_cases hc : ka = 0
  ·have e1 : ((ka : Int) != 0) = false := ibne_false (b := 0) hc
   by_cases hd : kb = 0
   ·have e2 : ((kb : Int) != 0) = false := ibne_false (b := 0) hd
    have HR : Hid (R = 0) := by rw [hr, if_pos ⟨hc, hd⟩]; exact rfl
    clear hc hd hr
    go_wp2
    go_ret
    exact ⟨by rw [HR.out]; first | done | rfl, HB.out⟩
   ·have e2 : ((kb : Int) != 0) = true := ibne_true (b := 0) hd
    have HR : Hid (R = 5) := by rw [hr, if_neg (fun e => hd e.2)]; exact rfl
    clear hc hd hr
    go_wp2
    go_ret
    exact ⟨by rw [HR.out]; first | done | rfl, HB.out⟩
  ·have e1 : ((ka : Int) != 0) = true := ibne_true (b := 0) hc
   have HR : Hid (R = 5) := by rw [hr, if_neg (fun e => hc e.1)]; exact rfl
   clear hc hr
   go_wp2
   go_ret
   exact ⟨by rw [HR.out]; first | done | rfl, HB.out⟩
 have q2 : ((n.form : Int) == 2) = false := ibeq_false (b := 2) k2
 have q4 : ((n.form : Int) == 4) = false := ibeq_false (b := 4) k4
 have q5 : ((n.form : Int) == 5) = false := ibeq_false (b := 5) k5
 have q6 : ((n.form : Int) == 6) = false := ibeq_false (b := 6) k6
 have q7 : ((n.form : Int) == 7) = false := ibeq_false (b := 7) k7
 have q11 : ((n.form : Int) == 11) = false := ibeq_false (b := 11) k11
 have q8 : ((n.form : Int) == 8) = false := ibeq_false (b := 8) k8
 have q9 : ((n.form : Int) == 9) = false := ibeq_false (b := 9) k9
 have q10 : ((n.form : Int) == 10) = false := ibeq_false (b := 10) k10
 have HR : Hid (R = 0) := by have := HTK.out; simp only [if_neg k2, if_neg k4, if_neg k5, if_neg k6, if_neg k7, if_neg k11, if_neg k8, if_neg k9, if_neg k10] at this; exact this
 clear HTK k2 k4 k5 k6 k7 k11 k8 k9 k10
 go_wp2
 go_ret
 exact ⟨by rw [HR.out]; first | done | rfl, HB.out⟩
theorem CFr.toBelow {cb B : Nat} {w0 w w' : World} {pv tv pv' tv' : Value} (h : CFr cb w w' pv tv pv' tv') (hb : Below B w0 w) (hc : B ≤ cb) (hB : B ≤ w.heap.size) (hp : ∀ g, pv.ownBlock = some g → B ≤ g) (ht : ∀ g, tv.ownBlock = some g → B ≤ g) :
  Below B w0 w' ∧ (∀ g, pv'.ownBlock = some g → B ≤ g) ∧ (∀ g, tv'.ownBlock = some g → B ≤ g) := by
 refine ⟨⟨h.os.trans hb.os, h.tape.trans hb.tape, h.output.trans hb.output, Nat.le_trans hb.size h.size, fun k hk => ?_⟩, fun g hg => ?_, fun g hg => ?_⟩
 ·rw [h.blk k (by omega) (by omega) (fun e => by have := hp k e; omega) (fun e => by have := ht k e; omega)]
  exact hb.block k hk
 ·rcases h.p g hg with e | e
  ·exact hp g e
  ·omega
 ·rcases h.t g hg with e | e
  ·exact ht g e
  ·omega
theorem CInO.addT {cb o : Nat} {A : Array Value} {T : TypeId} {w W0 w' : World} {pv tv : Value} {tb : List TP} {K : List Nat} (h : CInO cb o A T w pv tv tb K) (x : Nat) {g cap : Nat} (hW : Below w.heap.size w W0) (hg : W0.grownBy w' tv.ownBlock)
  (hown : w'.ownsRow 0 3 1 (.slice (some ⟨g, 0, none⟩) (K.length + 1) cap) (K.length + 1) ((K.map fun (k : Nat) => Value.int .i64 k) ++ [.int .i64 x])) (hor : tv.ownBlock = some g ∨ W0.heap.size ≤ g) :
  CFr cb w (w'.setCell ⟨cb, o + 1, none⟩ (.slice (some ⟨g, 0, none⟩) (K.length + 1) cap)) pv tv pv (.slice (some ⟨g, 0, none⟩) (K.length + 1) cap) ∧ CInO cb o (A.setIfInBounds (o + 1) (.slice (some ⟨g, 0, none⟩) (K.length + 1) cap)) T (w'.setCell ⟨cb, o + 1, none⟩ (.slice (some ⟨g, 0, none⟩) (K.length + 1) cap)) pv (.slice (some ⟨g, 0, none⟩) (K.length + 1) cap) tb (K ++ [x]) := by
 obtain ⟨l1, l2, l3⟩ := h.lt
 have hWs := hW.size
 have hgs := hg.size
 have yW : W0.heap[cb]? = some (.cells A T (0, 0)) := by rw [hW.block cb l3]; exact h.y
 have yw := grown_blk hg yW h.ty
 have hgp : g ≠ cb := by
  rcases hor with e | e
  ·intro e'; rw [e'] at e; exact h.ty e
  ·omega
 have kp : ∀ k, k < w.heap.size → k ≠ cb → tv.ownBlock ≠ some k → (w'.setCell ⟨cb, o + 1, none⟩ (.slice (some ⟨g, 0, none⟩) (K.length + 1) cap)).heap[k]? = w.heap[k]? := by
  intro k hk hkp hne
  rw [blk_other _ _ (by simpa using hkp), hg.block k (by omega) (fun e => hne e.symm), hW.block k hk]
 refine ⟨⟨hg.os.trans hW.os, hg.tape.trans hW.tape, hg.output.trans hW.output, by simp only [World.setCell, Array.size_modify]; omega, fun k hk hp _ hs => kp k hk hp hs, fun _ h => Or.inl h, fun g' hg' => by simp only [Value.ownBlock, Option.some.injEq] at hg'; subst hg'; rcases hor with e | e; exact Or.inl e; exact Or.inr (by omega)⟩, ?_⟩
 refine ⟨blk_set yw (o + 1) _, by rw [Array.getElem?_setIfInBounds, if_neg (by omega)]; exact h.a, by rw [Array.getElem?_setIfInBounds, if_pos rfl, if_pos (Array.getElem?_eq_some_iff.1 h.b).1], owns_blk h.p (fun k hk => kp k (l1 k hk) (fun e => h.py (by rw [hk, e])) (fun e => h.pt k hk e)), by have := owns_blk (w' := w'.setCell ⟨cb, o + 1, none⟩ (.slice (some ⟨g, 0, none⟩) (K.length + 1) cap)) hown (fun k hk => by simp only [Value.ownBlock, Option.some.injEq] at hk; subst hk; exact blk_other _ _ (by simpa using hgp)); simpa using this, h.py, by simp only [Value.ownBlock, ne_eq, Option.some.injEq]; exact hgp, fun k hk hk' => by
   simp only [Value.ownBlock, Option.some.injEq] at hk'
   rcases hor with e | e
   ·rw [hk'] at e; exact h.pt k hk e
   ·have := l1 k hk; omega⟩
set_option maxRecDepth 100000 in
set_option maxHeartbeats 4000000 in
theorem AddO_any (w : World) (cb o : Nat) (A : Array Value) (T : TypeId) (pv tv : Value) (tb : List TP) (K : List Nat) (n : NR) (ri : Int) (r : Nat) (hr : n.form = 4 → ri = r) (h : CInO cb o A T w pv tv tb K) (ok : TOk tb K n) :
  Calls Tryz.prog 95 #[.pointer (some ⟨cb, o, none⟩), nrVal n, .int .i64 ri] w fun v w' => v = .returned (.int .i64 (tyK tb K n r).1) ∧ ∃ pv' tv', CFr cb w w' pv tv pv' tv' ∧ CInO cb o ((A.setIfInBounds o pv').setIfInBounds (o + 1) tv') T w' pv' tv' (tyK tb K n r).2 (K ++ [(tyK tb K n r).1]) := by
 obtain ⟨i0, hi, hz0, hz1, hz2⟩ := info_parts Tryz.infoInt
 have HI : Hid _ := hi
 have HZ0 : Hid _ := hz0
 have HZ1 : Hid _ := hz1
 have HZ2 : Hid _ := hz2
 clear hi hz0 hz1 hz2
 have hbx : Below w.heap.size w (w.alloc (nrO n)) := (Below.refl _ _).alloc (Nat.le_refl _) _
 have hty := typeOfO_any (w.alloc (nrO n)) cb o A T pv tv tb K n ri r hr (h.below hbx) ok
 have hKl := ok.hK
 have HBX : Hid _ := CFr.below cb pv tv hbx
 unfold nrVal at hty
 unfold nrO nrC at hty HBX
 unfold nrVal
 have HTY : Hid _ := hty
 clear hty h ok hr hbx
 obtain ⟨X, hX⟩ : ∃ X, X = tyK tb K n r := ⟨_, rfl⟩
 rw [← hX] at HTY ⊢
 clear hX
 show Calls _ _ #[Value.pointer (some ⟨cb, o, none⟩), _, _] w _
 go_enter Tryz.func95, Tryz.ntmps95
 go_wp2_with fail
 refine Calls.mono HTY.out ?_
 rintro _ w3 ⟨rfl, pv3, hfr3, hC3⟩
 have hC3y := hC3.y
 have hC3t := hC3.t
 have hcl := blk_lt hC3y
 obtain ⟨ao, oc, htv⟩ := slice_any hC3t
 have t1 : w3.cell? ⟨cb, o + 1, none⟩ = some (.slice ao K.length oc) := by rw [hC3.c1, ← htv]
 have HOWN : Hid ((w3.alloc (.cells #[.int .i64 X.1] 3)).ownsRow 0 3 1 (.slice ao K.length oc) K.length (K.map fun (k : Nat) => Value.int .i64 k)) := by
  have := hC3t.alloc (.cells #[.int .i64 X.1] 3)
  rw [htv] at this; exact this
 have HYW : Hid ((w3.alloc (.cells #[.int .i64 X.1] 3)).heap[cb]? = some (.cells (A.setIfInBounds o pv3) T (0, 0))) := blk_alloc _ hC3y
 have HC2 : Hid (∀ u ∈ ([.int .i64 X.1] : List Value), u.oneCell' = true) := by intro v hv; simp only [List.mem_singleton] at hv; subst hv; rfl
 have HTV : Hid _ := htv
 have HC3 : Hid _ := hC3
 have HF3 : Hid _ := HBX.out.trans hfr3
 clear hC3y hC3t htv hC3 hfr3 HTY
 go_wp2_with (at_builtin; go_must (refine app_own _ rfl (.tmp 16) (.tmp 18) 42 rfl 3 i0 _ 1 8 Tryz.undInts HI.out HZ0.out HZ1.out HZ2.out rfl (by decide) (.slice ao K.length oc) K.length (K.map fun (k : Nat) => Value.int .i64 k) rfl HOWN.out ⟨w3.heap.size, 0, none⟩ 1 1 [.int .i64 X.1] rfl rfl ?c1 HC2.out (by decide) ?c3 ?c4 ?_))
 case c1 =>
  intro j v hj
  rw [← hj]
  first | rfl | exact alloc_cell_at _ _ _ _
 case c3 => unfold maxLen; omega
 case c4 => omega
 intro g cap w4 hown hgrow hor
 have hcb' := grown_blk hgrow HYW.out (by have := HC3.out.ty; rw [HTV.out] at this; exact this)
 have z1 : w4.cell? ⟨cb, o + 1, none⟩ = some (.slice ao K.length oc) := by rw [blk_cell hcb', ← HTV.out]; exact HC3.out.b
 have zf := blk_free hcb' (o + 1)
 have zl := blk_lt hcb'
 have hadd := CInO.addT (g := g) (cap := cap) HC3.out X.1 ((Below.refl _ w3).alloc (Nat.le_refl _) (.cells #[.int .i64 X.1] 3)) (by rw [HTV.out]; exact hgrow) hown (by rw [HTV.out, show (w3.alloc (.cells #[.int .i64 X.1] 3)).heap.size = w3.heap.size + 1 from by simp]; exact hor)
 have HAD : Hid _ := hadd.2
 have HFR : Hid _ := HF3.out.trans hadd.1
 clear hown hgrow hor hcb' hadd
 go_wp2
 go_ret
 exact ⟨rfl, pv3, _, HFR.out, HAD.out⟩
theorem Add_any (w : World) (cb : Nat) (pv tv : Value) (tb : List TP) (K : List Nat) (n : NR) (ri : Int) (r : Nat) (hr : n.form = 4 → ri = r) (h : CIn cb w pv tv tb K) (ok : TOk tb K n) :
  Calls Tryz.prog 95 #[ptr cb, nrVal n, .int .i64 ri] w fun v w' => v = .returned (.int .i64 (tyK tb K n r).1) ∧ ∃ pv' tv', CFr cb w w' pv tv pv' tv' ∧ CIn cb w' pv' tv' (tyK tb K n r).2 (K ++ [(tyK tb K n r).1]) :=
 (AddO_any w cb 0 _ _ pv tv tb K n ri r hr h.toO ok).mono fun _ _ ⟨e, pv', tv', f, g⟩ => ⟨e, pv', tv', f, g.toC⟩
def progAns (ns : List NR) (op : List Int) : Nat × Nat := if (manyAns ns op).1 ≠ 0 then manyAns ns op else ckK [] [] ns
set_option maxRecDepth 100000 in
set_option maxHeartbeats 16000000 in
theorem Program_any (w : World) (nv ov : Value) (ns : List NR) (op : List Int) (h : TreeIn w nv ov ns op) (ho : OpOk ns op) (hl : ns.length ≤ 9000) (hsm : ∀ n ∈ ns, n.small) (hbk : ∀ (j : Nat) (n : NR), ns[j]? = some n → n.p0 < j ∧ n.p1 < j ∧ n.p2 < j) :
  Calls Tryz.prog 58 #[treeV nv ov] w fun v w' => v = .returned (.tuple #[.int .i64 (progAns ns op).1, .int .i64 (progAns ns op).2]) ∧ Below w.heap.size w w' := by
 have hlen := fun (w' : World) (hb : Below w.heap.size w w') => Len_any w' nv ov ns op (h.below hb)
 have hnod := fun (w' : World) (hb : Below w.heap.size w w') (k : Nat) (n : NR) (hk : ns[k]? = some n) => Node_in' w' nv ov ns op (h.below hb) k n hk hl
 have hman := fun (w' : World) (hb : Below w.heap.size w w') => manyPairs_any w' nv ov ns op (h.below hb) ho hl
 obtain ⟨a0, cap0, e0⟩ := slice_any h.nd
 obtain ⟨a1, cap1, e1⟩ := slice_any h.op
 rw [ho.1] at e1
 obtain ⟨m, hm⟩ : ∃ m, m = ns.length := ⟨_, rfl⟩
 rw [← hm] at e0 e1 hl
 subst e0
 subst e1
 unfold treeV at hlen hnod hman
 unfold treeV
 unfold nrVal at hnod
 rw [← hm] at hlen
 have HLEN : Hid _ := hlen
 have HNOD : Hid _ := hnod
 have HMAN : Hid _ := hman
 have HM : Hid _ := hm
 have HSM : Hid _ := hsm
 have HBK : Hid _ := hbk
 obtain ⟨ans, hans⟩ : ∃ ans, ans = progAns ns op := ⟨_, rfl⟩
 rw [← hans]
 have HANS : Hid _ := hans
 clear hlen hnod hman ho h hm hans hsm hbk
 have hBx : Below w.heap.size w (w.alloc (.cells #[.slice a0 m cap0, .slice a1 m cap1] 59)) := (Below.refl _ w).alloc (Nat.le_refl _) _
 have HBX : Hid _ := hBx
 have hmn := HMAN.out _ hBx
 clear hBx HMAN
 go_enter Tryz.func58, Tryz.ntmps58
 go_wp2_with fail
 refine hmn.mono ?_
 rintro _ wb ⟨rfl, hbb⟩
 have HBB : Hid _ := hbb
 obtain ⟨b0, b1, bl⟩ := box_cells hbb
 clear hbb hmn
 by_cases hm0 : (manyAns ns op).1 ≠ 0
 ·have HA : Hid (ans = manyAns ns op) := by rw [HANS.out]; unfold progAns; rw [if_pos hm0]; exact rfl
  have q : (((manyAns ns op).1 : Int) != 0) = true := by simp; omega
  generalize manyAns ns op = M at *
  clear hm0
  go_wp2
  refine bodyPost_ret (v := .tuple #[.int .i64 M.1, .int .i64 M.2]) (by simp [results, Tryz.results58, go_sem]) rfl ⟨by rw [HA.out], HBX.out.trans (HBB.out.mono (by simp))⟩
 ·have HA : Hid (ans = ckK [] [] ns) := by rw [HANS.out]; unfold progAns; rw [if_neg hm0]; exact rfl
  have q : (((manyAns ns op).1 : Int) != 0) = false := by simp; omega
  generalize manyAns ns op = M at *
  clear hm0
  have hbw : Below w.heap.size w wb := HBX.out.trans (HBB.out.mono (by simp))
  have HBW : Hid _ := hbw
  have hws := hbw.size
  have hC0 : CIn wb.heap.size (wb.alloc (.cells #[.slice none 0 0, .slice none 0 0] 156)) (.slice none 0 0) (.slice none 0 0) [] [] := ⟨blk_new _ _, World.ownsRow_nil _ _ _ _, World.ownsRow_nil _ _ _ _, by simp [Value.ownBlock], by simp [Value.ownBlock], fun g hg => by simp [Value.ownBlock] at hg⟩
  have HC0 : Hid _ := hC0
  clear hC0 hbw
  go_wp2
  go_loopw [7, 8, 9, 10] (fun i _ _ _ wr => ∃ k : Nat, k ≤ m ∧ i = .int .i64 k ∧ ∃ pv tv tb D K T, CIn wb.heap.size wr pv tv tb K ∧ Rel tb D K T ∧ K.length = k ∧ tb.length ≤ k ∧ ckK [] [] ns = ckK tb K (ns.drop k) ∧ Below wb.heap.size wb wr ∧ wb.heap.size < wr.heap.size ∧ (∀ g, pv.ownBlock = some g → wb.heap.size ≤ g) ∧ (∀ g, tv.ownBlock = some g → wb.heap.size ≤ g)) (fun i _ _ _ _ => m - (intOf i).toNat)
  case atStart => exact ⟨0, by omega, rfl, _, _, [], [], [], [], HC0.out, rel0, rfl, by simp, by simp, (Below.refl _ wb).alloc (Nat.le_refl _) _, by simp, by simp [Value.ownBlock], by simp [Value.ownBlock]⟩
  case round =>
   obtain ⟨k, hk, rfl, pv, tv, tb, D, K, T, hC, hRel, hKl, htl, hck, hbr, hbs, hpb, htb⟩ := hrel
   have hbw2 : Below w.heap.size w wr := HBW.out.trans (hbr.mono hws)
   have hbr2 := HBB.out.trans (hbr.mono HBB.out.size)
   obtain ⟨x0, x1, xl⟩ := box_cells hbr2
   have hln := HLEN.out wr hbw2
   have hrs := hbr.size
   by_cases hlt : k < m
   ·have hkl : k < ns.length := by have := HM.out; omega
    obtain ⟨n, hn⟩ : ∃ n, ns[k]? = some n := ⟨ns[k], List.getElem?_eq_getElem hkl⟩
    have hnsm := HSM.out n (List.mem_of_getElem? hn)
    have hdr : ns.drop k = n :: ns.drop (k + 1) := by
     rw [List.drop_eq_getElem_cons hkl]; rw [List.getElem?_eq_getElem hkl] at hn; simp only [Option.some.injEq] at hn; rw [hn]
    rw [hdr] at hck
    simp only [ckK] at hck
    have hst := step_rel hRel n
    have htk := typeK_len tb K n
    have hok : TOk tb K n := ⟨by omega, by omega, fun i => by have := (hRel.known i).2.1; omega, fun j => by have := hRel.sz_le j; omega, ⟨by have := hnsm.1; omega, by have := hnsm.1; omega⟩, ⟨by have := hnsm.2.1; omega, by have := hnsm.2.1; omega⟩, ⟨by have := hnsm.2.2.1; omega, by have := hnsm.2.2.1; omega⟩, ⟨by have := hnsm.2.2.2; omega, by have := hnsm.2.2.2; omega⟩⟩
    have hback := HBK.out k n hn
    have hnew := typeK_new tb K n (by rw [hKl]; exact hback)
    have hpl := pairF_len tb 0 (knownK K n.p0) (knownK K n.p1)
    have htl2 : (tyK tb K n 0).2.length ≤ k + 1 ∧ (tyK tb K n 0).1 ≤ 10000 := by
     have hk0 := hok.kn n.p0
     have hk1 := hok.kn n.p1
     have hks := hok.kn n.source
     have hab := hRel.parts_le (knownK K n.p0)
     unfold tyK
     split
     ·exact ⟨by simp only; omega, by simp only; omega⟩
     split
     ·exact ⟨by simp only; omega, by simp only; omega⟩
     split
     ·exact ⟨by simp only; omega, by simp only; omega⟩
     split
     ·exact ⟨by simp only; omega, by simp only; omega⟩
     split
     ·exact ⟨by simp only; omega, by simp only; omega⟩
     split
     ·exact ⟨by omega, by omega⟩
     split
     ·exact ⟨by simp only; omega, by simp only; omega⟩
     split
     ·exact ⟨by simp only; omega, by simp only; omega⟩
     ·exact ⟨by simp only; omega, by simp only; omega⟩
    have hty := fun (w' : World) (hb : Below wr.heap.size wr w') => Add_any w' wb.heap.size pv tv tb K n 0 0 (fun _ => rfl) (hC.below hb) hok
    have hfa := fun (w' : World) (pv' tv' : Value) (hC' : CIn wb.heap.size w' pv' tv' (tyK tb K n 0).2 (K ++ [(tyK tb K n 0).1])) => faultOf_any w' wb.heap.size pv' tv' (tyK tb K n 0).2 (K ++ [(tyK tb K n 0).1]) n (tyK tb K n 0).1 hC' (by omega) (by simp; omega) htl2.2 hok.p0 hok.p1 hok.p2
    rw [hnew.1] at hfa
    unfold ptr nrVal at hty hfa
    have HTY : Hid _ := hty
    have HFA : Hid _ := hfa
    have HNEW : Hid _ := hnew.2
    have HN : Hid _ := hn
    have HCK : Hid _ := hck
    have HST : Hid _ := hst
    have HBR : Hid _ := hbr
    have HC : Hid _ := hC
    have HPB : Hid _ := hpb
    have HTB : Hid _ := htb
    have HKL : Hid _ := hKl
    have HTL : Hid _ := htl2.1
    clear hn hnsm hdr hck hst htk hok hty hRel hC hbr hbr2 hpb htb hkl hKl htl hfa hnew hback htl2 hpl
    go_wp2_with fail
    refine hln.mono ?_
    rintro _ w1 ⟨rfl, hb1⟩
    have hbB1 := HBB.out.trans ((HBR.out.trans (hb1.mono hrs)).mono HBB.out.size)
    obtain ⟨d0, d1, dl⟩ := box_cells hbB1
    have hno := HNOD.out w1 (HBW.out.trans ((HBR.out.trans (hb1.mono hrs)).mono hws)) k n HN.out
    have HB1 : Hid _ := hb1
    clear hb1 hbB1 hln x0 x1
    go_wp2_with fail
    refine hno.mono ?_
    rintro _ w2 ⟨rfl, hb2⟩
    have hr2 : Below wr.heap.size wr w2 := HB1.out.trans (hb2.mono HB1.out.size)
    have hr3 := hr2.alloc hr2.size (nrO n)
    have hty := HTY.out _ hr3
    have HR3 : Hid _ := hr3
    have hr2s := hr2.size
    clear hb2 hr2 hno d0 d1 hr3 HTY
    unfold nrO nrC at hty
    go_wp2_with fail
    refine hty.mono ?_
    rintro _ w3 ⟨rfl, pv3, tv3, hfr3, hC3⟩
    have hnb : w3.heap[w2.heap.size]? = some (nrO n) := by
     rw [hfr3.blk w2.heap.size (by simp) (by omega) (fun e => by have := (HC.out.lt.1 _ e); omega) (fun e => by have := (HC.out.lt.2.1 _ e); omega)]
     exact blk_new _ _
    have hB3 : Below wb.heap.size wb (w2.alloc (nrO n)) := HBR.out.trans (HR3.out.mono hrs)
    obtain ⟨g1, g2, g3⟩ := hfr3.toBelow hB3 (Nat.le_refl _) (by simp; omega) HPB.out HTB.out
    have hw3s := hfr3.size
    have hw3b : wb.heap.size < w3.heap.size := by simp at hw3s; omega
    have hfa := HFA.out w3 pv3 tv3 hC3
    obtain ⟨d0, d1, d2, d3, d4, d5, d6, d7, d8, d9⟩ := nr_cells10 hnb
    have hnl := blk_lt hnb
    have HC3 : Hid _ := hC3
    have HG1 : Hid _ := g1
    have HG2 : Hid _ := g2
    have HG3 : Hid _ := g3
    have HNB : Hid _ := hnb
    clear hfr3 hC3 hnb hB3 g1 g2 g3 hty HR3 HFA
    go_wp2_with fail
    refine hfa.mono ?_
    rintro _ w4 ⟨rfl, hb4⟩
    have c1 : w4.cell? ⟨w2.heap.size, 1, none⟩ = some (.int .i64 n.at_) := by rw [hb4.cell (p := ⟨w2.heap.size, 1, none⟩) hnl]; exact d1
    have HB4 : Hid _ := hb4
    have hw4s := hb4.size
    clear hb4 hfa d0 d1 d2 d3 d4 d5 d6 d7 d8 d9
    generalize typeK tb K n = X at *
    by_cases hf : X.1.2 = 0
    ·have q2 : ((X.1.2 : Int) != 0) = false := by simp; omega
     have hck := HCK.out
     rw [if_neg (by omega)] at hck
     obtain ⟨D', hRel'⟩ := HST.out.2 (by rw [← HST.out.1]; exact hf)
     have hX := HNEW.out hf
     have hC4 := HC3.out
     have hTL := HTL.out
     rw [hX] at hC4 hTL
     have HC4 : Hid _ := hC4.below HB4.out
     have HTL2 : Hid _ := hTL
     have HCK2 : Hid _ := hck
     have HRL : Hid _ := hRel'
     clear hf hck hRel' hX hC4 hTL HC3 HTL
     go_wp2
     go_roundw
     case rel => exact ⟨k + 1, by omega, by go_num, pv3, tv3, X.2, D', K ++ [X.1.1], _, HC4.out, HRL.out, by simp [HKL.out], HTL2.out, HCK2.out, HG1.out.trans (HB4.out.mono (by omega)), by omega, HG2.out, HG3.out⟩
     case measure => simp [intOf]; omega
    ·have q2 : ((X.1.2 : Int) != 0) = true := by simp; omega
     have hck := HCK.out
     rw [if_pos hf] at hck
     have HAA : Hid (ans = (X.1.2, n.at_)) := by rw [HA.out]; exact hck
     clear hf hck
     go_wp2
     go_quiet (fail)
     go_wp2
     refine bodyPost_ret (v := .tuple #[.int .i64 X.1.2, .int .i64 n.at_]) (by simp [results, Tryz.results58, go_sem]) rfl ⟨by rw [HAA.out], ?_⟩
     exact (HBW.out.trans ((HG1.out.trans (HB4.out.mono (by omega))).mono hws)).trans ⟨rfl, rfl, rfl, Nat.le_refl _, fun _ _ => rfl⟩
   ·have HAA : Hid (ans = (0, 0)) := by
     have hd : ns.drop k = [] := List.drop_eq_nil_of_le (by have := HM.out; omega)
     rw [hd] at hck
     rw [HA.out, hck]; exact rfl
    have HBR : Hid _ := hbr
    clear hbr hC hRel hck hbr2 hpb htb
    go_wp2_with fail
    refine hln.mono ?_
    rintro _ w1 ⟨rfl, hb1⟩
    have HB1 : Hid _ := HBW.out.trans ((HBR.out.trans (hb1.mono hrs)).mono hws)
    clear hb1 hln
    go_wp2
    refine bodyPost_ret (v := .tuple #[.int .i64 0, .int .i64 0]) (by simp [results, Tryz.results58, go_sem]) rfl ⟨by rw [HAA.out]; rfl, HB1.out⟩
def nr0 : NR := ⟨0, 0, 0, 0, [], 0, 0, 0, 0, 0⟩
def opNs (ns : List NR) (op : List Int) : List NR := op.map (fun x => (ns[x.toNat]?).getD nr0)
theorem opNs_len (ns : List NR) (op : List Int) : (opNs ns op).length = op.length := List.length_map _
theorem opNs_at {ns : List NR} {op : List Int} (ho : OpOk ns op) (k : Nat) (hk : k < ns.length) : ∃ (i : Nat) (n : NR), op[k]? = some (i : Int) ∧ ns[i]? = some n ∧ (opNs ns op).drop k = n :: (opNs ns op).drop (k + 1) ∧ n ∈ opNs ns op := by
 have hkl : k < op.length := by rw [ho.1]; exact hk
 obtain ⟨x0, x1⟩ := ho.2 op[k] (List.getElem_mem hkl)
 have hx : ns[op[k].toNat]? = some ns[op[k].toNat] := List.getElem?_eq_getElem x1
 refine ⟨op[k].toNat, ns[op[k].toNat], by rw [List.getElem?_eq_getElem hkl, Int.toNat_of_nonneg x0], hx, ?_, ?_⟩
 ·rw [List.drop_eq_getElem_cons (by rw [opNs_len]; exact hkl)]
  congr 1
  unfold opNs
  rw [List.getElem_map, hx]; rfl
 ·unfold opNs
  rw [List.mem_map]
  exact ⟨op[k], List.getElem_mem hkl, by rw [hx]; rfl⟩
def mentF (tb : List TP) : Nat → Nat → Int → Bool
 | 0, _, _ => false
 | f + 1, k, rg => if k = 0 ∨ tb.length < k then false else (((atP tb k).r : Int) == rg) || mentF tb f (atP tb k).a rg || mentF tb f (atP tb k).b rg
def Low (tb : List TP) : Prop := ∀ k, (atP tb (k + 1)).a ≤ k ∧ (atP tb (k + 1)).b ≤ k
set_option maxRecDepth 100000 in
set_option maxHeartbeats 4000000 in
theorem MentionsO_any (cb o : Nat) (pv : Value) (tb : List TP) (hl : tb.length ≤ 9000) (hlow : Low tb) (rg : Int) : ∀ (f k : Nat), k < f → k ≤ 10000 → ∀ (w : World), w.cell? ⟨cb, o, none⟩ = some pv → w.ownsRow 0 212 4 pv tb.length (tb.flatMap tpL) →
  Calls Tryz.prog 151 #[.pointer (some ⟨cb, o, none⟩), .int .i64 k, .int .i64 rg] w fun v w' => v = .returned (.bool (mentF tb f k rg)) ∧ Below w.heap.size w w' := by
 intro f
 induction f with
 | zero => intro k hk; omega
 | succ f ih =>
  intro k hkf hk w hc hr
  have hcb := World.block_lt_of_cell? _ _ hc
  show Calls _ _ #[Value.pointer (some ⟨cb, o, none⟩), _, _] w _
  by_cases h0 : k = 0 ∨ tb.length < k
  ·have e : mentF tb (f + 1) k rg = false := by simp only [mentF]; rw [if_pos h0]
   rw [e]
   obtain ⟨a, cap, rfl⟩ := slice_any hr
   generalize tb.length = m at *
   clear hr e ih hlow
   rcases h0 with h0 | h0
   ·have h0' : k < 1 := by omega
    clear h0
    go_enter Tryz.func151, Tryz.ntmps151
    go_wp2
    go_ret
    exact ⟨rfl, Below.refl _ _⟩
   ·have h1 : 1 ≤ k := by omega
    go_enter Tryz.func151, Tryz.ntmps151
    go_wp2
    go_ret
    exact ⟨rfl, Below.refl _ _⟩
  ·have hrec : ∀ (k' : Nat), k' < k → ∀ w', Below w.heap.size w w' → Calls Tryz.prog 151 #[.pointer (some ⟨cb, o, none⟩), .int .i64 k', .int .i64 rg] w' fun v w'' => v = .returned (.bool (mentF tb f k' rg)) ∧ Below w'.heap.size w' w'' := by
    intro k' hk' w' hb
    exact ih k' (by omega) (by omega) w' (by rw [hb.cell (p := ⟨cb, o, none⟩) hcb]; exact hc) (owns_below hr hb)
   have hm : mentF tb (f + 1) k rg = ((((atP tb k).r : Int) == rg) || mentF tb f (atP tb k).a rg || mentF tb f (atP tb k).b rg) := by simp only [mentF]; rw [if_neg h0]
   obtain ⟨g, cap, rfl⟩ := slice_of hr (by omega)
   obtain ⟨j, rfl⟩ : ∃ j, k = j + 1 := ⟨k - 1, by omega⟩
   have hj : j < tb.length := by omega
   obtain ⟨p, hp⟩ : ∃ p, tb[j]? = some p := ⟨tb[j], List.getElem?_eq_getElem hj⟩
   have e : atP tb (j + 1) = p := by unfold atP; rw [if_neg (by omega), Nat.add_sub_cancel, hp]; rfl
   have hlo := hlow j
   rw [e] at hm hlo
   obtain ⟨c0, c1, c2, c3⟩ := tp_cells hr j p hp
   have hg : g < w.heap.size := (hr.lt g rfl).2
   have ej : ((j + 1 : Nat) : Int) = (j : Int) + 1 := by omega
   have ej2 : (j : Int) + 1 - 1 = (j : Int) := by omega
   have hra := hrec p.a (by omega)
   have hrb := hrec p.b (by omega)
   have HRA : Hid _ := hra
   have HRB : Hid _ := hrb
   obtain ⟨ma, hma⟩ : ∃ ma, ma = mentF tb f p.a rg := ⟨_, rfl⟩
   obtain ⟨mb, hmb⟩ : ∃ mb, mb = mentF tb f p.b rg := ⟨_, rfl⟩
   rw [← hma] at HRA hm
   rw [← hmb] at HRB hm
   obtain ⟨R, hR⟩ : ∃ R, R = mentF tb (f + 1) (j + 1) rg := ⟨_, rfl⟩
   rw [← hR] at hm ⊢
   generalize tb.length = m at *
   have HBX : Hid (Below w.heap.size w (w.alloc (.cells #[.int .i64 p.r, .int .i64 p.a, .int .i64 p.b, .int .i64 p.sz] 212))) := (Below.refl _ _).alloc (Nat.le_refl _) _
   have HM : Hid _ := hm
   clear hr e hp h0 hrec hra hrb ih hlow hma hmb hR hm hlo
   rw [ej]
   cases hq : ((p.r : Int) == rg) with
   | true =>
    have HR : Hid (R = true) := (show R = true by rw [HM.out, hq]; rfl)
    clear HM
    go_enter Tryz.func151, Tryz.ntmps151
    go_wp2
    go_ret
    exact ⟨by rw [HR.out]; first | done | rfl, HBX.out⟩
   | false =>
    go_enter Tryz.func151, Tryz.ntmps151
    go_wp2_with fail
    refine (HRA.out _ HBX.out).mono ?_
    rintro _ w2 ⟨rfl, hb2⟩
    have hpb : w2.heap[w.heap.size]? = some (.cells #[.int .i64 p.r, .int .i64 p.a, .int .i64 p.b, .int .i64 p.sz] 212 (0, 0)) := by rw [hb2.block _ (by simp)]; exact blk_new _ _
    have d2 : w2.cell? ⟨w.heap.size, 2, none⟩ = some (.int .i64 p.b) := by rw [blk_cell hpb]; rfl
    have hpl := blk_lt hpb
    have hW2 : Below w.heap.size w w2 := HBX.out.trans (hb2.mono HBX.out.size)
    have HW2 : Hid _ := hW2
    clear hb2 hpb hW2
    cases ma with
    | true =>
     have HR : Hid (R = true) := (show R = true by rw [HM.out, hq]; rfl)
     clear HM
     go_wp2
     go_ret
     exact ⟨by rw [HR.out]; first | done | rfl, HW2.out⟩
    | false =>
     have HR : Hid (R = mb) := (show R = mb by rw [HM.out, hq]; rfl)
     clear HM
     go_wp2_with fail
     refine (HRB.out _ HW2.out).mono ?_
     rintro _ w3 ⟨rfl, hb3⟩
     have HB3 : Hid (Below w.heap.size w w3) := HW2.out.trans (hb3.mono HW2.out.size)
     clear hb3
     go_wp2
     go_ret
     exact ⟨by rw [HR.out]; first | done | rfl, HB3.out⟩
theorem joinF_len (E : List Nat) (x y : Nat) : (joinF E x y).length = E.length := by unfold joinF; split <;> simp
def matchF (tb : List TP) : Nat → List Nat → Nat → Nat → List Nat
 | 0, E, _, _ => E
 | f + 1, E, x, y => if x = y ∨ x = 0 ∨ y = 0 then E else matchF tb f (matchF tb f (joinF E (atP tb x).r (atP tb y).r) (atP tb x).a (atP tb y).a) (atP tb x).b (atP tb y).b
theorem matchF_len (tb : List TP) : ∀ (f : Nat) (E : List Nat) (x y : Nat), (matchF tb f E x y).length = E.length
 | 0, _, _, _ => rfl
 | f + 1, E, x, y => by
  simp only [matchF]
  split
  ·rfl
  ·rw [matchF_len tb f, matchF_len tb f, joinF_len]
structure EFr (g : Nat) (w w' : World) : Prop where
 os : w'.os = w.os
 tape : w'.tape = w.tape
 output : w'.output = w.output
 size : w.heap.size ≤ w'.heap.size
 blk : ∀ k, k < w.heap.size → k ≠ g → w'.heap[k]? = w.heap[k]?
theorem EFr.trans {g : Nat} {w w1 w2 : World} (h : EFr g w w1) (h' : EFr g w1 w2) : EFr g w w2 :=
 ⟨h'.os.trans h.os, h'.tape.trans h.tape, h'.output.trans h.output, Nat.le_trans h.size h'.size, fun k hk hg => (h'.blk k (Nat.lt_of_lt_of_le hk h.size) hg).trans (h.blk k hk hg)⟩
theorem EFr.below {w w' : World} (g : Nat) (h : Below w.heap.size w w') : EFr g w w' := ⟨h.os, h.tape, h.output, h.size, fun k hk _ => h.block k hk⟩
theorem EFr.set (g k : Nat) (w : World) (v : Value) : EFr g w (w.setCell ⟨g, k, none⟩ v) := ⟨rfl, rfl, rfl, by simp [World.setCell], fun j _ hg => blk_other _ _ (by simpa using hg)⟩
theorem EFr.cell {g : Nat} {w w' : World} (h : EFr g w w') {b o : Nat} (hb : b < w.heap.size) (hg : b ≠ g) : w'.cell? ⟨b, o, none⟩ = w.cell? ⟨b, o, none⟩ := by
 unfold World.cell?
 simp only [h.blk b hb hg]
set_option maxRecDepth 100000 in
set_option maxHeartbeats 8000000 in
theorem match_any (sb g cap : Nat) (pv : Value) (tb : List TP) (hl : tb.length ≤ 9000) (hlow : Low tb) (hgs : g ≠ sb) (hpg : pv.ownBlock ≠ some g) : ∀ (f x y : Nat) (E : List Nat) (w : World), x < f → x ≤ 10000 → y ≤ 10000 → E.length ≤ 9000 → (∀ k, (atP tb k).r < E.length) →
  w.cell? ⟨sb, 0, none⟩ = some pv → w.cell? ⟨sb, 2, none⟩ = some (.slice (some ⟨g, 0, none⟩) E.length cap) → w.ownsRow 0 212 4 pv tb.length (tb.flatMap tpL) → w.ownsRow 0 3 1 (.slice (some ⟨g, 0, none⟩) E.length cap) E.length (natVs E) →
  Calls Tryz.prog 135 #[ptr sb, .int .i64 x, .int .i64 y] w fun v w' => v = .returned (.tuple #[]) ∧ EFr g w w' ∧ w'.ownsRow 0 3 1 (.slice (some ⟨g, 0, none⟩) E.length cap) E.length (natVs (matchF tb f E x y)) := by
 intro f
 induction f with
 | zero => intro x y E w hx; omega
 | succ f ih =>
  intro x y E w hxf hx hy hE hr hc0 hc2 hp he
  have hsb := World.block_lt_of_cell? _ _ hc0
  show Calls _ _ #[Value.pointer (some ⟨sb, 0, none⟩), _, _] w _
  obtain ⟨R, hR⟩ : ∃ R, R = matchF tb (f + 1) E x y := ⟨_, rfl⟩
  rw [← hR]
  simp only [matchF] at hR
  by_cases h0 : x = y ∨ x = 0 ∨ y = 0
  ·rw [if_pos h0] at hR
   subst hR
   have HE : Hid _ := he
   clear he ih hp hr
   rcases h0 with h0 | h0 | h0
   ·have q1 : ((x : Int) == (y : Int)) = true := by rw [h0]; simp
    clear h0
    go_enter Tryz.func135, Tryz.ntmps135
    go_wp2
    refine bodyPost_ret (v := .tuple #[]) (by simp [results, Tryz.results135, go_sem]) rfl ⟨rfl, EFr.below g (Below.refl _ _), HE.out⟩
   ·by_cases q : x = y
    ·have q1 : ((x : Int) == (y : Int)) = true := by rw [q]; simp
     clear q h0
     go_enter Tryz.func135, Tryz.ntmps135
     go_wp2
     refine bodyPost_ret (v := .tuple #[]) (by simp [results, Tryz.results135, go_sem]) rfl ⟨rfl, EFr.below g (Below.refl _ _), HE.out⟩
    ·have q1 : ((x : Int) == (y : Int)) = false := by rw [beq_eq_false_iff_ne]; omega
     have q2 : ((x : Int) == 0) = true := by rw [h0]; rfl
     clear q h0
     go_enter Tryz.func135, Tryz.ntmps135
     go_wp2
     refine bodyPost_ret (v := .tuple #[]) (by simp [results, Tryz.results135, go_sem]) rfl ⟨rfl, EFr.below g (Below.refl _ _), HE.out⟩
   ·by_cases q : x = y
    ·have q1 : ((x : Int) == (y : Int)) = true := by rw [q]; simp
     clear q h0
     go_enter Tryz.func135, Tryz.ntmps135
     go_wp2
     refine bodyPost_ret (v := .tuple #[]) (by simp [results, Tryz.results135, go_sem]) rfl ⟨rfl, EFr.below g (Below.refl _ _), HE.out⟩
    ·have q1 : ((x : Int) == (y : Int)) = false := by rw [beq_eq_false_iff_ne]; omega
     have q2 : ((x : Int) == 0) = false := by rw [beq_eq_false_iff_ne]; omega
     have q3 : ((y : Int) == 0) = true := by rw [h0]; rfl
     clear q h0
     go_enter Tryz.func135, Tryz.ntmps135
     go_wp2
     refine bodyPost_ret (v := .tuple #[]) (by simp [results, Tryz.results135, go_sem]) rfl ⟨rfl, EFr.below g (Below.refl _ _), HE.out⟩
  ·rw [if_neg h0] at hR
   have q1 : ((x : Int) == (y : Int)) = false := by rw [beq_eq_false_iff_ne]; omega
   have q2 : ((x : Int) == 0) = false := by rw [beq_eq_false_iff_ne]; omega
   have q3 : ((y : Int) == 0) = false := by rw [beq_eq_false_iff_ne]; omega
   have hx1 : 1 ≤ x := by omega
   have hy1 : 1 ≤ y := by omega
   have hlx := hlow (x - 1)
   have hly := hlow (y - 1)
   rw [show x - 1 + 1 = x by omega] at hlx
   rw [show y - 1 + 1 = y by omega] at hly
   have hrx := hr x
   have hry := hr y
   have hg : g < w.heap.size := (he.lt g rfl).2
   have hA := AtO_any w sb 0 pv tb x hc0 hp hl hx
   have hB := fun (W : World) (hb : Below w.heap.size w W) => AtO_any W sb 0 pv tb y (by rw [hb.cell (p := ⟨sb, 0, none⟩) hsb]; exact hc0) (owns_below hp hb) hl hy
   generalize atP tb x = P at *
   generalize atP tb y = Q at *
   have hJ := fun (W : World) (hb : Below w.heap.size w W) => join_any W sb 0 g cap E P.r Q.r (by rw [hb.cell (p := ⟨sb, 2, none⟩) hsb]; exact hc2) (owns_below he hb) hE hrx hry
   have hjl := joinF_len E P.r Q.r
   generalize joinF E P.r Q.r = E1 at *
   have hml := matchF_len tb f E1 P.a Q.a
   have hM : ∀ (W : World) (E' : List Nat) (x' y' : Nat), E'.length = E.length → x' < x → y' < y → EFr g w W → W.ownsRow 0 3 1 (.slice (some ⟨g, 0, none⟩) E.length cap) E.length (natVs E') → Calls Tryz.prog 135 #[.pointer (some ⟨sb, 0, none⟩), .int .i64 x', .int .i64 y'] W fun v w' => v = .returned (.tuple #[]) ∧ EFr g W w' ∧ w'.ownsRow 0 3 1 (.slice (some ⟨g, 0, none⟩) E.length cap) E.length (natVs (matchF tb f E' x' y')) := fun W E' x' y' hE' hx' hy' hW ho => by
    have := ih x' y' E' W (by omega) (by omega) (by omega) (by omega) (by rw [hE']; exact hr) (by rw [hW.cell hsb (fun e => hgs e.symm)]; exact hc0) (by rw [hW.cell hsb (fun e => hgs e.symm), hE']; exact hc2) (owns_blk hp (fun k hk => hW.blk k (hp.lt k hk).2 (fun e => hpg (by rw [hk, e])))) (by rw [hE']; exact ho)
    rw [hE'] at this
    exact this
   unfold tpVal at hA hB
   unfold ptr at hJ
   have HA : Hid _ := hA
   have HB : Hid _ := hB
   have HJ : Hid _ := hJ
   have HM : Hid _ := hM
   have HR : Hid _ := hR
   clear hA hB hJ hM hR he hp hr ih h0 hc0 hc2
   go_enter Tryz.func135, Tryz.ntmps135
   go_wp2_with fail
   refine Calls.mono HA.out ?_
   rintro _ w1 ⟨rfl, hb1⟩
   have hbA := hb1.alloc hb1.size (.cells #[.int .i64 P.r, .int .i64 P.a, .int .i64 P.b, .int .i64 P.sz] 212)
   have HA1 : Hid _ := blk_new w1 (.cells #[.int .i64 P.r, .int .i64 P.a, .int .i64 P.b, .int .i64 P.sz] 212 (0, 0))
   have HBA : Hid _ := hbA
   have hz1 := hb1.size
   clear hbA hb1 HA
   go_wp2_with fail
   refine Calls.mono (HB.out _ HBA.out) ?_
   rintro _ w2 ⟨rfl, hb2⟩
   have hbB := HBA.out.trans (hb2.mono HBA.out.size)
   have hbB2 := hbB.alloc hbB.size (.cells #[.int .i64 Q.r, .int .i64 Q.a, .int .i64 Q.b, .int .i64 Q.sz] 212)
   have ha2 := (hb2.block _ (blk_lt HA1.out)).trans HA1.out
   have hal : Below w2.heap.size w2 (w2.alloc (.cells #[.int .i64 Q.r, .int .i64 Q.a, .int .i64 Q.b, .int .i64 Q.sz] 212 (0, 0))) := (Below.refl _ w2).alloc (Nat.le_refl _) _
   have ha3 := (hal.block _ (blk_lt ha2)).trans ha2
   have hq3 := blk_new w2 (.cells #[.int .i64 Q.r, .int .i64 Q.a, .int .i64 Q.b, .int .i64 Q.sz] 212 (0, 0))
   have hz2 := hbB.size
   have HBB : Hid _ := hbB2
   have HA3 : Hid _ := ha3
   have HQ3 : Hid _ := hq3
   have e0 : (w2.alloc (.cells #[.int .i64 Q.r, .int .i64 Q.a, .int .i64 Q.b, .int .i64 Q.sz] 212 (0, 0))).cell? ⟨w1.heap.size, 0, none⟩ = some (.int .i64 P.r) := by rw [blk_cell ha3]; rfl
   have el := blk_lt ha3
   clear hbB hbB2 ha2 hal ha3 hq3 hb2 HBA HA1 HB
   generalize w1.heap.size = S1 at *
   go_wp2_with fail
   refine Calls.mono (HJ.out _ HBB.out) ?_
   rintro _ w3 ⟨rfl, ⟨k3, a3, hw3⟩, ho3⟩
   have hf3 := EFr.set g k3 (w2.alloc (.cells #[.int .i64 Q.r, .int .i64 Q.a, .int .i64 Q.b, .int .i64 Q.sz] 212 (0, 0))) (.int .i64 a3)
   rw [← hw3] at hf3
   have hA4 := (hf3.blk _ (blk_lt HA3.out) (by omega)).trans HA3.out
   have hQ4 := (hf3.blk _ (blk_lt HQ3.out) (by omega)).trans HQ3.out
   have HF3 : Hid _ := (EFr.below g HBB.out).trans hf3
   have s1 : w3.cell? ⟨S1, 1, none⟩ = some (.int .i64 P.a) := by rw [blk_cell hA4]; rfl
   have t1 : w3.cell? ⟨w2.heap.size, 1, none⟩ = some (.int .i64 Q.a) := by rw [blk_cell hQ4]; rfl
   have sl := blk_lt hA4
   have tl := blk_lt hQ4
   have HA4 : Hid _ := hA4
   have HQ4 : Hid _ := hQ4
   have HO3 : Hid _ := ho3
   clear hw3 hf3 hA4 hQ4 ho3 HBB HA3 HQ3 HJ e0 el
   generalize w2.heap.size = S2 at *
   go_wp2_with fail
   refine Calls.mono (HM.out w3 E1 P.a Q.a hjl (by omega) (by omega) HF3.out HO3.out) ?_
   rintro _ w4 ⟨rfl, hf4, ho4⟩
   have hA5 := (hf4.blk _ (blk_lt HA4.out) (by omega)).trans HA4.out
   have hQ5 := (hf4.blk _ (blk_lt HQ4.out) (by omega)).trans HQ4.out
   have HF4 : Hid _ := HF3.out.trans hf4
   have HO4 : Hid _ := ho4
   have u1 : w4.cell? ⟨S1, 2, none⟩ = some (.int .i64 P.b) := by rw [blk_cell hA5]; rfl
   have v1 : w4.cell? ⟨S2, 2, none⟩ = some (.int .i64 Q.b) := by rw [blk_cell hQ5]; rfl
   have ul := blk_lt hA5
   have vl := blk_lt hQ5
   clear hf4 ho4 hA5 hQ5 HA4 HQ4 HF3 HO3 s1 t1 sl tl
   go_wp2_with fail
   refine Calls.mono (HM.out w4 _ P.b Q.b (hml.trans hjl) (by omega) (by omega) HF4.out HO4.out) ?_
   rintro _ w5 ⟨rfl, hf5, ho5⟩
   have HF5 : Hid _ := HF4.out.trans hf5
   rw [← HR.out] at ho5
   have HO5 : Hid _ := ho5
   clear hf5 ho5 HF4 HO4 HM u1 v1 ul vl
   go_wp2
   refine bodyPost_end (v := .tuple #[]) (by simp [results, Tryz.results135, go_sem]) rfl ⟨rfl, HF5.out, HO5.out⟩
end Go.Proofs.YtpicaknklgccoaaGreatDoor
