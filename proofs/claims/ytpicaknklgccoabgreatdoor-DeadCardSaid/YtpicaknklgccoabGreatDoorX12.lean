import Derived.Test.YtpicaknklgccoabGreatDoorX11
import Derived.Test.YtpicaknklgccoabGreatDoorX10
namespace Go.Proofs.YtpicaknklgccoabGreatDoor
open Go.RowKit
theorem ibne_true {a b : Nat} (h : a ≠ b) : ((a : Int) != (b : Int)) = true := by simp; omega
theorem ibne_false {a b : Nat} (h : a = b) : ((a : Int) != (b : Int)) = false := by simp; omega
set_option maxRecDepth 100000 in
set_option maxHeartbeats 32000000 in
theorem faultOf_any (w : World) (cb : Nat) (pv tv : Value) (tb : List TP) (K : List Nat) (n : NR) (kind : Nat) (h : CIn cb w pv tv tb K) (hl : tb.length ≤ 9000) (hK : K.length ≤ 9000) (hkd : kind ≤ 10000) (hp0 : -10 ≤ n.p0 ∧ n.p0 ≤ 10000) (hp1 : -10 ≤ n.p1 ∧ n.p1 ≤ 10000) (hp2 : -10 ≤ n.p2 ∧ n.p2 ≤ 10000) :
  Calls Tryz.prog 63 #[nrVal n, .int .i64 kind, ptr cb] w fun v w' => v = .returned (.int .i64 (ftK tb K n kind)) ∧ Below w.heap.size w w' := by
 have hbx : Below w.heap.size w (w.alloc (nrO n)) := (Below.refl _ _).alloc (Nat.le_refl _) _
 have hin := h.below hbx
 have hk0 := known_any (w.alloc (nrO n)) cb pv tv tb K n.p0 hin hK hp0
 have hk1 := known_any (w.alloc (nrO n)) cb pv tv tb K n.p1 hin hK hp1
 have hk2 := known_any (w.alloc (nrO n)) cb pv tv tb K n.p2 hin hK hp2
 have hat := At_any (w.alloc (nrO n)) cb pv tb kind (by rw [blk_cell hin.y]; rfl) hin.p hl hkd
 have HBX : Hid _ := hbx
 have HTK : Hid (ftK tb K n kind = (if n.form = 2 then (if n.source = -1 then 4 else 0)
  else if n.form = 4 then (if 63 < (atP tb kind).sz then 6 else 0)
  else if n.form = 5 then (if knownK K n.p0 = 0 then 5 else 0)
  else if n.form = 6 then (if knownK K n.p0 = 0 then 5 else 0)
  else if n.form = 7 then (if knownK K n.p0 = 0 ∧ knownK K n.p1 = knownK K n.p2 then 0 else 5)
  else if n.form = 11 then (if knownK K n.p0 = 0 ∧ knownK K n.p1 = knownK K n.p2 then 0 else 5)
  else if n.form = 8 then (if knownK K n.p0 = 0 ∧ knownK K n.p1 = 0 then 0 else 5)
  else if n.form = 9 then (if knownK K n.p0 = 0 ∧ knownK K n.p1 = 0 then 0 else 5)
  else if n.form = 10 then (if knownK K n.p0 = 0 ∧ knownK K n.p1 = 0 then 0 else 5)
  else 0)) := rfl
 obtain ⟨R, hR⟩ : ∃ R, R = ftK tb K n kind := ⟨_, rfl⟩
 rw [← hR] at HTK ⊢
 clear hR h hin hbx
 unfold ptr at hk0 hk1 hk2 hat
 unfold tpVal at hat
 unfold nrVal
 unfold nrO nrC at hk0 hk1 hk2 hat HBX
 have HK0 : Hid _ := hk0
 have HK1 : Hid _ := hk1
 have HK2 : Hid _ := hk2
 have HAT : Hid _ := hat
 clear hk0 hk1 hk2 hat
 generalize knownK K n.p0 = ka at *
 generalize knownK K n.p1 = kb at *
 generalize knownK K n.p2 = kc at *
 generalize atP tb kind = P at *
 show Calls _ _ #[_, _, Value.pointer (some ⟨cb, 0, none⟩)] w _
 by_cases k2 : n.form = 2
 ·skip
  have q2 : ((n.form : Int) == 2) = true := ibeq_true (b := 2) k2
  have hr : R = (if n.source = -1 then 4 else 0) := by have := HTK.out; simp only [if_pos k2] at this; exact this
  clear HTK k2
  by_cases hc : n.source = -1
  ·have e1 : (n.source == -1) = true := by rw [hc]; rfl
   have HR : Hid (R = 4) := by rw [hr, if_pos hc]; exact rfl
   clear hc hr
   go_enter Tryz.func63, Tryz.ntmps63
   go_wp2_with fail
   refine Calls.mono HK0.out ?_
   rintro _ _ ⟨rfl, rfl⟩
   go_wp2_with fail
   refine Calls.mono HK1.out ?_
   rintro _ _ ⟨rfl, rfl⟩
   go_wp2_with fail
   refine Calls.mono HK2.out ?_
   rintro _ _ ⟨rfl, rfl⟩
   go_wp2_with fail
   refine Calls.mono HAT.out ?_
   rintro _ w1 ⟨rfl, hb1⟩
   have hnb : w1.heap[w.heap.size]? = some (nrO n) := by rw [hb1.block _ (by simp)]; exact blk_new _ _
   obtain ⟨d0, d1, d2, d3, d4, d5, d6, d7, d8, d9⟩ := nr_cells10 hnb
   have hnl := blk_lt hnb
   have hB := (HBX.out.trans (hb1.mono (by simp))).alloc (by have := hb1.size; simp at this; omega) (.cells #[.int .i64 P.r, .int .i64 P.a, .int .i64 P.b, .int .i64 P.sz] 146)
   have HB : Hid _ := hB
   clear hb1 hB hnb
   go_wp2
   go_ret
   exact ⟨by rw [HR.out]; first | done | rfl, HB.out⟩
  ·have e1 : (n.source == -1) = false := by rw [beq_eq_false_iff_ne]; exact hc
   have HR : Hid (R = 0) := by rw [hr, if_neg hc]; exact rfl
   clear hc hr
   go_enter Tryz.func63, Tryz.ntmps63
   go_wp2_with fail
   refine Calls.mono HK0.out ?_
   rintro _ _ ⟨rfl, rfl⟩
   go_wp2_with fail
   refine Calls.mono HK1.out ?_
   rintro _ _ ⟨rfl, rfl⟩
   go_wp2_with fail
   refine Calls.mono HK2.out ?_
   rintro _ _ ⟨rfl, rfl⟩
   go_wp2_with fail
   refine Calls.mono HAT.out ?_
   rintro _ w1 ⟨rfl, hb1⟩
   have hnb : w1.heap[w.heap.size]? = some (nrO n) := by rw [hb1.block _ (by simp)]; exact blk_new _ _
   obtain ⟨d0, d1, d2, d3, d4, d5, d6, d7, d8, d9⟩ := nr_cells10 hnb
   have hnl := blk_lt hnb
   have hB := (HBX.out.trans (hb1.mono (by simp))).alloc (by have := hb1.size; simp at this; omega) (.cells #[.int .i64 P.r, .int .i64 P.a, .int .i64 P.b, .int .i64 P.sz] 146)
   have HB : Hid _ := hB
   clear hb1 hB hnb
   go_wp2
   go_ret
   exact ⟨by rw [HR.out]; first | done | rfl, HB.out⟩
 by_cases k4 : n.form = 4
 ·skip
  have q2 : ((n.form : Int) == 2) = false := ibeq_false (b := 2) k2
  have q4 : ((n.form : Int) == 4) = true := ibeq_true (b := 4) k4
  have hr : R = (if 63 < P.sz then 6 else 0) := by have := HTK.out; simp only [if_neg k2, if_pos k4] at this; exact this
  clear HTK k2 k4
  by_cases hc : 63 < P.sz
  ·have HR : Hid (R = 6) := by rw [hr, if_pos hc]; exact rfl
   clear hr
   go_enter Tryz.func63, Tryz.ntmps63
   go_wp2_with fail
   refine Calls.mono HK0.out ?_
   rintro _ _ ⟨rfl, rfl⟩
   go_wp2_with fail
   refine Calls.mono HK1.out ?_
   rintro _ _ ⟨rfl, rfl⟩
   go_wp2_with fail
   refine Calls.mono HK2.out ?_
   rintro _ _ ⟨rfl, rfl⟩
   go_wp2_with fail
   refine Calls.mono HAT.out ?_
   rintro _ w1 ⟨rfl, hb1⟩
   have hnb : w1.heap[w.heap.size]? = some (nrO n) := by rw [hb1.block _ (by simp)]; exact blk_new _ _
   obtain ⟨d0, d1, d2, d3, d4, d5, d6, d7, d8, d9⟩ := nr_cells10 hnb
   have hnl := blk_lt hnb
   have hB := (HBX.out.trans (hb1.mono (by simp))).alloc (by have := hb1.size; simp at this; omega) (.cells #[.int .i64 P.r, .int .i64 P.a, .int .i64 P.b, .int .i64 P.sz] 146)
   have HB : Hid _ := hB
   clear hb1 hB hnb
   go_wp2
   go_ret
   exact ⟨by rw [HR.out]; first | done | rfl, HB.out⟩
  ·have HR : Hid (R = 0) := by rw [hr, if_neg hc]; exact rfl
   clear hr
   go_enter Tryz.func63, Tryz.ntmps63
   go_wp2_with fail
   refine Calls.mono HK0.out ?_
   rintro _ _ ⟨rfl, rfl⟩
   go_wp2_with fail
   refine Calls.mono HK1.out ?_
   rintro _ _ ⟨rfl, rfl⟩
   go_wp2_with fail
   refine Calls.mono HK2.out ?_
   rintro _ _ ⟨rfl, rfl⟩
   go_wp2_with fail
   refine Calls.mono HAT.out ?_
   rintro _ w1 ⟨rfl, hb1⟩
   have hnb : w1.heap[w.heap.size]? = some (nrO n) := by rw [hb1.block _ (by simp)]; exact blk_new _ _
   obtain ⟨d0, d1, d2, d3, d4, d5, d6, d7, d8, d9⟩ := nr_cells10 hnb
   have hnl := blk_lt hnb
   have hB := (HBX.out.trans (hb1.mono (by simp))).alloc (by have := hb1.size; simp at this; omega) (.cells #[.int .i64 P.r, .int .i64 P.a, .int .i64 P.b, .int .i64 P.sz] 146)
   have HB : Hid _ := hB
   clear hb1 hB hnb
   go_wp2
   go_ret
   exact ⟨by rw [HR.out]; first | done | rfl, HB.out⟩
 by_cases k5 : n.form = 5
 ·skip
  have q2 : ((n.form : Int) == 2) = false := ibeq_false (b := 2) k2
  have q4 : ((n.form : Int) == 4) = false := ibeq_false (b := 4) k4
  have q5 : ((n.form : Int) == 5) = true := ibeq_true (b := 5) k5
  have hr : R = (if ka = 0 then 5 else 0) := by have := HTK.out; simp only [if_neg k2, if_neg k4, if_pos k5] at this; exact this
  clear HTK k2 k4 k5
  by_cases hc : ka = 0
  ·have e1 : ((ka : Int) == 0) = true := ibeq_true (b := 0) hc
   have HR : Hid (R = 5) := by rw [hr, if_pos hc]; exact rfl
   clear hc hr
   go_enter Tryz.func63, Tryz.ntmps63
   go_wp2_with fail
   refine Calls.mono HK0.out ?_
   rintro _ _ ⟨rfl, rfl⟩
   go_wp2_with fail
   refine Calls.mono HK1.out ?_
   rintro _ _ ⟨rfl, rfl⟩
   go_wp2_with fail
   refine Calls.mono HK2.out ?_
   rintro _ _ ⟨rfl, rfl⟩
   go_wp2_with fail
   refine Calls.mono HAT.out ?_
   rintro _ w1 ⟨rfl, hb1⟩
   have hnb : w1.heap[w.heap.size]? = some (nrO n) := by rw [hb1.block _ (by simp)]; exact blk_new _ _
   obtain ⟨d0, d1, d2, d3, d4, d5, d6, d7, d8, d9⟩ := nr_cells10 hnb
   have hnl := blk_lt hnb
   have hB := (HBX.out.trans (hb1.mono (by simp))).alloc (by have := hb1.size; simp at this; omega) (.cells #[.int .i64 P.r, .int .i64 P.a, .int .i64 P.b, .int .i64 P.sz] 146)
   have HB : Hid _ := hB
   clear hb1 hB hnb
   go_wp2
   go_ret
   exact ⟨by rw [HR.out]; first | done | rfl, HB.out⟩
  ·have e1 : ((ka : Int) == 0) = false := ibeq_false (b := 0) hc
   have HR : Hid (R = 0) := by rw [hr, if_neg hc]; exact rfl
   clear hc hr
   go_enter Tryz.func63, Tryz.ntmps63
   go_wp2_with fail
   refine Calls.mono HK0.out ?_
   rintro _ _ ⟨rfl, rfl⟩
   go_wp2_with fail
   refine Calls.mono HK1.out ?_
   rintro _ _ ⟨rfl, rfl⟩
   go_wp2_with fail
   refine Calls.mono HK2.out ?_
   rintro _ _ ⟨rfl, rfl⟩
   go_wp2_with fail
   refine Calls.mono HAT.out ?_
   rintro _ w1 ⟨rfl, hb1⟩
   have hnb : w1.heap[w.heap.size]? = some (nrO n) := by rw [hb1.block _ (by simp)]; exact blk_new _ _
   obtain ⟨d0, d1, d2, d3, d4, d5, d6, d7, d8, d9⟩ := nr_cells10 hnb
   have hnl := blk_lt hnb
   have hB := (HBX.out.trans (hb1.mono (by simp))).alloc (by have := hb1.size; simp at this; omega) (.cells #[.int .i64 P.r, .int .i64 P.a, .int .i64 P.b, .int .i64 P.sz] 146)
   have HB : Hid _ := hB
   clear hb1 hB hnb
   go_wp2
   go_ret
   exact ⟨by rw [HR.out]; first | done | rfl, HB.out⟩
 by_cases k6 : n.form = 6
 ·skip
  have q2 : ((n.form : Int) == 2) = false := ibeq_false (b := 2) k2
  have q4 : ((n.form : Int) == 4) = false := ibeq_false (b := 4) k4
  have q5 : ((n.form : Int) == 5) = false := ibeq_false (b := 5) k5
  have q6 : ((n.form : Int) == 6) = true := ibeq_true (b := 6) k6
  have hr : R = (if ka = 0 then 5 else 0) := by have := HTK.out; simp only [if_neg k2, if_neg k4, if_neg k5, if_pos k6] at this; exact this
  clear HTK k2 k4 k5 k6
  by_cases hc : ka = 0
  ·have e1 : ((ka : Int) == 0) = true := ibeq_true (b := 0) hc
   have HR : Hid (R = 5) := by rw [hr, if_pos hc]; exact rfl
   clear hc hr
   go_enter Tryz.func63, Tryz.ntmps63
   go_wp2_with fail
   refine Calls.mono HK0.out ?_
   rintro _ _ ⟨rfl, rfl⟩
   go_wp2_with fail
   refine Calls.mono HK1.out ?_
   rintro _ _ ⟨rfl, rfl⟩
   go_wp2_with fail
   refine Calls.mono HK2.out ?_
   rintro _ _ ⟨rfl, rfl⟩
   go_wp2_with fail
   refine Calls.mono HAT.out ?_
   rintro _ w1 ⟨rfl, hb1⟩
   have hnb : w1.heap[w.heap.size]? = some (nrO n) := by rw [hb1.block _ (by simp)]; exact blk_new _ _
   obtain ⟨d0, d1, d2, d3, d4, d5, d6, d7, d8, d9⟩ := nr_cells10 hnb
   have hnl := blk_lt hnb
   have hB := (HBX.out.trans (hb1.mono (by simp))).alloc (by have := hb1.size; simp at this; omega) (.cells #[.int .i64 P.r, .int .i64 P.a, .int .i64 P.b, .int .i64 P.sz] 146)
   have HB : Hid _ := hB
   clear hb1 hB hnb
   go_wp2
   go_ret
   exact ⟨by rw [HR.out]; first | done | rfl, HB.out⟩
  ·have e1 : ((ka : Int) == 0) = false := ibeq_false (b := 0) hc
   have HR : Hid (R = 0) := by rw [hr, if_neg hc]; exact rfl
   clear hc hr
   go_enter Tryz.func63, Tryz.ntmps63
   go_wp2_with fail
   refine Calls.mono HK0.out ?_
   rintro _ _ ⟨rfl, rfl⟩
   go_wp2_with fail
   refine Calls.mono HK1.out ?_
   rintro _ _ ⟨rfl, rfl⟩
   go_wp2_with fail
   refine Calls.mono HK2.out ?_
   rintro _ _ ⟨rfl, rfl⟩
   go_wp2_with fail
   refine Calls.mono HAT.out ?_
   rintro _ w1 ⟨rfl, hb1⟩
   have hnb : w1.heap[w.heap.size]? = some (nrO n) := by rw [hb1.block _ (by simp)]; exact blk_new _ _
   obtain ⟨d0, d1, d2, d3, d4, d5, d6, d7, d8, d9⟩ := nr_cells10 hnb
   have hnl := blk_lt hnb
   have hB := (HBX.out.trans (hb1.mono (by simp))).alloc (by have := hb1.size; simp at this; omega) (.cells #[.int .i64 P.r, .int .i64 P.a, .int .i64 P.b, .int .i64 P.sz] 146)
   have HB : Hid _ := hB
   clear hb1 hB hnb
   go_wp2
   go_ret
   exact ⟨by rw [HR.out]; first | done | rfl, HB.out⟩
 by_cases k7 : n.form = 7
 ·skip
  have q2 : ((n.form : Int) == 2) = false := ibeq_false (b := 2) k2
  have q4 : ((n.form : Int) == 4) = false := ibeq_false (b := 4) k4
  have q5 : ((n.form : Int) == 5) = false := ibeq_false (b := 5) k5
  have q6 : ((n.form : Int) == 6) = false := ibeq_false (b := 6) k6
  have q7 : ((n.form : Int) == 7) = true := ibeq_true (b := 7) k7
  have hr : R = (if ka = 0 ∧ kb = kc then 0 else 5) := by have := HTK.out; simp only [if_neg k2, if_neg k4, if_neg k5, if_neg k6, if_pos k7] at this; exact this
  clear HTK k2 k4 k5 k6 k7
  by_cases hc : ka = 0
  ·have e1 : ((ka : Int) != 0) = false := ibne_false (b := 0) hc
   by_cases hd : kb = kc
   ·have e2 : ((kb : Int) != (kc : Int)) = false := ibne_false (b := kc) hd
    have HR : Hid (R = 0) := by rw [hr, if_pos ⟨hc, hd⟩]; exact rfl
    clear hc hd hr
    go_enter Tryz.func63, Tryz.ntmps63
    go_wp2_with fail
    refine Calls.mono HK0.out ?_
    rintro _ _ ⟨rfl, rfl⟩
    go_wp2_with fail
    refine Calls.mono HK1.out ?_
    rintro _ _ ⟨rfl, rfl⟩
    go_wp2_with fail
    refine Calls.mono HK2.out ?_
    rintro _ _ ⟨rfl, rfl⟩
    go_wp2_with fail
    refine Calls.mono HAT.out ?_
    rintro _ w1 ⟨rfl, hb1⟩
    have hnb : w1.heap[w.heap.size]? = some (nrO n) := by rw [hb1.block _ (by simp)]; exact blk_new _ _
    obtain ⟨d0, d1, d2, d3, d4, d5, d6, d7, d8, d9⟩ := nr_cells10 hnb
    have hnl := blk_lt hnb
    have hB := (HBX.out.trans (hb1.mono (by simp))).alloc (by have := hb1.size; simp at this; omega) (.cells #[.int .i64 P.r, .int .i64 P.a, .int .i64 P.b, .int .i64 P.sz] 146)
    have HB : Hid _ := hB
    clear hb1 hB hnb
    go_wp2
    go_ret
    exact ⟨by rw [HR.out]; first | done | rfl, HB.out⟩
   ·have e2 : ((kb : Int) != (kc : Int)) = true := ibne_true (b := kc) hd
    have HR : Hid (R = 5) := by rw [hr, if_neg (fun e => hd e.2)]; exact rfl
    clear hc hd hr
    go_enter Tryz.func63, Tryz.ntmps63
    go_wp2_with fail
    refine Calls.mono HK0.out ?_
    rintro _ _ ⟨rfl, rfl⟩
    go_wp2_with fail
    refine Calls.mono HK1.out ?_
    rintro _ _ ⟨rfl, rfl⟩
    go_wp2_with fail
    refine Calls.mono HK2.out ?_
    rintro _ _ ⟨rfl, rfl⟩
    go_wp2_with fail
    refine Calls.mono HAT.out ?_
    rintro _ w1 ⟨rfl, hb1⟩
    have hnb : w1.heap[w.heap.size]? = some (nrO n) := by rw [hb1.block _ (by simp)]; exact blk_new _ _
    obtain ⟨d0, d1, d2, d3, d4, d5, d6, d7, d8, d9⟩ := nr_cells10 hnb
    have hnl := blk_lt hnb
    have hB := (HBX.out.trans (hb1.mono (by simp))).alloc (by have := hb1.size; simp at this; omega) (.cells #[.int .i64 P.r, .int .i64 P.a, .int .i64 P.b, .int .i64 P.sz] 146)
    have HB : Hid _ := hB
    clear hb1 hB hnb
    go_wp2
    go_ret
    exact ⟨by rw [HR.out]; first | done | rfl, HB.out⟩
  ·have e1 : ((ka : Int) != 0) = true := ibne_true (b := 0) hc
   have HR : Hid (R = 5) := by rw [hr, if_neg (fun e => hc e.1)]; exact rfl
   clear hc hr
   go_enter Tryz.func63, Tryz.ntmps63
   go_wp2_with fail
   refine Calls.mono HK0.out ?_
   rintro _ _ ⟨rfl, rfl⟩
   go_wp2_with fail
   refine Calls.mono HK1.out ?_
   rintro _ _ ⟨rfl, rfl⟩
   go_wp2_with fail
   refine Calls.mono HK2.out ?_
   rintro _ _ ⟨rfl, rfl⟩
   go_wp2_with fail
   refine Calls.mono HAT.out ?_
   rintro _ w1 ⟨rfl, hb1⟩
   have hnb : w1.heap[w.heap.size]? = some (nrO n) := by rw [hb1.block _ (by simp)]; exact blk_new _ _
   obtain ⟨d0, d1, d2, d3, d4, d5, d6, d7, d8, d9⟩ := nr_cells10 hnb
   have hnl := blk_lt hnb
   have hB := (HBX.out.trans (hb1.mono (by simp))).alloc (by have := hb1.size; simp at this; omega) (.cells #[.int .i64 P.r, .int .i64 P.a, .int .i64 P.b, .int .i64 P.sz] 146)
   have HB : Hid _ := hB
   clear hb1 hB hnb
   go_wp2
   go_ret
   exact ⟨by rw [HR.out]; first | done | rfl, HB.out⟩
 by_cases k11 : n.form = 11
 ·skip
  have q2 : ((n.form : Int) == 2) = false := ibeq_false (b := 2) k2
  have q4 : ((n.form : Int) == 4) = false := ibeq_false (b := 4) k4
  have q5 : ((n.form : Int) == 5) = false := ibeq_false (b := 5) k5
  have q6 : ((n.form : Int) == 6) = false := ibeq_false (b := 6) k6
  have q7 : ((n.form : Int) == 7) = false := ibeq_false (b := 7) k7
  have q11 : ((n.form : Int) == 11) = true := ibeq_true (b := 11) k11
  have hr : R = (if ka = 0 ∧ kb = kc then 0 else 5) := by have := HTK.out; simp only [if_neg k2, if_neg k4, if_neg k5, if_neg k6, if_neg k7, if_pos k11] at this; exact this
  clear HTK k2 k4 k5 k6 k7 k11
  by_cases hc : ka = 0
  ·have e1 : ((ka : Int) != 0) = false := ibne_false (b := 0) hc
   by_cases hd : kb = kc
   ·have e2 : ((kb : Int) != (kc : Int)) = false := ibne_false (b := kc) hd
    have HR : Hid (R = 0) := by rw [hr, if_pos ⟨hc, hd⟩]; exact rfl
    clear hc hd hr
    go_enter Tryz.func63, Tryz.ntmps63
    go_wp2_with fail
    refine Calls.mono HK0.out ?_
    rintro _ _ ⟨rfl, rfl⟩
    go_wp2_with fail
    refine Calls.mono HK1.out ?_
    rintro _ _ ⟨rfl, rfl⟩
    go_wp2_with fail
    refine Calls.mono HK2.out ?_
    rintro _ _ ⟨rfl, rfl⟩
    go_wp2_with fail
    refine Calls.mono HAT.out ?_
    rintro _ w1 ⟨rfl, hb1⟩
    have hnb : w1.heap[w.heap.size]? = some (nrO n) := by rw [hb1.block _ (by simp)]; exact blk_new _ _
    obtain ⟨d0, d1, d2, d3, d4, d5, d6, d7, d8, d9⟩ := nr_cells10 hnb
    have hnl := blk_lt hnb
    have hB := (HBX.out.trans (hb1.mono (by simp))).alloc (by have := hb1.size; simp at this; omega) (.cells #[.int .i64 P.r, .int .i64 P.a, .int .i64 P.b, .int .i64 P.sz] 146)
    have HB : Hid _ := hB
    clear hb1 hB hnb
    go_wp2
    go_ret
    exact ⟨by rw [HR.out]; first | done | rfl, HB.out⟩
   ·have e2 : ((kb : Int) != (kc : Int)) = true := ibne_true (b := kc) hd
    have HR : Hid (R = 5) := by rw [hr, if_neg (fun e => hd e.2)]; exact rfl
    clear hc hd hr
    go_enter Tryz.func63, Tryz.ntmps63
    go_wp2_with fail
    refine Calls.mono HK0.out ?_
    rintro _ _ ⟨rfl, rfl⟩
    go_wp2_with fail
    refine Calls.mono HK1.out ?_
    rintro _ _ ⟨rfl, rfl⟩
    go_wp2_with fail
    refine Calls.mono HK2.out ?_
    rintro _ _ ⟨rfl, rfl⟩
    go_wp2_with fail
    refine Calls.mono HAT.out ?_
    rintro _ w1 ⟨rfl, hb1⟩
    have hnb : w1.heap[w.heap.size]? = some (nrO n) := by rw [hb1.block _ (by simp)]; exact blk_new _ _
    obtain ⟨d0, d1, d2, d3, d4, d5, d6, d7, d8, d9⟩ := nr_cells10 hnb
    have hnl := blk_lt hnb
    have hB := (HBX.out.trans (hb1.mono (by simp))).alloc (by have := hb1.size; simp at this; omega) (.cells #[.int .i64 P.r, .int .i64 P.a, .int .i64 P.b, .int .i64 P.sz] 146)
    have HB : Hid _ := hB
    clear hb1 hB hnb
    go_wp2
    go_ret
    exact ⟨by rw [HR.out]; first | done | rfl, HB.out⟩
  ·have e1 : ((ka : Int) != 0) = true := ibne_true (b := 0) hc
   have HR : Hid (R = 5) := by rw [hr, if_neg (fun e => hc e.1)]; exact rfl
   clear hc hr
   go_enter Tryz.func63, Tryz.ntmps63
   go_wp2_with fail
   refine Calls.mono HK0.out ?_
   rintro _ _ ⟨rfl, rfl⟩
   go_wp2_with fail
   refine Calls.mono HK1.out ?_
   rintro _ _ ⟨rfl, rfl⟩
   go_wp2_with fail
   refine Calls.mono HK2.out ?_
   rintro _ _ ⟨rfl, rfl⟩
   go_wp2_with fail
   refine Calls.mono HAT.out ?_
   rintro _ w1 ⟨rfl, hb1⟩
   have hnb : w1.heap[w.heap.size]? = some (nrO n) := by rw [hb1.block _ (by simp)]; exact blk_new _ _
   obtain ⟨d0, d1, d2, d3, d4, d5, d6, d7, d8, d9⟩ := nr_cells10 hnb
   have hnl := blk_lt hnb
   have hB := (HBX.out.trans (hb1.mono (by simp))).alloc (by have := hb1.size; simp at this; omega) (.cells #[.int .i64 P.r, .int .i64 P.a, .int .i64 P.b, .int .i64 P.sz] 146)
   have HB : Hid _ := hB
   clear hb1 hB hnb
   go_wp2
   go_ret
   exact ⟨by rw [HR.out]; first | done | rfl, HB.out⟩
 by_cases k8 : n.form = 8
 ·skip
  have q2 : ((n.form : Int) == 2) = false := ibeq_false (b := 2) k2
  have q4 : ((n.form : Int) == 4) = false := ibeq_false (b := 4) k4
  have q5 : ((n.form : Int) == 5) = false := ibeq_false (b := 5) k5
  have q6 : ((n.form : Int) == 6) = false := ibeq_false (b := 6) k6
  have q7 : ((n.form : Int) == 7) = false := ibeq_false (b := 7) k7
  have q11 : ((n.form : Int) == 11) = false := ibeq_false (b := 11) k11
  have q8 : ((n.form : Int) == 8) = true := ibeq_true (b := 8) k8
  have hr : R = (if ka = 0 ∧ kb = 0 then 0 else 5) := by have := HTK.out; simp only [if_neg k2, if_neg k4, if_neg k5, if_neg k6, if_neg k7, if_neg k11, if_pos k8] at this; exact this
  clear HTK k2 k4 k5 k6 k7 k11 k8
  by_cases hc : ka = 0
  ·have e1 : ((ka : Int) != 0) = false := ibne_false (b := 0) hc
   by_cases hd : kb = 0
   ·have e2 : ((kb : Int) != 0) = false := ibne_false (b := 0) hd
    have HR : Hid (R = 0) := by rw [hr, if_pos ⟨hc, hd⟩]; exact rfl
    clear hc hd hr
    go_enter Tryz.func63, Tryz.ntmps63
    go_wp2_with fail
    refine Calls.mono HK0.out ?_
    rintro _ _ ⟨rfl, rfl⟩
    go_wp2_with fail
    refine Calls.mono HK1.out ?_
    rintro _ _ ⟨rfl, rfl⟩
    go_wp2_with fail
    refine Calls.mono HK2.out ?_
    rintro _ _ ⟨rfl, rfl⟩
    go_wp2_with fail
    refine Calls.mono HAT.out ?_
    rintro _ w1 ⟨rfl, hb1⟩
    have hnb : w1.heap[w.heap.size]? = some (nrO n) := by rw [hb1.block _ (by simp)]; exact blk_new _ _
    obtain ⟨d0, d1, d2, d3, d4, d5, d6, d7, d8, d9⟩ := nr_cells10 hnb
    have hnl := blk_lt hnb
    have hB := (HBX.out.trans (hb1.mono (by simp))).alloc (by have := hb1.size; simp at this; omega) (.cells #[.int .i64 P.r, .int .i64 P.a, .int .i64 P.b, .int .i64 P.sz] 146)
    have HB : Hid _ := hB
    clear hb1 hB hnb
    go_wp2
    go_ret
    exact ⟨by rw [HR.out]; first | done | rfl, HB.out⟩
   ·have e2 : ((kb : Int) != 0) = true := ibne_true (b := 0) hd
    have HR : Hid (R = 5) := by rw [hr, if_neg (fun e => hd e.2)]; exact rfl
    clear hc hd hr
    go_enter Tryz.func63, Tryz.ntmps63
    go_wp2_with fail
    refine Calls.mono HK0.out ?_
    rintro _ _ ⟨rfl, rfl⟩
    go_wp2_with fail
    refine Calls.mono HK1.out ?_
    rintro _ _ ⟨rfl, rfl⟩
    go_wp2_with fail
    refine Calls.mono HK2.out ?_
    rintro _ _ ⟨rfl, rfl⟩
    go_wp2_with fail
    refine Calls.mono HAT.out ?_
    rintro _ w1 ⟨rfl, hb1⟩
    have hnb : w1.heap[w.heap.size]? = some (nrO n) := by rw [hb1.block _ (by simp)]; exact blk_new _ _
    obtain ⟨d0, d1, d2, d3, d4, d5, d6, d7, d8, d9⟩ := nr_cells10 hnb
    have hnl := blk_lt hnb
    have hB := (HBX.out.trans (hb1.mono (by simp))).alloc (by have := hb1.size; simp at this; omega) (.cells #[.int .i64 P.r, .int .i64 P.a, .int .i64 P.b, .int .i64 P.sz] 146)
    have HB : Hid _ := hB
    clear hb1 hB hnb
    go_wp2
    go_ret
    exact ⟨by rw [HR.out]; first | done | rfl, HB.out⟩
  ·have e1 : ((ka : Int) != 0) = true := ibne_true (b := 0) hc
   have HR : Hid (R = 5) := by rw [hr, if_neg (fun e => hc e.1)]; exact rfl
   clear hc hr
   go_enter Tryz.func63, Tryz.ntmps63
   go_wp2_with fail
   refine Calls.mono HK0.out ?_
   rintro _ _ ⟨rfl, rfl⟩
   go_wp2_with fail
   refine Calls.mono HK1.out ?_
   rintro _ _ ⟨rfl, rfl⟩
   go_wp2_with fail
   refine Calls.mono HK2.out ?_
   rintro _ _ ⟨rfl, rfl⟩
   go_wp2_with fail
   refine Calls.mono HAT.out ?_
   rintro _ w1 ⟨rfl, hb1⟩
   have hnb : w1.heap[w.heap.size]? = some (nrO n) := by rw [hb1.block _ (by simp)]; exact blk_new _ _
   obtain ⟨d0, d1, d2, d3, d4, d5, d6, d7, d8, d9⟩ := nr_cells10 hnb
   have hnl := blk_lt hnb
   have hB := (HBX.out.trans (hb1.mono (by simp))).alloc (by have := hb1.size; simp at this; omega) (.cells #[.int .i64 P.r, .int .i64 P.a, .int .i64 P.b, .int .i64 P.sz] 146)
   have HB : Hid _ := hB
   clear hb1 hB hnb
   go_wp2
   go_ret
   exact ⟨by rw [HR.out]; first | done | rfl, HB.out⟩
 by_cases k9 : n.form = 9
 ·skip
  have q2 : ((n.form : Int) == 2) = false := ibeq_false (b := 2) k2
  have q4 : ((n.form : Int) == 4) = false := ibeq_false (b := 4) k4
  have q5 : ((n.form : Int) == 5) = false := ibeq_false (b := 5) k5
  have q6 : ((n.form : Int) == 6) = false := ibeq_false (b := 6) k6
  have q7 : ((n.form : Int) == 7) = false := ibeq_false (b := 7) k7
  have q11 : ((n.form : Int) == 11) = false := ibeq_false (b := 11) k11
  have q8 : ((n.form : Int) == 8) = false := ibeq_false (b := 8) k8
  have q9 : ((n.form : Int) == 9) = true := ibeq_true (b := 9) k9
  have hr : R = (if ka = 0 ∧ kb = 0 then 0 else 5) := by have := HTK.out; simp only [if_neg k2, if_neg k4, if_neg k5, if_neg k6, if_neg k7, if_neg k11, if_neg k8, if_pos k9] at this; exact this
  clear HTK k2 k4 k5 k6 k7 k11 k8 k9
  by_cases hc : ka = 0
  ·have e1 : ((ka : Int) != 0) = false := ibne_false (b := 0) hc
   by_cases hd : kb = 0
   ·have e2 : ((kb : Int) != 0) = false := ibne_false (b := 0) hd
    have HR : Hid (R = 0) := by rw [hr, if_pos ⟨hc, hd⟩]; exact rfl
    clear hc hd hr
    go_enter Tryz.func63, Tryz.ntmps63
    go_wp2_with fail
    refine Calls.mono HK0.out ?_
    rintro _ _ ⟨rfl, rfl⟩
    go_wp2_with fail
    refine Calls.mono HK1.out ?_
    rintro _ _ ⟨rfl, rfl⟩
    go_wp2_with fail
    refine Calls.mono HK2.out ?_
    rintro _ _ ⟨rfl, rfl⟩
    go_wp2_with fail
    refine Calls.mono HAT.out ?_
    rintro _ w1 ⟨rfl, hb1⟩
    have hnb : w1.heap[w.heap.size]? = some (nrO n) := by rw [hb1.block _ (by simp)]; exact blk_new _ _
    obtain ⟨d0, d1, d2, d3, d4, d5, d6, d7, d8, d9⟩ := nr_cells10 hnb
    have hnl := blk_lt hnb
    have hB := (HBX.out.trans (hb1.mono (by simp))).alloc (by have := hb1.size; simp at this; omega) (.cells #[.int .i64 P.r, .int .i64 P.a, .int .i64 P.b, .int .i64 P.sz] 146)
    have HB : Hid _ := hB
    clear hb1 hB hnb
    go_wp2
    go_ret
    exact ⟨by rw [HR.out]; first | done | rfl, HB.out⟩
   ·have e2 : ((kb : Int) != 0) = true := ibne_true (b := 0) hd
    have HR : Hid (R = 5) := by rw [hr, if_neg (fun e => hd e.2)]; exact rfl
    clear hc hd hr
    go_enter Tryz.func63, Tryz.ntmps63
    go_wp2_with fail
    refine Calls.mono HK0.out ?_
    rintro _ _ ⟨rfl, rfl⟩
    go_wp2_with fail
    refine Calls.mono HK1.out ?_
    rintro _ _ ⟨rfl, rfl⟩
    go_wp2_with fail
    refine Calls.mono HK2.out ?_
    rintro _ _ ⟨rfl, rfl⟩
    go_wp2_with fail
    refine Calls.mono HAT.out ?_
    rintro _ w1 ⟨rfl, hb1⟩
    have hnb : w1.heap[w.heap.size]? = some (nrO n) := by rw [hb1.block _ (by simp)]; exact blk_new _ _
    obtain ⟨d0, d1, d2, d3, d4, d5, d6, d7, d8, d9⟩ := nr_cells10 hnb
    have hnl := blk_lt hnb
    have hB := (HBX.out.trans (hb1.mono (by simp))).alloc (by have := hb1.size; simp at this; omega) (.cells #[.int .i64 P.r, .int .i64 P.a, .int .i64 P.b, .int .i64 P.sz] 146)
    have HB : Hid _ := hB
    clear hb1 hB hnb
    go_wp2
    go_ret
    exact ⟨by rw [HR.out]; first | done | rfl, HB.out⟩
  ·have e1 : ((ka : Int) != 0) = true := ibne_true (b := 0) hc
   have HR : Hid (R = 5) := by rw [hr, if_neg (fun e => hc e.1)]; exact rfl
   clear hc hr
   go_enter Tryz.func63, Tryz.ntmps63
   go_wp2_with fail
   refine Calls.mono HK0.out ?_
   rintro _ _ ⟨rfl, rfl⟩
   go_wp2_with fail
   refine Calls.mono HK1.out ?_
   rintro _ _ ⟨rfl, rfl⟩
   go_wp2_with fail
   refine Calls.mono HK2.out ?_
   rintro _ _ ⟨rfl, rfl⟩
   go_wp2_with fail
   refine Calls.mono HAT.out ?_
   rintro _ w1 ⟨rfl, hb1⟩
   have hnb : w1.heap[w.heap.size]? = some (nrO n) := by rw [hb1.block _ (by simp)]; exact blk_new _ _
   obtain ⟨d0, d1, d2, d3, d4, d5, d6, d7, d8, d9⟩ := nr_cells10 hnb
   have hnl := blk_lt hnb
   have hB := (HBX.out.trans (hb1.mono (by simp))).alloc (by have := hb1.size; simp at this; omega) (.cells #[.int .i64 P.r, .int .i64 P.a, .int .i64 P.b, .int .i64 P.sz] 146)
   have HB : Hid _ := hB
   clear hb1 hB hnb
   go_wp2
   go_ret
   exact ⟨by rw [HR.out]; first | done | rfl, HB.out⟩
 by_cases k10 : n.form = 10
 ·skip
  have q2 : ((n.form : Int) == 2) = false := ibeq_false (b := 2) k2
  have q4 : ((n.form : Int) == 4) = false := ibeq_false (b := 4) k4
  have q5 : ((n.form : Int) == 5) = false := ibeq_false (b := 5) k5
  have q6 : ((n.form : Int) == 6) = false := ibeq_false (b := 6) k6
  have q7 : ((n.form : Int) == 7) = false := ibeq_false (b := 7) k7
  have q11 : ((n.form : Int) == 11) = false := ibeq_false (b := 11) k11
  have q8 : ((n.form : Int) == 8) = false := ibeq_false (b := 8) k8
  have q9 : ((n.form : Int) == 9) = false := ibeq_false (b := 9) k9
  have q10 : ((n.form : Int) == 10) = true := ibeq_true (b := 10) k10
  have hr : R = (if ka = 0 ∧ kb = 0 then 0 else 5) := by have := HTK.out; simp only [if_neg k2, if_neg k4, if_neg k5, if_neg k6, if_neg k7, if_neg k11, if_neg k8, if_neg k9, if_pos k10] at this; exact this
  clear HTK k2 k4 k5 k6 k7 k11 k8 k9 k10
  by_cases hc : ka = 0
  ·have e1 : ((ka : Int) != 0) = false := ibne_false (b := 0) hc
   by_cases hd : kb = 0
   ·have e2 : ((kb : Int) != 0) = false := ibne_false (b := 0) hd
    have HR : Hid (R = 0) := by rw [hr, if_pos ⟨hc, hd⟩]; exact rfl
    clear hc hd hr
    go_enter Tryz.func63, Tryz.ntmps63
    go_wp2_with fail
    refine Calls.mono HK0.out ?_
    rintro _ _ ⟨rfl, rfl⟩
    go_wp2_with fail
    refine Calls.mono HK1.out ?_
    rintro _ _ ⟨rfl, rfl⟩
    go_wp2_with fail
    refine Calls.mono HK2.out ?_
    rintro _ _ ⟨rfl, rfl⟩
    go_wp2_with fail
    refine Calls.mono HAT.out ?_
    rintro _ w1 ⟨rfl, hb1⟩
    have hnb : w1.heap[w.heap.size]? = some (nrO n) := by rw [hb1.block _ (by simp)]; exact blk_new _ _
    obtain ⟨d0, d1, d2, d3, d4, d5, d6, d7, d8, d9⟩ := nr_cells10 hnb
    have hnl := blk_lt hnb
    have hB := (HBX.out.trans (hb1.mono (by simp))).alloc (by have := hb1.size; simp at this; omega) (.cells #[.int .i64 P.r, .int .i64 P.a, .int .i64 P.b, .int .i64 P.sz] 146)
    have HB : Hid _ := hB
    clear hb1 hB hnb
    go_wp2
    go_ret
    exact ⟨by rw [HR.out]; first | done | rfl, HB.out⟩
   ·have e2 : ((kb : Int) != 0) = true := ibne_true (b := 0) hd
    have HR : Hid (R = 5) := by rw [hr, if_neg (fun e => hd e.2)]; exact rfl
    clear hc hd hr
    go_enter Tryz.func63, Tryz.ntmps63
    go_wp2_with fail
    refine Calls.mono HK0.out ?_
    rintro _ _ ⟨rfl, rfl⟩
    go_wp2_with fail
    refine Calls.mono HK1.out ?_
    rintro _ _ ⟨rfl, rfl⟩
    go_wp2_with fail
    refine Calls.mono HK2.out ?_
    rintro _ _ ⟨rfl, rfl⟩
    go_wp2_with fail
    refine Calls.mono HAT.out ?_
    rintro _ w1 ⟨rfl, hb1⟩
    have hnb : w1.heap[w.heap.size]? = some (nrO n) := by rw [hb1.block _ (by simp)]; exact blk_new _ _
    obtain ⟨d0, d1, d2, d3, d4, d5, d6, d7, d8, d9⟩ := nr_cells10 hnb
    have hnl := blk_lt hnb
    have hB := (HBX.out.trans (hb1.mono (by simp))).alloc (by have := hb1.size; simp at this; omega) (.cells #[.int .i64 P.r, .int .i64 P.a, .int .i64 P.b, .int .i64 P.sz] 146)
    have HB : Hid _ := hB
    clear hb1 hB hnb
    go_wp2
    go_ret
    exact ⟨by rw [HR.out]; first | done | rfl, HB.out⟩
  ·have e1 : ((ka : Int) != 0) = true := ibne_true (b := 0) hc
   have HR : Hid (R = 5) := by rw [hr, if_neg (fun e => hc e.1)]; exact rfl
   clear hc hr
   go_enter Tryz.func63, Tryz.ntmps63
   go_wp2_with fail
   refine Calls.mono HK0.out ?_
   rintro _ _ ⟨rfl, rfl⟩
   go_wp2_with fail
   refine Calls.mono HK1.out ?_
   rintro _ _ ⟨rfl, rfl⟩
   go_wp2_with fail
   refine Calls.mono HK2.out ?_
   rintro _ _ ⟨rfl, rfl⟩
   go_wp2_with fail
   refine Calls.mono HAT.out ?_
   rintro _ w1 ⟨rfl, hb1⟩
   have hnb : w1.heap[w.heap.size]? = some (nrO n) := by rw [hb1.block _ (by simp)]; exact blk_new _ _
   obtain ⟨d0, d1, d2, d3, d4, d5, d6, d7, d8, d9⟩ := nr_cells10 hnb
   have hnl := blk_lt hnb
   have hB := (HBX.out.trans (hb1.mono (by simp))).alloc (by have := hb1.size; simp at this; omega) (.cells #[.int .i64 P.r, .int .i64 P.a, .int .i64 P.b, .int .i64 P.sz] 146)
   have HB : Hid _ := hB
   clear hb1 hB hnb
   go_wp2
   go_ret
   exact ⟨by rw [HR.out]; first | done | rfl, HB.out⟩
 have q2 : ((n.form : Int) == 2) = false := ibeq_false (b := 2) k2
 have q4 : ((n.form : Int) == 4) = false := ibeq_false (b := 4) k4
 have q5 : ((n.form : Int) == 5) = false := ibeq_false (b := 5) k5
 have q6 : ((n.form : Int) == 6) = false := ibeq_false (b := 6) k6
 have q7 : ((n.form : Int) == 7) = false := ibeq_false (b := 7) k7
 have q11 : ((n.form : Int) == 11) = false := ibeq_false (b := 11) k11
 have q8 : ((n.form : Int) == 8) = false := ibeq_false (b := 8) k8
 have q9 : ((n.form : Int) == 9) = false := ibeq_false (b := 9) k9
 have q10 : ((n.form : Int) == 10) = false := ibeq_false (b := 10) k10
 have HR : Hid (R = 0) := by have := HTK.out; simp only [if_neg k2, if_neg k4, if_neg k5, if_neg k6, if_neg k7, if_neg k11, if_neg k8, if_neg k9, if_neg k10] at this; exact this
 clear HTK k2 k4 k5 k6 k7 k11 k8 k9 k10
 go_enter Tryz.func63, Tryz.ntmps63
 go_wp2_with fail
 refine Calls.mono HK0.out ?_
 rintro _ _ ⟨rfl, rfl⟩
 go_wp2_with fail
 refine Calls.mono HK1.out ?_
 rintro _ _ ⟨rfl, rfl⟩
 go_wp2_with fail
 refine Calls.mono HK2.out ?_
 rintro _ _ ⟨rfl, rfl⟩
 go_wp2_with fail
 refine Calls.mono HAT.out ?_
 rintro _ w1 ⟨rfl, hb1⟩
 have hnb : w1.heap[w.heap.size]? = some (nrO n) := by rw [hb1.block _ (by simp)]; exact blk_new _ _
 obtain ⟨d0, d1, d2, d3, d4, d5, d6, d7, d8, d9⟩ := nr_cells10 hnb
 have hnl := blk_lt hnb
 have hB := (HBX.out.trans (hb1.mono (by simp))).alloc (by have := hb1.size; simp at this; omega) (.cells #[.int .i64 P.r, .int .i64 P.a, .int .i64 P.b, .int .i64 P.sz] 146)
 have HB : Hid _ := hB
 clear hb1 hB hnb
 go_wp2
 go_ret
 exact ⟨by rw [HR.out]; first | done | rfl, HB.out⟩
theorem CFr.toBelow {cb B : Nat} {w0 w w' : World} {pv tv pv' tv' : Value} (h : CFr cb w w' pv tv pv' tv') (hb : Below B w0 w) (hc : B ≤ cb) (hB : B ≤ w.heap.size) (hp : ∀ g, pv.ownBlock = some g → B ≤ g) (ht : ∀ g, tv.ownBlock = some g → B ≤ g) :
  Below B w0 w' ∧ (∀ g, pv'.ownBlock = some g → B ≤ g) ∧ (∀ g, tv'.ownBlock = some g → B ≤ g) := by
 refine ⟨⟨h.os.trans hb.os, h.tape.trans hb.tape, h.output.trans hb.output, Nat.le_trans hb.size h.size, fun k hk => ?_⟩, fun g hg => ?_, fun g hg => ?_⟩
 ·rw [h.blk k (by omega) (by omega) (fun e => by have := hp k e; omega) (fun e => by have := ht k e; omega)]
  exact hb.block k hk
 ·rcases h.p g hg with e | e
  ·exact hp g e
  ·omega
 ·rcases h.t g hg with e | e
  ·exact ht g e
  ·omega
theorem CInO.addT {cb o : Nat} {A : Array Value} {T : TypeId} {w W0 w' : World} {pv tv : Value} {tb : List TP} {K : List Nat} (h : CInO cb o A T w pv tv tb K) (x : Nat) {g cap : Nat} (hW : Below w.heap.size w W0) (hg : W0.grownBy w' tv.ownBlock)
  (hown : w'.ownsRow 0 3 1 (.slice (some ⟨g, 0, none⟩) (K.length + 1) cap) (K.length + 1) ((K.map fun (k : Nat) => Value.int .i64 k) ++ [.int .i64 x])) (hor : tv.ownBlock = some g ∨ W0.heap.size ≤ g) :
  CFr cb w (w'.setCell ⟨cb, o + 1, none⟩ (.slice (some ⟨g, 0, none⟩) (K.length + 1) cap)) pv tv pv (.slice (some ⟨g, 0, none⟩) (K.length + 1) cap) ∧ CInO cb o (A.setIfInBounds (o + 1) (.slice (some ⟨g, 0, none⟩) (K.length + 1) cap)) T (w'.setCell ⟨cb, o + 1, none⟩ (.slice (some ⟨g, 0, none⟩) (K.length + 1) cap)) pv (.slice (some ⟨g, 0, none⟩) (K.length + 1) cap) tb (K ++ [x]) := by
 obtain ⟨l1, l2, l3⟩ := h.lt
 have hWs := hW.size
 have hgs := hg.size
 have yW : W0.heap[cb]? = some (.cells A T (0, 0)) := by rw [hW.block cb l3]; exact h.y
 have yw := grown_blk hg yW h.ty
 have hgp : g ≠ cb := by
  rcases hor with e | e
  ·intro e'; rw [e'] at e; exact h.ty e
  ·omega
 have kp : ∀ k, k < w.heap.size → k ≠ cb → tv.ownBlock ≠ some k → (w'.setCell ⟨cb, o + 1, none⟩ (.slice (some ⟨g, 0, none⟩) (K.length + 1) cap)).heap[k]? = w.heap[k]? := by
  intro k hk hkp hne
  rw [blk_other _ _ (by simpa using hkp), hg.block k (by omega) (fun e => hne e.symm), hW.block k hk]
 refine ⟨⟨hg.os.trans hW.os, hg.tape.trans hW.tape, hg.output.trans hW.output, by simp only [World.setCell, Array.size_modify]; omega, fun k hk hp _ hs => kp k hk hp hs, fun _ h => Or.inl h, fun g' hg' => by simp only [Value.ownBlock, Option.some.injEq] at hg'; subst hg'; rcases hor with e | e; exact Or.inl e; exact Or.inr (by omega)⟩, ?_⟩
 refine ⟨blk_set yw (o + 1) _, by rw [Array.getElem?_setIfInBounds, if_neg (by omega)]; exact h.a, by rw [Array.getElem?_setIfInBounds, if_pos rfl, if_pos (Array.getElem?_eq_some_iff.1 h.b).1], owns_blk h.p (fun k hk => kp k (l1 k hk) (fun e => h.py (by rw [hk, e])) (fun e => h.pt k hk e)), by have := owns_blk (w' := w'.setCell ⟨cb, o + 1, none⟩ (.slice (some ⟨g, 0, none⟩) (K.length + 1) cap)) hown (fun k hk => by simp only [Value.ownBlock, Option.some.injEq] at hk; subst hk; exact blk_other _ _ (by simpa using hgp)); simpa using this, h.py, by simp only [Value.ownBlock, ne_eq, Option.some.injEq]; exact hgp, fun k hk hk' => by
   simp only [Value.ownBlock, Option.some.injEq] at hk'
   rcases hor with e | e
   ·rw [hk'] at e; exact h.pt k hk e
   ·have := l1 k hk; omega⟩
set_option maxRecDepth 100000 in
set_option maxHeartbeats 4000000 in
theorem AddO_any (w : World) (cb o : Nat) (A : Array Value) (T : TypeId) (pv tv : Value) (tb : List TP) (K : List Nat) (n : NR) (ri : Int) (r : Nat) (hr : n.form = 4 → ri = r) (h : CInO cb o A T w pv tv tb K) (ok : TOk tb K n) :
  Calls Tryz.prog 62 #[.pointer (some ⟨cb, o, none⟩), nrVal n, .int .i64 ri] w fun v w' => v = .returned (.int .i64 (tyK tb K n r).1) ∧ ∃ pv' tv', CFr cb w w' pv tv pv' tv' ∧ CInO cb o ((A.setIfInBounds o pv').setIfInBounds (o + 1) tv') T w' pv' tv' (tyK tb K n r).2 (K ++ [(tyK tb K n r).1]) := by
 obtain ⟨i0, hi, hz0, hz1, hz2⟩ := info_parts Tryz.infoInt
 have HI : Hid _ := hi
 have HZ0 : Hid _ := hz0
 have HZ1 : Hid _ := hz1
 have HZ2 : Hid _ := hz2
 clear hi hz0 hz1 hz2
 have hbx : Below w.heap.size w (w.alloc (nrO n)) := (Below.refl _ _).alloc (Nat.le_refl _) _
 have hty := typeOfO_any (w.alloc (nrO n)) cb o A T pv tv tb K n ri r hr (h.below hbx) ok
 have hKl := ok.hK
 have HBX : Hid _ := CFr.below cb pv tv hbx
 unfold nrVal at hty
 unfold nrO nrC at hty HBX
 unfold nrVal
 have HTY : Hid _ := hty
 clear hty h ok hr hbx
 obtain ⟨X, hX⟩ : ∃ X, X = tyK tb K n r := ⟨_, rfl⟩
 rw [← hX] at HTY ⊢
 clear hX
 show Calls _ _ #[Value.pointer (some ⟨cb, o, none⟩), _, _] w _
 go_enter Tryz.func62, Tryz.ntmps62
 go_wp2_with fail
 refine Calls.mono HTY.out ?_
 rintro _ w3 ⟨rfl, pv3, hfr3, hC3⟩
 have hC3y := hC3.y
 have hC3t := hC3.t
 have hcl := blk_lt hC3y
 obtain ⟨ao, oc, htv⟩ := slice_any hC3t
 have t1 : w3.cell? ⟨cb, o + 1, none⟩ = some (.slice ao K.length oc) := by rw [hC3.c1, ← htv]
 have HOWN : Hid ((w3.alloc (.cells #[.int .i64 X.1] 3)).ownsRow 0 3 1 (.slice ao K.length oc) K.length (K.map fun (k : Nat) => Value.int .i64 k)) := by
  have := hC3t.alloc (.cells #[.int .i64 X.1] 3)
  rw [htv] at this; exact this
 have HYW : Hid ((w3.alloc (.cells #[.int .i64 X.1] 3)).heap[cb]? = some (.cells (A.setIfInBounds o pv3) T (0, 0))) := blk_alloc _ hC3y
 have HC2 : Hid (∀ u ∈ ([.int .i64 X.1] : List Value), u.oneCell' = true) := by intro v hv; simp only [List.mem_singleton] at hv; subst hv; rfl
 have HTV : Hid _ := htv
 have HC3 : Hid _ := hC3
 have HF3 : Hid _ := HBX.out.trans hfr3
 clear hC3y hC3t htv hC3 hfr3 HTY
 go_wp2_with (at_builtin; go_must (refine app_own _ rfl (.tmp 16) (.tmp 18) 22 rfl 3 i0 _ 1 8 Tryz.undInts HI.out HZ0.out HZ1.out HZ2.out rfl (by decide) (.slice ao K.length oc) K.length (K.map fun (k : Nat) => Value.int .i64 k) rfl HOWN.out ⟨w3.heap.size, 0, none⟩ 1 1 [.int .i64 X.1] rfl rfl ?c1 HC2.out (by decide) ?c3 ?c4 ?_))
 case c1 =>
  intro j v hj
  rw [← hj]
  first | rfl | exact alloc_cell_at _ _ _ _
 case c3 => unfold maxLen; omega
 case c4 => omega
 intro g cap w4 hown hgrow hor
 have hcb' := grown_blk hgrow HYW.out (by have := HC3.out.ty; rw [HTV.out] at this; exact this)
 have z1 : w4.cell? ⟨cb, o + 1, none⟩ = some (.slice ao K.length oc) := by rw [blk_cell hcb', ← HTV.out]; exact HC3.out.b
 have zf := blk_free hcb' (o + 1)
 have zl := blk_lt hcb'
 have hadd := CInO.addT (g := g) (cap := cap) HC3.out X.1 ((Below.refl _ w3).alloc (Nat.le_refl _) (.cells #[.int .i64 X.1] 3)) (by rw [HTV.out]; exact hgrow) hown (by rw [HTV.out, show (w3.alloc (.cells #[.int .i64 X.1] 3)).heap.size = w3.heap.size + 1 from by simp]; exact hor)
 have HAD : Hid _ := hadd.2
 have HFR : Hid _ := HF3.out.trans hadd.1
 clear hown hgrow hor hcb' hadd
 go_wp2
 go_ret
 exact ⟨rfl, pv3, _, HFR.out, HAD.out⟩
theorem Add_any (w : World) (cb : Nat) (pv tv : Value) (tb : List TP) (K : List Nat) (n : NR) (ri : Int) (r : Nat) (hr : n.form = 4 → ri = r) (h : CIn cb w pv tv tb K) (ok : TOk tb K n) :
  Calls Tryz.prog 62 #[ptr cb, nrVal n, .int .i64 ri] w fun v w' => v = .returned (.int .i64 (tyK tb K n r).1) ∧ ∃ pv' tv', CFr cb w w' pv tv pv' tv' ∧ CIn cb w' pv' tv' (tyK tb K n r).2 (K ++ [(tyK tb K n r).1]) :=
 (AddO_any w cb 0 _ _ pv tv tb K n ri r hr h.toO ok).mono fun _ _ ⟨e, pv', tv', f, g⟩ => ⟨e, pv', tv', f, g.toC⟩
def progAns (ns : List NR) (op : List Int) : Nat × Nat := if (manyAns ns op).1 ≠ 0 then manyAns ns op else ckK [] [] ns
set_option maxRecDepth 100000 in
set_option maxHeartbeats 16000000 in
theorem Program_any (w : World) (nv ov : Value) (ns : List NR) (op : List Int) (h : TreeIn w nv ov ns op) (ho : OpOk ns op) (hl : ns.length ≤ 9000) (hsm : ∀ n ∈ ns, n.small) (hbk : ∀ (j : Nat) (n : NR), ns[j]? = some n → n.p0 < j ∧ n.p1 < j ∧ n.p2 < j) :
  Calls Tryz.prog 44 #[treeV nv ov] w fun v w' => v = .returned (.tuple #[.int .i64 (progAns ns op).1, .int .i64 (progAns ns op).2]) ∧ Below w.heap.size w w' := by
 have hlen := fun (w' : World) (hb : Below w.heap.size w w') => Len_any w' nv ov ns op (h.below hb)
 have hnod := fun (w' : World) (hb : Below w.heap.size w w') (k : Nat) (n : NR) (hk : ns[k]? = some n) => Node_in' w' nv ov ns op (h.below hb) k n hk hl
 have hman := fun (w' : World) (hb : Below w.heap.size w w') => manyPairs_any w' nv ov ns op (h.below hb) ho hl
 obtain ⟨a0, cap0, e0⟩ := slice_any h.nd
 obtain ⟨a1, cap1, e1⟩ := slice_any h.op
 rw [ho.1] at e1
 obtain ⟨m, hm⟩ : ∃ m, m = ns.length := ⟨_, rfl⟩
 rw [← hm] at e0 e1 hl
 subst e0
 subst e1
 unfold treeV at hlen hnod hman
 unfold treeV
 unfold nrVal at hnod
 rw [← hm] at hlen
 have HLEN : Hid _ := hlen
 have HNOD : Hid _ := hnod
 have HMAN : Hid _ := hman
 have HM : Hid _ := hm
 have HSM : Hid _ := hsm
 have HBK : Hid _ := hbk
 obtain ⟨ans, hans⟩ : ∃ ans, ans = progAns ns op := ⟨_, rfl⟩
 rw [← hans]
 have HANS : Hid _ := hans
 clear hlen hnod hman ho h hm hans hsm hbk
 have hBx : Below w.heap.size w (w.alloc (.cells #[.slice a0 m cap0, .slice a1 m cap1] 62)) := (Below.refl _ w).alloc (Nat.le_refl _) _
 have HBX : Hid _ := hBx
 have hmn := HMAN.out _ hBx
 clear hBx HMAN
 go_enter Tryz.func44, Tryz.ntmps44
 go_wp2_with fail
 refine hmn.mono ?_
 rintro _ wb ⟨rfl, hbb⟩
 have HBB : Hid _ := hbb
 obtain ⟨b0, b1, bl⟩ := box_cells hbb
 clear hbb hmn
 by_cases hm0 : (manyAns ns op).1 ≠ 0
 ·have HA : Hid (ans = manyAns ns op) := by rw [HANS.out]; unfold progAns; rw [if_pos hm0]; exact rfl
  have q : (((manyAns ns op).1 : Int) != 0) = true := by simp; omega
  generalize manyAns ns op = M at *
  clear hm0
  go_wp2
  refine bodyPost_ret (v := .tuple #[.int .i64 M.1, .int .i64 M.2]) (by simp [results, Tryz.results44, go_sem]) rfl ⟨by rw [HA.out], HBX.out.trans (HBB.out.mono (by simp))⟩
 ·have HA : Hid (ans = ckK [] [] ns) := by rw [HANS.out]; unfold progAns; rw [if_neg hm0]; exact rfl
  have q : (((manyAns ns op).1 : Int) != 0) = false := by simp; omega
  generalize manyAns ns op = M at *
  clear hm0
  have hbw : Below w.heap.size w wb := HBX.out.trans (HBB.out.mono (by simp))
  have HBW : Hid _ := hbw
  have hws := hbw.size
  have hC0 : CIn wb.heap.size (wb.alloc (.cells #[.slice none 0 0, .slice none 0 0] 104)) (.slice none 0 0) (.slice none 0 0) [] [] := ⟨blk_new _ _, World.ownsRow_nil _ _ _ _, World.ownsRow_nil _ _ _ _, by simp [Value.ownBlock], by simp [Value.ownBlock], fun g hg => by simp [Value.ownBlock] at hg⟩
  have HC0 : Hid _ := hC0
  clear hC0 hbw
  go_wp2
  go_loopw [7, 8, 9, 10] (fun i _ _ _ wr => ∃ k : Nat, k ≤ m ∧ i = .int .i64 k ∧ ∃ pv tv tb D K T, CIn wb.heap.size wr pv tv tb K ∧ Rel tb D K T ∧ K.length = k ∧ tb.length ≤ k ∧ ckK [] [] ns = ckK tb K (ns.drop k) ∧ Below wb.heap.size wb wr ∧ wb.heap.size < wr.heap.size ∧ (∀ g, pv.ownBlock = some g → wb.heap.size ≤ g) ∧ (∀ g, tv.ownBlock = some g → wb.heap.size ≤ g)) (fun i _ _ _ _ => m - (intOf i).toNat)
  case atStart => exact ⟨0, by omega, rfl, _, _, [], [], [], [], HC0.out, rel0, rfl, by simp, by simp, (Below.refl _ wb).alloc (Nat.le_refl _) _, by simp, by simp [Value.ownBlock], by simp [Value.ownBlock]⟩
  case round =>
   obtain ⟨k, hk, rfl, pv, tv, tb, D, K, T, hC, hRel, hKl, htl, hck, hbr, hbs, hpb, htb⟩ := hrel
   have hbw2 : Below w.heap.size w wr := HBW.out.trans (hbr.mono hws)
   have hbr2 := HBB.out.trans (hbr.mono HBB.out.size)
   obtain ⟨x0, x1, xl⟩ := box_cells hbr2
   have hln := HLEN.out wr hbw2
   have hrs := hbr.size
   by_cases hlt : k < m
   ·have hkl : k < ns.length := by have := HM.out; omega
    obtain ⟨n, hn⟩ : ∃ n, ns[k]? = some n := ⟨ns[k], List.getElem?_eq_getElem hkl⟩
    have hnsm := HSM.out n (List.mem_of_getElem? hn)
    have hdr : ns.drop k = n :: ns.drop (k + 1) := by
     rw [List.drop_eq_getElem_cons hkl]; rw [List.getElem?_eq_getElem hkl] at hn; simp only [Option.some.injEq] at hn; rw [hn]
    rw [hdr] at hck
    simp only [ckK] at hck
    have hst := step_rel hRel n
    have htk := typeK_len tb K n
    have hok : TOk tb K n := ⟨by omega, by omega, fun i => by have := (hRel.known i).2.1; omega, fun j => by have := hRel.sz_le j; omega, ⟨by have := hnsm.1; omega, by have := hnsm.1; omega⟩, ⟨by have := hnsm.2.1; omega, by have := hnsm.2.1; omega⟩, ⟨by have := hnsm.2.2.1; omega, by have := hnsm.2.2.1; omega⟩, ⟨by have := hnsm.2.2.2; omega, by have := hnsm.2.2.2; omega⟩⟩
    have hback := HBK.out k n hn
    have hnew := typeK_new tb K n (by rw [hKl]; exact hback)
    have hpl := pairF_len tb 0 (knownK K n.p0) (knownK K n.p1)
    have htl2 : (tyK tb K n 0).2.length ≤ k + 1 ∧ (tyK tb K n 0).1 ≤ 10000 := by
     have hk0 := hok.kn n.p0
     have hk1 := hok.kn n.p1
     have hks := hok.kn n.source
     have hab := hRel.parts_le (knownK K n.p0)
     unfold tyK
     split
     ·exact ⟨by simp only; omega, by simp only; omega⟩
     split
     ·exact ⟨by simp only; omega, by simp only; omega⟩
     split
     ·exact ⟨by simp only; omega, by simp only; omega⟩
     split
     ·exact ⟨by simp only; omega, by simp only; omega⟩
     split
     ·exact ⟨by simp only; omega, by simp only; omega⟩
     split
     ·exact ⟨by omega, by omega⟩
     split
     ·exact ⟨by simp only; omega, by simp only; omega⟩
     split
     ·exact ⟨by simp only; omega, by simp only; omega⟩
     ·exact ⟨by simp only; omega, by simp only; omega⟩
    have hty := fun (w' : World) (hb : Below wr.heap.size wr w') => Add_any w' wb.heap.size pv tv tb K n 0 0 (fun _ => rfl) (hC.below hb) hok
    have hfa := fun (w' : World) (pv' tv' : Value) (hC' : CIn wb.heap.size w' pv' tv' (tyK tb K n 0).2 (K ++ [(tyK tb K n 0).1])) => faultOf_any w' wb.heap.size pv' tv' (tyK tb K n 0).2 (K ++ [(tyK tb K n 0).1]) n (tyK tb K n 0).1 hC' (by omega) (by simp; omega) htl2.2 hok.p0 hok.p1 hok.p2
    rw [hnew.1] at hfa
    unfold ptr nrVal at hty hfa
    have HTY : Hid _ := hty
    have HFA : Hid _ := hfa
    have HNEW : Hid _ := hnew.2
    have HN : Hid _ := hn
    have HCK : Hid _ := hck
    have HST : Hid _ := hst
    have HBR : Hid _ := hbr
    have HC : Hid _ := hC
    have HPB : Hid _ := hpb
    have HTB : Hid _ := htb
    have HKL : Hid _ := hKl
    have HTL : Hid _ := htl2.1
    clear hn hnsm hdr hck hst htk hok hty hRel hC hbr hbr2 hpb htb hkl hKl htl hfa hnew hback htl2 hpl
    go_wp2_with fail
    refine hln.mono ?_
    rintro _ w1 ⟨rfl, hb1⟩
    have hbB1 := HBB.out.trans ((HBR.out.trans (hb1.mono hrs)).mono HBB.out.size)
    obtain ⟨d0, d1, dl⟩ := box_cells hbB1
    have hno := HNOD.out w1 (HBW.out.trans ((HBR.out.trans (hb1.mono hrs)).mono hws)) k n HN.out
    have HB1 : Hid _ := hb1
    clear hb1 hbB1 hln x0 x1
    go_wp2_with fail
    refine hno.mono ?_
    rintro _ w2 ⟨rfl, hb2⟩
    have hr2 : Below wr.heap.size wr w2 := HB1.out.trans (hb2.mono HB1.out.size)
    have hr3 := hr2.alloc hr2.size (nrO n)
    have hty := HTY.out _ hr3
    have HR3 : Hid _ := hr3
    have hr2s := hr2.size
    clear hb2 hr2 hno d0 d1 hr3 HTY
    unfold nrO nrC at hty
    go_wp2_with fail
    refine hty.mono ?_
    rintro _ w3 ⟨rfl, pv3, tv3, hfr3, hC3⟩
    have hnb : w3.heap[w2.heap.size]? = some (nrO n) := by
     rw [hfr3.blk w2.heap.size (by simp) (by omega) (fun e => by have := (HC.out.lt.1 _ e); omega) (fun e => by have := (HC.out.lt.2.1 _ e); omega)]
     exact blk_new _ _
    have hB3 : Below wb.heap.size wb (w2.alloc (nrO n)) := HBR.out.trans (HR3.out.mono hrs)
    obtain ⟨g1, g2, g3⟩ := hfr3.toBelow hB3 (Nat.le_refl _) (by simp; omega) HPB.out HTB.out
    have hw3s := hfr3.size
    have hw3b : wb.heap.size < w3.heap.size := by simp at hw3s; omega
    have hfa := HFA.out w3 pv3 tv3 hC3
    obtain ⟨d0, d1, d2, d3, d4, d5, d6, d7, d8, d9⟩ := nr_cells10 hnb
    have hnl := blk_lt hnb
    have HC3 : Hid _ := hC3
    have HG1 : Hid _ := g1
    have HG2 : Hid _ := g2
    have HG3 : Hid _ := g3
    have HNB : Hid _ := hnb
    clear hfr3 hC3 hnb hB3 g1 g2 g3 hty HR3 HFA
    go_wp2_with fail
    refine hfa.mono ?_
    rintro _ w4 ⟨rfl, hb4⟩
    have c1 : w4.cell? ⟨w2.heap.size, 1, none⟩ = some (.int .i64 n.at_) := by rw [hb4.cell (p := ⟨w2.heap.size, 1, none⟩) hnl]; exact d1
    have HB4 : Hid _ := hb4
    have hw4s := hb4.size
    clear hb4 hfa d0 d1 d2 d3 d4 d5 d6 d7 d8 d9
    generalize typeK tb K n = X at *
    by_cases hf : X.1.2 = 0
    ·have q2 : ((X.1.2 : Int) != 0) = false := by simp; omega
     have hck := HCK.out
     rw [if_neg (by omega)] at hck
     obtain ⟨D', hRel'⟩ := HST.out.2 (by rw [← HST.out.1]; exact hf)
     have hX := HNEW.out hf
     have hC4 := HC3.out
     have hTL := HTL.out
     rw [hX] at hC4 hTL
     have HC4 : Hid _ := hC4.below HB4.out
     have HTL2 : Hid _ := hTL
     have HCK2 : Hid _ := hck
     have HRL : Hid _ := hRel'
     clear hf hck hRel' hX hC4 hTL HC3 HTL
     go_wp2
     go_roundw
     case rel => exact ⟨k + 1, by omega, by go_num, pv3, tv3, X.2, D', K ++ [X.1.1], _, HC4.out, HRL.out, by simp [HKL.out], HTL2.out, HCK2.out, HG1.out.trans (HB4.out.mono (by omega)), by omega, HG2.out, HG3.out⟩
     case measure => simp [intOf]; omega
    ·have q2 : ((X.1.2 : Int) != 0) = true := by simp; omega
     have hck := HCK.out
     rw [if_pos hf] at hck
     have HAA : Hid (ans = (X.1.2, n.at_)) := by rw [HA.out]; exact hck
     clear hf hck
     go_wp2
     go_quiet (fail)
     go_wp2
     refine bodyPost_ret (v := .tuple #[.int .i64 X.1.2, .int .i64 n.at_]) (by simp [results, Tryz.results44, go_sem]) rfl ⟨by rw [HAA.out], ?_⟩
     exact (HBW.out.trans ((HG1.out.trans (HB4.out.mono (by omega))).mono hws)).trans ⟨rfl, rfl, rfl, Nat.le_refl _, fun _ _ => rfl⟩
   ·have HAA : Hid (ans = (0, 0)) := by
     have hd : ns.drop k = [] := List.drop_eq_nil_of_le (by have := HM.out; omega)
     rw [hd] at hck
     rw [HA.out, hck]; exact rfl
    have HBR : Hid _ := hbr
    clear hbr hC hRel hck hbr2 hpb htb
    go_wp2_with fail
    refine hln.mono ?_
    rintro _ w1 ⟨rfl, hb1⟩
    have HB1 : Hid _ := HBW.out.trans ((HBR.out.trans (hb1.mono hrs)).mono hws)
    clear hb1 hln
    go_wp2
    refine bodyPost_ret (v := .tuple #[.int .i64 0, .int .i64 0]) (by simp [results, Tryz.results44, go_sem]) rfl ⟨by rw [HAA.out]; rfl, HB1.out⟩
end Go.Proofs.YtpicaknklgccoabGreatDoor
