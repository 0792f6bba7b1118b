import Derived.Test.YtpicaknklgccoabGreatDoorX18
import Derived.Test.YtpicaknklgccoabGreatDoorX17
import Derived.Test.YtpicaknklgccoabGreatDoorX14
import Derived.Test.YtpicaknklgccoabGreatDoorX1
import Derived.Lib.SlBytesRow
import Derived.Lib.BufferRead
namespace Go.Proofs.YtpicaknklgccoabGreatDoor
open Go.RowKit
set_option maxRecDepth 100000 in
set_option maxHeartbeats 4000000 in
theorem make_loop {w0 : World} {yb : Nat} {rv : Value} {raw : List Int} {f : Nat} (ih : MakeOk w0 yb rv raw f) (t : Nat) (s : MkS) (nv : Value) (w : World) (ht : t < 5) (hf : s.left < f + 1) (hv : s.vars.length + s.left ≤ 100) (ha : s.at_ + 40 * s.left + 11 ≤ 100000) (h : MkIn w0 w yb rv raw s nv) (hl : s.left ≠ 0) (hk : (nextF raw 9 { s with left := s.left - 1 }).1 = 4) :
  Calls Tryz.prog 23 #[.pointer (some ⟨yb, 0, none⟩), .int .i64 t] w fun e w' => ∃ p nv', e = .returned (.pointer (some ⟨p, 0, none⟩)) ∧ FrO w w' yb nv nv' ∧ MkIn w0 w' yb rv raw (makeF raw (f + 1) t s).2 nv' ∧ KIn w' (makeF raw (f + 1) t s).1 p := by
 have hyl := blk_lt h.ob.y
 have y2 : w.cell? ⟨yb, 2, none⟩ = some (.int .i64 s.left) := by rw [blk_cell h.ob.y]; rfl
 have f2 : w.frozen? ⟨yb, 2, none⟩ = false := blk_free h.ob.y 2
 have hlp : 0 < s.left := by omega
 have hnx := next_any 9 (by omega) (by omega) (make_pre h hl) (by simp only; omega)
 have hst := nextF_st raw 9 { s with left := s.left - 1 }
 have hx9 := nextF_lt raw 9 { s with left := s.left - 1 } (by omega)
 generalize hR : makeF raw (f + 1) t s = R
 simp only [makeF] at hR
 rw [if_neg hl] at hR
 generalize nextF raw 9 { s with left := s.left - 1 } = x at *
 obtain ⟨x1, x2, x3, x4⟩ := hst
 simp only at x1 x2 x3 x4
 skip
 have HF0 : Hid _ := FrO.set1 w yb nv 2 (.int .i64 ((s.left : Int) - 1))
 have HNX : Hid _ := hnx
 clear hnx h
 go_enter Tryz.func23, Tryz.ntmps23
 go_wp2_with fail
 refine Calls.mono HNX.out ?_
 rintro _ w1 ⟨rfl, hf1, hm1⟩
 have HF1 : Hid _ := HF0.out.trans hf1
 have HM1 : Hid _ := hm1
 clear HNX HF0 hf1 hm1 y2 f2
 rw [if_neg (by omega), if_neg (by omega), if_neg (by omega), if_pos hk] at hR
 have hm := nextF_st raw 4 x.2
 have hm4 := nextF_lt raw 4 x.2 (by omega)
 have hnv := next_any 4 (by omega) (by omega) HM1.out (by omega)
 generalize nextF raw 4 x.2 = n at *
 obtain ⟨m1, m2, m3, m4⟩ := hm
 have hao := makeF_ok raw f t n.2 ht (by omega) (by rw [m2, x2]; omega)
 have hia := fun W hW => ih t n.2 nv W ht (by omega) (by rw [m2, x2]; omega) (by omega) hW
 generalize makeF raw f t n.2 = a at *
 obtain ⟨a1, a2, a3, a4, a5, a6, a7, a8⟩ := hao
 have hWt := @W_le t
 have hbo := makeF_ok raw f t { a.2 with vars := a.2.vars ++ [t] } ht (by simp only; omega) (by simp only [List.length_append, List.length_singleton, a2, m2, x2]; omega)
 have hib := fun nv W hW => bind_of (makeF raw f) t t a.2 nv W (fun nv' W' h' => ih t { a.2 with vars := a.2.vars ++ [t] } nv' W' ht (by simp only; omega) (by simp only [List.length_append, List.length_singleton, a2, m2, x2]; omega) (by simp only; omega) h') hbo.vars hW (by rw [a2, m2, x2]; omega)
 have hbv := bindF_ok (v := t) hbo
 generalize bindF (makeF raw f) t t a.2 = b at *
 obtain ⟨_, b2, _⟩ := hbv
 have HNV : Hid _ := hnv
 have HIA : Hid _ := hia
 have HIB : Hid _ := hib
 have hbl : b.2.vars.length ≤ 100 := by rw [b2, a2, m2, x2]; omega
 have qk : ((x.1 : Int) == 0) = false := by rw [beq_eq_false_iff_ne]; omega
 have qk1 : ((x.1 : Int) == 1) = false := by rw [beq_eq_false_iff_ne]; omega
 have qk2 : ((x.1 : Int) == 2) = false := by rw [beq_eq_false_iff_ne]; omega
 have qk3 : ((x.1 : Int) == 3) = false := by rw [beq_eq_false_iff_ne]; omega
 have qk4 : ((x.1 : Int) == 4) = true := by rw [hk]; rfl
 clear hnv hia hib ih hbo
 go_wp2_with fail
 refine Calls.mono HNV.out ?_
 rintro _ w2 ⟨rfl, hf2, hm2⟩
 have hbn := below_alZ (Below.refl _ w2) (.cells (exV [] n.1 (.slice none 0 0)) 59 (0, 0))
 have HKN : Hid (KIn (w2.alloc (.cells (exV [] n.1 (.slice none 0 0)) 59 (0, 0))) (.num n.1) w2.heap.size) := blk_new _ _
 have HF2 : Hid _ := (HF1.out.trans hf2).trans (FrO.below hbn _ _)
 have HM2 : Hid _ := hm2.grow hbn
 clear hf2 hm2 hbn HM1 HF1 HNV
 go_wp2_with fail
 refine Calls.mono (HIA.out _ HM2.out) ?_
 rintro _ w3 ⟨p3, nv3, rfl, hf3, hm3, hk3⟩
 have HKNb : Hid _ := KIn.fr HKN.out HM2.out hf3
 have HF3 : Hid _ := HF2.out.trans hf3
 have HM3 : Hid _ := hm3
 have HK3 : Hid _ := hk3
 clear hf3 hm3 hk3 HM2 HF2
 go_wp2_with fail
 refine Calls.mono (HIB.out nv3 w3 HM3.out) ?_
 rintro _ w4 ⟨p4, nv4, rfl, hf4, hm4, hk4⟩
 have HK3b : Hid _ := KIn.fr HK3.out HM3.out hf4
 have HKNc : Hid _ := KIn.fr HKNb.out HM3.out hf4
 have HF4 : Hid _ := HF3.out.trans hf4
 have HM4 : Hid _ := hm4
 have HK4 : Hid _ := hk4
 clear hf4 hm4 hk4 HM3 HF3
 obtain ⟨na, nc, hnv4, _, _⟩ := HM4.out.ob.shape
 rw [natsV_len] at hnv4
 have y3 : w4.cell? ⟨yb, 3, none⟩ = some (.slice na b.2.vars.length nc) := by rw [blk_cell HM4.out.ob.y, ← hnv4]; rfl
 have hyl4 := blk_lt HM4.out.ob.y
 have HR : Hid _ := hR
 have h2 := ktrip_new w4 .loop b.2.vars.length w2.heap.size p3 p4 HKNc.out HK3b.out HK4.out
 have H2 : Hid _ := h2
 clear hR h2 hnv4 b2 HIA HIB HKN
 go_wp2
 go_ret
 rw [← HR.out]
 exact ⟨_, nv4, rfl, HF4.out.trans (FrO.below H2.out.1 _ _), HM4.out.grow H2.out.1, H2.out.2⟩
set_option maxRecDepth 100000 in
set_option maxHeartbeats 4000000 in
theorem make_pair {w0 : World} {yb : Nat} {rv : Value} {raw : List Int} {f : Nat} (ih : MakeOk w0 yb rv raw f) (t : Nat) (s : MkS) (nv : Value) (w : World) (ht : t < 5) (hf : s.left < f + 1) (hv : s.vars.length + s.left ≤ 100) (ha : s.at_ + 40 * s.left + 11 ≤ 100000) (h : MkIn w0 w yb rv raw s nv) (hl : s.left ≠ 0) (hk : 4 < (nextF raw 9 { s with left := s.left - 1 }).1 ∧ (nextF raw 9 { s with left := s.left - 1 }).1 < 8) (h0 : t ≠ 0) :
  Calls Tryz.prog 23 #[.pointer (some ⟨yb, 0, none⟩), .int .i64 t] w fun e w' => ∃ p nv', e = .returned (.pointer (some ⟨p, 0, none⟩)) ∧ FrO w w' yb nv nv' ∧ MkIn w0 w' yb rv raw (makeF raw (f + 1) t s).2 nv' ∧ KIn w' (makeF raw (f + 1) t s).1 p := by
 have hyl := blk_lt h.ob.y
 have y2 : w.cell? ⟨yb, 2, none⟩ = some (.int .i64 s.left) := by rw [blk_cell h.ob.y]; rfl
 have f2 : w.frozen? ⟨yb, 2, none⟩ = false := blk_free h.ob.y 2
 have hlp : 0 < s.left := by omega
 have hnx := next_any 9 (by omega) (by omega) (make_pre h hl) (by simp only; omega)
 have hst := nextF_st raw 9 { s with left := s.left - 1 }
 have hx9 := nextF_lt raw 9 { s with left := s.left - 1 } (by omega)
 generalize hR : makeF raw (f + 1) t s = R
 simp only [makeF] at hR
 rw [if_neg hl] at hR
 generalize nextF raw 9 { s with left := s.left - 1 } = x at *
 obtain ⟨x1, x2, x3, x4⟩ := hst
 simp only at x1 x2 x3 x4
 skip
 have HF0 : Hid _ := FrO.set1 w yb nv 2 (.int .i64 ((s.left : Int) - 1))
 have HNX : Hid _ := hnx
 clear hnx h
 go_enter Tryz.func23, Tryz.ntmps23
 go_wp2_with fail
 refine Calls.mono HNX.out ?_
 rintro _ w1 ⟨rfl, hf1, hm1⟩
 have HF1 : Hid _ := HF0.out.trans hf1
 have HM1 : Hid _ := hm1
 clear HNX HF0 hf1 hm1 y2 f2
 rw [if_neg (by omega), if_neg (by omega), if_neg (by omega), if_neg (by omega), if_pos hk.2, if_neg h0] at hR
 have hp := W_pair ht h0
 have hfi : fI t = ((fT t : Nat) : Int) := by unfold fI; rw [if_neg h0]
 have hsi : sI t = ((sT t : Nat) : Int) := by unfold sI; rw [if_neg h0]
 have hfs := kfirst_any t ht
 have hss := ksecond_any t ht
 rw [hfi] at hfs
 rw [hsi] at hss
 have HFS : Hid _ := hfs
 have HSS : Hid _ := hss
 have hao := makeF_ok raw f (fT t) x.2 hp.2.2.2.2.1 (by omega) (by rw [x2]; omega)
 have hia := fun W hW => ih (fT t) x.2 nv W hp.2.2.2.2.1 (by omega) (by rw [x2]; omega) (by omega) hW
 have hWf := @W_le (fT t)
 generalize makeF raw f (fT t) x.2 = a at *
 obtain ⟨a1, a2, a3, a4, a5, a6, a7, a8⟩ := hao
 have hib := fun nv W hW => ih (sT t) a.2 nv W hp.2.2.2.2.2 (by omega) (by rw [a2, x2]; omega) (by omega) hW
 generalize makeF raw f (sT t) a.2 = b at *
 have HIA : Hid _ := hia
 have HIB : Hid _ := hib
 have q0 : ((t : Int) == 0) = false := by rw [beq_eq_false_iff_ne]; omega
 have qk0 : ((x.1 : Int) == 0) = false := by rw [beq_eq_false_iff_ne]; omega
 have qk1 : ((x.1 : Int) == 1) = false := by rw [beq_eq_false_iff_ne]; omega
 have qk2 : ((x.1 : Int) == 2) = false := by rw [beq_eq_false_iff_ne]; omega
 have qk3 : ((x.1 : Int) == 3) = false := by rw [beq_eq_false_iff_ne]; omega
 have qk4 : ((x.1 : Int) == 4) = false := by rw [beq_eq_false_iff_ne]; omega
 clear hia hib ih hfi hsi hfs hss hp
 go_wp2_with fail
 refine Calls.mono (HFS.out _) ?_
 rintro _ w2 ⟨rfl, hb2⟩
 have HF2 : Hid _ := HF1.out.trans (FrO.below hb2 _ _)
 have HM2 : Hid _ := HM1.out.grow hb2
 clear hb2 HF1 HM1
 go_wp2_with fail
 refine Calls.mono (HIA.out w2 HM2.out) ?_
 rintro _ w3 ⟨p3, nv3, rfl, hf3, hm3, hk3⟩
 have HF3 : Hid _ := HF2.out.trans hf3
 have HM3 : Hid _ := hm3
 have HK3 : Hid _ := hk3
 clear hf3 hm3 hk3 HM2 HF2
 go_wp2_with fail
 refine Calls.mono (HSS.out _) ?_
 rintro _ w4 ⟨rfl, hb4⟩
 have HF4 : Hid _ := HF3.out.trans (FrO.below hb4 _ _)
 have HM4 : Hid _ := HM3.out.grow hb4
 have HK4 : Hid _ := HK3.out.below hb4
 clear hb4 HF3 HM3 HK3
 go_wp2_with fail
 refine Calls.mono (HIB.out nv3 w4 HM4.out) ?_
 rintro _ w5 ⟨p5, nv5, rfl, hf5, hm5, hk5⟩
 have HK4b : Hid _ := KIn.fr HK4.out HM4.out hf5
 have HF5 : Hid _ := HF4.out.trans hf5
 have HM5 : Hid _ := hm5
 have HK5 : Hid _ := hk5
 clear hf5 hm5 hk5 HM4 HF4
 have HR : Hid _ := hR
 have h2 := kpair_new w5 .pair 0 p3 p5 HK4b.out HK5.out
 have H2 : Hid _ := h2
 clear hR h2 HIA HIB HFS HSS
 go_wp2
 go_ret
 rw [← HR.out]
 exact ⟨_, nv5, rfl, HF5.out.trans (FrO.below H2.out.1 _ _), HM5.out.grow H2.out.1, H2.out.2⟩
set_option maxRecDepth 100000 in
set_option maxHeartbeats 4000000 in
theorem make_leaf {w0 : World} {yb : Nat} {rv : Value} {raw : List Int} {f : Nat} (ih : MakeOk w0 yb rv raw f) (t : Nat) (s : MkS) (nv : Value) (w : World) (ht : t < 5) (hf : s.left < f + 1) (hv : s.vars.length + s.left ≤ 100) (ha : s.at_ + 40 * s.left + 11 ≤ 100000) (h : MkIn w0 w yb rv raw s nv) (hl : s.left ≠ 0) (hk : 8 ≤ (nextF raw 9 { s with left := s.left - 1 }).1) :
  Calls Tryz.prog 23 #[.pointer (some ⟨yb, 0, none⟩), .int .i64 t] w fun e w' => ∃ p nv', e = .returned (.pointer (some ⟨p, 0, none⟩)) ∧ FrO w w' yb nv nv' ∧ MkIn w0 w' yb rv raw (makeF raw (f + 1) t s).2 nv' ∧ KIn w' (makeF raw (f + 1) t s).1 p := by
 have hyl := blk_lt h.ob.y
 have y2 : w.cell? ⟨yb, 2, none⟩ = some (.int .i64 s.left) := by rw [blk_cell h.ob.y]; rfl
 have f2 : w.frozen? ⟨yb, 2, none⟩ = false := blk_free h.ob.y 2
 have hlp : 0 < s.left := by omega
 have hnx := next_any 9 (by omega) (by omega) (make_pre h hl) (by simp only; omega)
 have hst := nextF_st raw 9 { s with left := s.left - 1 }
 have hx9 := nextF_lt raw 9 { s with left := s.left - 1 } (by omega)
 generalize hR : makeF raw (f + 1) t s = R
 simp only [makeF] at hR
 rw [if_neg hl] at hR
 generalize nextF raw 9 { s with left := s.left - 1 } = x at *
 obtain ⟨x1, x2, x3, x4⟩ := hst
 simp only at x1 x2 x3 x4
 skip
 have HF0 : Hid _ := FrO.set1 w yb nv 2 (.int .i64 ((s.left : Int) - 1))
 have HNX : Hid _ := hnx
 clear hnx h
 go_enter Tryz.func23, Tryz.ntmps23
 go_wp2_with fail
 refine Calls.mono HNX.out ?_
 rintro _ w1 ⟨rfl, hf1, hm1⟩
 have HF1 : Hid _ := HF0.out.trans hf1
 have HM1 : Hid _ := hm1
 clear HNX HF0 hf1 hm1 y2 f2
 rw [if_neg (by omega), if_neg (by omega), if_neg (by omega), if_neg (by omega), if_neg (by omega)] at hR
 have hlf := leaf_any 3 t x.2 nv w1 ht (by unfold dep; split <;> (try split) <;> omega) HM1.out (by rw [x2]; omega) (by have := @W_le t; omega)
 rw [hR] at hlf
 have HLF : Hid _ := hlf
 have qk0 : ((x.1 : Int) == 0) = false := by rw [beq_eq_false_iff_ne]; omega
 have qk1 : ((x.1 : Int) == 1) = false := by rw [beq_eq_false_iff_ne]; omega
 have qk2 : ((x.1 : Int) == 2) = false := by rw [beq_eq_false_iff_ne]; omega
 have qk3 : ((x.1 : Int) == 3) = false := by rw [beq_eq_false_iff_ne]; omega
 have qk4 : ((x.1 : Int) == 4) = false := by rw [beq_eq_false_iff_ne]; omega
 have hff := hf
 have hii := ih
 clear hlf HM1 ih hii hff
 go_wp2_with fail
 refine Calls.mono HLF.out ?_
 rintro _ w2 ⟨p, rfl, hf2, hm2, hk2⟩
 have HF2 : Hid _ := HF1.out.trans hf2
 have HM2 : Hid _ := hm2
 have HK2 : Hid _ := hk2
 clear hf2 hm2 hk2 HF1 HLF
 go_wp2
 go_ret
 exact ⟨p, nv, rfl, HF2.out, HM2.out, HK2.out⟩
def takenF (raw : List Int) (f t : Nat) (s : MkS) : KE × MkS :=
 match takeG t (nextF raw 4 s).1 0 10 with
 | some q => (.n1 q.1 (makeF raw f q.2 (nextF raw 4 s).2).1, (makeF raw f q.2 (nextF raw 4 s).2).2)
 | none => leafF raw 3 t (nextF raw 4 s).2
theorem takeG_succ (t k i n : Nat) : takeG t k i (n + 1) = if (i + k) / 5 % 2 = 1 then (if sI ((i + k) % 5) = t then some (.snd, (i + k) % 5) else takeG t k (i + 1) n) else (if fI ((i + k) % 5) = t then some (.fst, (i + k) % 5) else takeG t k (i + 1) n) := rfl
theorem kone_new (w : World) (k : Kw) (pa : Nat) {a : KE} (ha : KIn w a pa) :
  Below w.heap.size w ((w.alloc (.cells #[.pointer (some ⟨pa, 0, none⟩)] 23 (0, 0))).alloc (.cells (exV k.bytes 0 (.slice (some ⟨w.heap.size, 0, none⟩) 1 1)) 59 (0, 0))) ∧
  KIn ((w.alloc (.cells #[.pointer (some ⟨pa, 0, none⟩)] 23 (0, 0))).alloc (.cells (exV k.bytes 0 (.slice (some ⟨w.heap.size, 0, none⟩) 1 1)) 59 (0, 0))) (.n1 k a) (w.heap.size + 1) := by
 have h1 := below_alZ (Below.refl _ w) (.cells #[.pointer (some ⟨pa, 0, none⟩)] 23 (0, 0))
 have h2 := below_alZ h1 (.cells (exV k.bytes 0 (.slice (some ⟨w.heap.size, 0, none⟩) 1 1)) 59 (0, 0))
 refine ⟨h2, w.heap.size, pa, ?_, ?_, ha.below h2⟩
 ·have := blk_new (w.alloc (.cells #[.pointer (some ⟨pa, 0, none⟩)] 23 (0, 0))) (.cells (exV k.bytes 0 (.slice (some ⟨w.heap.size, 0, none⟩) 1 1)) 59 (0, 0))
  simpa using this
 ·rw [Below.heap_alloc _ _ _ (by simp)]; exact blk_new _ _
set_option maxRecDepth 100000 in
set_option maxHeartbeats 4000000 in
theorem taken_of {w0 : World} {yb : Nat} {rv : Value} {raw : List Int} {f : Nat} (ih : MakeOk w0 yb rv raw f) (t : Nat) (s : MkS) (nv : Value) (w : World) (ht : t < 5) (hf : s.left < f) (hv : s.vars.length + s.left ≤ 100) (ha : s.at_ + 40 * s.left + 12 ≤ 100000) (h : MkIn w0 w yb rv raw s nv) :
  Calls Tryz.prog 40 #[.pointer (some ⟨yb, 0, none⟩), .int .i64 t] w fun e w' => ∃ p nv', e = .returned (.pointer (some ⟨p, 0, none⟩)) ∧ FrO w w' yb nv nv' ∧ MkIn w0 w' yb rv raw (takenF raw f t s).2 nv' ∧ KIn w' (takenF raw f t s).1 p := by
 have hnx := next_any 4 (by omega) (by omega) h (by omega)
 have hst := nextF_st raw 4 s
 have hk4 := nextF_lt raw 4 s (by omega)
 have hS : ∀ q, takeG t (nextF raw 4 s).1 0 10 = some q → takenF raw f t s = (.n1 q.1 (makeF raw f q.2 (nextF raw 4 s).2).1, (makeF raw f q.2 (nextF raw 4 s).2).2) := fun q hq => by unfold takenF; rw [hq]
 have hN : takeG t (nextF raw 4 s).1 0 10 = none → takenF raw f t s = leafF raw 3 t (nextF raw 4 s).2 := fun hq => by unfold takenF; rw [hq]
 have htg := fun q => takeG_ty t ht (nextF raw 4 s).1 hk4 q
 generalize takenF raw f t s = R at *
 generalize nextF raw 4 s = x at *
 obtain ⟨x1, x2, x3, x4⟩ := hst
 have HS : Hid _ := hS
 have HN : Hid _ := hN
 have HTG : Hid _ := htg
 have HNX : Hid _ := hnx
 have HLF : Hid _ := fun W (hW : MkIn w0 W yb rv raw x.2 nv) => leaf_any 3 t x.2 nv W ht (by unfold dep; split <;> (try split) <;> omega) hW (by rw [x2]; omega) (by have := @W_le t; omega)
 have HIH : Hid _ := fun (p : Nat) (hp : p < 5) W hW => ih p x.2 nv W hp (by omega) (by rw [x2]; omega) (by omega) hW
 clear hS hN htg hnx h ih
 obtain ⟨k, s1⟩ := x
 simp only at *
 go_enter Tryz.func40, Tryz.ntmps40
 go_wp2_with fail
 refine Calls.mono HNX.out ?_
 rintro _ w1 ⟨rfl, hf1, hm1⟩
 have HF1 : Hid _ := hf1
 have HM1 : Hid _ := hm1
 clear hf1 hm1 HNX
 go_wp2_with fail
 go_loopw [6] (fun i wr => ∃ j : Nat, j ≤ 10 ∧ i = .int .i64 j ∧ takeG t k 0 10 = takeG t k j (10 - j) ∧ Below w1.heap.size w1 wr) (fun i _ => 10 - (intOf i).toNat)
 case atStart => exact ⟨0, by omega, rfl, rfl, Below.refl _ _⟩
 case round =>
  obtain ⟨j, hj, rfl, htk, hbel⟩ := hrel
  have hsz := hbel.size
  have HB : Hid _ := hbel
  by_cases hlt : j < 10
  ·obtain ⟨n, hn⟩ : ∃ n, 10 - j = n + 1 := ⟨9 - j, by omega⟩
   have hn9 : n = 10 - (j + 1) := by omega
   rw [hn] at htk
   replace htk := htk.trans (takeG_succ t k j n)
   rw [hn9] at htk
   have hp5 : (j + k) % 5 < 5 := Nat.mod_lt _ (by omega)
   have HFS : Hid _ := kfirst_any ((j + k) % 5) hp5
   have HSS : Hid _ := ksecond_any ((j + k) % 5) hp5
   have e1 : ((j : Int) + (k : Int)) % 5 = (((j + k) % 5 : Nat) : Int) := by omega
   have HTK : Hid _ := htk
   clear htk hbel hn hn9
   obtain ⟨p, hp⟩ : ∃ p, p = (j + k) % 5 := ⟨_, rfl⟩
   rw [← hp] at e1 HTK HFS HSS hp5
   by_cases hod : (j + k) / 5 % 2 = 1
   ·have e2 : ((j : Int) + (k : Int)) / 5 % 2 = 1 := by omega
    have HTK2 : Hid (takeG t k 0 10 = if sI p = t then some (.snd, p) else takeG t k (j + 1) (10 - (j + 1))) := by have := HTK.out; rw [if_pos hod] at this; exact this
    clear HTK hp hod
    go_wp2_with fail
    refine Calls.mono (HFS.out _) ?_
    rintro _ w2 ⟨rfl, hb2⟩
    have HB2 : Hid _ := HB.out.trans (hb2.mono hsz)
    have hsz2 := HB2.out.size
    clear hb2 HFS
    go_wp2_with fail
    refine Calls.mono (HSS.out _) ?_
    rintro _ w3 ⟨rfl, hb3⟩
    have HB3 : Hid _ := HB2.out.trans (hb3.mono hsz2)
    clear hb3 HSS
    by_cases hh : sI p = t
    ·have qh : (sI p == (t : Int)) = true := by rw [hh]; simp
     have hq : takeG t k 0 10 = some (.snd, p) := by rw [HTK2.out, if_pos hh]
     have HR : Hid _ := HS.out _ hq
     have HMW : Hid _ := HM1.out.grow HB3.out
     clear hh hq HTK2
     go_wp2_with fail
     refine Calls.mono (HIH.out p hp5 w3 HMW.out) ?_
     rintro _ w4 ⟨pa, nv4, rfl, hf4, hm4, hk4⟩
     have HF4 : Hid _ := (HF1.out.trans (FrO.below HB3.out _ _)).trans hf4
     have HM4 : Hid _ := hm4
     have H2 : Hid _ := kone_new w4 .snd pa hk4
     clear hf4 hm4 hk4
     go_wp2
     go_ret
     rw [HR.out]
     exact ⟨_, nv4, rfl, HF4.out.trans (FrO.below H2.out.1 _ _), HM4.out.grow H2.out.1, H2.out.2⟩
    ·have qh : (sI p == (t : Int)) = false := by rw [beq_eq_false_iff_ne]; exact hh
     have HQ : Hid _ := HTK2.out.trans (if_neg hh)
     clear hh HTK2
     go_wp2
     go_roundw
     case rel => exact ⟨j + 1, by omega, by go_num, HQ.out, HB3.out⟩
     case measure => simp [intOf]; omega
   ·have e2 : ((j : Int) + (k : Int)) / 5 % 2 = 0 := by omega
    have HTK2 : Hid (takeG t k 0 10 = if fI p = t then some (.fst, p) else takeG t k (j + 1) (10 - (j + 1))) := by have := HTK.out; rw [if_neg hod] at this; exact this
    clear HTK hp hod
    go_wp2_with fail
    refine Calls.mono (HFS.out _) ?_
    rintro _ w2 ⟨rfl, hb2⟩
    have HB3 : Hid _ := HB.out.trans (hb2.mono hsz)
    clear hb2 HFS
    by_cases hh : fI p = t
    ·have qh : (fI p == (t : Int)) = true := by rw [hh]; simp
     have hq : takeG t k 0 10 = some (.fst, p) := by rw [HTK2.out, if_pos hh]
     have HR : Hid _ := HS.out _ hq
     have HMW : Hid _ := HM1.out.grow HB3.out
     clear hh hq HTK2
     go_wp2_with fail
     refine Calls.mono (HIH.out p hp5 w2 HMW.out) ?_
     rintro _ w4 ⟨pa, nv4, rfl, hf4, hm4, hk4⟩
     have HF4 : Hid _ := (HF1.out.trans (FrO.below HB3.out _ _)).trans hf4
     have HM4 : Hid _ := hm4
     have H2 : Hid _ := kone_new w4 .fst pa hk4
     clear hf4 hm4 hk4
     go_wp2
     go_ret
     rw [HR.out]
     exact ⟨_, nv4, rfl, HF4.out.trans (FrO.below H2.out.1 _ _), HM4.out.grow H2.out.1, H2.out.2⟩
    ·have qh : (fI p == (t : Int)) = false := by rw [beq_eq_false_iff_ne]; exact hh
     have HQ : Hid _ := HTK2.out.trans (if_neg hh)
     clear hh HTK2
     go_wp2
     go_roundw
     case rel => exact ⟨j + 1, by omega, by go_num, HQ.out, HB3.out⟩
     case measure => simp [intOf]; omega
  ·have hje : j = 10 := by omega
   subst hje
   have HR : Hid _ := HN.out htk
   have HMW : Hid _ := HM1.out.grow HB.out
   clear htk hbel
   go_wp2_with fail
   refine Calls.mono (HLF.out _ HMW.out) ?_
   rintro _ w2 ⟨p, rfl, hf2, hm2, hk2⟩
   have HF2 : Hid _ := (HF1.out.trans (FrO.below HB.out _ _)).trans hf2
   have HM2 : Hid _ := hm2
   have HK2 : Hid _ := hk2
   clear hf2 hm2 hk2
   go_wp2
   go_ret
   rw [HR.out]
   exact ⟨p, nv, rfl, HF2.out, HM2.out, HK2.out⟩
theorem Tryz.infoThree : (Tryz.prog.info? 81).map (·.size) = some 3 := by kernel_rfl
set_option maxRecDepth 100000 in
set_option maxHeartbeats 4000000 in
theorem make_op {w0 : World} {yb : Nat} {rv : Value} {raw : List Int} {f : Nat} (ih : MakeOk w0 yb rv raw f) (t : Nat) (s : MkS) (nv : Value) (w : World) (ht : t < 5) (hf : s.left < f + 1) (hv : s.vars.length + s.left ≤ 100) (ha : s.at_ + 40 * s.left + 11 ≤ 100000) (h : MkIn w0 w yb rv raw s nv) (hl : s.left ≠ 0) (hk : 4 < (nextF raw 9 { s with left := s.left - 1 }).1 ∧ (nextF raw 9 { s with left := s.left - 1 }).1 < 8) (h0 : t = 0) :
  Calls Tryz.prog 23 #[.pointer (some ⟨yb, 0, none⟩), .int .i64 t] w fun e w' => ∃ p nv', e = .returned (.pointer (some ⟨p, 0, none⟩)) ∧ FrO w w' yb nv nv' ∧ MkIn w0 w' yb rv raw (makeF raw (f + 1) t s).2 nv' ∧ KIn w' (makeF raw (f + 1) t s).1 p := by
 have hyl := blk_lt h.ob.y
 have y2 : w.cell? ⟨yb, 2, none⟩ = some (.int .i64 s.left) := by rw [blk_cell h.ob.y]; rfl
 have f2 : w.frozen? ⟨yb, 2, none⟩ = false := blk_free h.ob.y 2
 have hlp : 0 < s.left := by omega
 have hnx := next_any 9 (by omega) (by omega) (make_pre h hl) (by simp only; omega)
 have hst := nextF_st raw 9 { s with left := s.left - 1 }
 have hx9 := nextF_lt raw 9 { s with left := s.left - 1 } (by omega)
 generalize hR : makeF raw (f + 1) t s = R
 simp only [makeF] at hR
 rw [if_neg hl] at hR
 generalize nextF raw 9 { s with left := s.left - 1 } = x at *
 obtain ⟨x1, x2, x3, x4⟩ := hst
 simp only at x1 x2 x3 x4
 skip
 have HF0 : Hid _ := FrO.set1 w yb nv 2 (.int .i64 ((s.left : Int) - 1))
 have HNX : Hid _ := hnx
 clear hnx h
 go_enter Tryz.func23, Tryz.ntmps23
 go_wp2_with fail
 refine Calls.mono HNX.out ?_
 rintro _ w1 ⟨rfl, hf1, hm1⟩
 have HF1 : Hid _ := HF0.out.trans hf1
 have HM1 : Hid _ := hm1
 clear HNX HF0 hf1 hm1 y2 f2
 rw [if_neg (by omega), if_neg (by omega), if_neg (by omega), if_neg (by omega), if_pos hk.2, if_pos h0] at hR
 subst h0
 have hm := nextF_st raw 3 x.2
 have ho3 := nextF_lt raw 3 x.2 (by omega)
 have hnv := fun W hW => next_any (w := W) 3 (by omega) (by omega) (HM1.out.grow hW) (by omega)
 generalize nextF raw 3 x.2 = o at *
 obtain ⟨m1, m2, m3, m4⟩ := hm
 have hao := makeF_ok raw f 0 o.2 (by omega) (by omega) (by rw [m2, x2]; omega)
 have hia := fun W hW => ih 0 o.2 nv W (by omega) (by omega) (by rw [m2, x2]; omega) (by omega) hW
 have hW0 := @W_le 0
 generalize makeF raw f 0 o.2 = a at *
 obtain ⟨a1, a2, a3, a4, a5, a6, a7, a8⟩ := hao
 have hib := fun nv W hW => ih 0 a.2 nv W (by omega) (by omega) (by rw [a2, m2, x2]; omega) (by omega) hW
 generalize makeF raw f 0 a.2 = b at *
 have HNV : Hid _ := hnv
 have HIA : Hid _ := hia
 have HIB : Hid _ := hib
 have HR : Hid _ := hR
 have qk0 : ((x.1 : Int) == 0) = false := by rw [beq_eq_false_iff_ne]; omega
 have qk1 : ((x.1 : Int) == 1) = false := by rw [beq_eq_false_iff_ne]; omega
 have qk2 : ((x.1 : Int) == 2) = false := by rw [beq_eq_false_iff_ne]; omega
 have qk3 : ((x.1 : Int) == 3) = false := by rw [beq_eq_false_iff_ne]; omega
 have qk4 : ((x.1 : Int) == 4) = false := by rw [beq_eq_false_iff_ne]; omega
 clear hnv hia hib ih hR
 go_wp2_with (refine st_row rfl 81 (.tmp 15) (.tmp 119) rfl w1.heap.size #[.string ⟨#[97, 100, 100]⟩, .string ⟨#[115, 117, 98]⟩, .string ⟨#[108, 101, 115, 115]⟩] rfl rfl 81 _ (blk_new _ _) Tryz.infoThree rfl (by simp [Value.oneCell']) ?_; intro W hW hWs hWo hW1 hW2 hW3)
 have hbW : Below w1.heap.size w1 W := below_new (Below.alloc (Below.refl _ w1) (Nat.le_refl _) _) (Nat.le_refl _) hWs hWo hW1 hW2 hW3
 have HMW : Hid _ := HM1.out.grow hbW
 have HFW : Hid _ := HF1.out.trans (FrO.below hbW _ _)
 have HBW : Hid _ := hbW
 have HQ : Hid _ := hW
 clear hWs hWo hW1 hW2 hW3 hbW hW HM1 HF1
 refine Calls.mono (HNV.out W HBW.out) ?_
 rintro _ w2 ⟨rfl, hf2, hm2⟩
 have hq2 := HMW.out.ob.other hf2 (by decide) (by decide) HQ.out
 have hqc : w2.cell? ⟨w1.heap.size, o.1, none⟩ = some (.string (bs (opK o.1).bytes)) := by
  rw [blk_cell hq2]
  have h3 : o.1 = 0 ∨ o.1 = 1 ∨ o.1 = 2 := by omega
  rcases h3 with h | h | h <;> rw [h] <;> rfl
 have hql : w1.heap.size < w2.heap.size := blk_lt hq2
 have HF2 : Hid _ := HFW.out.trans hf2
 have HM2 : Hid _ := hm2
 clear hf2 hm2 HMW HFW HBW HQ HNV hq2
 generalize w1.heap.size = q at *
 go_wp2_with fail
 refine Calls.mono (HIA.out w2 HM2.out) ?_
 rintro _ w3 ⟨p3, nv3, rfl, hf3, hm3, hk3⟩
 have HF3 : Hid _ := HF2.out.trans hf3
 have HM3 : Hid _ := hm3
 have HK3 : Hid _ := hk3
 clear hf3 hm3 hk3 HM2 HF2
 go_wp2_with fail
 refine Calls.mono (HIB.out nv3 w3 HM3.out) ?_
 rintro _ w4 ⟨p4, nv4, rfl, hf4, hm4, hk4⟩
 have HK3b : Hid _ := KIn.fr HK3.out HM3.out hf4
 have HF4 : Hid _ := HF3.out.trans hf4
 have HM4 : Hid _ := hm4
 have HK4 : Hid _ := hk4
 clear hf4 hm4 hk4 HM3 HF3
 have h2 := kpair_new w4 (opK o.1) 0 p3 p4 HK3b.out HK4.out
 have H2 : Hid _ := h2
 clear h2 HIA HIB
 go_wp2
 go_ret
 rw [← HR.out]
 exact ⟨_, nv4, rfl, HF4.out.trans (FrO.below H2.out.1 _ _), HM4.out.grow H2.out.1, H2.out.2⟩
set_option maxRecDepth 100000 in
set_option maxHeartbeats 4000000 in
theorem make_taken {w0 : World} {yb : Nat} {rv : Value} {raw : List Int} {f : Nat} (ih : MakeOk w0 yb rv raw f) (t : Nat) (s : MkS) (nv : Value) (w : World) (ht : t < 5) (hf : s.left < f + 1) (hv : s.vars.length + s.left ≤ 100) (ha : s.at_ + 40 * s.left + 11 ≤ 100000) (h : MkIn w0 w yb rv raw s nv) (hl : s.left ≠ 0) (hk : (nextF raw 9 { s with left := s.left - 1 }).1 = 2 ∨ (nextF raw 9 { s with left := s.left - 1 }).1 = 3) :
  Calls Tryz.prog 23 #[.pointer (some ⟨yb, 0, none⟩), .int .i64 t] w fun e w' => ∃ p nv', e = .returned (.pointer (some ⟨p, 0, none⟩)) ∧ FrO w w' yb nv nv' ∧ MkIn w0 w' yb rv raw (makeF raw (f + 1) t s).2 nv' ∧ KIn w' (makeF raw (f + 1) t s).1 p := by
 have hyl := blk_lt h.ob.y
 have y2 : w.cell? ⟨yb, 2, none⟩ = some (.int .i64 s.left) := by rw [blk_cell h.ob.y]; rfl
 have f2 : w.frozen? ⟨yb, 2, none⟩ = false := blk_free h.ob.y 2
 have hlp : 0 < s.left := by omega
 have hnx := next_any 9 (by omega) (by omega) (make_pre h hl) (by simp only; omega)
 have hst := nextF_st raw 9 { s with left := s.left - 1 }
 have hx9 := nextF_lt raw 9 { s with left := s.left - 1 } (by omega)
 generalize hR : makeF raw (f + 1) t s = R
 simp only [makeF] at hR
 rw [if_neg hl] at hR
 generalize nextF raw 9 { s with left := s.left - 1 } = x at *
 obtain ⟨x1, x2, x3, x4⟩ := hst
 simp only at x1 x2 x3 x4
 skip
 have HF0 : Hid _ := FrO.set1 w yb nv 2 (.int .i64 ((s.left : Int) - 1))
 have HNX : Hid _ := hnx
 clear hnx h
 go_enter Tryz.func23, Tryz.ntmps23
 go_wp2_with fail
 refine Calls.mono HNX.out ?_
 rintro _ w1 ⟨rfl, hf1, hm1⟩
 have HF1 : Hid _ := HF0.out.trans hf1
 have HM1 : Hid _ := hm1
 clear HNX HF0 hf1 hm1 y2 f2
 rw [if_neg (by omega), if_neg (by omega), if_pos hk] at hR
 have htk := taken_of ih t x.2 nv w1 ht (by omega) (by rw [x2]; omega) (by omega) HM1.out
 have HTK : Hid _ := htk
 have HR : Hid (takenF raw f t x.2 = R) := by rw [← hR]; rfl
 have qk0 : ((x.1 : Int) == 0) = false := by rw [beq_eq_false_iff_ne]; omega
 have qk1 : ((x.1 : Int) == 1) = false := by rw [beq_eq_false_iff_ne]; omega
 clear htk hR ih HM1
 have h23 : x.1 = 2 ∨ x.1 = 3 := hk
 rcases h23 with h2 | h3
 ·have qk2 : ((x.1 : Int) == 2) = true := by rw [h2]; rfl
  clear hk h2
  go_wp2_with fail
  refine Calls.mono HTK.out ?_
  rintro _ w2 ⟨p, nv2, rfl, hf2, hm2, hk2⟩
  have HF2 : Hid _ := HF1.out.trans hf2
  have HM2 : Hid _ := hm2
  have HK2 : Hid _ := hk2
  clear hf2 hm2 hk2 HTK
  go_wp2
  go_ret
  rw [← HR.out]
  exact ⟨p, nv2, rfl, HF2.out, HM2.out, HK2.out⟩
 ·have qk2 : ((x.1 : Int) == 2) = false := by rw [h3]; rfl
  have qk3 : ((x.1 : Int) == 3) = true := by rw [h3]; rfl
  clear hk h3
  go_wp2_with fail
  refine Calls.mono HTK.out ?_
  rintro _ w2 ⟨p, nv2, rfl, hf2, hm2, hk2⟩
  have HF2 : Hid _ := HF1.out.trans hf2
  have HM2 : Hid _ := hm2
  have HK2 : Hid _ := hk2
  clear hf2 hm2 hk2 HTK
  go_wp2
  go_ret
  rw [← HR.out]
  exact ⟨p, nv2, rfl, HF2.out, HM2.out, HK2.out⟩
set_option maxRecDepth 100000 in
theorem make_zero {w0 : World} {yb : Nat} {rv : Value} {raw : List Int} {f : Nat} (t : Nat) (s : MkS) (nv : Value) (w : World) (ht : t < 5) (hv : s.vars.length + s.left ≤ 100) (ha : s.at_ + 40 * s.left + 11 ≤ 100000) (h : MkIn w0 w yb rv raw s nv) (hl : s.left = 0) :
  Calls Tryz.prog 23 #[.pointer (some ⟨yb, 0, none⟩), .int .i64 t] w fun e w' => ∃ p nv', e = .returned (.pointer (some ⟨p, 0, none⟩)) ∧ FrO w w' yb nv nv' ∧ MkIn w0 w' yb rv raw (makeF raw (f + 1) t s).2 nv' ∧ KIn w' (makeF raw (f + 1) t s).1 p := by
 have hyl := blk_lt h.ob.y
 have y2 : w.cell? ⟨yb, 2, none⟩ = some (.int .i64 0) := by rw [blk_cell h.ob.y, ← Int.natCast_zero, ← hl]; rfl
 have hR : makeF raw (f + 1) t s = leafF raw 3 t s := by simp only [makeF]; rw [if_pos hl]
 rw [hR]
 have HLF : Hid _ := leaf_any 3 t s nv w ht (by unfold dep; split <;> (try split) <;> omega) h (by omega) (by have := @W_le t; omega)
 clear h hR
 go_enter Tryz.func23, Tryz.ntmps23
 go_wp2_with fail
 refine Calls.mono HLF.out ?_
 rintro _ w2 ⟨p, rfl, hf2, hm2, hk2⟩
 have HF2 : Hid _ := hf2
 have HM2 : Hid _ := hm2
 have HK2 : Hid _ := hk2
 clear hf2 hm2 hk2 HLF
 go_wp2
 go_ret
 exact ⟨p, nv, rfl, HF2.out, HM2.out, HK2.out⟩
theorem make_any {w0 : World} {yb : Nat} {rv : Value} {raw : List Int} : ∀ f, MakeOk w0 yb rv raw f
 | 0 => fun _ _ _ _ _ h => absurd h (by omega)
 | f + 1 => fun t s nv w ht hf hv ha h => by
  by_cases hl : s.left = 0
  ·exact make_zero t s nv w ht hv ha h hl
  ·have ih := make_any (w0 := w0) (yb := yb) (rv := rv) (raw := raw) f
   have h9 := nextF_lt raw 9 { s with left := s.left - 1 } (by omega)
   by_cases h0 : (nextF raw 9 { s with left := s.left - 1 }).1 = 0
   ·exact make_let ih t s nv w ht hf hv ha h hl h0
   by_cases h1 : (nextF raw 9 { s with left := s.left - 1 }).1 = 1
   ·exact make_if ih t s nv w ht hf hv ha h hl h1
   by_cases h2 : (nextF raw 9 { s with left := s.left - 1 }).1 = 2 ∨ (nextF raw 9 { s with left := s.left - 1 }).1 = 3
   ·exact make_taken ih t s nv w ht hf hv ha h hl h2
   by_cases h4 : (nextF raw 9 { s with left := s.left - 1 }).1 = 4
   ·exact make_loop ih t s nv w ht hf hv ha h hl h4
   by_cases h8 : (nextF raw 9 { s with left := s.left - 1 }).1 < 8
   ·by_cases ht0 : t = 0
    ·exact make_op ih t s nv w ht hf hv ha h hl ⟨by omega, h8⟩ ht0
    ·exact make_pair ih t s nv w ht hf hv ha h hl ⟨by omega, h8⟩ ht0
   ·exact make_leaf ih t s nv w ht hf hv ha h hl (by omega)
set_option maxRecDepth 100000 in
theorem build_any (w : World) (t : Int) (rv : Value) (raw : List Int) (ht : I64 t) (h : RawIn w rv raw) :
  Calls Tryz.prog 8 #[.int .i64 t, rv] w fun e w' => ∃ p, e = .returned (.pointer (some ⟨p, 0, none⟩)) ∧ Below w.heap.size w w' ∧ KIn w' (buildF t raw) p := by
 obtain ⟨ra, rn, rc, rfl⟩ : ∃ ra rn rc, rv = .slice ra rn rc := by
  rcases h.2 with ⟨h1, _⟩ | ⟨a, cap, h1, _, _⟩
  ·exact ⟨_, _, _, h1⟩
  ·exact ⟨_, _, _, h1⟩
 have hob : MkIn w (w.alloc (.cells (mkCells (.slice ra rn rc) ⟨0, 24, []⟩ (.slice none 0 0)) 49 (0, 0))) w.heap.size (.slice ra rn rc) raw ⟨0, 24, []⟩ (.slice none 0 0) := by
  refine ⟨h, ⟨below_alZ (Below.refl _ w) _, Nat.le_refl _, blk_new _ _, World.ownsRow_nil _ _ _ _, by simp [Value.ownBlock]⟩⟩
 have hpk := fun W => pick_any t 5 W ht (by omega) (by omega)
 have h5 := pickF_lt t 5 (by omega)
 have hmk := make_any (w0 := w) (yb := w.heap.size) (rv := .slice ra rn rc) (raw := raw) 25 (pickF t 5) ⟨0, 24, []⟩ (.slice none 0 0) _ h5 (by simp) (by simp) (by simp) hob
 have HPK : Hid _ := hpk
 have HMK : Hid _ := hmk
 clear hob hpk hmk h
 go_enter Tryz.func8, Tryz.ntmps8
 go_wp2_with fail
 refine Calls.mono (HPK.out _) ?_
 rintro _ w2 ⟨rfl, rfl⟩
 go_wp2_with fail
 refine Calls.mono HMK.out ?_
 rintro _ w3 ⟨p, nv', rfl, hf, hm, hk⟩
 have HB : Hid _ := hm.ob.b0
 have HK : Hid (KIn w3 (buildF t raw) p) := hk
 clear hf hm hk HMK HPK
 go_wp2
 go_ret
 exact ⟨p, rfl, HB.out, HK.out⟩
end Go.Proofs.YtpicaknklgccoabGreatDoor
namespace Go.Proofs.YtpicaknklgccoabGreatDoor
open Go.Lib (decDigits)
theorem ofNat_toNat8 (n : Nat) (h : n < 256) : (UInt8.ofNat n).toNat = n := by simp; omega
theorem value_dec (u : Nat) : valueL (decDigits u) = u := by
 induction u using Nat.strongRecOn with
 | _ u ih =>
  rw [decDigits]
  split
  ·rename_i h
   have e : (UInt8.ofNat (48 + u)).toNat = 48 + u := ofNat_toNat8 _ (by omega)
   have hne : UInt8.ofNat (48 + u) ≠ 35 := by intro hc; rw [hc] at e; simp at e; omega
   simp only [valueL, List.foldl_cons, List.foldl_nil, if_neg hne, e]; omega
  ·rename_i h
   have e : (UInt8.ofNat (48 + u % 10)).toNat = 48 + u % 10 := ofNat_toNat8 _ (by omega)
   have hne : UInt8.ofNat (48 + u % 10) ≠ 35 := by intro hc; rw [hc] at e; simp at e; omega
   rw [valueL_snoc, if_neg hne, ih _ (by omega), e]; omega
theorem dec_ne (u : Nat) : decDigits u ≠ [] := by rw [decDigits]; split <;> simp
theorem dec_head (u : Nat) (h : 0 < u) : (decDigits u).head? ≠ some 48 := by
 induction u using Nat.strongRecOn with
 | _ u ih =>
  rw [decDigits]
  split
  ·rename_i h1
   have e : (UInt8.ofNat (48 + u)).toNat = 48 + u := ofNat_toNat8 _ (by omega)
   intro hc
   simp only [List.head?_cons, Option.some.injEq] at hc
   rw [hc] at e; simp at e; omega
  ·rename_i h1
   have := ih (u / 10) (by omega) (by omega)
   cases hd : decDigits (u / 10) with
   | nil => exact absurd hd (dec_ne _)
   | cons a r => rw [hd] at this; simpa using this
theorem dec_good (u m : Nat) (h : (decDigits u).length ≤ m) : GoodD (decDigits u) m := by
 refine ⟨fun c hc => ?_, ?_⟩
 ·have := dec_digit u c hc
  unfold digitB at this
  simp only [Bool.and_eq_true, decide_eq_true_eq] at this
  unfold inB
  simp only [Bool.and_eq_true, decide_eq_true_eq]
  omega
 ·unfold numeralB
  have hp : 0 < (decDigits u).length := List.length_pos_iff.2 (dec_ne u)
  have hl : (decDigits u).length = 1 ∨ (decDigits u).head? ≠ some 48 := by
   rcases Nat.eq_zero_or_pos u with rfl | hu
   ·left; rw [decDigits]; simp
   ·exact Or.inr (dec_head u hu)
  simp only [Bool.and_eq_true, Bool.or_eq_true, decide_eq_true_eq, bne_iff_ne]
  exact ⟨⟨hp, h⟩, hl⟩
theorem dec_len2 (u : Nat) (h : u ≤ 99) : (decDigits u).length ≤ 2 := by
 rw [decDigits]; split
 ·simp
 ·rw [decDigits]; split
  ·simp
  ·omega
def nameL (n : Nat) : List UInt8 := [UInt8.ofNat (97 + n / 26 % 26), UInt8.ofNat (97 + n % 26), 118]
theorem nameL_inj {a b : Nat} (ha : a < 676) (hb : b < 676) (h : nameL a = nameL b) : a = b := by
 simp only [nameL, List.cons.injEq, and_true] at h
 have h1 := congrArg UInt8.toNat h.1
 have h2 := congrArg UInt8.toNat h.2
 rw [ofNat_toNat8 _ (by omega), ofNat_toNat8 _ (by omega)] at h1 h2
 omega
theorem nameL_good (n : Nat) : GoodN (nameL n) := by
 refine ⟨by simp [nameL], fun c hc => ?_, by simp [nameL], ?_⟩
 ·simp only [nameL, List.mem_cons, List.not_mem_nil, or_false] at hc
  have e1 : (UInt8.ofNat (97 + n / 26 % 26)).toNat = 97 + n / 26 % 26 := ofNat_toNat8 _ (by omega)
  have e2 : (UInt8.ofNat (97 + n % 26)).toNat = 97 + n % 26 := ofNat_toNat8 _ (by omega)
  unfold inB
  simp only [Bool.and_eq_true, decide_eq_true_eq]
  rcases hc with rfl | rfl | rfl
  ·omega
  ·omega
  ·decide
 ·cases h : kwOf (nameL n) with
  | none => rfl
  | some k =>
   have := kwOf_some h
   cases k <;> simp [nameL, Kw.bytes] at this
def bindN (k : Kw) (n : Nat) : List UInt8 := if k = .let_ ∨ k = .loop then nameL n else []
def KE.pt (rg : List UInt8) : KE → PT
 | .num n => .num 0 (decDigits n)
 | .var n => .name 0 (nameL n)
 | .n1 k a => .node 0 k [] [] [a.pt rg]
 | .n2 k n a b => .node 0 k (bindN k n) (if k = .pair then rg else []) [a.pt rg, b.pt rg]
 | .n3 k n a b c => .node 0 k (bindN k n) [] [a.pt rg, b.pt rg, c.pt rg]
theorem pt_len {rg : List UInt8} : ∀ {vs : List Nat} {x : KE} {t : Nat}, KT vs x t → (x.pt rg).tidy.length ≤ x.len + x.prs * (rg.length + 1) := by
 intro vs x t h
 induction h with
 | num h => simp only [KE.pt, PT.tidy, KE.len, KE.prs]; exact Nat.le_trans (dec_len2 _ (by omega)) (by omega)
 | var _ => simp [KE.pt, PT.tidy, KE.len, KE.prs, nameL]
 | let_ _ _ _ _ ha hb => simp [KE.pt, PT.tidy, tidyL, joinT, pieceT, KE.len, KE.prs, regT, bindN, nameL, Kw.bytes, Nat.add_mul]; omega
 | if_ _ _ _ ha hb hc => simp [KE.pt, PT.tidy, tidyL, joinT, pieceT, KE.len, KE.prs, regT, bindN, Kw.bytes, Nat.add_mul]; omega
 | loop _ _ _ _ ha hb hc => simp [KE.pt, PT.tidy, tidyL, joinT, pieceT, KE.len, KE.prs, regT, bindN, nameL, Kw.bytes, Nat.add_mul]; omega
 | pair _ _ _ _ ha hb =>
  simp only [KE.pt, PT.tidy, tidyL, joinT, pieceT, KE.len, KE.prs, regT, bindN, Kw.bytes, Nat.add_mul, if_true]
  by_cases hr : rg = []
  ·subst hr; simp; simp at ha hb; omega
  ·simp [hr]; omega
 | fst _ _ _ ha => simp [KE.pt, PT.tidy, tidyL, joinT, pieceT, KE.len, KE.prs, regT, Kw.bytes]; omega
 | snd _ _ _ ha => simp [KE.pt, PT.tidy, tidyL, joinT, pieceT, KE.len, KE.prs, regT, Kw.bytes]; omega
 | two hk _ _ ha hb => rcases hk with rfl | rfl | rfl <;> simp [KE.pt, PT.tidy, tidyL, joinT, pieceT, KE.len, KE.prs, regT, bindN, Kw.bytes, Nat.add_mul] <;> omega
def tyJ (t : Nat) : Ty := if t = 0 then .n else .p 0 .n .n
def tyZ (t : Nat) : Ty := if t = 0 then .n else .p 0 (tyJ (fT t)) (tyJ (sT t))
theorem tyZ_pair {t : Nat} (ht : t < 5) (h0 : t ≠ 0) : tyZ t = .p 0 (tyZ (fT t)) (tyZ (sT t)) := by
 match t, ht, h0 with
 | 1, _, _ => rfl
 | 2, _, _ => rfl
 | 3, _, _ => rfl
 | 4, _, _ => rfl
theorem tyZ_size (t : Nat) : (tyZ t).size ≤ 3 := by
 have hj : ∀ t, (tyJ t).size ≤ 1 := fun t => by unfold tyJ; split <;> simp [Ty.size]
 unfold tyZ
 split
 ·simp [Ty.size]
 ·have := hj (fT t); have := hj (sT t); simp only [Ty.size]; omega
theorem look_snoc' (env : TEnv) (nm s : List UInt8) (T : Ty) : look (env ++ [(nm, T)]) s = if nm = s then some T else look env s := by
 unfold look
 rw [List.reverse_append, List.reverse_singleton, List.singleton_append, List.find?_cons]
 by_cases h : nm = s
 ·subst h; simp
 ·have : (nm == s) = false := by rw [beq_eq_false_iff_ne]; exact h
  simp only [this, if_neg h]
theorem lookV_snoc' (env : VEnv) (nm s : List UInt8) (v : Vl) : lookV (env ++ [(nm, v)]) s = if nm = s then v else lookV env s := by
 unfold lookV
 rw [List.reverse_append, List.reverse_singleton, List.singleton_append, List.find?_cons]
 by_cases h : nm = s
 ·subst h; simp
 ·have : (nm == s) = false := by rw [beq_eq_false_iff_ne]; exact h
  simp only [this, if_neg h]
def envT (vs : List Nat) : TEnv := vs.mapIdx (fun i t => (nameL i, tyZ t))
def envV (vs : List Vl) : VEnv := vs.mapIdx (fun i v => (nameL i, v))
theorem envT_snoc (vs : List Nat) (t : Nat) : envT (vs ++ [t]) = envT vs ++ [(nameL vs.length, tyZ t)] := by unfold envT; rw [List.mapIdx_concat]
theorem envV_snoc (vs : List Vl) (v : Vl) : envV (vs ++ [v]) = envV vs ++ [(nameL vs.length, v)] := by unfold envV; rw [List.mapIdx_concat]
theorem look_envT (vs : List Nat) (n t : Nat) (h : vs[n]? = some t) (hl : vs.length ≤ 600) : look (envT vs) (nameL n) = some (tyZ t) := by
 have hn : n < vs.length := by
  rcases Nat.lt_or_ge n vs.length with h1 | h1
  ·exact h1
  ·rw [List.getElem?_eq_none h1] at h; cases h
 have key : ∀ k, n < k → k ≤ vs.length → look (envT (vs.take k)) (nameL n) = some (tyZ t) := by
  intro k
  induction k with
  | zero => intro h; omega
  | succ k ih =>
   intro h1 h2
   rw [List.take_succ_eq_append_getElem (by omega), envT_snoc, look_snoc', List.length_take, Nat.min_eq_left (by omega)]
   by_cases e : k = n
   ·subst e
    rw [if_pos rfl]
    rw [List.getElem?_eq_getElem (by omega)] at h
    simp only [Option.some.injEq] at h
    rw [h]
   ·rw [if_neg (fun hc => e (nameL_inj (by omega) (by omega) hc))]
    exact ih (by omega) (by omega)
 have := key vs.length hn (Nat.le_refl _)
 rwa [List.take_length] at this
theorem look_envV (vs : List Vl) (n : Nat) (hn : n < vs.length) (hl : vs.length ≤ 600) : lookV (envV vs) (nameL n) = vs[n] := by
 have key : ∀ k, n < k → k ≤ vs.length → lookV (envV (vs.take k)) (nameL n) = vs[n] := by
  intro k
  induction k with
  | zero => intro h; omega
  | succ k ih =>
   intro h1 h2
   rw [List.take_succ_eq_append_getElem (by omega), envV_snoc, lookV_snoc', List.length_take, Nat.min_eq_left (by omega)]
   by_cases e : k = n
   ·subst e; rw [if_pos rfl]
   ·rw [if_neg (fun hc => e (nameL_inj (by omega) (by omega) hc))]
    exact ih (by omega) (by omega)
 have := key vs.length hn (Nat.le_refl _)
 rwa [List.take_length] at this
theorem pt_WT {rg : List UInt8} : ∀ {vs : List Nat} {x : KE} {t : Nat}, KT vs x t → vs.length ≤ 100 → WT (envT vs) (x.pt rg) (tyZ t) := by
 intro vs x t h
 induction h with
 | num _ => intro _; exact .num
 | var h => intro hl; exact .name (look_envT _ _ _ h (by omega))
 | let_ _ hl _ _ ha hb => intro _; simp only [KE.pt]; exact .let_ (ha (by omega)) (by have := hb (by simp; omega); rw [envT_snoc] at this; simpa [bindN] using this)
 | if_ _ _ _ ha hb hc => intro hl; simp only [KE.pt]; exact .if_ (ha hl) (hb hl) (hc hl)
 | loop hl _ _ _ ha hb hc => intro _; simp only [KE.pt]; exact .loop (ha (by omega)) (hb (by omega)) (by have := hc (by simp; omega); rw [envT_snoc] at this; simpa [bindN] using this)
 | pair h0 ht _ _ ha hb =>
  intro hl
  simp only [KE.pt]
  have hs := tyZ_size ‹Nat›
  rw [tyZ_pair ht h0]
  exact .pair (ha hl) (hb hl) (by rw [← tyZ_pair ht h0]; have := tyZ_size ‹Nat›; omega)
 | fst h0 hp _ ha => intro hl; simp only [KE.pt]; have := ha hl; rw [tyZ_pair hp h0] at this; exact .fst this
 | snd h0 hp _ ha => intro hl; simp only [KE.pt]; have := ha hl; rw [tyZ_pair hp h0] at this; exact .snd this
 | two hk _ _ ha hb => intro hl; simp only [KE.pt]; exact .two hk (ha hl) (hb hl)
end Go.Proofs.YtpicaknklgccoabGreatDoor
namespace Go.Proofs.YtpicaknklgccoabGreatDoor
open Go.RowKit
open Go.Lib (decDigits)
theorem Tryz.undBytesZ : Tryz.prog.underlying 82 = some (.slice 5) := by kernel_rfl
theorem Tryz.undStrZ : Tryz.prog.underlying 9 = some .string := by kernel_rfl
theorem Tryz.undU8Z : Tryz.prog.underlying 5 = some (.int .u8) := by kernel_rfl
set_option maxRecDepth 100000 in
theorem kname_any (n : Nat) (hn : n ≤ 1000) (w : World) : Calls Tryz.prog 25 #[.int .i64 n] w fun e w' => e = .returned (.string (bs (nameL n))) ∧ Below w.heap.size w w' := by
 have hcv : (convert 82 9 (.slice (some ⟨w.heap.size, 0, none⟩) 3 3)).run Tryz.prog (w.alloc (.cells #[.int .u8 (97 + ((n / 26 % 26 : Nat) : Int)), .int .u8 (97 + ((n % 26 : Nat) : Int)), .int .u8 118] 5 (0, 0))) = .ok (.string (bs (nameL n))) (w.alloc (.cells #[.int .u8 (97 + ((n / 26 % 26 : Nat) : Int)), .int .u8 (97 + ((n % 26 : Nat) : Int)), .int .u8 118] 5 (0, 0))) := by
  refine Lib.run_convert_whole (P := Tryz.prog) _ _ _ _ Tryz.undBytesZ Tryz.undU8Z Tryz.undStrZ w.heap.size 0 (bs (nameL n)) ?_ 3
  intro i hi
  have hi3 : i < 3 := hi
  have e1 : (UInt8.ofNat (97 + n / 26 % 26)).toNat = 97 + n / 26 % 26 := ofNat_toNat8 _ (by omega)
  have e2 : (UInt8.ofNat (97 + n % 26)).toNat = 97 + n % 26 := ofNat_toNat8 _ (by omega)
  rw [blk_cell (blk_new w _)]
  match i, hi3 with
  | 0, _ =>
   show some (Value.int .u8 (97 + ((n / 26 % 26 : Nat) : Int))) = some (Value.int .u8 ((UInt8.ofNat (97 + n / 26 % 26)).toNat : Int))
   rw [e1]; rfl
  | 1, _ =>
   show some (Value.int .u8 (97 + ((n % 26 : Nat) : Int))) = some (Value.int .u8 ((UInt8.ofNat (97 + n % 26)).toNat : Int))
   rw [e2]; rfl
  | 2, _ => rfl
 obtain ⟨a, ha⟩ : ∃ a, a = n / 26 % 26 := ⟨_, rfl⟩
 obtain ⟨b, hb⟩ : ∃ b, b = n % 26 := ⟨_, rfl⟩
 have hal : a < 26 := by omega
 have hbl : b < 26 := by omega
 have e1 : (n : Int) / 26 % 26 = (a : Int) := by omega
 have e2 : (n : Int) % 26 = (b : Int) := by omega
 rw [← ha, ← hb] at hcv
 clear ha hb
 go_enter Tryz.func25, Tryz.ntmps25
 go_wp2
 go_ret
 exact ⟨rfl, below_alZ (Below.refl _ _) _⟩
def accZ (pre : List UInt8) (k : Kw) (nm : List UInt8) (ts : List (List UInt8)) (j : Nat) : List UInt8 := pre ++ joinT k nm 0 (ts.take j)
theorem accZ_succ (pre : List UInt8) (k : Kw) (nm : List UInt8) (ts : List (List UInt8)) (j : Nat) (x : List UInt8) (hx : ts[j]? = some x) : accZ pre k nm ts (j + 1) = accZ pre k nm ts j ++ pieceT k nm j x := by
 have hj : j < ts.length := by
  rcases Nat.lt_or_ge j ts.length with h | h
  ·exact h
  ·rw [List.getElem?_eq_none h] at hx; cases hx
 unfold accZ
 rw [List.take_add_one, hx, Option.toList_some, joinT_snoc, List.length_take, Nat.min_eq_left (by omega), Nat.zero_add, List.append_assoc]
theorem joinT_app (k : Kw) (nm : List UInt8) : ∀ (a b : List (List UInt8)) (i : Nat), joinT k nm i (a ++ b) = joinT k nm i a ++ joinT k nm (i + a.length) b
 | [], b, i => by simp [joinT]
 | x :: r, b, i => by
  simp only [List.cons_append, joinT, joinT_app k nm r b (i + 1), List.append_assoc, List.length_cons]
  rw [show i + 1 + r.length = i + (r.length + 1) by omega]
theorem accZ_le (pre : List UInt8) (k : Kw) (nm : List UInt8) (ts : List (List UInt8)) (j : Nat) : (accZ pre k nm ts j).length ≤ pre.length + (joinT k nm 0 ts).length := by
 unfold accZ
 have h : joinT k nm 0 ts = joinT k nm 0 (ts.take j) ++ joinT k nm (0 + (ts.take j).length) (ts.drop j) := by rw [← joinT_app, List.take_append_drop]
 rw [h]; simp
theorem joinT_mem (k : Kw) (nm : List UInt8) : ∀ (ts : List (List UInt8)) (i : Nat) (x : List UInt8), x ∈ ts → x.length + 1 ≤ (joinT k nm i ts).length
 | [], _, _, h => by simp at h
 | t :: r, i, x, h => by
  simp only [joinT, List.length_append]
  rcases List.mem_cons.1 h with h | h
  ·subst h; unfold pieceT; simp; try omega
  ·have := joinT_mem k nm r (i + 1) x h; omega
def KE.kids : KE → List KE
 | .num _ => []
 | .var _ => []
 | .n1 _ a => [a]
 | .n2 _ _ a b => [a, b]
 | .n3 _ _ a b c => [a, b, c]
def KText (rg : List UInt8) (x : KE) : Prop := ∀ (p : Nat) (w : World), KIn w x p → (x.pt rg).tidy.length ≤ 100000 → (∀ W, Below w.heap.size w W → ItoaOk W) →
 Calls Tryz.prog 11 #[.pointer (some ⟨p, 0, none⟩), .string (bs (regT rg))] w fun e w' => e = .returned (.string (bs (x.pt rg).tidy)) ∧ Below w.heap.size w w'
set_option maxRecDepth 100000 in
theorem text_num (rg : List UInt8) (n : Nat) (hn : n ≤ 9999) : KText rg (.num n) := by
 intro p w hx _ hit
 have hx' : w.heap[p]? = some (.cells (exV [] n (.slice none 0 0)) 59 (0, 0)) := hx
 have hp := blk_lt hx'
 have x0 : w.cell? ⟨p, 0, none⟩ = some (.string ⟨#[]⟩) := by rw [blk_cell hx']; rfl
 have x1 : w.cell? ⟨p, 1, none⟩ = some (.int .i64 n) := by rw [blk_cell hx']; rfl
 have hi := hit w (Below.refl _ _) n w hn (Below.refl _ _)
 have HI : Hid _ := hi
 simp only [KE.pt, PT.tidy]
 clear hx hx' hi hit
 go_enter Tryz.func11, Tryz.ntmps11
 go_wp2_with fail
 refine Calls.mono HI.out ?_
 rintro _ w2 ⟨rfl, hb⟩
 go_wp2
 go_ret
 exact ⟨rfl, hb⟩
set_option maxRecDepth 100000 in
theorem text_var (rg : List UInt8) (n : Nat) (hn : n ≤ 1000) : KText rg (.var n) := by
 intro p w hx _ _
 have hx' : w.heap[p]? = some (.cells (exV [120] n (.slice none 0 0)) 59 (0, 0)) := hx
 have hp := blk_lt hx'
 have x0 : w.cell? ⟨p, 0, none⟩ = some (.string ⟨#[120]⟩) := by rw [blk_cell hx']; rfl
 have x1 : w.cell? ⟨p, 1, none⟩ = some (.int .i64 n) := by rw [blk_cell hx']; rfl
 have HI : Hid _ := kname_any n hn w
 simp only [KE.pt, PT.tidy]
 clear hx hx'
 go_enter Tryz.func11, Tryz.ntmps11
 go_wp2_with fail
 refine Calls.mono HI.out ?_
 rintro _ w2 ⟨rfl, hb⟩
 go_wp2
 go_ret
 exact ⟨rfl, hb⟩
end Go.Proofs.YtpicaknklgccoabGreatDoor
