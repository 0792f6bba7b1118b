import Derived.Test.YtpicaknklgccoaaGreatDoorS28
set_option maxHeartbeats 4000000
set_option maxRecDepth 100000
namespace Go.Proofs.YtpicaknklgccoaaGreatDoor
open Go.RowKit
theorem IC {w0 : World} {yb : Nat} {rv : Value} {raw : List Int} {f : Nat} (ih : mL w0 yb rv raw f) (t : Nat) (s : lT) (nv : Value) (w : World) (ht : t < 5) (hf : s.left < f + 1) (hv : s.vars.length + s.left <= 100) (ha : s.at_ + 40 * s.left + 11 <= 100000) (h : eB w0 w yb rv raw s nv) (hl : s.left ≠ 0) (hk : (aV raw 9 { s with left := s.left - 1 }).1 = 4) :
  Calls Tryz.prog 48 #[.pointer (some ⟨yb, 0, none⟩), .int .i64 t] w fun e w' => ∃ p bw, e = .returned (.pointer (some ⟨p, 0, none⟩)) /\ cF w w' yb nv bw /\ eB w0 w' yb rv raw (aP raw (f + 1) t s).2 bw /\ eH w' (aP raw (f + 1) t s).1 p := by
 have nj := af h.ob.y
 have y2 : w.cell? ⟨yb, 2, none⟩ = some (.int .i64 s.left) := by rw [aa h.ob.y]; rfl
 have f2 : w.frozen? ⟨yb, 2, none⟩ = false := ag h.ob.y 2
 have yf : 0 < s.left := by omega
 have jV := dJ 9 (by omega) (by omega) (kR h hl) (by simp only; omega)
 have hst := bT raw 9 { s with left := s.left - 1 }
 have Uo := cL raw 9 { s with left := s.left - 1 } (by omega)
 generalize hR : aP raw (f + 1) t s = R
 simp only [aP] at hR
 rw [if_neg hl] at hR
 generalize aV raw 9 { s with left := s.left - 1 } = x at *
 obtain ⟨x1, x2, x3, x4⟩ := hst
 simp only at x1 x2 x3 x4
 skip
 have wX : Hid _ := cF.wR w yb nv 2 (.int .i64 ((s.left : Int) - 1))
 have o7 : Hid _ := jV
 clear jV h
 go_enter Tryz.func48, Tryz.ntmps48
 go_wp2_with fail
 refine Calls.mono o7.out ?_
 rintro _ w1 ⟨rfl, hf1, lQ⟩
 have dO : Hid _ := wX.out.trans hf1
 have pM : Hid _ := lQ
 clear o7 wX hf1 lQ y2 f2
 rw [if_neg (by omega), if_neg (by omega), if_neg (by omega), if_pos hk] at hR
 have hm := bT raw 4 x.2
 have rT := cL raw 4 x.2 (by omega)
 have oP := dJ 4 (by omega) (by omega) pM.out (by omega)
 generalize aV raw 4 x.2 = n at *
 obtain ⟨m1, m2, m3, m4⟩ := hm
 have hao := bU raw f t n.2 ht (by omega) (by rw [m2, x2]; omega)
 have hia := fun W hW => ih t n.2 nv W ht (by omega) (by rw [m2, x2]; omega) (by omega) hW
 generalize aP raw f t n.2 = a at *
 obtain ⟨a1, a2, a3, a4, a5, a6, a7, a8⟩ := hao
 have hWt := @uy t
 have EE := bU raw f t { a.2 with vars := a.2.vars ++ [t] } ht (by simp only; omega) (by simp only [List.length_append, List.length_singleton, a2, m2, x2]; omega)
 have hib := fun nv W hW => Ge (aP raw f) t t a.2 nv W (fun bw W' h' => ih t { a.2 with vars := a.2.vars ++ [t] } bw W' ht (by simp only; omega) (by simp only [List.length_append, List.length_singleton, a2, m2, x2]; omega) (by simp only; omega) h') EE.vars hW (by rw [a2, m2, x2]; omega)
 have Um := rS (v := t) EE
 generalize eT (aP raw f) t t a.2 = b at *
 obtain ⟨_, b2, _⟩ := Um
 have DI : Hid _ := oP
 have yX : Hid _ := hia
 have yY : Hid _ := hib
 have hbl : b.2.vars.length <= 100 := by rw [b2, a2, m2, x2]; omega
 have qk : ((x.1 : Int) == 0) = false := by rw [beq_eq_false_iff_ne]; omega
 have Wy : ((x.1 : Int) == 1) = false := by rw [beq_eq_false_iff_ne]; omega
 have Wz : ((x.1 : Int) == 2) = false := by rw [beq_eq_false_iff_ne]; omega
 have X7 : ((x.1 : Int) == 3) = false := by rw [beq_eq_false_iff_ne]; omega
 have ZY : ((x.1 : Int) == 4) = true := by rw [hk]; rfl
 clear oP hia hib ih EE
 go_wp2_with fail
 refine Calls.mono DI.out ?_
 rintro _ w2 ⟨rfl, hf2, hm2⟩
 have pO := aY (Below.refl _ w2) (.cells (tY [] n.1 (.slice none 0 0)) 98 (0, 0))
 have WA : Hid (eH (w2.alloc (.cells (tY [] n.1 (.slice none 0 0)) 98 (0, 0))) (.num n.1) w2.heap.size) := aj _ _
 have cj : Hid _ := (dO.out.trans hf2).trans (cF.below pO _ _)
 have qV : Hid _ := hm2.grow pO
 clear hf2 hm2 pO pM dO DI
 go_wp2_with fail
 refine Calls.mono (yX.out _ qV.out) ?_
 rintro _ w3 ⟨p3, AJ, rfl, hf3, yV, pL⟩
 have ZZ : Hid _ := eH.fr WA.out qV.out hf3
 have dC : Hid _ := cj.out.trans hf3
 have wV : Hid _ := yV
 have uw : Hid _ := pL
 clear hf3 yV pL qV cj
 go_wp2_with fail
 refine Calls.mono (yY.out AJ w3 wV.out) ?_
 rintro _ w4 ⟨p4, gy, rfl, cT, rT, uz⟩
 have EG : Hid _ := eH.fr uw.out wV.out cT
 have Z0 : Hid _ := eH.fr ZZ.out wV.out cT
 have js : Hid _ := dC.out.trans cT
 have qW : Hid _ := rT
 have Bc : Hid _ := uz
 clear cT rT uz wV dC
 obtain ⟨na, nc, EH, _, _⟩ := qW.out.ob.shape
 rw [eY] at EH
 have y3 : w4.cell? ⟨yb, 3, none⟩ = some (.slice na b.2.vars.length nc) := by rw [aa qW.out.ob.y, <- EH]; rfl
 have ZW := af qW.out.ob.y
 have HR : Hid _ := hR
 have h2 := yZ w4 .loop b.2.vars.length w2.heap.size p3 p4 Z0.out EG.out Bc.out
 have H2 : Hid _ := h2
 clear hR h2 EH b2 yX yY WA
 go_wp2
 go_ret
 rw [<- HR.out]
 exact ⟨_, gy, rfl, js.out.trans (cF.below H2.out.1 _ _), qW.out.grow H2.out.1, H2.out.2⟩
theorem ID {w0 : World} {yb : Nat} {rv : Value} {raw : List Int} {f : Nat} (ih : mL w0 yb rv raw f) (t : Nat) (s : lT) (nv : Value) (w : World) (ht : t < 5) (hf : s.left < f + 1) (hv : s.vars.length + s.left <= 100) (ha : s.at_ + 40 * s.left + 11 <= 100000) (h : eB w0 w yb rv raw s nv) (hl : s.left ≠ 0) (hk : 4 < (aV raw 9 { s with left := s.left - 1 }).1 /\ (aV raw 9 { s with left := s.left - 1 }).1 < 8) (h0 : t ≠ 0) :
  Calls Tryz.prog 48 #[.pointer (some ⟨yb, 0, none⟩), .int .i64 t] w fun e w' => ∃ p bw, e = .returned (.pointer (some ⟨p, 0, none⟩)) /\ cF w w' yb nv bw /\ eB w0 w' yb rv raw (aP raw (f + 1) t s).2 bw /\ eH w' (aP raw (f + 1) t s).1 p := by
 have nj := af h.ob.y
 have y2 : w.cell? ⟨yb, 2, none⟩ = some (.int .i64 s.left) := by rw [aa h.ob.y]; rfl
 have f2 : w.frozen? ⟨yb, 2, none⟩ = false := ag h.ob.y 2
 have yf : 0 < s.left := by omega
 have jV := dJ 9 (by omega) (by omega) (kR h hl) (by simp only; omega)
 have hst := bT raw 9 { s with left := s.left - 1 }
 have Uo := cL raw 9 { s with left := s.left - 1 } (by omega)
 generalize hR : aP raw (f + 1) t s = R
 simp only [aP] at hR
 rw [if_neg hl] at hR
 generalize aV raw 9 { s with left := s.left - 1 } = x at *
 obtain ⟨x1, x2, x3, x4⟩ := hst
 simp only at x1 x2 x3 x4
 skip
 have wX : Hid _ := cF.wR w yb nv 2 (.int .i64 ((s.left : Int) - 1))
 have o7 : Hid _ := jV
 clear jV h
 go_enter Tryz.func48, Tryz.ntmps48
 go_wp2_with fail
 refine Calls.mono o7.out ?_
 rintro _ w1 ⟨rfl, hf1, lQ⟩
 have dO : Hid _ := wX.out.trans hf1
 have pM : Hid _ := lQ
 clear o7 wX hf1 lQ y2 f2
 rw [if_neg (by omega), if_neg (by omega), if_neg (by omega), if_neg (by omega), if_pos hk.2, if_neg h0] at hR
 have hp := wQ ht h0
 have hfi : fI t = ((fT t : Nat) : Int) := by unfold fI; rw [if_neg h0]
 have hsi : sI t = ((sT t : Nat) : Int) := by unfold sI; rw [if_neg h0]
 have hfs := mK t ht
 have yj := lB t ht
 rw [hfi] at hfs
 rw [hsi] at yj
 have JD : Hid _ := hfs
 have Ni : Hid _ := yj
 have hao := bU raw f (fT t) x.2 hp.2.2.2.2.1 (by omega) (by rw [x2]; omega)
 have hia := fun W hW => ih (fT t) x.2 nv W hp.2.2.2.2.1 (by omega) (by rw [x2]; omega) (by omega) hW
 have hWf := @uy (fT t)
 generalize aP raw f (fT t) x.2 = a at *
 obtain ⟨a1, a2, a3, a4, a5, a6, a7, a8⟩ := hao
 have hib := fun nv W hW => ih (sT t) a.2 nv W hp.2.2.2.2.2 (by omega) (by rw [a2, x2]; omega) (by omega) hW
 generalize aP raw f (sT t) a.2 = b at *
 have yX : Hid _ := hia
 have yY : Hid _ := hib
 have q0 : ((t : Int) == 0) = false := by rw [beq_eq_false_iff_ne]; omega
 have Z1 : ((x.1 : Int) == 0) = false := by rw [beq_eq_false_iff_ne]; omega
 have Wy : ((x.1 : Int) == 1) = false := by rw [beq_eq_false_iff_ne]; omega
 have Wz : ((x.1 : Int) == 2) = false := by rw [beq_eq_false_iff_ne]; omega
 have X7 : ((x.1 : Int) == 3) = false := by rw [beq_eq_false_iff_ne]; omega
 have ZY : ((x.1 : Int) == 4) = false := by rw [beq_eq_false_iff_ne]; omega
 clear hia hib ih hfi hsi hfs yj hp
 go_wp2_with fail
 refine Calls.mono (JD.out _) ?_
 rintro _ w2 ⟨rfl, hb2⟩
 have cj : Hid _ := dO.out.trans (cF.below hb2 _ _)
 have qV : Hid _ := pM.out.grow hb2
 clear hb2 dO pM
 go_wp2_with fail
 refine Calls.mono (yX.out w2 qV.out) ?_
 rintro _ w3 ⟨p3, AJ, rfl, hf3, yV, pL⟩
 have dC : Hid _ := cj.out.trans hf3
 have wV : Hid _ := yV
 have uw : Hid _ := pL
 clear hf3 yV pL qV cj
 go_wp2_with fail
 refine Calls.mono (Ni.out _) ?_
 rintro _ w4 ⟨rfl, hb4⟩
 have js : Hid _ := dC.out.trans (cF.below hb4 _ _)
 have qW : Hid _ := wV.out.grow hb4
 have Bc : Hid _ := uw.out.below hb4
 clear hb4 dC wV uw
 go_wp2_with fail
 refine Calls.mono (yY.out AJ w4 qW.out) ?_
 rintro _ w5 ⟨p5, Er, rfl, ew, Bb, Lr⟩
 have SI : Hid _ := eH.fr Bc.out qW.out ew
 have fJ : Hid _ := js.out.trans ew
 have Ls : Hid _ := Bb
 have Lt : Hid _ := Lr
 clear ew Bb Lr qW js
 have HR : Hid _ := hR
 have h2 := l7 w5 .pair 0 p3 p5 SI.out Lt.out
 have H2 : Hid _ := h2
 clear hR h2 yX yY JD Ni
 go_wp2
 go_ret
 rw [<- HR.out]
 exact ⟨_, Er, rfl, fJ.out.trans (cF.below H2.out.1 _ _), Ls.out.grow H2.out.1, H2.out.2⟩
theorem IE {w0 : World} {yb : Nat} {rv : Value} {raw : List Int} {f : Nat} (ih : mL w0 yb rv raw f) (t : Nat) (s : lT) (nv : Value) (w : World) (ht : t < 5) (hf : s.left < f + 1) (hv : s.vars.length + s.left <= 100) (ha : s.at_ + 40 * s.left + 11 <= 100000) (h : eB w0 w yb rv raw s nv) (hl : s.left ≠ 0) (hk : 8 <= (aV raw 9 { s with left := s.left - 1 }).1) :
  Calls Tryz.prog 48 #[.pointer (some ⟨yb, 0, none⟩), .int .i64 t] w fun e w' => ∃ p bw, e = .returned (.pointer (some ⟨p, 0, none⟩)) /\ cF w w' yb nv bw /\ eB w0 w' yb rv raw (aP raw (f + 1) t s).2 bw /\ eH w' (aP raw (f + 1) t s).1 p := by
 have nj := af h.ob.y
 have y2 : w.cell? ⟨yb, 2, none⟩ = some (.int .i64 s.left) := by rw [aa h.ob.y]; rfl
 have f2 : w.frozen? ⟨yb, 2, none⟩ = false := ag h.ob.y 2
 have yf : 0 < s.left := by omega
 have jV := dJ 9 (by omega) (by omega) (kR h hl) (by simp only; omega)
 have hst := bT raw 9 { s with left := s.left - 1 }
 have Uo := cL raw 9 { s with left := s.left - 1 } (by omega)
 generalize hR : aP raw (f + 1) t s = R
 simp only [aP] at hR
 rw [if_neg hl] at hR
 generalize aV raw 9 { s with left := s.left - 1 } = x at *
 obtain ⟨x1, x2, x3, x4⟩ := hst
 simp only at x1 x2 x3 x4
 skip
 have wX : Hid _ := cF.wR w yb nv 2 (.int .i64 ((s.left : Int) - 1))
 have o7 : Hid _ := jV
 clear jV h
 go_enter Tryz.func48, Tryz.ntmps48
 go_wp2_with fail
 refine Calls.mono o7.out ?_
 rintro _ w1 ⟨rfl, hf1, lQ⟩
 have dO : Hid _ := wX.out.trans hf1
 have pM : Hid _ := lQ
 clear o7 wX hf1 lQ y2 f2
 rw [if_neg (by omega), if_neg (by omega), if_neg (by omega), if_neg (by omega), if_neg (by omega)] at hR
 have hlf := wU 3 t x.2 nv w1 ht (by unfold dep; split <;> (try split) <;> omega) pM.out (by rw [x2]; omega) (by have := @uy t; omega)
 rw [hR] at hlf
 have SJ : Hid _ := hlf
 have Z1 : ((x.1 : Int) == 0) = false := by rw [beq_eq_false_iff_ne]; omega
 have Wy : ((x.1 : Int) == 1) = false := by rw [beq_eq_false_iff_ne]; omega
 have Wz : ((x.1 : Int) == 2) = false := by rw [beq_eq_false_iff_ne]; omega
 have X7 : ((x.1 : Int) == 3) = false := by rw [beq_eq_false_iff_ne]; omega
 have ZY : ((x.1 : Int) == 4) = false := by rw [beq_eq_false_iff_ne]; omega
 have hff := hf
 have Z2 := ih
 clear hlf pM ih Z2 hff
 go_wp2_with fail
 refine Calls.mono SJ.out ?_
 rintro _ w2 ⟨p, rfl, hf2, hm2, hk2⟩
 have cj : Hid _ := dO.out.trans hf2
 have qV : Hid _ := hm2
 have nk : Hid _ := hk2
 clear hf2 hm2 hk2 dO SJ
 go_wp2
 go_ret
 exact ⟨p, nv, rfl, cj.out, qV.out, nk.out⟩
def om (raw : List Int) (f t : Nat) (s : lT) : KE × lT :=
 match iA t (aV raw 4 s).1 0 10 with
 | some q => (.n1 q.1 (aP raw f q.2 (aV raw 4 s).2).1, (aP raw f q.2 (aV raw 4 s).2).2)
 | none => dB raw 3 t (aV raw 4 s).2
theorem EI (t k i n : Nat) : iA t k i (n + 1) = if (i + k) / 5 % 2 = 1 then (if sI ((i + k) % 5) = t then some (.snd, (i + k) % 5) else iA t k (i + 1) n) else (if fI ((i + k) % 5) = t then some (.fst, (i + k) % 5) else iA t k (i + 1) n) := rfl
theorem CF (w : World) (k : Kw) (pa : Nat) {a : KE} (ha : eH w a pa) :
  Below w.heap.size w ((w.alloc (.cells #[.pointer (some ⟨pa, 0, none⟩)] 43 (0, 0))).alloc (.cells (tY k.bytes 0 (.slice (some ⟨w.heap.size, 0, none⟩) 1 1)) 98 (0, 0))) /\
  eH ((w.alloc (.cells #[.pointer (some ⟨pa, 0, none⟩)] 43 (0, 0))).alloc (.cells (tY k.bytes 0 (.slice (some ⟨w.heap.size, 0, none⟩) 1 1)) 98 (0, 0))) (.n1 k a) (w.heap.size + 1) := by
 have h1 := aY (Below.refl _ w) (.cells #[.pointer (some ⟨pa, 0, none⟩)] 43 (0, 0))
 have h2 := aY h1 (.cells (tY k.bytes 0 (.slice (some ⟨w.heap.size, 0, none⟩) 1 1)) 98 (0, 0))
 refine ⟨h2, w.heap.size, pa, ?_, ?_, ha.below h2⟩
 ·have := aj (w.alloc (.cells #[.pointer (some ⟨pa, 0, none⟩)] 43 (0, 0))) (.cells (tY k.bytes 0 (.slice (some ⟨w.heap.size, 0, none⟩) 1 1)) 98 (0, 0))
  simpa using this
 ·rw [Below.heap_alloc _ _ _ (by simp)]; exact aj _ _
theorem Lx {w0 : World} {yb : Nat} {rv : Value} {raw : List Int} {f : Nat} (ih : mL w0 yb rv raw f) (t : Nat) (s : lT) (nv : Value) (w : World) (ht : t < 5) (hf : s.left < f) (hv : s.vars.length + s.left <= 100) (ha : s.at_ + 40 * s.left + 12 <= 100000) (h : eB w0 w yb rv raw s nv) :
  Calls Tryz.prog 81 #[.pointer (some ⟨yb, 0, none⟩), .int .i64 t] w fun e w' => ∃ p bw, e = .returned (.pointer (some ⟨p, 0, none⟩)) /\ cF w w' yb nv bw /\ eB w0 w' yb rv raw (om raw f t s).2 bw /\ eH w' (om raw f t s).1 p := by
 have jV := dJ 4 (by omega) (by omega) h (by omega)
 have hst := bT raw 4 s
 have uz := cL raw 4 s (by omega)
 have hS : ∀ q, iA t (aV raw 4 s).1 0 10 = some q -> om raw f t s = (.n1 q.1 (aP raw f q.2 (aV raw 4 s).2).1, (aP raw f q.2 (aV raw 4 s).2).2) := fun q hq => by unfold om; rw [hq]
 have hN : iA t (aV raw 4 s).1 0 10 = none -> om raw f t s = dB raw 3 t (aV raw 4 s).2 := fun hq => by unfold om; rw [hq]
 have htg := fun q => CA t ht (aV raw 4 s).1 uz q
 generalize om raw f t s = R at *
 generalize aV raw 4 s = x at *
 obtain ⟨x1, x2, x3, x4⟩ := hst
 have HS : Hid _ := hS
 have HN : Hid _ := hN
 have HTG : Hid _ := htg
 have o7 : Hid _ := jV
 have SJ : Hid _ := fun W (hW : eB w0 W yb rv raw x.2 nv) => wU 3 t x.2 nv W ht (by unfold dep; split <;> (try split) <;> omega) hW (by rw [x2]; omega) (by have := @uy t; omega)
 have HIH : Hid _ := fun (p : Nat) (hp : p < 5) W hW => ih p x.2 nv W hp (by omega) (by rw [x2]; omega) (by omega) hW
 clear hS hN htg jV h ih
 obtain ⟨k, s1⟩ := x
 simp only at *
 go_enter Tryz.func81, Tryz.ntmps81
 go_wp2_with fail
 refine Calls.mono o7.out ?_
 rintro _ w1 ⟨rfl, hf1, lQ⟩
 have dO : Hid _ := hf1
 have pM : Hid _ := lQ
 clear hf1 lQ o7
 go_wp2_with fail
 go_loopw [6] (fun i wr => ∃ j : Nat, j <= 10 /\ i = .int .i64 j /\ iA t k 0 10 = iA t k j (10 - j) /\ Below w1.heap.size w1 wr) (fun i _ => 10 - (intOf i).toNat)
 case atStart => exact ⟨0, by omega, rfl, rfl, Below.refl _ _⟩
 case round =>
  obtain ⟨j, hj, rfl, htk, hbel⟩ := hrel
  have hsz := hbel.size
  have HB : Hid _ := hbel
  by_cases hlt : j < 10
  ·obtain ⟨n, hn⟩ : ∃ n, 10 - j = n + 1 := ⟨9 - j, by omega⟩
   have hn9 : n = 10 - (j + 1) := by omega
   rw [hn] at htk
   replace htk := htk.trans (EI t k j n)
   rw [hn9] at htk
   have WC : (j + k) % 5 < 5 := Nat.mod_lt _ (by omega)
   have JD : Hid _ := mK ((j + k) % 5) WC
   have Ni : Hid _ := lB ((j + k) % 5) WC
   have e1 : ((j : Int) + (k : Int)) % 5 = (((j + k) % 5 : Nat) : Int) := by omega
   have iH : Hid _ := htk
   clear htk hbel hn hn9
   obtain ⟨p, hp⟩ : ∃ p, p = (j + k) % 5 := ⟨_, rfl⟩
   rw [<- hp] at e1 iH JD Ni WC
   by_cases X8 : (j + k) / 5 % 2 = 1
   ·have e2 : ((j : Int) + (k : Int)) / 5 % 2 = 1 := by omega
    have rU : Hid (iA t k 0 10 = if sI p = t then some (.snd, p) else iA t k (j + 1) (10 - (j + 1))) := by have := iH.out; rw [if_pos X8] at this; exact this
    clear iH hp X8
    go_wp2_with fail
    refine Calls.mono (JD.out _) ?_
    rintro _ w2 ⟨rfl, hb2⟩
    have dN : Hid _ := HB.out.trans (hb2.mono hsz)
    have Eu := dN.out.size
    clear hb2 JD
    go_wp2_with fail
    refine Calls.mono (Ni.out _) ?_
    rintro _ w3 ⟨rfl, hb3⟩
    have iI : Hid _ := dN.out.trans (hb3.mono Eu)
    clear hb3 Ni
    by_cases hh : sI p = t
    ·have qh : (sI p == (t : Int)) = true := by rw [hh]; simp
     have hq : iA t k 0 10 = some (.snd, p) := by rw [rU.out, if_pos hh]
     have HR : Hid _ := HS.out _ hq
     have QI : Hid _ := pM.out.grow iI.out
     clear hh hq rU
     go_wp2_with fail
     refine Calls.mono (HIH.out p WC w3 QI.out) ?_
     rintro _ w4 ⟨pa, gy, rfl, cT, rT, uz⟩
     have js : Hid _ := (dO.out.trans (cF.below iI.out _ _)).trans cT
     have qW : Hid _ := rT
     have H2 : Hid _ := CF w4 .snd pa uz
     clear cT rT uz
     go_wp2
     go_ret
     rw [HR.out]
     exact ⟨_, gy, rfl, js.out.trans (cF.below H2.out.1 _ _), qW.out.grow H2.out.1, H2.out.2⟩
    ·have qh : (sI p == (t : Int)) = false := by rw [beq_eq_false_iff_ne]; exact hh
     have HQ : Hid _ := rU.out.trans (if_neg hh)
     clear hh rU
     go_wp2
     go_roundw
     case rel => exact ⟨j + 1, by omega, by go_num, HQ.out, iI.out⟩
     case measure => simp [intOf]; omega
   ·have e2 : ((j : Int) + (k : Int)) / 5 % 2 = 0 := by omega
    have rU : Hid (iA t k 0 10 = if fI p = t then some (.fst, p) else iA t k (j + 1) (10 - (j + 1))) := by have := iH.out; rw [if_neg X8] at this; exact this
    clear iH hp X8
    go_wp2_with fail
    refine Calls.mono (JD.out _) ?_
    rintro _ w2 ⟨rfl, hb2⟩
    have iI : Hid _ := HB.out.trans (hb2.mono hsz)
    clear hb2 JD
    by_cases hh : fI p = t
    ·have qh : (fI p == (t : Int)) = true := by rw [hh]; simp
     have hq : iA t k 0 10 = some (.fst, p) := by rw [rU.out, if_pos hh]
     have HR : Hid _ := HS.out _ hq
     have QI : Hid _ := pM.out.grow iI.out
     clear hh hq rU
     go_wp2_with fail
     refine Calls.mono (HIH.out p WC w2 QI.out) ?_
     rintro _ w4 ⟨pa, gy, rfl, cT, rT, uz⟩
     have js : Hid _ := (dO.out.trans (cF.below iI.out _ _)).trans cT
     have qW : Hid _ := rT
     have H2 : Hid _ := CF w4 .fst pa uz
     clear cT rT uz
     go_wp2
     go_ret
     rw [HR.out]
     exact ⟨_, gy, rfl, js.out.trans (cF.below H2.out.1 _ _), qW.out.grow H2.out.1, H2.out.2⟩
    ·have qh : (fI p == (t : Int)) = false := by rw [beq_eq_false_iff_ne]; exact hh
     have HQ : Hid _ := rU.out.trans (if_neg hh)
     clear hh rU
     go_wp2
     go_roundw
     case rel => exact ⟨j + 1, by omega, by go_num, HQ.out, iI.out⟩
     case measure => simp [intOf]; omega
  ·have Du : j = 10 := by omega
   subst Du
   have HR : Hid _ := HN.out htk
   have QI : Hid _ := pM.out.grow HB.out
   clear htk hbel
   go_wp2_with fail
   refine Calls.mono (SJ.out _ QI.out) ?_
   rintro _ w2 ⟨p, rfl, hf2, hm2, hk2⟩
   have cj : Hid _ := (dO.out.trans (cF.below HB.out _ _)).trans hf2
   have qV : Hid _ := hm2
   have nk : Hid _ := hk2
   clear hf2 hm2 hk2
   go_wp2
   go_ret
   rw [HR.out]
   exact ⟨p, nv, rfl, cj.out, qV.out, nk.out⟩
theorem Tryz.IG : (Tryz.prog.info? 139).map (·.size) = some 3 := by kernel_rfl
theorem O9 {w0 : World} {yb : Nat} {rv : Value} {raw : List Int} {f : Nat} (ih : mL w0 yb rv raw f) (t : Nat) (s : lT) (nv : Value) (w : World) (ht : t < 5) (hf : s.left < f + 1) (hv : s.vars.length + s.left <= 100) (ha : s.at_ + 40 * s.left + 11 <= 100000) (h : eB w0 w yb rv raw s nv) (hl : s.left ≠ 0) (hk : 4 < (aV raw 9 { s with left := s.left - 1 }).1 /\ (aV raw 9 { s with left := s.left - 1 }).1 < 8) (h0 : t = 0) :
  Calls Tryz.prog 48 #[.pointer (some ⟨yb, 0, none⟩), .int .i64 t] w fun e w' => ∃ p bw, e = .returned (.pointer (some ⟨p, 0, none⟩)) /\ cF w w' yb nv bw /\ eB w0 w' yb rv raw (aP raw (f + 1) t s).2 bw /\ eH w' (aP raw (f + 1) t s).1 p := by
 have nj := af h.ob.y
 have y2 : w.cell? ⟨yb, 2, none⟩ = some (.int .i64 s.left) := by rw [aa h.ob.y]; rfl
 have f2 : w.frozen? ⟨yb, 2, none⟩ = false := ag h.ob.y 2
 have yf : 0 < s.left := by omega
 have jV := dJ 9 (by omega) (by omega) (kR h hl) (by simp only; omega)
 have hst := bT raw 9 { s with left := s.left - 1 }
 have Uo := cL raw 9 { s with left := s.left - 1 } (by omega)
 generalize hR : aP raw (f + 1) t s = R
 simp only [aP] at hR
 rw [if_neg hl] at hR
 generalize aV raw 9 { s with left := s.left - 1 } = x at *
 obtain ⟨x1, x2, x3, x4⟩ := hst
 simp only at x1 x2 x3 x4
 skip
 have wX : Hid _ := cF.wR w yb nv 2 (.int .i64 ((s.left : Int) - 1))
 have o7 : Hid _ := jV
 clear jV h
 go_enter Tryz.func48, Tryz.ntmps48
 go_wp2_with fail
 refine Calls.mono o7.out ?_
 rintro _ w1 ⟨rfl, hf1, lQ⟩
 have dO : Hid _ := wX.out.trans hf1
 have pM : Hid _ := lQ
 clear o7 wX hf1 lQ y2 f2
 rw [if_neg (by omega), if_neg (by omega), if_neg (by omega), if_neg (by omega), if_pos hk.2, if_pos h0] at hR
 subst h0
 have hm := bT raw 3 x.2
 have NK := cL raw 3 x.2 (by omega)
 have oP := fun W hW => dJ (w := W) 3 (by omega) (by omega) (pM.out.grow hW) (by omega)
 generalize aV raw 3 x.2 = o at *
 obtain ⟨m1, m2, m3, m4⟩ := hm
 have hao := bU raw f 0 o.2 (by omega) (by omega) (by rw [m2, x2]; omega)
 have hia := fun W hW => ih 0 o.2 nv W (by omega) (by omega) (by rw [m2, x2]; omega) (by omega) hW
 have FF := @uy 0
 generalize aP raw f 0 o.2 = a at *
 obtain ⟨a1, a2, a3, a4, a5, a6, a7, a8⟩ := hao
 have hib := fun nv W hW => ih 0 a.2 nv W (by omega) (by omega) (by rw [a2, m2, x2]; omega) (by omega) hW
 generalize aP raw f 0 a.2 = b at *
 have DI : Hid _ := oP
 have yX : Hid _ := hia
 have yY : Hid _ := hib
 have HR : Hid _ := hR
 have Z1 : ((x.1 : Int) == 0) = false := by rw [beq_eq_false_iff_ne]; omega
 have Wy : ((x.1 : Int) == 1) = false := by rw [beq_eq_false_iff_ne]; omega
 have Wz : ((x.1 : Int) == 2) = false := by rw [beq_eq_false_iff_ne]; omega
 have X7 : ((x.1 : Int) == 3) = false := by rw [beq_eq_false_iff_ne]; omega
 have ZY : ((x.1 : Int) == 4) = false := by rw [beq_eq_false_iff_ne]; omega
 clear oP hia hib ih hR
 go_wp2_with (refine jb rfl 139 (.tmp 15) (.tmp 119) rfl w1.heap.size #[.string ⟨#[97, 100, 100]⟩, .string ⟨#[115, 117, 98]⟩, .string ⟨#[108, 101, 115, 115]⟩] rfl rfl 139 _ (aj _ _) Tryz.IG rfl (by simp [Value.oneCell']) ?_; intro W hW lh mg hW1 hW2 hW3)
 have hbW : Below w1.heap.size w1 W := eX (Below.alloc (Below.refl _ w1) (Nat.le_refl _) _) (Nat.le_refl _) lh mg hW1 hW2 hW3
 have QI : Hid _ := pM.out.grow hbW
 have HFW : Hid _ := dO.out.trans (cF.below hbW _ _)
 have xK : Hid _ := hbW
 have HQ : Hid _ := hW
 clear lh mg hW1 hW2 hW3 hbW hW pM dO
 refine Calls.mono (DI.out W xK.out) ?_
 rintro _ w2 ⟨rfl, hf2, hm2⟩
 have M6 := QI.out.ob.other hf2 (by decide) (by decide) HQ.out
 have hqc : w2.cell? ⟨w1.heap.size, o.1, none⟩ = some (.string (bs (O3 o.1).bytes)) := by
  rw [aa M6]
  have h3 : o.1 = 0 \/ o.1 = 1 \/ o.1 = 2 := by omega
  rcases h3 with h | h | h <;> rw [h] <;> rfl
 have TM : w1.heap.size < w2.heap.size := af M6
 have cj : Hid _ := HFW.out.trans hf2
 have qV : Hid _ := hm2
 clear hf2 hm2 QI HFW xK HQ DI M6
 generalize w1.heap.size = q at *
 go_wp2_with fail
 refine Calls.mono (yX.out w2 qV.out) ?_
 rintro _ w3 ⟨p3, AJ, rfl, hf3, yV, pL⟩
 have dC : Hid _ := cj.out.trans hf3
 have wV : Hid _ := yV
 have uw : Hid _ := pL
 clear hf3 yV pL qV cj
 go_wp2_with fail
 refine Calls.mono (yY.out AJ w3 wV.out) ?_
 rintro _ w4 ⟨p4, gy, rfl, cT, rT, uz⟩
 have EG : Hid _ := eH.fr uw.out wV.out cT
 have js : Hid _ := dC.out.trans cT
 have qW : Hid _ := rT
 have Bc : Hid _ := uz
 clear cT rT uz wV dC
 have h2 := l7 w4 (O3 o.1) 0 p3 p4 EG.out Bc.out
 have H2 : Hid _ := h2
 clear h2 yX yY
 go_wp2
 go_ret
 rw [<- HR.out]
 exact ⟨_, gy, rfl, js.out.trans (cF.below H2.out.1 _ _), qW.out.grow H2.out.1, H2.out.2⟩
theorem EJ {w0 : World} {yb : Nat} {rv : Value} {raw : List Int} {f : Nat} (ih : mL w0 yb rv raw f) (t : Nat) (s : lT) (nv : Value) (w : World) (ht : t < 5) (hf : s.left < f + 1) (hv : s.vars.length + s.left <= 100) (ha : s.at_ + 40 * s.left + 11 <= 100000) (h : eB w0 w yb rv raw s nv) (hl : s.left ≠ 0) (hk : (aV raw 9 { s with left := s.left - 1 }).1 = 2 \/ (aV raw 9 { s with left := s.left - 1 }).1 = 3) :
  Calls Tryz.prog 48 #[.pointer (some ⟨yb, 0, none⟩), .int .i64 t] w fun e w' => ∃ p bw, e = .returned (.pointer (some ⟨p, 0, none⟩)) /\ cF w w' yb nv bw /\ eB w0 w' yb rv raw (aP raw (f + 1) t s).2 bw /\ eH w' (aP raw (f + 1) t s).1 p := by
 have nj := af h.ob.y
 have y2 : w.cell? ⟨yb, 2, none⟩ = some (.int .i64 s.left) := by rw [aa h.ob.y]; rfl
 have f2 : w.frozen? ⟨yb, 2, none⟩ = false := ag h.ob.y 2
 have yf : 0 < s.left := by omega
 have jV := dJ 9 (by omega) (by omega) (kR h hl) (by simp only; omega)
 have hst := bT raw 9 { s with left := s.left - 1 }
 have Uo := cL raw 9 { s with left := s.left - 1 } (by omega)
 generalize hR : aP raw (f + 1) t s = R
 simp only [aP] at hR
 rw [if_neg hl] at hR
 generalize aV raw 9 { s with left := s.left - 1 } = x at *
 obtain ⟨x1, x2, x3, x4⟩ := hst
 simp only at x1 x2 x3 x4
 skip
 have wX : Hid _ := cF.wR w yb nv 2 (.int .i64 ((s.left : Int) - 1))
 have o7 : Hid _ := jV
 clear jV h
 go_enter Tryz.func48, Tryz.ntmps48
 go_wp2_with fail
 refine Calls.mono o7.out ?_
 rintro _ w1 ⟨rfl, hf1, lQ⟩
 have dO : Hid _ := wX.out.trans hf1
 have pM : Hid _ := lQ
 clear o7 wX hf1 lQ y2 f2
 rw [if_neg (by omega), if_neg (by omega), if_pos hk] at hR
 have htk := Lx ih t x.2 nv w1 ht (by omega) (by rw [x2]; omega) (by omega) pM.out
 have iH : Hid _ := htk
 have HR : Hid (om raw f t x.2 = R) := by rw [<- hR]; rfl
 have Z1 : ((x.1 : Int) == 0) = false := by rw [beq_eq_false_iff_ne]; omega
 have Wy : ((x.1 : Int) == 1) = false := by rw [beq_eq_false_iff_ne]; omega
 clear htk hR ih pM
 have h23 : x.1 = 2 \/ x.1 = 3 := hk
 rcases h23 with h2 | h3
 ·have Wz : ((x.1 : Int) == 2) = true := by rw [h2]; rfl
  clear hk h2
  go_wp2_with fail
  refine Calls.mono iH.out ?_
  rintro _ w2 ⟨p, cq, rfl, hf2, hm2, hk2⟩
  have cj : Hid _ := dO.out.trans hf2
  have qV : Hid _ := hm2
  have nk : Hid _ := hk2
  clear hf2 hm2 hk2 iH
  go_wp2
  go_ret
  rw [<- HR.out]
  exact ⟨p, cq, rfl, cj.out, qV.out, nk.out⟩
 ·have Wz : ((x.1 : Int) == 2) = false := by rw [h3]; rfl
  have X7 : ((x.1 : Int) == 3) = true := by rw [h3]; rfl
  clear hk h3
  go_wp2_with fail
  refine Calls.mono iH.out ?_
  rintro _ w2 ⟨p, cq, rfl, hf2, hm2, hk2⟩
  have cj : Hid _ := dO.out.trans hf2
  have qV : Hid _ := hm2
  have nk : Hid _ := hk2
  clear hf2 hm2 hk2 iH
  go_wp2
  go_ret
  rw [<- HR.out]
  exact ⟨p, cq, rfl, cj.out, qV.out, nk.out⟩
theorem II {w0 : World} {yb : Nat} {rv : Value} {raw : List Int} {f : Nat} (t : Nat) (s : lT) (nv : Value) (w : World) (ht : t < 5) (hv : s.vars.length + s.left <= 100) (ha : s.at_ + 40 * s.left + 11 <= 100000) (h : eB w0 w yb rv raw s nv) (hl : s.left = 0) :
  Calls Tryz.prog 48 #[.pointer (some ⟨yb, 0, none⟩), .int .i64 t] w fun e w' => ∃ p bw, e = .returned (.pointer (some ⟨p, 0, none⟩)) /\ cF w w' yb nv bw /\ eB w0 w' yb rv raw (aP raw (f + 1) t s).2 bw /\ eH w' (aP raw (f + 1) t s).1 p := by
 have nj := af h.ob.y
 have y2 : w.cell? ⟨yb, 2, none⟩ = some (.int .i64 0) := by rw [aa h.ob.y, <- Int.natCast_zero, <- hl]; rfl
 have hR : aP raw (f + 1) t s = dB raw 3 t s := by simp only [aP]; rw [if_pos hl]
 rw [hR]
 have SJ : Hid _ := wU 3 t s nv w ht (by unfold dep; split <;> (try split) <;> omega) h (by omega) (by have := @uy t; omega)
 clear h hR
 go_enter Tryz.func48, Tryz.ntmps48
 go_wp2_with fail
 refine Calls.mono SJ.out ?_
 rintro _ w2 ⟨p, rfl, hf2, hm2, hk2⟩
 have cj : Hid _ := hf2
 have qV : Hid _ := hm2
 have nk : Hid _ := hk2
 clear hf2 hm2 hk2 SJ
 go_wp2
 go_ret
 exact ⟨p, nv, rfl, cj.out, qV.out, nk.out⟩
theorem CG {w0 : World} {yb : Nat} {rv : Value} {raw : List Int} : ∀ f, mL w0 yb rv raw f
 | 0 => fun _ _ _ _ _ h => absurd h (by omega)
 | f + 1 => fun t s nv w ht hf hv ha h => by
  by_cases hl : s.left = 0
  ·exact II t s nv w ht hv ha h hl
  ·have ih := CG (w0 := w0) (yb := yb) (rv := rv) (raw := raw) f
   have h9 := cL raw 9 { s with left := s.left - 1 } (by omega)
   by_cases h0 : (aV raw 9 { s with left := s.left - 1 }).1 = 0
   ·exact Lw ih t s nv w ht hf hv ha h hl h0
   by_cases h1 : (aV raw 9 { s with left := s.left - 1 }).1 = 1
   ·exact O8 ih t s nv w ht hf hv ha h hl h1
   by_cases h2 : (aV raw 9 { s with left := s.left - 1 }).1 = 2 \/ (aV raw 9 { s with left := s.left - 1 }).1 = 3
   ·exact EJ ih t s nv w ht hf hv ha h hl h2
   by_cases h4 : (aV raw 9 { s with left := s.left - 1 }).1 = 4
   ·exact IC ih t s nv w ht hf hv ha h hl h4
   by_cases h8 : (aV raw 9 { s with left := s.left - 1 }).1 < 8
   ·by_cases ht0 : t = 0
    ·exact O9 ih t s nv w ht hf hv ha h hl ⟨by omega, h8⟩ ht0
    ·exact ID ih t s nv w ht hf hv ha h hl ⟨by omega, h8⟩ ht0
   ·exact IE ih t s nv w ht hf hv ha h hl (by omega)
theorem IJ (w : World) (t : Int) (rv : Value) (raw : List Int) (ht : SF t) (h : Gd w rv raw) :
  Calls Tryz.prog 21 #[.int .i64 t, rv] w fun e w' => ∃ p, e = .returned (.pointer (some ⟨p, 0, none⟩)) /\ Below w.heap.size w w' /\ eH w' (qG t raw) p := by
 obtain ⟨ra, rn, rc, rfl⟩ : ∃ ra rn rc, rv = .slice ra rn rc := by
  rcases h.2 with ⟨h1, _⟩ | ⟨a, cap, h1, _, _⟩
  ·exact ⟨_, _, _, h1⟩
  ·exact ⟨_, _, _, h1⟩
 have Al : eB w (w.alloc (.cells (mJ (.slice ra rn rc) ⟨0, 24, []⟩ (.slice none 0 0)) 94 (0, 0))) w.heap.size (.slice ra rn rc) raw ⟨0, 24, []⟩ (.slice none 0 0) := by
  refine ⟨h, ⟨aY (Below.refl _ w) _, Nat.le_refl _, aj _ _, World.ownsRow_nil _ _ _ _, by simp [Value.ownBlock]⟩⟩
 have hpk := fun W => wS t 5 W ht (by omega) (by omega)
 have h5 := oh t 5 (by omega)
 have hmk := CG (w0 := w) (yb := w.heap.size) (rv := .slice ra rn rc) (raw := raw) 25 (jM t 5) ⟨0, 24, []⟩ (.slice none 0 0) _ h5 (by simp) (by simp) (by simp) Al
 have WD : Hid _ := hpk
 have Un : Hid _ := hmk
 clear Al hpk hmk h
 go_enter Tryz.func21, Tryz.ntmps21
 go_wp2_with fail
 refine Calls.mono (WD.out _) ?_
 rintro _ w2 ⟨rfl, rfl⟩
 go_wp2_with fail
 refine Calls.mono Un.out ?_
 rintro _ w3 ⟨p, bw, rfl, hf, hm, hk⟩
 have HB : Hid _ := hm.ob.b0
 have HK : Hid (eH w3 (qG t raw) p) := hk
 clear hf hm hk Un WD
 go_wp2
 go_ret
 exact ⟨p, rfl, HB.out, HK.out⟩
open Go.Lib (decDigits)
theorem cU (n : Nat) (h : n < 256) : (UInt8.ofNat n).toNat = n := by simp; omega
theorem kq (u : Nat) : au (decDigits u) = u := by
 induction u using Nat.strongRecOn with
 | _ u ih =>
  rw [decDigits]
  split
  ·rename_i h
   have e : (UInt8.ofNat (48 + u)).toNat = 48 + u := cU _ (by omega)
   have hne : UInt8.ofNat (48 + u) ≠ 35 := by intro hc; rw [hc] at e; simp at e; omega
   simp only [au, List.foldl_cons, List.foldl_nil, if_neg hne, e]; omega
  ·rename_i h
   have e : (UInt8.ofNat (48 + u % 10)).toNat = 48 + u % 10 := cU _ (by omega)
   have hne : UInt8.ofNat (48 + u % 10) ≠ 35 := by intro hc; rw [hc] at e; simp at e; omega
   rw [tE, if_neg hne, ih _ (by omega), e]; omega
theorem Lz (u : Nat) : decDigits u ≠ [] := by rw [decDigits]; split <;> simp
theorem LA (u : Nat) (h : 0 < u) : (decDigits u).head? ≠ some 48 := by
 induction u using Nat.strongRecOn with
 | _ u ih =>
  rw [decDigits]
  split
  ·rename_i h1
   have e : (UInt8.ofNat (48 + u)).toNat = 48 + u := cU _ (by omega)
   intro hc
   simp only [List.head?_cons, Option.some.injEq] at hc
   rw [hc] at e; simp at e; omega
  ·rename_i h1
   have := ih (u / 10) (by omega) (by omega)
   cases hd : decDigits (u / 10) with
   | nil => exact absurd hd (Lz _)
   | cons a r => rw [hd] at this; simpa using this
theorem rV (u m : Nat) (h : (decDigits u).length <= m) : yT (decDigits u) m := by
 refine ⟨fun c hc => ?_, ?_⟩
 ·have := yC u c hc
  unfold vA at this
  simp only [Bool.and_eq_true, decide_eq_true_eq] at this
  unfold j7
  simp only [Bool.and_eq_true, decide_eq_true_eq]
  omega
 ·unfold bY
  have hp : 0 < (decDigits u).length := List.length_pos_iff.2 (Lz u)
  have hl : (decDigits u).length = 1 \/ (decDigits u).head? ≠ some 48 := by
   rcases Nat.eq_zero_or_pos u with rfl | hu
   ·left; rw [decDigits]; simp
   ·exact Or.inr (LA u hu)
  simp only [Bool.and_eq_true, Bool.or_eq_true, decide_eq_true_eq, bne_iff_ne]
  exact ⟨⟨hp, h⟩, hl⟩
theorem CH (u : Nat) (h : u <= 99) : (decDigits u).length <= 2 := by
 rw [decDigits]; split
 ·simp
 ·rw [decDigits]; split
  ·simp
  ·omega
theorem CI (u : Nat) (h : u <= 999) : (decDigits u).length <= 3 := by
 rw [decDigits]; split
 ·simp
 ·rw [decDigits]; split
  ·simp
  ·rw [decDigits]; split
   ·simp
   ·omega
def bF (n : Nat) : List UInt8 := [UInt8.ofNat (97 + n / 26 % 26), UInt8.ofNat (97 + n % 26), 118]
theorem za {a b : Nat} (ha : a < 676) (hb : b < 676) (h : bF a = bF b) : a = b := by
 simp only [bF, List.cons.injEq, and_true] at h
 have h1 := congrArg UInt8.toNat h.1
 have h2 := congrArg UInt8.toNat h.2
 rw [cU _ (by omega), cU _ (by omega)] at h1 h2
 omega
theorem qH (n : Nat) : yS (bF n) := by
 refine ⟨by simp [bF], fun c hc => ?_, by simp [bF], ?_⟩
 ·simp only [bF, List.mem_cons, List.not_mem_nil, or_false] at hc
  have e1 : (UInt8.ofNat (97 + n / 26 % 26)).toNat = 97 + n / 26 % 26 := cU _ (by omega)
  have e2 : (UInt8.ofNat (97 + n % 26)).toNat = 97 + n % 26 := cU _ (by omega)
  unfold j7
  simp only [Bool.and_eq_true, decide_eq_true_eq]
  rcases hc with rfl | rfl | rfl
  ·omega
  ·omega
  ·decide
 ·cases h : uf (bF n) with
  | none => rfl
  | some k =>
   have := sx h
   cases k <;> simp [bF, Kw.bytes] at this
def iB (k : Kw) (n : Nat) : List UInt8 := if k = .bb \/ k = .loop then bF n else []
def KE.pt (rg : List UInt8) : KE -> PT
 | .num n => .num 0 (decDigits n)
 | .var n => .name 0 (bF n)
 | .n1 k a => .node 0 k [] [] [a.pt rg]
 | .n2 k n a b => .node 0 k (iB k n) (if k = .pair then rg else []) [a.pt rg, b.pt rg]
 | .n3 k n a b c => .node 0 k (iB k n) [] [a.pt rg, b.pt rg, c.pt rg]
theorem wY (rg : List UInt8) : ∀ x : KE, (x.pt rg).np = x.pt rg
 | .num _ => rfl
 | .var _ => rfl
 | .n1 _ a => by simp only [KE.pt, PT.np, jZ, wY rg a]
 | .n2 _ _ a b => by simp only [KE.pt, PT.np, jZ, wY rg a, wY rg b]
 | .n3 _ _ a b c => by simp only [KE.pt, PT.np, jZ, wY rg a, wY rg b, wY rg c]
theorem LB (rg : List UInt8) : ∀ {vs : List Nat} {x : KE} {t : Nat}, KT vs x t -> (x.pt rg).bJ = x.bJ := by
 intro vs x t h
 induction h with
 | num _ => rfl
 | var _ => rfl
 | bb _ _ _ _ ha hb => simp [KE.pt, PT.bJ, jQ, KE.bJ, ha, hb]
 | fH _ _ _ ha hb hc => simp [KE.pt, PT.bJ, jQ, KE.bJ, ha, hb, hc]; omega
 | loop _ _ _ _ ha hb hc => simp [KE.pt, PT.bJ, jQ, KE.bJ, ha, hb, hc]; omega
 | pair _ _ _ _ ha hb => simp [KE.pt, PT.bJ, jQ, KE.bJ, ha, hb]; omega
 | fst _ _ _ ha => simp [KE.pt, PT.bJ, jQ, KE.bJ, ha]
 | snd _ _ _ ha => simp [KE.pt, PT.bJ, jQ, KE.bJ, ha]
 | two hk _ _ ha hb => rcases hk with rfl | rfl | rfl <;> simp [KE.pt, PT.bJ, jQ, KE.bJ, ha, hb]
def SK (ae : Bool) (rg : List UInt8) : Prop := if ae = true then ∃ d, rg = 35 :: d /\ yT d 3 else rg = []
theorem QJ {ae : Bool} {rg : List UInt8} (hr : SK ae rg) : ∀ {vs : List Nat} {x : KE} {t : Nat}, KT vs x t -> (x.pt rg).ok ae := by
 intro vs x t h
 unfold SK at hr
 induction h with
 | num h => simp only [KE.pt, PT.ok]; exact rV _ 4 (Nat.le_trans (CH _ (by omega)) (by omega))
 | var _ => simp only [KE.pt, PT.ok]; exact qH _
 | bb _ _ _ _ ha hb => simp [KE.pt, PT.ok, wP, iB, bS, arity, qH, ha, hb]
 | fH _ _ _ ha hb hc => simp [KE.pt, PT.ok, wP, iB, bS, arity, ha, hb, hc]
 | loop _ _ _ _ ha hb hc => simp [KE.pt, PT.ok, wP, iB, bS, arity, qH, ha, hb, hc]
 | pair _ _ _ _ ha hb =>
  cases ae with
  | true => simp [KE.pt, PT.ok, wP, iB, bS, arity, ha, hb]; simpa using hr
  | false => simp [KE.pt, PT.ok, wP, iB, bS, arity, ha, hb]; simpa using hr
 | fst _ _ _ ha => simp [KE.pt, PT.ok, wP, bS, arity, ha]
 | snd _ _ _ ha => simp [KE.pt, PT.ok, wP, bS, arity, ha]
 | two hk _ _ ha hb => rcases hk with rfl | rfl | rfl <;> simp [KE.pt, PT.ok, wP, iB, bS, arity, ha, hb]
theorem EK {rg : List UInt8} : ∀ {vs : List Nat} {x : KE} {t : Nat}, KT vs x t -> (x.pt rg).tidy.length <= x.len + x.bJ * (rg.length + 1) := by
 intro vs x t h
 induction h with
 | num h => simp only [KE.pt, PT.tidy, KE.len, KE.bJ]; exact Nat.le_trans (CH _ (by omega)) (by omega)
 | var _ => simp [KE.pt, PT.tidy, KE.len, KE.bJ, bF]
 | bb _ _ _ _ ha hb => simp [KE.pt, PT.tidy, dA, bC, cI, KE.len, KE.bJ, iz, iB, bF, Kw.bytes, Nat.add_mul]; omega
 | fH _ _ _ ha hb hc => simp [KE.pt, PT.tidy, dA, bC, cI, KE.len, KE.bJ, iz, iB, Kw.bytes, Nat.add_mul]; omega
 | loop _ _ _ _ ha hb hc => simp [KE.pt, PT.tidy, dA, bC, cI, KE.len, KE.bJ, iz, iB, bF, Kw.bytes, Nat.add_mul]; omega
 | pair _ _ _ _ ha hb =>
  simp only [KE.pt, PT.tidy, dA, bC, cI, KE.len, KE.bJ, iz, iB, Kw.bytes, Nat.add_mul, if_true]
  by_cases hr : rg = []
  ·subst hr; simp; simp at ha hb; omega
  ·simp [hr]; omega
 | fst _ _ _ ha => simp [KE.pt, PT.tidy, dA, bC, cI, KE.len, KE.bJ, iz, Kw.bytes]; omega
 | snd _ _ _ ha => simp [KE.pt, PT.tidy, dA, bC, cI, KE.len, KE.bJ, iz, Kw.bytes]; omega
 | two hk _ _ ha hb => rcases hk with rfl | rfl | rfl <;> simp [KE.pt, PT.tidy, dA, bC, cI, KE.len, KE.bJ, iz, iB, Kw.bytes, Nat.add_mul] <;> omega
def X9 (t : Nat) : Ty := if t = 0 then .n else .p 0 .n .n
def uU (t : Nat) : Ty := if t = 0 then .n else .p 0 (X9 (fT t)) (X9 (sT t))
theorem l8 {t : Nat} (ht : t < 5) (h0 : t ≠ 0) : uU t = .p 0 (uU (fT t)) (uU (sT t)) := by
 match t, ht, h0 with
 | 1, _, _ => rfl
 | 2, _, _ => rfl
 | 3, _, _ => rfl
 | 4, _, _ => rfl
theorem rW (t : Nat) : (uU t).size <= 3 := by
 have hj : ∀ t, (X9 t).size <= 1 := fun t => by unfold X9; split <;> simp [Ty.size]
 unfold uU
 split
 ·simp [Ty.size]
 ·have := hj (fT t); have := hj (sT t); simp only [Ty.size]; omega
theorem kS (env : aQ) (nm s : List UInt8) (T : Ty) : look (env ++ [(nm, T)]) s = if nm = s then some T else look env s := by
 unfold look
 rw [List.reverse_append, List.reverse_singleton, List.singleton_append, List.find?_cons]
 by_cases h : nm = s
 ·subst h; simp
 ·have : (nm == s) = false := by rw [beq_eq_false_iff_ne]; exact h
  simp only [this, if_neg h]
theorem CJ (env : dU) (nm s : List UInt8) (v : Vl) : mP (env ++ [(nm, v)]) s = if nm = s then v else mP env s := by
 unfold mP
 rw [List.reverse_append, List.reverse_singleton, List.singleton_append, List.find?_cons]
 by_cases h : nm = s
 ·subst h; simp
 ·have : (nm == s) = false := by rw [beq_eq_false_iff_ne]; exact h
  simp only [this, if_neg h]
def wZ (vs : List Nat) : aQ := vs.mapIdx (fun i t => (bF i, uU t))
def cf (vs : List Vl) : dU := vs.mapIdx (fun i v => (bF i, v))
theorem kr (vs : List Nat) (t : Nat) : wZ (vs ++ [t]) = wZ vs ++ [(bF vs.length, uU t)] := by unfold wZ; rw [List.mapIdx_concat]
theorem ku (vs : List Vl) (v : Vl) : cf (vs ++ [v]) = cf vs ++ [(bF vs.length, v)] := by unfold cf; rw [List.mapIdx_concat]
theorem IK (vs : List Nat) (n t : Nat) (h : vs[n]? = some t) (hl : vs.length <= 600) : look (wZ vs) (bF n) = some (uU t) := by
 have hn : n < vs.length := by
  rcases Nat.lt_or_ge n vs.length with h1 | h1
  ·exact h1
  ·rw [List.getElem?_eq_none h1] at h; cases h
 have key : ∀ k, n < k -> k <= vs.length -> look (wZ (vs.take k)) (bF n) = some (uU t) := by
  intro k
  induction k with
  | zero => intro h; omega
  | succ k ih =>
   intro h1 h2
   rw [List.take_succ_eq_append_getElem (by omega), kr, kS, List.length_take, Nat.min_eq_left (by omega)]
   by_cases e : k = n
   ·subst e
    rw [if_pos rfl]
    rw [List.getElem?_eq_getElem (by omega)] at h
    simp only [Option.some.injEq] at h
    rw [h]
   ·rw [if_neg (fun hc => e (za (by omega) (by omega) hc))]
    exact ih (by omega) (by omega)
 have := key vs.length hn (Nat.le_refl _)
 rwa [List.take_length] at this
theorem IL (vs : List Vl) (n : Nat) (hn : n < vs.length) (hl : vs.length <= 600) : mP (cf vs) (bF n) = vs[n] := by
 have key : ∀ k, n < k -> k <= vs.length -> mP (cf (vs.take k)) (bF n) = vs[n] := by
  intro k
  induction k with
  | zero => intro h; omega
  | succ k ih =>
   intro h1 h2
   rw [List.take_succ_eq_append_getElem (by omega), ku, CJ, List.length_take, Nat.min_eq_left (by omega)]
   by_cases e : k = n
   ·subst e; rw [if_pos rfl]
   ·rw [if_neg (fun hc => e (za (by omega) (by omega) hc))]
    exact ih (by omega) (by omega)
 have := key vs.length hn (Nat.le_refl _)
 rwa [List.take_length] at this
theorem LC {rg : List UInt8} : ∀ {vs : List Nat} {x : KE} {t : Nat}, KT vs x t -> vs.length <= 100 -> WT (wZ vs) (x.pt rg) (uU t) := by
 intro vs x t h
 induction h with
 | num _ => intro _; exact .num
 | var h => intro hl; exact .name (IK _ _ _ h (by omega))
 | bb _ hl _ _ ha hb => intro _; simp only [KE.pt]; exact .bb (ha (by omega)) (by have := hb (by simp; omega); rw [kr] at this; simpa [iB] using this)
 | fH _ _ _ ha hb hc => intro hl; simp only [KE.pt]; exact .fH (ha hl) (hb hl) (hc hl)
 | loop hl _ _ _ ha hb hc => intro _; simp only [KE.pt]; exact .loop (ha (by omega)) (hb (by omega)) (by have := hc (by simp; omega); rw [kr] at this; simpa [iB] using this)
 | pair h0 ht _ _ ha hb =>
  intro hl
  simp only [KE.pt]
  have hs := rW ‹Nat›
  rw [l8 ht h0]
  exact .pair (ha hl) (hb hl) (by rw [<- l8 ht h0]; have := rW ‹Nat›; omega)
 | fst h0 hp _ ha => intro hl; simp only [KE.pt]; have := ha hl; rw [l8 hp h0] at this; exact .fst this
 | snd h0 hp _ ha => intro hl; simp only [KE.pt]; have := ha hl; rw [l8 hp h0] at this; exact .snd this
 | two hk _ _ ha hb => intro hl; simp only [KE.pt]; exact .two hk (ha hl) (hb hl)
theorem Tryz.IM : Tryz.prog.underlying 121 = some (.slice 5) := by kernel_rfl
theorem Tryz.Pa : Tryz.prog.underlying 9 = some .string := by kernel_rfl
theorem Tryz.SL : Tryz.prog.underlying 5 = some (.int .u8) := by kernel_rfl
theorem zb (n : Nat) (hn : n <= 1000) (w : World) : Calls Tryz.prog 50 #[.int .i64 n] w fun e w' => e = .returned (.string (bs (bF n))) /\ Below w.heap.size w w' := by
 have hcv : (convert 121 9 (.slice (some ⟨w.heap.size, 0, none⟩) 3 3)).run Tryz.prog (w.alloc (.cells #[.int .u8 (97 + ((n / 26 % 26 : Nat) : Int)), .int .u8 (97 + ((n % 26 : Nat) : Int)), .int .u8 118] 5 (0, 0))) = .ok (.string (bs (bF n))) (w.alloc (.cells #[.int .u8 (97 + ((n / 26 % 26 : Nat) : Int)), .int .u8 (97 + ((n % 26 : Nat) : Int)), .int .u8 118] 5 (0, 0))) := by
  refine Lib.run_convert_whole (P := Tryz.prog) _ _ _ _ Tryz.IM Tryz.SL Tryz.Pa w.heap.size 0 (bs (bF n)) ?_ 3
  intro i hi
  have qU : i < 3 := hi
  have e1 : (UInt8.ofNat (97 + n / 26 % 26)).toNat = 97 + n / 26 % 26 := cU _ (by omega)
  have e2 : (UInt8.ofNat (97 + n % 26)).toNat = 97 + n % 26 := cU _ (by omega)
  rw [aa (aj w _)]
  match i, qU with
  | 0, _ =>
   show some (Value.int .u8 (97 + ((n / 26 % 26 : Nat) : Int))) = some (Value.int .u8 ((UInt8.ofNat (97 + n / 26 % 26)).toNat : Int))
   rw [e1]; rfl
  | 1, _ =>
   show some (Value.int .u8 (97 + ((n % 26 : Nat) : Int))) = some (Value.int .u8 ((UInt8.ofNat (97 + n % 26)).toNat : Int))
   rw [e2]; rfl
  | 2, _ => rfl
 obtain ⟨a, ha⟩ : ∃ a, a = n / 26 % 26 := ⟨_, rfl⟩
 obtain ⟨b, hb⟩ : ∃ b, b = n % 26 := ⟨_, rfl⟩
 have hal : a < 26 := by omega
 have hbl : b < 26 := by omega
 have e1 : (n : Int) / 26 % 26 = (a : Int) := by omega
 have e2 : (n : Int) % 26 = (b : Int) := by omega
 rw [<- ha, <- hb] at hcv
 clear ha hb
 go_enter Tryz.func50, Tryz.ntmps50
 go_wp2
 go_ret
 exact ⟨rfl, aY (Below.refl _ _) _⟩
def lp (pre : List UInt8) (k : Kw) (nm : List UInt8) (ts : List (List UInt8)) (j : Nat) : List UInt8 := pre ++ bC k nm 0 (ts.take j)
theorem IP (pre : List UInt8) (k : Kw) (nm : List UInt8) (ts : List (List UInt8)) (j : Nat) (x : List UInt8) (hx : ts[j]? = some x) : lp pre k nm ts (j + 1) = lp pre k nm ts j ++ cI k nm j x := by
 have hj : j < ts.length := by
  rcases Nat.lt_or_ge j ts.length with h | h
  ·exact h
  ·rw [List.getElem?_eq_none h] at hx; cases hx
 unfold lp
 rw [List.take_add_one, hx, Option.toList_some, qg, List.length_take, Nat.min_eq_left (by omega), Nat.zero_add, List.append_assoc]
theorem ze (k : Kw) (nm : List UInt8) : ∀ (a b : List (List UInt8)) (i : Nat), bC k nm i (a ++ b) = bC k nm i a ++ bC k nm (i + a.length) b
 | [], b, i => by simp [bC]
 | x :: r, b, i => by
  simp only [List.cons_append, bC, ze k nm r b (i + 1), List.append_assoc, List.length_cons]
  rw [show i + 1 + r.length = i + (r.length + 1) by omega]
theorem Pb (pre : List UInt8) (k : Kw) (nm : List UInt8) (ts : List (List UInt8)) (j : Nat) : (lp pre k nm ts j).length <= pre.length + (bC k nm 0 ts).length := by
 unfold lp
 have h : bC k nm 0 ts = bC k nm 0 (ts.take j) ++ bC k nm (0 + (ts.take j).length) (ts.drop j) := by rw [<- ze, List.take_append_drop]
 rw [h]; simp
theorem zg (k : Kw) (nm : List UInt8) : ∀ (ts : List (List UInt8)) (i : Nat) (x : List UInt8), x ∈ ts -> x.length + 1 <= (bC k nm i ts).length
 | [], _, _, h => by simp at h
 | t :: r, i, x, h => by
  simp only [bC, List.length_append]
  rcases List.mem_cons.1 h with h | h
  ·subst h; unfold cI; simp; try omega
  ·have := zg k nm r (i + 1) x h; omega
def CK (rg : List UInt8) (x : KE) : Prop := ∀ (p : Nat) (w : World), eH w x p -> (x.pt rg).tidy.length <= 100000 -> (∀ W, Below w.heap.size w W -> vJ W) ->
 Calls Tryz.prog 22 #[.pointer (some ⟨p, 0, none⟩), .string (bs (iz rg))] w fun e w' => e = .returned (.string (bs (x.pt rg).tidy)) /\ Below w.heap.size w w'
theorem LD (rg : List UInt8) (n : Nat) (hn : n <= 9999) : CK rg (.num n) := by
 intro p w hx _ hit
 have hx' : w.heap[p]? = some (.cells (tY [] n (.slice none 0 0)) 98 (0, 0)) := hx
 have hp := af hx'
 have x0 : w.cell? ⟨p, 0, none⟩ = some (.string ⟨#[]⟩) := by rw [aa hx']; rfl
 have x1 : w.cell? ⟨p, 1, none⟩ = some (.int .i64 n) := by rw [aa hx']; rfl
 have hi := hit w (Below.refl _ _) n w hn (Below.refl _ _)
 have HI : Hid _ := hi
 simp only [KE.pt, PT.tidy]
 clear hx hx' hi hit
 go_enter Tryz.func22, Tryz.ntmps22
 go_wp2_with fail
 refine Calls.mono HI.out ?_
 rintro _ w2 ⟨rfl, hb⟩
 go_wp2
 go_ret
 exact ⟨rfl, hb⟩
theorem LF (rg : List UInt8) (n : Nat) (hn : n <= 1000) : CK rg (.var n) := by
 intro p w hx _ _
 have hx' : w.heap[p]? = some (.cells (tY [120] n (.slice none 0 0)) 98 (0, 0)) := hx
 have hp := af hx'
 have x0 : w.cell? ⟨p, 0, none⟩ = some (.string ⟨#[120]⟩) := by rw [aa hx']; rfl
 have x1 : w.cell? ⟨p, 1, none⟩ = some (.int .i64 n) := by rw [aa hx']; rfl
 have HI : Hid _ := zb n hn w
 simp only [KE.pt, PT.tidy]
 clear hx hx'
 go_enter Tryz.func22, Tryz.ntmps22
 go_wp2_with fail
 refine Calls.mono HI.out ?_
 rintro _ w2 ⟨rfl, hb⟩
 go_wp2
 go_ret
 exact ⟨rfl, hb⟩
end Go.Proofs.YtpicaknklgccoaaGreatDoor
