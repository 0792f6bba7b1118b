import Derived.Test.YtpicaknklgccoabGreatDoorX29
import Derived.Test.YtpicaknklgccoabGreatDoorX28
namespace Go.Proofs.YtpicaknklgccoabGreatDoor
theorem new_mach (fuel : Nat) {k : Int} {p0 : Nat} {nm0 rg0 : List UInt8} (hk0 : valueL rg0 = k) (P : PT) (sc : Sc) (base : Nat) (m : MM) : mW fuel (.node p0 .new nm0 rg0 [P]) sc base m = ((mW fuel P sc base (m.ext [⟨k, m.opened, 0⟩] 1)).1, (mW fuel P sc base (m.ext [⟨k, m.opened, 0⟩] 1)).2.fin) := by
 rw [← hk0]
 conv => lhs; unfold mW
 simp only [if_true, mNew]
 rfl
theorem fst_mach (fuel : Nat) {p1 : Nat} {nm1 rg1 : List UInt8} (L : PT) (sc : Sc) (base : Nat) (m : MM) : mW fuel (.node p1 .fst nm1 rg1 [L]) sc base m = mBegun fuel m (fun m => (((mW fuel L sc base m).2.use (mW fuel L sc base m).1).1.a, ((mW fuel L sc base m).2.use (mW fuel L sc base m).1).2)) := by
 simp only [mW, mOps, if_true, reduceCtorEq, if_false]
theorem bad_run (fuel n : Nat) (hfu : 0 < fuel) {X : PT} {p p0 p1 p7 : Nat} {nm nm0 nm1 rg rg0 rg1 s7 : List UInt8} {k : Int} (hwt : WT [] X .n) (hnn : NoNew X) (hal : X.allr 999) (hrd : X.rgd) (hk : valueL rg = k) (hk0 : valueL rg0 = k) (hk9 : k ≠ 999) (h7 : valueL s7 = 7) (hlen : X.cnt ≤ n) :
  (mW fuel (.node p1 .fst nm1 rg1 [.node p0 .new nm0 rg0 [.node p .pair nm rg [X, .num p7 s7]]]) [] 0 ((m0 n).opn (-1))).2.fault = 13 ∨
  ((mW fuel (.node p1 .fst nm1 rg1 [.node p0 .new nm0 rg0 [.node p .pair nm rg [X, .num p7 s7]]]) [] 0 ((m0 n).opn (-1))).2.fault = 12 ∧ (1 = fuel ∨ (ev fuel X [] ⟨2, 0, 0⟩).2.e = 12 ∨ (ev fuel X [] ⟨2, 0, 0⟩).2.steps = fuel)) := by
 have hs1 : Sm fuel ⟨1, 0, 0⟩ { (m0 n).opn (-1) with steps := 1 } := ⟨rfl, rfl, rfl, hfu, rfl, rfl, rfl, rfl, fun c hc => by simp [m0, MM.opn] at hc⟩
 rw [fst_mach]
 unfold mBegun
 have h1 : ¬ fuel ≤ ((m0 n).opn (-1)).steps := by show ¬ fuel ≤ 0; omega
 simp only [if_neg h1]
 rw [if_neg (show ¬ ((m0 n).opn (-1)).fault ≠ 0 from fun h => h rfl)]
 have e2 : ({ (m0 n).opn (-1) with steps := ((m0 n).opn (-1)).steps + 1 } : MM) = { (m0 n).opn (-1) with steps := 1 } := rfl
 rw [e2, new_mach fuel hk0]
 have e3 : ({ (m0 n).opn (-1) with steps := 1 } : MM).opened = 1 := rfl
 rw [e3]
 rcases pair_in fuel (p := p) (p7 := p7) (nm := nm) (o := 1) (base := 0) hwt hnn hal hrd hk hk9 h7 hs1 (by simp [m0, MM.opn]; omega) with ⟨z, a, hz, _, _, hm⟩ | ⟨hf, hw⟩
 ·left
  rw [hm]
  exact dead_use hz k 1 a
 ·right
  exact ⟨use_12 (by simp only; rw [(fin_fault _).1]; exact hf) _, hw⟩
theorem good_run (fuel n : Nat) (hfu : 0 < fuel) {X : PT} {p p0 p1 p7 : Nat} {nm nm0 nm1 rg rg0 rg1 s7 : List UInt8} {k : Int} (hwt : WT [] X .n) (hnn : NoNew X) (hal : X.allr 999) (hrd : X.rgd) (hk : valueL rg = k) (hk0 : valueL rg0 = k) (hk9 : k ≠ 999) (h7 : valueL s7 = 7) (hlen : X.cnt ≤ n) :
  (∃ (z : MM) (a : MV), mW fuel (.node p0 .new nm0 rg0 [.node p1 .fst nm1 rg1 [.node p .pair nm rg [X, .num p7 s7]]]) [] 0 ((m0 n).opn (-1)) = (a, z) ∧ z.fault = 0 ∧ Rep z.cells (ev fuel X [] ⟨2, 0, 0⟩).1 a ∧ (ev fuel X [] ⟨2, 0, 0⟩).1.has .n ∧ (ev fuel X [] ⟨2, 0, 0⟩).2.e = 0 ∧
   (ev fuel X [] ⟨2, 0, 0⟩).2.steps + 1 ≤ fuel ∧ z.steps = (ev fuel X [] ⟨2, 0, 0⟩).2.steps + 1 ∧ z.cells.length = (ev fuel X [] ⟨2, 0, 0⟩).2.cells + 1 ∧ z.live = ((ev fuel X [] ⟨2, 0, 0⟩).2.cells : Int) ∧ z.most = ((ev fuel X [] ⟨2, 0, 0⟩).2.cells : Int) + 1) ∨
  ((mW fuel (.node p0 .new nm0 rg0 [.node p1 .fst nm1 rg1 [.node p .pair nm rg [X, .num p7 s7]]]) [] 0 ((m0 n).opn (-1))).2.fault = 12 ∧ (1 = fuel ∨ (ev fuel X [] ⟨2, 0, 0⟩).2.e = 12 ∨ (ev fuel X [] ⟨2, 0, 0⟩).2.steps = fuel)) := by
 have hs1 : Sm fuel ⟨1, 0, 0⟩ { (m0 n).opn (-1) with steps := 1 } := ⟨rfl, rfl, rfl, hfu, rfl, rfl, rfl, rfl, fun c hc => by simp [m0, MM.opn] at hc⟩
 rw [new_mach fuel hk0, fst_mach]
 have e3 : ((m0 n).opn (-1)).opened = 1 := rfl
 rw [e3]
 unfold mBegun
 have h1 : ¬ fuel ≤ (MM.ext [⟨k, 1, 0⟩] 1 ((m0 n).opn (-1))).steps := by show ¬ fuel ≤ 0; omega
 simp only [if_neg h1]
 rw [if_neg (show ¬ (MM.ext [⟨k, 1, 0⟩] 1 ((m0 n).opn (-1))).fault ≠ 0 from fun h => h rfl)]
 have e2 : ({ MM.ext [⟨k, 1, 0⟩] 1 ((m0 n).opn (-1)) with steps := (MM.ext [⟨k, 1, 0⟩] 1 ((m0 n).opn (-1))).steps + 1 } : MM) = MM.ext [⟨k, 1, 0⟩] 1 { (m0 n).opn (-1) with steps := 1 } := rfl
 rw [e2]
 rcases pair_in fuel (p := p) (p7 := p7) (nm := nm) (o := 1) (base := 0) hwt hnn hal hrd hk hk9 h7 hs1 (by simp [m0, MM.opn]; omega) with ⟨z, a, hz, hr, hh, hm⟩ | ⟨hf, hw⟩
 ·left
  rw [hm]
  simp only
  rw [live_use hz k 1 a, fin_in z]
  simp only at hz hr hh
  refine ⟨_, _, rfl, hz.f, hr.mono, hh, hz.e, hz.le, hz.s, by simp only [List.length_append, List.length_singleton]; rw [hz.c], hz.l, ?_⟩
  simp only
  rw [hz.l]
 ·right
  refine ⟨?_, hw⟩
  simp only
  rw [(fin_fault _).1]
  exact use_12 hf _
end Go.Proofs.YtpicaknklgccoabGreatDoor
namespace Go.Proofs.YtpicaknklgccoabGreatDoor
open Go.RowKit
theorem mach_rep (fuel k : Nat) {t : PT} {T : Ty} (hwt : WT [] t T) (hT : T.size ≤ 63) (hr : t.rgd) (hk : t.cnt ≤ k) : ∃ X, Rep (mW fuel t [] 0 ((m0 k).opn (-1))).2.cells X (mW fuel t [] 0 ((m0 k).opn (-1))).1 ∧ X.size ≤ 63 := by
 have hlen : ((m0 k).opn (-1)).named.length = k := by simp [m0, MM.opn]
 have her : ER ((m0 k).opn (-1)).named ((m0 k).opn (-1)).cells [] [] [] 0 := fun s T h => by simp [look] at h
 have hf := mW_fits fuel hwt [] 0 ((m0 k).opn (-1)) hr her.ef (by rw [hlen]; omega)
 obtain ⟨X, hX, hXs⟩ := fits_rp hf.2
 exact ⟨X, hX, by omega⟩
theorem leaseRun_mach (s : ByteArray) (hs : s.size ≤ 9000) (e : PT) (hp : PE true (tokens s.data.toList) e []) (hc : chkAns e = (0, 0)) (fuel : Nat) (hf : fuel ≤ 20000) (X : Vl) (hX : Rep (mW fuel e [] 0 ((m0 e.cnt).opn (-1))).2.cells X (mW fuel e [] 0 ((m0 e.cnt).opn (-1))).1) (hXs : X.size ≤ 63) :
  ∀ w, Lib.TabIs Tryz.prog w "internal/strconv.uint64pow10" .u64 Lib.pow10Tab → Calls Tryz.prog 13 #[.string s, .int .i64 fuel] w fun r w' => r = .returned (.tuple #[runV (mText X (mW fuel e [] 0 ((m0 e.cnt).opn (-1))).1 (mW fuel e [] 0 ((m0 e.cnt).opn (-1))).2) X, .int .i64 (mText X (mW fuel e [] 0 ((m0 e.cnt).opn (-1))).1 (mW fuel e [] 0 ((m0 e.cnt).opn (-1))).2).fault]) ∧ Below w.heap.size w w' := by
 intro w htab
 have hwf := hp.wf
 have hcnt := Study_len hp
 have hrg := rgdO_of e (hp.tame (tokens_tame _)).1 (hp.rg3 (tokens_rg _)).1
 obtain ⟨S, a, b, c, d, hV⟩ : ∃ S a b c d, runV (mText X (mW fuel e [] 0 ((m0 e.cnt).opn (-1))).1 (mW fuel e [] 0 ((m0 e.cnt).opn (-1))).2) X = .agg #[.string S, .int .i64 a, .int .i64 b, .int .i64 c, .int .i64 d] := by
  unfold runV; split
  ·exact ⟨_, _, _, _, _, rfl⟩
  ·exact ⟨_, _, _, _, _, rfl⟩
 rw [hV]
 refine leaseRun_ok s fuel w e 0 S a b c d _ (fun w => ?_) (fun w' x1 n1 c1 x2 n2 c2 ns hb hTr hna => ?_)
 ·have := readPlaced_full s w hs e hp
  rw [hc] at this
  exact this
 ·have hnl := hna.len
  refine run_ok w' x1 n1 c1 x2 n2 c2 fuel hf S a b c d _ (fun w'' hb'' => ?_)
  have := Run_any x1 n1 c1 x2 n2 c2 fuel ns (opn e 0) hf (by omega) w'' (hTr.below hb'') (Lib.tabBelow_of_tabIs htab w'' (hb.trans (hb''.mono hb.size))) e hna.showsM0 hwf hrg hnl.symm _ rfl X (by rw [hnl]; exact hX) hXs
  rw [hnl] at this
  rw [hV] at this
  exact this
end Go.Proofs.YtpicaknklgccoabGreatDoor
namespace Go.Proofs.YtpicaknklgccoabGreatDoor
theorem dead_fuel (X : PT) :
  ((ev 19997 X [] ⟨0, 0, 0⟩).2.e = 0 → ev 20000 X [] ⟨2, 0, 0⟩ = shx 2 (ev 19997 X [] ⟨0, 0, 0⟩) ∧ ev 20000 X [] ⟨1, 0, 0⟩ = shx 1 (ev 19997 X [] ⟨0, 0, 0⟩) ∧ (ev 19997 X [] ⟨0, 0, 0⟩).2.steps ≤ 19997) ∧
  ((ev 19997 X [] ⟨0, 0, 0⟩).2.e ≠ 0 → (ev 20000 X [] ⟨2, 0, 0⟩).2.e = 12 ∨ (ev 20000 X [] ⟨2, 0, 0⟩).2.steps = 20000) := by
 have h2 : ev 20000 X [] ⟨2, 0, 0⟩ = shx 2 (ev 19998 X [] ⟨0, 0, 0⟩) := ev_sh 19998 2 X [] ⟨0, 0, 0⟩
 have h1 : ev 20000 X [] ⟨1, 0, 0⟩ = shx 1 (ev 19999 X [] ⟨0, 0, 0⟩) := ev_sh 19999 1 X [] ⟨0, 0, 0⟩
 refine ⟨fun h0 => ?_, fun h0 => ?_⟩
 ·have hs := (ev_mono 19997 X [] ⟨0, 0, 0⟩ (Nat.zero_le _)).1
  rw [h2, h1, (ev_fu 19997 19998 X [] ⟨0, 0, 0⟩).eq h0 (by omega), (ev_fu 19997 19999 X [] ⟨0, 0, 0⟩).eq h0 (by omega)]
  exact ⟨rfl, rfl, hs⟩
 ·have hE := ev_e12 20000 X [] ⟨2, 0, 0⟩ (Or.inl rfl)
  rcases hE with hE | hE
  ·right
   rw [h2] at hE ⊢
   have hE' : (ev 19998 X [] ⟨0, 0, 0⟩).2.e = 0 := hE
   have hs := (ev_mono 19998 X [] ⟨0, 0, 0⟩ (Nat.zero_le _)).1
   show (ev 19998 X [] ⟨0, 0, 0⟩).2.steps + 2 = 20000
   by_cases h9 : (ev 19998 X [] ⟨0, 0, 0⟩).2.steps = 19998
   ·omega
   ·have := (ev_fu 19998 19997 X [] ⟨0, 0, 0⟩).eq hE' (by omega)
    rw [this] at h0
    exact absurd hE' h0
  ·exact Or.inl hE
theorem pl_pair {X : PT} {p p7 : Nat} {nm rg s7 : List UInt8} {k : Nat} {ns : List NR} (hwt : WT [] X .n) (hal : X.allr (999 : Nat)) (hk : valueL rg = (k : Int)) (hna : NA [] (.node p .pair nm rg [X, .num p7 s7]) 0 ns) :
  ∃ A, A.length + 1 = (PT.node p .pair nm rg [X, .num p7 s7]).cnt ∧ PlR [] ns A (.p k .n .n) := by
 simp only [NA, bodK, NAs, Bool.false_eq_true, if_false] at hna
 obtain ⟨ks, beh, ⟨a1, c1, hn1, ⟨a2, c2, hn2, ⟨_, rfl⟩, rfl⟩, rfl⟩, rfl⟩ := hna
 obtain ⟨A, hA, h1⟩ := hwt.plr (r := 999) [] [] a1 hn1 (fun s U h => by simp [look] at h) hal
 have h2 : PlR ([] ++ (A ++ [paint 999 .n])) a2 [] .n := by
  subst hn2
  exact ⟨by simp [plT, vfT], by simp [SzOk], by simp [tyRun, tyR]⟩
 obtain ⟨t1, t2, t3⟩ := h1.two h2
 rw [List.append_nil]
 have hk2 := kn2 [] A [] [] (paint 999 .n) .n X.cnt 1 hA rfl
 rw [List.append_nil] at hk2
 refine ⟨_, ?_, PlR.root _ _ t1 t2 t3 ?_ ?_ ?_⟩
 ·simp only [PT.cnt, cntL, List.length_append, List.length_singleton, List.length_nil]; omega
 ·simp only [tyR, fk_pair, partsL, List.getD_cons_succ, List.getD_cons_zero, hk]
  simp only [Nat.reduceEqDiff, if_false, if_true]
  simp only [List.length_nil, PT.cnt] at hk2 ⊢
  rw [hk2.1, hk2.2]
  simp only [paint, Int.toNat_natCast]
 ·simp [vfT, fk_pair]
 ·intro _
  simp only [partsL, List.getD_cons_succ, List.getD_cons_zero]
  simp only [List.length_nil, PT.cnt] at hk2 ⊢
  rw [hk2.1, hk2.2]
  simp [Ty.size, paint]
theorem pl_late {X : PT} {p p0 p7 : Nat} {nm nm0 rg rg0 s7 : List UInt8} {k : Nat} {ns : List NR} (hwt : WT [] X .n) (hal : X.allr (999 : Nat)) (hk : valueL rg = (k : Int)) (hk0 : valueL rg0 = (k : Int)) (hna : NA [] (.node p0 .new nm0 rg0 [.node p .pair nm rg [X, .num p7 s7]]) 0 ns) (rest : List NR) :
  plT [] (ns ++ rest) = (10, p0) := by
 rw [NA] at hna
 obtain ⟨ks, beh, hks, rfl⟩ := hna
 simp only [bodK, NAs, Bool.false_eq_true, if_false] at hks
 obtain ⟨a1, c1, hn1, ⟨_, rfl⟩, rfl⟩ := hks
 obtain ⟨A, hA, h1⟩ := pl_pair hwt hal hk hn1
 rw [List.append_nil, List.append_assoc, plT_app, h1.pl, if_neg (by simp), h1.run, List.singleton_append]
 have hkl := known_last [] A [] (.p k .n .n) _ hA.symm
 rw [List.append_nil] at hkl
 simp only [plT, partsL, List.getD_cons_zero]
 have hv : ∀ Z, vfT (([] : List Ty) ++ (A ++ [.p k .n .n]) ++ [Z]) ⟨formK .new, p0, beh, 0, nm0, valueL rg0, -1, ((0 + (PT.node p .pair nm rg [X, .num p7 s7]).cnt : Nat) : Int) - 1, ([] : List Int).getD 0 (-1), ([] : List Int).getD 1 (-1)⟩ = 10 := by
  intro Z
  have hkl2 := known_last [] A [Z] (.p k .n .n) _ hA.symm
  simp only [List.length_nil] at hkl2
  unfold vfT
  simp only [hkl2, hk0]
  simp [fk_new, Ty.has, Ty.rgl]
 simp only [List.getD_cons_succ] at hv ⊢
 rw [hv, if_pos (by decide)]
theorem pl_bad {X : PT} {p p0 p1 p7 : Nat} {nm nm0 nm1 rg rg0 rg1 s7 : List UInt8} {k : Nat} {ns : List NR} (hwt : WT [] X .n) (hal : X.allr (999 : Nat)) (hk : valueL rg = (k : Int)) (hk0 : valueL rg0 = (k : Int)) (hna : NA [] (.node p1 .fst nm1 rg1 [.node p0 .new nm0 rg0 [.node p .pair nm rg [X, .num p7 s7]]]) 0 ns) :
  plT [] ns = (10, p0) := by
 rw [NA] at hna
 obtain ⟨ks, beh, hks, rfl⟩ := hna
 rw [show bodK .fst = [false] from rfl, NAs] at hks
 obtain ⟨a1, c1, hn1, hc1, rfl⟩ := hks
 simp only [NAs] at hc1
 obtain ⟨_, rfl⟩ := hc1
 rw [List.append_nil]
 exact pl_late hwt hal hk hk0 hn1 _
theorem pl_good {X : PT} {p p0 p1 p7 : Nat} {nm nm0 nm1 rg rg0 rg1 s7 : List UInt8} {k : Nat} {ns : List NR} (hwt : WT [] X .n) (hal : X.allr (999 : Nat)) (hk : valueL rg = (k : Int)) (hna : NA [] (.node p0 .new nm0 rg0 [.node p1 .fst nm1 rg1 [.node p .pair nm rg [X, .num p7 s7]]]) 0 ns) :
  ∃ A, PlR [] ns A .n := by
 rw [NA] at hna
 obtain ⟨ks, beh, hks, rfl⟩ := hna
 rw [show bodK .new = [false] from rfl, NAs] at hks
 obtain ⟨a1, c1, hn1, hc1, rfl⟩ := hks
 simp only [NAs] at hc1
 obtain ⟨_, rfl⟩ := hc1
 rw [if_neg (by decide), NA] at hn1
 obtain ⟨ks, beh1, hks, rfl⟩ := hn1
 rw [show bodK .fst = [false] from rfl, NAs] at hks
 obtain ⟨a1, c1, hn1, hc1, rfl⟩ := hks
 simp only [NAs] at hc1
 obtain ⟨_, rfl⟩ := hc1
 rw [if_neg (by decide)] at hn1
 obtain ⟨A, hA, h1⟩ := pl_pair hwt hal hk hn1
 rw [List.append_nil, List.append_nil]
 have hkl := known_last [] A [] (.p k .n .n) _ hA.symm
 simp only [List.append_nil, List.length_nil] at hkl
 have h2 : PlR [] (a1 ++ [⟨formK .fst, p1, beh1, 0, nm1, valueL rg1, -1, ((0 + (PT.node p .pair nm rg [X, .num p7 s7]).cnt : Nat) : Int) - 1, ([] : List Int).getD 0 (-1), ([] : List Int).getD 1 (-1)⟩]) (A ++ [.p k .n .n]) .n := by
  refine PlR.root _ _ h1.pl h1.sz h1.run ?_ ?_ ?_
  ·simp only [tyR, show formK .fst = 5 from by decide, hkl]
   simp [fstT]
  ·simp [vfT, show formK .fst = 5 from by decide]
  ·intro h; rw [show formK .fst = 5 from by decide] at h; cases h
 have hkl2 := known_last [] (A ++ [.p k .n .n]) [] .n (PT.node p1 .fst nm1 rg1 [.node p .pair nm rg [X, .num p7 s7]]).cnt (by simp only [List.length_append, List.length_singleton]; rw [hA]; simp only [PT.cnt, cntL]; omega)
 have hkl3 := known_last [] (A ++ [.p k .n .n]) [.n] .n (PT.node p1 .fst nm1 rg1 [.node p .pair nm rg [X, .num p7 s7]]).cnt (by simp only [List.length_append, List.length_singleton]; rw [hA]; simp only [PT.cnt, cntL]; omega)
 simp only [List.append_nil, List.length_nil] at hkl2 hkl3
 refine ⟨_, PlR.root _ .n h2.pl h2.sz h2.run ?_ ?_ ?_⟩
 ·simp only [tyR, fk_new, partsL, List.getD_cons_zero]
  simp only [Nat.reduceEqDiff, if_false, if_true]
  exact hkl2
 ·simp only [vfT, fk_new, partsL, List.getD_cons_zero]
  rw [hkl3]
  simp [Ty.has, Ty.rgl]
 ·intro h; rw [fk_new] at h; cases h
theorem newsK_skip {n : NR} (h : n.form ≠ 12) (l acc : List NR) : newsK (n :: l) acc = newsK l acc := by
 simp only [newsK]; rw [if_neg h]
theorem newsK_one {N : NR} (h12 : N.form = 12) {l : List NR} (hl : ∀ n ∈ l, n.form ≠ 12) : newsK (N :: l) [] = ([N], 0, 0) := by
 simp only [newsK]
 rw [if_pos h12, if_neg (by simp [newF])]
 exact newsK_none l _ hl
theorem outK_in {N : NR} : ∀ (l : List NR), (∀ n ∈ l, n.form = 4 → n.region = N.region → N.at_ ≤ n.at_ ∧ n.at_ < N.beh) → outK [N] l = (0, 0)
 | [], _ => rfl
 | n :: r, h => by
  have ih := outK_in r (fun m hm => h m (by simp [hm]))
  simp only [outK]
  by_cases h4 : n.form = 4
  ·rw [if_pos h4]
   by_cases hr : n.region = N.region
   ·obtain ⟨h1, h2⟩ := h n (by simp) h4 hr
    have hn : newF [N] n.region = some N := by simp [newF, hr]
    rw [hn]
    simp only
    rw [if_neg (by omega)]
    exact ih
   ·have hn : newF [N] n.region = none := by simp [newF]; intro h; exact hr h.symm
    rw [hn]
    exact ih
  ·rw [if_neg h4]; exact ih
theorem opNs_root {p : Nat} {k : Kw} {nm rg : List UInt8} {kids : List PT} {ks : List NR} {N : NR} (hl : ks.length = cntL kids) :
  opNs (ks ++ [N]) (opn (.node p k nm rg kids) 0) = N :: opNs (ks ++ [N]) (opnL kids 0) ∧ ∀ n ∈ opNs (ks ++ [N]) (opnL kids 0), n ∈ ks := by
 constructor
 ·simp only [opn, opNs, List.map_cons, Int.toNat_natCast, Nat.zero_add]
  rw [← hl]
  simp
 ·intro n hn
  simp only [opNs, List.mem_map] at hn
  obtain ⟨x, hx, rfl⟩ := hn
  obtain ⟨h0, h1⟩ := opnL_in kids 0 x hx
  have hlt : x.toNat < ks.length := by rw [hl]; omega
  rw [List.getElem?_append_left hlt, List.getElem?_eq_getElem hlt]
  exact List.getElem_mem hlt
mutual
theorem NA.reg4 : ∀ {scope : Sc} {t : PT} {base : Nat} {ns : List NR} {r : Int}, NA scope t base ns → t.allr r → ∀ n ∈ ns, n.form = 4 → n.region = r
 | _, .num p s, _, _, _, h, _, n, hn, h4 => by simp only [NA] at h; subst h; rw [List.mem_singleton] at hn; subst hn; cases h4
 | _, .name p s, _, _, _, h, _, n, hn, h4 => by simp only [NA] at h; subst h; rw [List.mem_singleton] at hn; subst hn; cases h4
 | _, .node p k nm rg kids, _, _, _, h, h3, n, hn, h4 => by
  simp only [NA] at h
  obtain ⟨ks, beh, hk, rfl⟩ := h
  simp only [PT.allr] at h3
  rcases List.mem_append.1 hn with hn | hn
  ·exact hk.reg4 h3.2.2 n hn h4
  ·rw [List.mem_singleton] at hn
   subst hn
   simp only at h4 ⊢
   have hp : k = .pair := by revert h4; cases k <;> decide
   exact h3.2.1 hp
theorem NAs.reg4 : ∀ {scope : Sc} {nm : List UInt8} {ts : List PT} {bs : List Bool} {base : Nat} {ns : List NR} {r : Int}, NAs scope nm ts bs base ns → allrL r ts → ∀ n ∈ ns, n.form = 4 → n.region = r
 | _, _, [], _, _, _, _, h, _, n, hn, _ => by simp only [NAs] at h; rw [h.2] at hn; simp at hn
 | _, _, _ :: _, [], _, _, _, h, _, n, hn, _ => by simp [NAs] at h
 | _, _, t :: r, b :: bs, _, _, _, h, h3, n, hn, h4 => by
  simp only [NAs] at h
  obtain ⟨a, c, h1, h2, rfl⟩ := h
  simp only [allrL] at h3
  rcases List.mem_append.1 hn with hn | hn
  ·exact h1.reg4 h3.1 n hn h4
  ·exact h2.reg4 h3.2 n hn h4
end
theorem pair_nodes {X : PT} {p p7 : Nat} {nm rg s7 : List UInt8} {k : Nat} {ns : List NR} {base : Nat} (hal : X.allr (999 : Nat)) (hk9 : k ≠ 999) (hna : NA [] (.node p .pair nm rg [X, .num p7 s7]) base ns) :
  ∀ n ∈ ns, n.form ≠ 12 ∧ (n.form = 4 → n.region = (k : Int) → n.at_ = p) := by
 simp only [NA, bodK, NAs, Bool.false_eq_true, if_false] at hna
 obtain ⟨ks, beh, ⟨a1, c1, hn1, ⟨a2, c2, hn2, ⟨_, rfl⟩, rfl⟩, rfl⟩, rfl⟩ := hna
 intro n hn
 simp only [List.append_nil, List.mem_append, List.mem_singleton] at hn
 rcases hn with (hn | hn) | hn
 ·exact ⟨hn1.forms hal n hn, fun h4 hr => by have := hn1.reg4 hal n hn h4; omega⟩
 ·rw [hn2, List.mem_singleton] at hn
  subst hn
  exact ⟨by simp, fun h => by cases h⟩
 ·subst hn
  exact ⟨by simp [fk_pair], fun _ _ => rfl⟩
theorem vet_late {X : PT} {p p0 p7 lo hi : Nat} {nm nm0 rg rg0 s7 : List UInt8} {k : Nat} {ns : List NR} (hwt : WT [] X .n) (hal : X.allr (999 : Nat)) (hk9 : k ≠ 999) (hk : valueL rg = (k : Int)) (hk0 : valueL rg0 = (k : Int)) (hna : NA [] (.node p0 .new nm0 rg0 [.node p .pair nm rg [X, .num p7 s7]]) 0 ns) (hpo : PosN (.node p0 .new nm0 rg0 [.node p .pair nm rg [X, .num p7 s7]]) ns lo hi) :
  vetAns ns (opn (.node p0 .new nm0 rg0 [.node p .pair nm rg [X, .num p7 s7]]) 0) = (10, p0) := by
 have hpl := pl_late hwt hal hk hk0 hna []
 rw [List.append_nil] at hpl
 have hlen := hna.len
 rw [NA] at hna
 obtain ⟨ks, beh, hks, rfl⟩ := hna
 rw [show bodK .new = [false] from rfl, NAs] at hks
 obtain ⟨a1, c1, hn1, hc1, rfl⟩ := hks
 simp only [NAs] at hc1
 obtain ⟨_, rfl⟩ := hc1
 rw [if_neg (by decide)] at hn1
 have hpn := pair_nodes (k := k) hal hk9 hn1
 rw [List.append_nil] at hpl hlen hpo ⊢
 have hl : a1.length = cntL [PT.node p .pair nm rg [X, .num p7 s7]] := by rw [hn1.len]; simp [cntL]
 obtain ⟨o1, o2⟩ := opNs_root (p := p0) (k := .new) (nm := nm0) (rg := rg0) (N := ⟨formK .new, p0, beh, 0, nm0, valueL rg0, -1, (partsL [PT.node p .pair nm rg [X, .num p7 s7]] 0).getD 0 (-1), (partsL [PT.node p .pair nm rg [X, .num p7 s7]] 0).getD 1 (-1), (partsL [PT.node p .pair nm rg [X, .num p7 s7]] 0).getD 2 (-1)⟩) hl
 have hbh : p0 < p ∧ p < beh := by
  rw [PosN] at hpo
  obtain ⟨ks', n', he, _, _, hq, _, _⟩ := hpo
  have hn' : n' = ⟨formK .new, p0, beh, 0, nm0, valueL rg0, -1, (partsL [PT.node p .pair nm rg [X, .num p7 s7]] 0).getD 0 (-1), (partsL [PT.node p .pair nm rg [X, .num p7 s7]] 0).getD 1 (-1), (partsL [PT.node p .pair nm rg [X, .num p7 s7]] 0).getD 2 (-1)⟩ := by
   have := congrArg List.getLast? he
   simpa using this.symm
  rw [PosNs] at hq
  obtain ⟨a, c, mid, _, hP, hR⟩ := hq
  rw [PosN] at hP
  obtain ⟨_, n2, _, _, h1, _, h2, h3⟩ := hP
  simp only [PosNs] at hR
  rw [hn'] at hR
  simp only at hR
  omega
 unfold vetAns
 rw [o1, newsK_one fk_new (fun n hn => (hpn n (o2 n hn)).1)]
 simp only
 rw [if_neg (by simp), outK_in, if_neg (by simp)]
 ·exact hpl
 ·intro n hn h4 hr
  rcases List.mem_cons.1 hn with rfl | hn
  ·rw [fk_new] at h4; cases h4
  ·simp only at hr ⊢
   rw [hk0] at hr
   have := (hpn n (o2 n hn)).2 h4 hr
   omega
theorem opNs_more (ns more : List NR) (op : List Int) (h : ∀ x ∈ op, 0 ≤ x ∧ x.toNat < ns.length) : opNs (ns ++ more) op = opNs ns op := by
 unfold opNs
 refine List.map_congr_left fun x hx => ?_
 rw [List.getElem?_append_left (h x hx).2]
theorem vet_good {X : PT} {p p0 p1 p7 lo hi : Nat} {nm nm0 nm1 rg rg0 rg1 s7 : List UInt8} {k : Nat} {ns : List NR} (hwt : WT [] X .n) (hal : X.allr (999 : Nat)) (hk9 : k ≠ 999) (hk : valueL rg = (k : Int)) (hk0 : valueL rg0 = (k : Int)) (hna : NA [] (.node p0 .new nm0 rg0 [.node p1 .fst nm1 rg1 [.node p .pair nm rg [X, .num p7 s7]]]) 0 ns) (hpo : PosN (.node p0 .new nm0 rg0 [.node p1 .fst nm1 rg1 [.node p .pair nm rg [X, .num p7 s7]]]) ns lo hi) :
  vetAns ns (opn (.node p0 .new nm0 rg0 [.node p1 .fst nm1 rg1 [.node p .pair nm rg [X, .num p7 s7]]]) 0) = (0, 0) := by
 obtain ⟨A, hpl⟩ := pl_good hwt hal hk hna
 have hpl := hpl.pl
 rw [NA] at hna
 obtain ⟨ks, beh, hks, rfl⟩ := hna
 rw [show bodK .new = [false] from rfl, NAs] at hks
 obtain ⟨b1, c1, hn0, hc1, rfl⟩ := hks
 simp only [NAs] at hc1
 obtain ⟨_, rfl⟩ := hc1
 rw [if_neg (by decide)] at hn0
 rw [List.append_nil] at hpl hpo ⊢
 have hl : b1.length = cntL [PT.node p1 .fst nm1 rg1 [.node p .pair nm rg [X, .num p7 s7]]] := by rw [hn0.len]; simp [cntL]
 have hpn : ∀ n ∈ b1, n.form ≠ 12 ∧ (n.form = 4 → n.region = (k : Int) → n.at_ = p) := by
  rw [NA] at hn0
  obtain ⟨ks, beh1, hks, rfl⟩ := hn0
  rw [show bodK .fst = [false] from rfl, NAs] at hks
  obtain ⟨a1, c1, hn1, hc1, rfl⟩ := hks
  simp only [NAs] at hc1
  obtain ⟨_, rfl⟩ := hc1
  rw [if_neg (by decide)] at hn1
  intro n hn
  rw [List.append_nil] at hn
  rcases List.mem_append.1 hn with hn | hn
  ·exact pair_nodes (k := k) hal hk9 hn1 n hn
  ·rw [List.mem_singleton] at hn
   subst hn
   exact ⟨by simp [show formK .fst = 5 from by decide], fun h => by rw [show formK .fst = 5 from by decide] at h; cases h⟩
 obtain ⟨o1, o2⟩ := opNs_root (p := p0) (k := .new) (nm := nm0) (rg := rg0) (N := ⟨formK .new, p0, beh, 0, nm0, valueL rg0, -1, (partsL [PT.node p1 .fst nm1 rg1 [.node p .pair nm rg [X, .num p7 s7]]] 0).getD 0 (-1), (partsL [PT.node p1 .fst nm1 rg1 [.node p .pair nm rg [X, .num p7 s7]]] 0).getD 1 (-1), (partsL [PT.node p1 .fst nm1 rg1 [.node p .pair nm rg [X, .num p7 s7]]] 0).getD 2 (-1)⟩) hl
 have hbh : p0 < p ∧ p < beh := by
  rw [PosN] at hpo
  obtain ⟨ks', n', he, _, _, hq, _, _⟩ := hpo
  have hn' : n' = ⟨formK .new, p0, beh, 0, nm0, valueL rg0, -1, (partsL [PT.node p1 .fst nm1 rg1 [.node p .pair nm rg [X, .num p7 s7]]] 0).getD 0 (-1), (partsL [PT.node p1 .fst nm1 rg1 [.node p .pair nm rg [X, .num p7 s7]]] 0).getD 1 (-1), (partsL [PT.node p1 .fst nm1 rg1 [.node p .pair nm rg [X, .num p7 s7]]] 0).getD 2 (-1)⟩ := by
   have := congrArg List.getLast? he
   simpa using this.symm
  rw [PosNs] at hq
  obtain ⟨a, c, mid, _, hP, hR⟩ := hq
  rw [PosN] at hP
  obtain ⟨_, n2, _, _, h1, hq2, h2, h3⟩ := hP
  rw [PosNs] at hq2
  obtain ⟨a', c', mid', _, hP2, hR2⟩ := hq2
  rw [PosN] at hP2
  obtain ⟨_, n3, _, _, g1, _, g2, g3⟩ := hP2
  simp only [PosNs] at hR hR2
  rw [hn'] at hR
  simp only at hR
  omega
 unfold vetAns
 rw [o1, newsK_one fk_new (fun n hn => (hpn n (o2 n hn)).1)]
 simp only
 rw [if_neg (by simp), outK_in, if_neg (by simp)]
 ·exact hpl
 ·intro n hn h4 hr
  rcases List.mem_cons.1 hn with rfl | hn
  ·rw [fk_new] at h4; cases h4
  ·simp only at hr ⊢
   rw [hk0] at hr
   have := (hpn n (o2 n hn)).2 h4 hr
   omega
theorem vet_bad {X : PT} {p p0 p1 p7 lo hi : Nat} {nm nm0 nm1 rg rg0 rg1 s7 : List UInt8} {k : Nat} {ns : List NR} (hwt : WT [] X .n) (hal : X.allr (999 : Nat)) (hk9 : k ≠ 999) (hk : valueL rg = (k : Int)) (hk0 : valueL rg0 = (k : Int)) (hna : NA [] (.node p1 .fst nm1 rg1 [.node p0 .new nm0 rg0 [.node p .pair nm rg [X, .num p7 s7]]]) 0 ns) (hpo : PosN (.node p1 .fst nm1 rg1 [.node p0 .new nm0 rg0 [.node p .pair nm rg [X, .num p7 s7]]]) ns lo hi) :
  vetAns ns (opn (.node p1 .fst nm1 rg1 [.node p0 .new nm0 rg0 [.node p .pair nm rg [X, .num p7 s7]]]) 0) = (10, p0) := by
 have hpl := pl_bad hwt hal hk hk0 hna
 rw [NA] at hna
 obtain ⟨ks, behF, hks, rfl⟩ := hna
 rw [show bodK .fst = [false] from rfl, NAs] at hks
 obtain ⟨b1, c1, hn0, hc1, rfl⟩ := hks
 simp only [NAs] at hc1
 obtain ⟨_, rfl⟩ := hc1
 rw [if_neg (by decide)] at hn0
 rw [List.append_nil] at hpl hpo ⊢
 have hl : b1.length = cntL [PT.node p0 .new nm0 rg0 [.node p .pair nm rg [X, .num p7 s7]]] := by rw [hn0.len]; simp [cntL]
 have hlN : b1.length = (PT.node p0 .new nm0 rg0 [.node p .pair nm rg [X, .num p7 s7]]).cnt := hn0.len
 generalize hF : (⟨formK .fst, p1, behF, 0, nm1, valueL rg1, -1, (partsL [PT.node p0 .new nm0 rg0 [.node p .pair nm rg [X, .num p7 s7]]] 0).getD 0 (-1), (partsL [PT.node p0 .new nm0 rg0 [.node p .pair nm rg [X, .num p7 s7]]] 0).getD 1 (-1), (partsL [PT.node p0 .new nm0 rg0 [.node p .pair nm rg [X, .num p7 s7]]] 0).getD 2 (-1)⟩ : NR) = F at hpl hpo ⊢
 have hF5 : F.form = 5 := by rw [← hF]; exact (show formK .fst = 5 from by decide)
 obtain ⟨o1, _⟩ := opNs_root (p := p1) (k := .fst) (nm := nm1) (rg := rg1) (N := F) hl
 have o3 : opNs (b1 ++ [F]) (opnL [PT.node p0 .new nm0 rg0 [.node p .pair nm rg [X, .num p7 s7]]] 0) = opNs b1 (opn (PT.node p0 .new nm0 rg0 [.node p .pair nm rg [X, .num p7 s7]]) 0) := by
  rw [show opnL [PT.node p0 .new nm0 rg0 [.node p .pair nm rg [X, .num p7 s7]]] 0 = opn (PT.node p0 .new nm0 rg0 [.node p .pair nm rg [X, .num p7 s7]]) 0 from by simp [opnL]]
  refine opNs_more _ _ _ fun x hx => ?_
  obtain ⟨h0, h1⟩ := opn_in _ 0 x hx
  rw [hlN]
  omega
 rw [NA] at hn0
 obtain ⟨ks, beh, hks, rfl⟩ := hn0
 rw [show bodK .new = [false] from rfl, NAs] at hks
 obtain ⟨a1, c1, hn1, hc1, rfl⟩ := hks
 simp only [NAs] at hc1
 obtain ⟨_, rfl⟩ := hc1
 rw [if_neg (by decide)] at hn1
 rw [List.append_nil] at hpl hpo o1 o3 ⊢
 have hpn := pair_nodes (k := k) hal hk9 hn1
 have hl1 : a1.length = cntL [PT.node p .pair nm rg [X, .num p7 s7]] := by rw [hn1.len]; simp [cntL]
 generalize hN : (⟨formK .new, p0, beh, 0, nm0, valueL rg0, -1, (partsL [PT.node p .pair nm rg [X, .num p7 s7]] 0).getD 0 (-1), (partsL [PT.node p .pair nm rg [X, .num p7 s7]] 0).getD 1 (-1), (partsL [PT.node p .pair nm rg [X, .num p7 s7]] 0).getD 2 (-1)⟩ : NR) = N at hpl hpo o1 o3 ⊢
 have hN12 : N.form = 12 := by rw [← hN]; exact fk_new
 have hNr : N.region = (k : Int) := by rw [← hN]; exact hk0
 have hNa : N.at_ = p0 := by rw [← hN]
 obtain ⟨q1, q2⟩ := opNs_root (p := p0) (k := .new) (nm := nm0) (rg := rg0) (N := N) hl1
 have hbh : p0 < p ∧ p < N.beh := by
  rw [PosN] at hpo
  obtain ⟨ks', n', he, _, _, hq, _, _⟩ := hpo
  obtain ⟨e1, e2⟩ := List.append_inj' he rfl
  rw [PosNs] at hq
  obtain ⟨a, c, mid, hac, hP, hR⟩ := hq
  simp only [PosNs] at hR
  rw [hR.1, List.append_nil] at hac
  rw [PosN] at hP
  obtain ⟨ks2, n2, hk2, _, h1, hq2, h2, h3⟩ := hP
  have hn2 : n2 = N := by
   have : a1 ++ [N] = ks2 ++ [n2] := by rw [e1, hac, hk2]
   have := (List.append_inj' this rfl).2
   simpa using this.symm
  rw [PosNs] at hq2
  obtain ⟨a', c', mid', _, hP2, hR2⟩ := hq2
  rw [PosN] at hP2
  obtain ⟨_, n3, _, _, g1, _, g2, g3⟩ := hP2
  simp only [PosNs] at hR2
  rw [hn2] at hR2
  omega
 unfold vetAns
 rw [o1, o3, q1, newsK_skip (by rw [hF5]; decide), newsK_one hN12 (fun n hn => (hpn n (q2 n hn)).1)]
 simp only
 rw [if_neg (by simp), outK_in, if_neg (by simp)]
 ·exact hpl
 ·intro n hn h4 hr
  rcases List.mem_cons.1 hn with rfl | hn
  ·rw [hF5] at h4; cases h4
  ·rcases List.mem_cons.1 hn with rfl | hn
   ·rw [hN12] at h4; cases h4
   ·rw [hNr] at hr
    have := (hpn n (q2 n hn)).2 h4 hr
    omega
end Go.Proofs.YtpicaknklgccoabGreatDoor
namespace Go.Proofs.YtpicaknklgccoabGreatDoor
open Go.RowKit
theorem leaseVet_ans (s : ByteArray) (hs : s.size ≤ 9000) (e : PT) (hp : PE true (tokens s.data.toList) e []) (hc : chkAns e = (0, 0)) (ans : Nat × Nat) (hva : ∀ ns lo hi, NA [] e 0 ns → PosN e ns lo hi → vetAns ns (opn e 0) = ans) :
  ∀ w, Calls Tryz.prog 12 #[.string s] w fun v w' => v = .returned (.tuple #[.int .i64 ans.1, .int .i64 ans.2]) ∧ Below w.heap.size w w' := by
 intro w
 have h3 := (hp.rg3 (tokens_rg _)).1
 have hcnt := Study_len hp
 have hc1 : (chkAns e).1 = 0 := by rw [hc]
 have hprs : e.prs ≤ 100 := by
  unfold chkAns at hc1
  split at hc1
  ·simp at hc1
  ·omega
 have h0 : (tyFind (clsOf e) e 0 0 [] (st0 e)).2.e = 0 := (cls_ansV e hprs).1.trans hc1
 refine leaseVet_ok s w e (chkAns e).2 ans (fun w => ?_) (fun w' x1 n1 c1 x2 n2 c2 ns hTr hna => ?_)
 ·have := readPlaced_pos s w hs e hp
  rw [hc1] at this
  exact this
 ·obtain ⟨hsz, _⟩ := lab_root e ns hna.1 h3 h0
  rw [← hva ns _ _ hna.1 hna.2]
  exact vetProgram_any w' _ _ ns (opn e 0) hTr (op_ok hna.1) (by have := hna.1.len; omega) (hna.1.small (fun _ h => by simp at h) (by omega)) (hna.1.rgn h3) hsz
end Go.Proofs.YtpicaknklgccoabGreatDoor
namespace Go.Proofs.YtpicaknklgccoabGreatDoor
theorem node_place {placed : Bool} {t : Tk} {l r : List Tk} {p : Nat} {k : Kw} {nm rg : List UInt8} {kids : List PT} (h : PE placed (t :: l) (.node p k nm rg kids) r) : p = t.at_ := by
 cases h; rfl
theorem late_place {placed : Bool} {R : List UInt8} {r : List Tk} {p : Nat} {k : Kw} {nm rg : List UInt8} {kids : List PT} (h : PE placed (tokens (40 :: R)) (.node p k nm rg kids) r) : p = 0 := by
 unfold tokens at h
 rw [List.length_cons, toks_tok _ _ _ _ (by decide)] at h
 exact node_place h
theorem tokens_bad (R : List UInt8) : ∃ t u v l, tokens (40 :: 102 :: 115 :: 116 :: 32 :: 40 :: R) = t :: u :: v :: l ∧ v.at_ = 5 := by
 unfold tokens
 have e1 : tokenOf (40 :: 102 :: 115 :: 116 :: 32 :: 40 :: R) = (1, .opn) := by simp [tokenOf, run, inB]
 have e2 : (tokenOf (102 :: 115 :: 116 :: 32 :: 40 :: R)).1 = 3 := by
  simp [tokenOf, run, inB]
 simp only [List.length_cons]
 rw [toks_tok _ _ _ _ (by decide), e1]
 simp only [List.drop_succ_cons, List.drop_zero]
 rw [toks_tok _ _ _ _ (by decide), e2]
 simp only [List.drop_succ_cons, List.drop_zero]
 rw [toks_blank _ _ _ _ (by decide), toks_tok _ _ _ _ (by decide)]
 exact ⟨_, _, _, _, rfl, rfl⟩
theorem bad_place {R : List UInt8} {r : List Tk} {p p0 : Nat} {k : Kw} {nm rg nm0 rg0 : List UInt8} {kids : List PT} (h : PE true (tokens (40 :: 102 :: 115 :: 116 :: 32 :: 40 :: R)) (.node p .fst nm rg [.node p0 k nm0 rg0 kids]) r) : p0 = 5 := by
 obtain ⟨t, u, v, l, ht, hv⟩ := tokens_bad R
 rw [ht] at h
 cases h with
 | node _ _ _ hw =>
  rw [show wantsK .fst true = [.e, .close] from rfl] at hw
  cases hw with
  | e he _ => rw [node_place he, hv]
theorem np_node {e : PT} {k : Kw} {nm rg : List UInt8} {ks : List PT} (h : e.np = .node 0 k nm rg ks) : ∃ p kids, e = .node p k nm rg kids ∧ npL kids = ks := by
 cases e with
 | num p s => simp [PT.np] at h
 | name p s => simp [PT.np] at h
 | node p k' nm' rg' kids =>
  simp only [PT.np, PT.node.injEq, true_and] at h
  obtain ⟨rfl, rfl, rfl, h⟩ := h
  exact ⟨p, kids, rfl, h⟩
theorem np_num {e : PT} {s : List UInt8} (h : e.np = .num 0 s) : ∃ p, e = .num p s := by
 cases e with
 | num p s' => simp only [PT.np, PT.num.injEq, true_and] at h; subst h; exact ⟨p, rfl⟩
 | name p s => simp [PT.np] at h
 | node p k nm rg kids => simp [PT.np] at h
theorem npL_one {l : List PT} {a : PT} (h : npL l = [a]) : ∃ x, l = [x] ∧ x.np = a := by
 match l, h with
 | [], h => simp [npL] at h
 | [x], h => simp only [npL, List.cons.injEq, and_true] at h; exact ⟨x, rfl, h⟩
 | _ :: _ :: _, h => simp [npL] at h
theorem npL_two {l : List PT} {a b : PT} (h : npL l = [a, b]) : ∃ x y, l = [x, y] ∧ x.np = a ∧ y.np = b := by
 match l, h with
 | [], h => simp [npL] at h
 | [_], h => simp [npL] at h
 | [x, y], h => simp only [npL, List.cons.injEq, and_true] at h; exact ⟨x, y, rfl, h.1, h.2⟩
 | _ :: _ :: _ :: _, h => simp [npL] at h
def deadP (X : PT) (rk : List UInt8) : PT := .node 0 .pair [] rk [X, .num 0 [55]]
theorem np_pair {e X : PT} {rk : List UInt8} (h : e.np = deadP X rk) : ∃ p p7 X', e = .node p .pair [] rk [X', .num p7 [55]] ∧ X'.np = X := by
 obtain ⟨p, kids, rfl, hk⟩ := np_node h
 obtain ⟨x, y, rfl, hx, hy⟩ := npL_two hk
 obtain ⟨p7, rfl⟩ := np_num hy
 exact ⟨p, p7, x, rfl, hx⟩
theorem np_late {e X : PT} {rk : List UInt8} (h : e.np = .node 0 .new [] rk [deadP X rk]) : ∃ p0 p p7 X', e = .node p0 .new [] rk [.node p .pair [] rk [X', .num p7 [55]]] ∧ X'.np = X := by
 obtain ⟨p0, kids, rfl, hk⟩ := np_node h
 obtain ⟨x, rfl, hx⟩ := npL_one hk
 obtain ⟨p, p7, X', rfl, hX⟩ := np_pair hx
 exact ⟨p0, p, p7, X', rfl, hX⟩
theorem np_bad {e X : PT} {rk : List UInt8} (h : e.np = .node 0 .fst [] [] [.node 0 .new [] rk [deadP X rk]]) : ∃ p1 p0 p p7 X', e = .node p1 .fst [] [] [.node p0 .new [] rk [.node p .pair [] rk [X', .num p7 [55]]]] ∧ X'.np = X := by
 obtain ⟨p1, kids, rfl, hk⟩ := np_node h
 obtain ⟨x, rfl, hx⟩ := npL_one hk
 obtain ⟨p0, p, p7, X', rfl, hX⟩ := np_late hx
 exact ⟨p1, p0, p, p7, X', rfl, hX⟩
theorem np_good {e X : PT} {rk : List UInt8} (h : e.np = .node 0 .new [] rk [.node 0 .fst [] [] [deadP X rk]]) : ∃ p0 p1 p p7 X', e = .node p0 .new [] rk [.node p1 .fst [] [] [.node p .pair [] rk [X', .num p7 [55]]]] ∧ X'.np = X := by
 obtain ⟨p0, kids, rfl, hk⟩ := np_node h
 obtain ⟨x, rfl, hx⟩ := npL_one hk
 obtain ⟨p1, kids2, rfl, hk2⟩ := np_node hx
 obtain ⟨x2, rfl, hx2⟩ := npL_one hk2
 obtain ⟨p, p7, X', rfl, hX⟩ := np_pair hx2
 exact ⟨p0, p1, p, p7, X', rfl, hX⟩
mutual
theorem np_allrD {r : Int} : ∀ e : PT, e.np.allr r → e.allr r
 | .num _ _, _ => by simp [PT.allr]
 | .name _ _, _ => by simp [PT.allr]
 | .node _ k nm rg kids, h => by
  simp only [PT.np, PT.allr] at h ⊢
  exact ⟨h.1, h.2.1, npL_allrD kids h.2.2⟩
theorem npL_allrD {r : Int} : ∀ l : List PT, allrL r (npL l) → allrL r l
 | [], _ => by simp [allrL]
 | t :: ts, h => by
  simp only [npL, allrL] at h ⊢
  exact ⟨np_allrD t h.1, npL_allrD ts h.2⟩
end
mutual
theorem nonew_allrD {r : Int} : ∀ e : PT, e.allr r → NoNew e
 | .num _ _, _ => .num
 | .name _ _, _ => .name
 | .node _ k nm rg kids, h => by
  simp only [PT.allr] at h
  exact .node h.1 (nonewL_allrD kids h.2.2)
theorem nonewL_allrD {r : Int} : ∀ l : List PT, allrL r l → ∀ x ∈ l, NoNew x
 | [], _, x, hx => by simp at hx
 | t :: ts, h, x, hx => by
  simp only [allrL] at h
  rcases List.mem_cons.1 hx with hx | hx
  ·rw [hx]; exact nonew_allrD t h.1
  ·exact nonewL_allrD ts h.2 x hx
end
theorem wt_pair {X : PT} {p p7 : Nat} {nm rg s7 : List UInt8} (h : WT [] X .n) : WT [] (.node p .pair nm rg [X, .num p7 s7]) (.p 0 .n .n) := .pair h .num (by simp [Ty.size])
theorem ok_pair {X : PT} {rk : List UInt8} (h : X.ok true) (hr : ∃ d, rk = 35 :: d ∧ GoodD d 3) (h7 : GoodD [55] 4) : (deadP X rk).ok true := by
 simp [deadP, PT.ok, okL, wantsK, arity, h, hr, h7]
theorem ok_late {X : PT} {rk : List UInt8} (h : X.ok true) (hr : ∃ d, rk = 35 :: d ∧ GoodD d 3) (h7 : GoodD [55] 4) : (PT.node 0 .new [] rk [deadP X rk]).ok true := by
 simp [PT.ok, okL, wantsK, arity, ok_pair h hr h7, hr]
theorem ok_bad {X : PT} {rk : List UInt8} (h : X.ok true) (hr : ∃ d, rk = 35 :: d ∧ GoodD d 3) (h7 : GoodD [55] 4) : (PT.node 0 .fst [] [] [.node 0 .new [] rk [deadP X rk]]).ok true := by
 rw [PT.ok]
 simp [okL, wantsK, arity, ok_late h hr h7]
theorem ok_good {X : PT} {rk : List UInt8} (h : X.ok true) (hr : ∃ d, rk = 35 :: d ∧ GoodD d 3) (h7 : GoodD [55] 4) : (PT.node 0 .new [] rk [.node 0 .fst [] [] [deadP X rk]]).ok true := by
 simp [PT.ok, okL, wantsK, arity, ok_pair h hr h7, hr]
end Go.Proofs.YtpicaknklgccoabGreatDoor
namespace Go.Proofs.YtpicaknklgccoabGreatDoor
open Go.RowKit
open Go.Lib (decDigits)
theorem pt_allrD {rg : List UInt8} {r : Int} (hr : valueL rg = r) : ∀ {vs : List Nat} {x : KE} {t : Nat}, KT vs x t → (x.pt rg).allr r := by
 intro vs x t h
 induction h with
 | num _ => simp [KE.pt, PT.allr]
 | var _ => simp [KE.pt, PT.allr]
 | let_ _ _ _ _ ha hb => simp [KE.pt, PT.allr, allrL, ha, hb]
 | if_ _ _ _ ha hb hc => simp [KE.pt, PT.allr, allrL, ha, hb, hc]
 | loop _ _ _ _ ha hb hc => simp [KE.pt, PT.allr, allrL, ha, hb, hc]
 | pair _ _ _ _ ha hb => simp [KE.pt, PT.allr, allrL, ha, hb, hr]
 | fst _ _ _ ha => simp [KE.pt, PT.allr, allrL, ha]
 | snd _ _ _ ha => simp [KE.pt, PT.allr, allrL, ha]
 | two hk _ _ ha hb => rcases hk with rfl | rfl | rfl <;> simp [KE.pt, PT.allr, allrL, ha, hb]
structure DeadX (X : PT) : Prop where
 ok : X.ok true
 np : X.np = X
 wt : WT [] X .n
 al : X.allr (999 : Nat)
 prs : X.prs ≤ 75
theorem dead_late {X : PT} {rk : List UInt8} {k : Nat} (h : DeadX X) (hr : ∃ d, rk = 35 :: d ∧ GoodD d 3) (h7 : GoodD [55] 4) (hk : valueL rk = (k : Int)) (hk9 : k ≠ 999) (s : ByteArray) (hs : s.size ≤ 9000) (hd : s.data.toList = (PT.node 0 .new [] rk [deadP X rk]).tidy) :
  ∀ w, Calls Tryz.prog 12 #[.string s] w fun v w' => v = .returned (.tuple #[.int .i64 (10 : Nat), .int .i64 (0 : Nat)]) ∧ Below w.heap.size w w' := by
 obtain ⟨e, he, hnp⟩ := tidy_PE _ (ok_late h.ok hr h7)
 have hn : (PT.node 0 .new [] rk [deadP X rk]).np = PT.node 0 .new [] rk [deadP X rk] := by simp [PT.np, npL, deadP, h.np]
 rw [hn] at hnp
 obtain ⟨p0, p, p7, X', rfl, hX⟩ := np_late hnp
 have hwt : WT [] X' .n := np_WT X' (by rw [hX]; exact h.wt)
 have hal : X'.allr (999 : Nat) := np_allrD X' (by rw [hX]; exact h.al)
 have hp0 : p0 = 0 := by
  have : (PT.node 0 .new [] rk [deadP X rk]).tidy = 40 :: (PT.node 0 .new [] rk [deadP X rk]).tidy.tail := by simp [PT.tidy]
  rw [this] at he
  exact late_place he
 have hprs : (PT.node p0 .new [] rk [.node p .pair [] rk [X', .num p7 [55]]]).prs ≤ 100 := by
  have := h.prs
  rw [← hX, np_prs] at this
  simp [PT.prs, prsL]; omega
 rw [← hd] at he
 have hchk := chk_ok (T := .p 0 .n .n) (WT.new (wt_pair hwt)) hprs
 exact leaseVet_ans s hs _ he hchk (10, 0) (fun ns lo hi hna hpo => by rw [vet_late hwt hal hk9 hk hk hna hpo, hp0])
end Go.Proofs.YtpicaknklgccoabGreatDoor
namespace Go.Proofs.YtpicaknklgccoabGreatDoor
open Go.RowKit
theorem dead_bad {X : PT} {rk : List UInt8} {k : Nat} (h : DeadX X) (hr : ∃ d, rk = 35 :: d ∧ GoodD d 3) (h7 : GoodD [55] 4) (hk : valueL rk = (k : Int)) (hk9 : k ≠ 999) (s : ByteArray) (hs : s.size ≤ 9000) (hd : s.data.toList = (PT.node 0 .fst [] [] [.node 0 .new [] rk [deadP X rk]]).tidy) :
  ∀ w, Calls Tryz.prog 12 #[.string s] w fun v w' => v = .returned (.tuple #[.int .i64 (10 : Nat), .int .i64 (5 : Nat)]) ∧ Below w.heap.size w w' := by
 obtain ⟨e, he, hnp⟩ := tidy_PE _ (ok_bad h.ok hr h7)
 have hn : (PT.node 0 .fst [] [] [.node 0 .new [] rk [deadP X rk]]).np = PT.node 0 .fst [] [] [.node 0 .new [] rk [deadP X rk]] := by simp [PT.np, npL, deadP, h.np]
 rw [hn] at hnp
 obtain ⟨p1, p0, p, p7, X', rfl, hX⟩ := np_bad hnp
 have hwt : WT [] X' .n := np_WT X' (by rw [hX]; exact h.wt)
 have hal : X'.allr (999 : Nat) := np_allrD X' (by rw [hX]; exact h.al)
 have hp0 : p0 = 5 := by
  have : (PT.node 0 .fst [] [] [.node 0 .new [] rk [deadP X rk]]).tidy = 40 :: 102 :: 115 :: 116 :: 32 :: 40 :: (PT.node 0 .fst [] [] [.node 0 .new [] rk [deadP X rk]]).tidy.tail.tail.tail.tail.tail.tail := by simp [PT.tidy, tidyL, joinT, pieceT, regT, Kw.bytes]
  rw [this] at he
  exact bad_place he
 have hprs : (PT.node p1 .fst [] [] [.node p0 .new [] rk [.node p .pair [] rk [X', .num p7 [55]]]]).prs ≤ 100 := by
  have := h.prs
  rw [← hX, np_prs] at this
  simp [PT.prs, prsL]; omega
 rw [← hd] at he
 have hchk := chk_ok (T := .n) (WT.fst (WT.new (wt_pair hwt))) hprs
 exact leaseVet_ans s hs _ he hchk (10, 5) (fun ns lo hi hna hpo => by rw [vet_bad hwt hal hk9 hk hk hna hpo, hp0])
theorem dead_good {X : PT} {rk : List UInt8} {k : Nat} (h : DeadX X) (hr : ∃ d, rk = 35 :: d ∧ GoodD d 3) (h7 : GoodD [55] 4) (hk : valueL rk = (k : Int)) (hk9 : k ≠ 999) (s : ByteArray) (hs : s.size ≤ 9000) (hd : s.data.toList = (PT.node 0 .new [] rk [.node 0 .fst [] [] [deadP X rk]]).tidy) :
  ∀ w, Calls Tryz.prog 12 #[.string s] w fun v w' => v = .returned (.tuple #[.int .i64 (0 : Nat), .int .i64 (0 : Nat)]) ∧ Below w.heap.size w w' := by
 obtain ⟨e, he, hnp⟩ := tidy_PE _ (ok_good h.ok hr h7)
 have hn : (PT.node 0 .new [] rk [.node 0 .fst [] [] [deadP X rk]]).np = PT.node 0 .new [] rk [.node 0 .fst [] [] [deadP X rk]] := by simp [PT.np, npL, deadP, h.np]
 rw [hn] at hnp
 obtain ⟨p0, p1, p, p7, X', rfl, hX⟩ := np_good hnp
 have hwt : WT [] X' .n := np_WT X' (by rw [hX]; exact h.wt)
 have hal : X'.allr (999 : Nat) := np_allrD X' (by rw [hX]; exact h.al)
 have hprs : (PT.node p0 .new [] rk [.node p1 .fst [] [] [.node p .pair [] rk [X', .num p7 [55]]]]).prs ≤ 100 := by
  have := h.prs
  rw [← hX, np_prs] at this
  simp [PT.prs, prsL]; omega
 rw [← hd] at he
 have hchk := chk_ok (T := .n) (WT.new (WT.fst (wt_pair hwt))) hprs
 exact leaseVet_ans s hs _ he hchk (0, 0) (fun ns lo hi hna hpo => vet_good hwt hal hk9 hk hk hna hpo)
def zero5 : Value := .agg #[.string ⟨#[]⟩, .int .i64 0, .int .i64 0, .int .i64 0, .int .i64 0]
theorem runV_zero {m : MM} {X : Vl} (h : m.fault ≠ 0) : runV m X = zero5 := by unfold runV; rw [if_pos h]; rfl
theorem ev_np {X X' : PT} (h : X'.np = X) (F : Nat) (env : VEnv) (st : ESt) : ev F X' env st = ev F X env st := by rw [← np_ev, h]
theorem dead_run_late {X : PT} {rk : List UInt8} {k : Nat} (h : DeadX X) (hr : ∃ d, rk = 35 :: d ∧ GoodD d 3) (h7 : GoodD [55] 4) (hk : valueL rk = (k : Int)) (hk9 : k ≠ 999) (s : ByteArray) (hs : s.size ≤ 9000) (hd : s.data.toList = (PT.node 0 .new [] rk [deadP X rk]).tidy) :
  ∃ E : Nat, (E = 12 ∨ E = 13) ∧ ((ev 19997 X [] ⟨0, 0, 0⟩).2.e = 0 → E = 13) ∧ ∀ w, Lib.TabIs Tryz.prog w "internal/strconv.uint64pow10" .u64 Lib.pow10Tab → Calls Tryz.prog 13 #[.string s, .int .i64 (20000 : Nat)] w fun v w' => v = .returned (.tuple #[zero5, .int .i64 E]) ∧ Below w.heap.size w w' := by
 obtain ⟨e, he, hnp⟩ := tidy_PE _ (ok_late h.ok hr h7)
 have hn : (PT.node 0 .new [] rk [deadP X rk]).np = PT.node 0 .new [] rk [deadP X rk] := by simp [PT.np, npL, deadP, h.np]
 rw [hn] at hnp
 obtain ⟨p0, p, p7, X', rfl, hX⟩ := np_late hnp
 have hwt : WT [] X' .n := np_WT X' (by rw [hX]; exact h.wt)
 have hal : X'.allr (999 : Nat) := np_allrD X' (by rw [hX]; exact h.al)
 have hprs : (PT.node p0 .new [] rk [.node p .pair [] rk [X', .num p7 [55]]]).prs ≤ 100 := by
  have := h.prs
  rw [← hX, np_prs] at this
  simp [PT.prs, prsL]; omega
 rw [← hd] at he
 have hw := WT.new (p := p0) (nm := []) (rg := rk) (wt_pair (p := p) (p7 := p7) (nm := []) (rg := rk) (s7 := [55]) hwt)
 have hchk := chk_ok hw hprs
 have hrg := rgdO_of _ (he.tame (tokens_tame _)).1 (he.rg3 (tokens_rg _)).1
 have hrX : X'.rgd := by simp only [PT.rgd, rgdL] at hrg; exact hrg.2.1.2.1
 obtain ⟨Y, hY, hYs⟩ := mach_rep 20000 _ hw (by simp [Ty.size]) hrg (Nat.le_refl _)
 have hrun := leaseRun_mach s hs _ he hchk 20000 (by omega) Y hY hYs
 have hL := late_run 20000 (PT.node p0 .new [] rk [.node p .pair [] rk [X', .num p7 [55]]]).cnt (p := p) (p0 := p0) (p7 := p7) (nm := []) (nm0 := []) hwt (nonew_allrD X' hal) hal hrX hk hk (by omega) (show valueL [55] = 7 by decide) (by simp only [PT.cnt, cntL]; omega)
 generalize mW 20000 (.node p0 .new [] rk [.node p .pair [] rk [X', .num p7 [55]]]) [] 0 ((m0 (PT.node p0 .new [] rk [.node p .pair [] rk [X', .num p7 [55]]]).cnt).opn (-1)) = x at hL hY hrun
 rcases hL with hL | ⟨hB, hw⟩
 ·have hf := hL Y hY
  rw [hf, runV_zero (by rw [hf]; decide)] at hrun
  exact ⟨13, Or.inr rfl, fun _ => rfl, hrun⟩
 ·rw [text_keep Y x.1 x.2 (by rw [hB]; decide), runV_zero (by rw [hB]; decide), hB] at hrun
  refine ⟨12, Or.inl rfl, fun hE => ?_, hrun⟩
  exfalso
  obtain ⟨_, g1, g2⟩ := (dead_fuel X).1 hE
  rw [ev_np hX, g1] at hw
  simp only [shx, sh] at hw
  rcases hw with hw | hw | hw
  ·omega
  ·rw [hE] at hw; cases hw
  ·omega
theorem dead_run_bad {X : PT} {rk : List UInt8} {k : Nat} (h : DeadX X) (hr : ∃ d, rk = 35 :: d ∧ GoodD d 3) (h7 : GoodD [55] 4) (hk : valueL rk = (k : Int)) (hk9 : k ≠ 999) (s : ByteArray) (hs : s.size ≤ 9000) (hd : s.data.toList = (PT.node 0 .fst [] [] [.node 0 .new [] rk [deadP X rk]]).tidy) :
  ∃ E : Nat, (E = 12 ∨ E = 13) ∧ ((ev 19997 X [] ⟨0, 0, 0⟩).2.e = 0 → E = 13) ∧ ∀ w, Lib.TabIs Tryz.prog w "internal/strconv.uint64pow10" .u64 Lib.pow10Tab → Calls Tryz.prog 13 #[.string s, .int .i64 (20000 : Nat)] w fun v w' => v = .returned (.tuple #[zero5, .int .i64 E]) ∧ Below w.heap.size w w' := by
 obtain ⟨e, he, hnp⟩ := tidy_PE _ (ok_bad h.ok hr h7)
 have hn : (PT.node 0 .fst [] [] [.node 0 .new [] rk [deadP X rk]]).np = PT.node 0 .fst [] [] [.node 0 .new [] rk [deadP X rk]] := by simp [PT.np, npL, deadP, h.np]
 rw [hn] at hnp
 obtain ⟨p1, p0, p, p7, X', rfl, hX⟩ := np_bad hnp
 have hwt : WT [] X' .n := np_WT X' (by rw [hX]; exact h.wt)
 have hal : X'.allr (999 : Nat) := np_allrD X' (by rw [hX]; exact h.al)
 have hprs : (PT.node p1 .fst [] [] [.node p0 .new [] rk [.node p .pair [] rk [X', .num p7 [55]]]]).prs ≤ 100 := by
  have := h.prs
  rw [← hX, np_prs] at this
  simp [PT.prs, prsL]; omega
 rw [← hd] at he
 have hw := WT.fst (p := p1) (nm := []) (rg := []) (WT.new (p := p0) (nm := []) (rg := rk) (wt_pair (p := p) (p7 := p7) (nm := []) (rg := rk) (s7 := [55]) hwt))
 have hchk := chk_ok hw hprs
 have hrg := rgdO_of _ (he.tame (tokens_tame _)).1 (he.rg3 (tokens_rg _)).1
 have hrX : X'.rgd := by simp only [PT.rgd, rgdL] at hrg; exact hrg.2.1.2.1.2.1
 obtain ⟨Y, hY, hYs⟩ := mach_rep 20000 _ hw (by simp [Ty.size]) hrg (Nat.le_refl _)
 have hrun := leaseRun_mach s hs _ he hchk 20000 (by omega) Y hY hYs
 have hB := bad_run 20000 (PT.node p1 .fst [] [] [.node p0 .new [] rk [.node p .pair [] rk [X', .num p7 [55]]]]).cnt (by omega) (p := p) (p0 := p0) (p1 := p1) (p7 := p7) (nm := []) (nm0 := []) (nm1 := []) (rg1 := []) hwt (nonew_allrD X' hal) hal hrX hk hk (by omega) (show valueL [55] = 7 by decide) (by simp only [PT.cnt, cntL]; omega)
 generalize mW 20000 (.node p1 .fst [] [] [.node p0 .new [] rk [.node p .pair [] rk [X', .num p7 [55]]]]) [] 0 ((m0 (PT.node p1 .fst [] [] [.node p0 .new [] rk [.node p .pair [] rk [X', .num p7 [55]]]]).cnt).opn (-1)) = x at hB hrun
 rcases hB with hB | ⟨hB, hw⟩
 ·rw [text_keep Y x.1 x.2 (by rw [hB]; decide), runV_zero (by rw [hB]; decide), hB] at hrun
  exact ⟨13, Or.inr rfl, fun _ => rfl, hrun⟩
 ·rw [text_keep Y x.1 x.2 (by rw [hB]; decide), runV_zero (by rw [hB]; decide), hB] at hrun
  refine ⟨12, Or.inl rfl, fun hE => ?_, hrun⟩
  exfalso
  obtain ⟨g1, _, g2⟩ := (dead_fuel X).1 hE
  rw [ev_np hX, g1] at hw
  simp only [shx, sh] at hw
  rcases hw with hw | hw | hw
  ·omega
  ·rw [hE] at hw; cases hw
  ·omega
theorem dead_run_good {X : PT} {rk : List UInt8} {k : Nat} (h : DeadX X) (hr : ∃ d, rk = 35 :: d ∧ GoodD d 3) (h7 : GoodD [55] 4) (hk : valueL rk = (k : Int)) (hk9 : k ≠ 999) (s : ByteArray) (hs : s.size ≤ 9000) (hd : s.data.toList = (PT.node 0 .new [] rk [.node 0 .fst [] [] [deadP X rk]]).tidy) :
  ∃ (E : Nat) (v : Value), ((ev 19997 X [] ⟨0, 0, 0⟩).2.e ≠ 0 → E = 12 ∧ v = zero5) ∧
   ((ev 19997 X [] ⟨0, 0, 0⟩).2.e = 0 → E = 0 ∧ ∃ st : Int, v = .agg #[.string (bs (ev 19997 X [] ⟨0, 0, 0⟩).1.txt), .int .i64 st, .int .i64 ((ev 19997 X [] ⟨0, 0, 0⟩).2.cells + 1 : Nat), .int .i64 (((ev 19997 X [] ⟨0, 0, 0⟩).2.cells : Int) + 1), .int .i64 ((ev 19997 X [] ⟨0, 0, 0⟩).2.cells : Int)]) ∧
   ∀ w, Lib.TabIs Tryz.prog w "internal/strconv.uint64pow10" .u64 Lib.pow10Tab → Calls Tryz.prog 13 #[.string s, .int .i64 (20000 : Nat)] w fun r w' => r = .returned (.tuple #[v, .int .i64 E]) ∧ Below w.heap.size w w' := by
 obtain ⟨e, he, hnp⟩ := tidy_PE _ (ok_good h.ok hr h7)
 have hn : (PT.node 0 .new [] rk [.node 0 .fst [] [] [deadP X rk]]).np = PT.node 0 .new [] rk [.node 0 .fst [] [] [deadP X rk]] := by simp [PT.np, npL, deadP, h.np]
 rw [hn] at hnp
 obtain ⟨p0, p1, p, p7, X', rfl, hX⟩ := np_good hnp
 have hwt : WT [] X' .n := np_WT X' (by rw [hX]; exact h.wt)
 have hal : X'.allr (999 : Nat) := np_allrD X' (by rw [hX]; exact h.al)
 have hprs : (PT.node p0 .new [] rk [.node p1 .fst [] [] [.node p .pair [] rk [X', .num p7 [55]]]]).prs ≤ 100 := by
  have := h.prs
  rw [← hX, np_prs] at this
  simp [PT.prs, prsL]; omega
 rw [← hd] at he
 have hw := WT.new (p := p0) (nm := []) (rg := rk) (WT.fst (p := p1) (nm := []) (rg := []) (wt_pair (p := p) (p7 := p7) (nm := []) (rg := rk) (s7 := [55]) hwt))
 have hchk := chk_ok hw hprs
 have hrg := rgdO_of _ (he.tame (tokens_tame _)).1 (he.rg3 (tokens_rg _)).1
 have hrX : X'.rgd := by simp only [PT.rgd, rgdL] at hrg; exact hrg.2.1.2.1.2.1
 have hG := good_run 20000 (PT.node p0 .new [] rk [.node p1 .fst [] [] [.node p .pair [] rk [X', .num p7 [55]]]]).cnt (by omega) (p := p) (p0 := p0) (p1 := p1) (p7 := p7) (nm := []) (nm0 := []) (nm1 := []) (rg1 := []) hwt (nonew_allrD X' hal) hal hrX hk hk (by omega) (show valueL [55] = 7 by decide) (by simp only [PT.cnt, cntL]; omega)
 rw [ev_np hX] at hG
 obtain ⟨Y, hY, hYs⟩ := mach_rep 20000 _ hw (by simp [Ty.size]) hrg (Nat.le_refl _)
 have hrun := fun Y hY hYs => leaseRun_mach s hs _ he hchk 20000 (by omega) Y hY hYs
 generalize mW 20000 (.node p0 .new [] rk [.node p1 .fst [] [] [.node p .pair [] rk [X', .num p7 [55]]]]) [] 0 ((m0 (PT.node p0 .new [] rk [.node p1 .fst [] [] [.node p .pair [] rk [X', .num p7 [55]]]]).cnt).opn (-1)) = x at hG hY hrun
 rcases hG with ⟨z, a, rfl, g0, g1, g2, g3, g4, g5, g6, g7, g8⟩ | ⟨hB, hq⟩
 ·have hE : (ev 19997 X [] ⟨0, 0, 0⟩).2.e = 0 := Decidable.byContradiction fun hne => by
   rcases (dead_fuel X).2 hne with hc | hc
   ·rw [g3] at hc; cases hc
   ·omega
  obtain ⟨q1, _, _⟩ := (dead_fuel X).1 hE
  rw [q1] at g1 g2 g4 g5 g6 g7 g8
  simp only [shx, sh] at g1 g2 g4 g5 g6 g7 g8
  have hsz : (ev 19997 X [] ⟨0, 0, 0⟩).1.size ≤ 63 := by rw [rep_size (cells := z.cells) g2]; simp [Ty.size]
  have R := hrun _ g1 hsz
  cases hv : (ev 19997 X [] ⟨0, 0, 0⟩).1 with
  | p u v => rw [hv] at g2; simp [Vl.has] at g2
  | n j =>
   rw [hv] at R
   simp only [mText] at R
   rw [g0] at R
   have hrv : runV z (.n j) = .agg #[.string (bs (Vl.n j).txt), .int .i64 z.steps, .int .i64 ((ev 19997 X [] ⟨0, 0, 0⟩).2.cells + 1 : Nat), .int .i64 (((ev 19997 X [] ⟨0, 0, 0⟩).2.cells : Int) + 1), .int .i64 ((ev 19997 X [] ⟨0, 0, 0⟩).2.cells : Int)] := by
    unfold runV
    rw [if_neg (fun h => h g0), g6, g7, g8]
   exact ⟨0, _, fun hne => absurd hE hne, fun _ => ⟨rfl, z.steps, hrv⟩, R⟩
 ·have R := hrun Y hY hYs
  rw [text_keep Y x.1 x.2 (by rw [hB]; decide), runV_zero (by rw [hB]; decide), hB] at R
  refine ⟨12, zero5, fun _ => ⟨rfl, rfl⟩, fun hE => ?_, R⟩
  exfalso
  obtain ⟨q1, _, q2⟩ := (dead_fuel X).1 hE
  rw [q1] at hq
  simp only [shx, sh] at hq
  rcases hq with hq | hq | hq
  ·omega
  ·rw [hE] at hq; cases hq
  ·omega
end Go.Proofs.YtpicaknklgccoabGreatDoor
namespace Go.Proofs.YtpicaknklgccoabGreatDoor
open Go.RowKit
open Go.Lib (decDigits)
theorem value_hashD (l : List UInt8) : valueL (35 :: l) = valueL l := by unfold valueL; rw [List.foldl_cons]; rfl
theorem deadX_of {x : KE} (h : KT [] x 0) (hp : x.prs ≤ 75) : DeadX (x.pt (35 :: decDigits 999)) where
 ok := pt_ok (placed := true) ⟨decDigits 999, rfl, dec_good 999 3 (dec_len3 999 (by omega))⟩ h
 np := pt_np _ x
 wt := pt_WT (rg := 35 :: decDigits 999) h (by simp)
 al := pt_allrD (by rw [value_hashD, value_dec]) h
 prs := by rw [pt_prs _ h]; exact hp
theorem dead_ev {x : KE} (f : Nat) : ev f (x.pt (35 :: decDigits 999)) [] ⟨0, 0, 0⟩ = ev f (x.pt []) [] ⟨0, 0, 0⟩ := by rw [rg_ev]
theorem dec999 : decDigits 999 = [57, 57, 57] := by simp [Go.Lib.decDigits]
theorem good7 : GoodD [55] 4 := ⟨fun c hc => by simp only [List.mem_singleton] at hc; subst hc; decide, by decide⟩
theorem reg999 : bs (regT (35 :: decDigits 999)) = ByteArray.mk #[32, 35, 57, 57, 57] := by rw [dec999]; rfl
def dPair (r W : ByteArray) : ByteArray := ByteArray.mk #[40, 112, 97, 105, 114, 32] ++ r ++ ByteArray.mk #[32] ++ W ++ ByteArray.mk #[32, 55, 41]
def dBad (r W : ByteArray) : ByteArray := ByteArray.mk #[40, 102, 115, 116, 32, 40, 110, 101, 119, 32] ++ r ++ ByteArray.mk #[32] ++ dPair r W ++ ByteArray.mk #[41, 41]
def dLate (r W : ByteArray) : ByteArray := ByteArray.mk #[40, 110, 101, 119, 32] ++ r ++ ByteArray.mk #[32] ++ dPair r W ++ ByteArray.mk #[41]
def dGood (r W : ByteArray) : ByteArray := ByteArray.mk #[40, 110, 101, 119, 32] ++ r ++ ByteArray.mk #[32, 40, 102, 115, 116, 32] ++ dPair r W ++ ByteArray.mk #[41, 41]
theorem dPair_bs (X : PT) (n : Nat) : dPair (ByteArray.mk #[35] ++ bs (decDigits n)) (bs X.tidy) = bs (deadP X (35 :: decDigits n)).tidy := by
 unfold dPair
 rw [show ByteArray.mk #[40, 112, 97, 105, 114, 32] = bs [40, 112, 97, 105, 114, 32] from rfl, show ByteArray.mk #[32] = bs [32] from rfl, show ByteArray.mk #[35] = bs [35] from rfl, show ByteArray.mk #[32, 55, 41] = bs [32, 55, 41] from rfl, bs_app, bs_app, bs_app, bs_app, bs_app]
 congr 1
 simp [deadP, PT.tidy, tidyL, joinT, pieceT, regT, Kw.bytes]
theorem dBad_bs (X : PT) (n : Nat) : dBad (ByteArray.mk #[35] ++ bs (decDigits n)) (bs X.tidy) = bs (PT.node 0 .fst [] [] [.node 0 .new [] (35 :: decDigits n) [deadP X (35 :: decDigits n)]]).tidy := by
 unfold dBad
 rw [dPair_bs]
 rw [show ByteArray.mk #[40, 102, 115, 116, 32, 40, 110, 101, 119, 32] = bs [40, 102, 115, 116, 32, 40, 110, 101, 119, 32] from rfl, show ByteArray.mk #[32] = bs [32] from rfl, show ByteArray.mk #[35] = bs [35] from rfl, show ByteArray.mk #[41, 41] = bs [41, 41] from rfl, bs_app, bs_app, bs_app, bs_app, bs_app]
 congr 1
 generalize deadP X (35 :: decDigits n) = P
 simp [PT.tidy, tidyL, joinT, pieceT, regT, Kw.bytes]
theorem dLate_bs (X : PT) (n : Nat) : dLate (ByteArray.mk #[35] ++ bs (decDigits n)) (bs X.tidy) = bs (PT.node 0 .new [] (35 :: decDigits n) [deadP X (35 :: decDigits n)]).tidy := by
 unfold dLate
 rw [dPair_bs]
 rw [show ByteArray.mk #[40, 110, 101, 119, 32] = bs [40, 110, 101, 119, 32] from rfl, show ByteArray.mk #[32] = bs [32] from rfl, show ByteArray.mk #[35] = bs [35] from rfl, show ByteArray.mk #[41] = bs [41] from rfl, bs_app, bs_app, bs_app, bs_app, bs_app]
 congr 1
 generalize deadP X (35 :: decDigits n) = P
 simp [PT.tidy, tidyL, joinT, pieceT, regT, Kw.bytes]
theorem dGood_bs (X : PT) (n : Nat) : dGood (ByteArray.mk #[35] ++ bs (decDigits n)) (bs X.tidy) = bs (PT.node 0 .new [] (35 :: decDigits n) [.node 0 .fst [] [] [deadP X (35 :: decDigits n)]]).tidy := by
 unfold dGood
 rw [dPair_bs]
 rw [show ByteArray.mk #[40, 110, 101, 119, 32] = bs [40, 110, 101, 119, 32] from rfl, show ByteArray.mk #[32, 40, 102, 115, 116, 32] = bs [32, 40, 102, 115, 116, 32] from rfl, show ByteArray.mk #[35] = bs [35] from rfl, show ByteArray.mk #[41, 41] = bs [41, 41] from rfl, bs_app, bs_app, bs_app, bs_app, bs_app]
 congr 1
 generalize deadP X (35 :: decDigits n) = P
 simp [PT.tidy, tidyL, joinT, pieceT, regT, Kw.bytes]
theorem dPair_size (r W : ByteArray) : (dPair r W).size = r.size + W.size + 10 := by simp only [dPair, ByteArray.size_append]; show 6 + r.size + 1 + W.size + 3 = _; omega
theorem dBad_size (r W : ByteArray) : (dBad r W).size = r.size + (dPair r W).size + 13 := by simp only [dBad, ByteArray.size_append]; show 10 + r.size + 1 + _ + 2 = _; omega
theorem dLate_size (r W : ByteArray) : (dLate r W).size = r.size + (dPair r W).size + 7 := by simp only [dLate, ByteArray.size_append]; show 5 + r.size + 1 + _ + 1 = _; omega
theorem dGood_size (r W : ByteArray) : (dGood r W).size = r.size + (dPair r W).size + 13 := by simp only [dGood, ByteArray.size_append]; show 5 + r.size + 6 + _ + 2 = _; omega
end Go.Proofs.YtpicaknklgccoabGreatDoor
