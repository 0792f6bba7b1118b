import Derived.Test.YtpicaknklgccoaaGreatDoorS14
import Derived.Shelf.Lay
import Derived.Shelf.LaysM
import Derived.Shelf.Strconv.Itoa3
import Derived.Lib.AppendIntMem
set_option maxHeartbeats 16000000
set_option maxRecDepth 100000
namespace Go.Proofs.YtpicaknklgccoaaGreatDoor
open Go.RowKit
theorem Hl (fb : Nat) (w : World) (x1 : Option Addr) (n1 c1 : Nat) (x2 : Option Addr) (n2 c2 : Nat) (pv tv : Value) (tb : List TP) (K : List Nat) (ns : List NR) (op : List Int) (D : List Ty) (T : List Ty) (h : Hj fb w (.slice x1 n1 c1) (.slice x2 n2 c2) pv tv tb K ns op) (hR : Rel tb D K T) (hl : tb.length <= 9000) (hK : K.length <= 9000) (hn : ns.length <= 9000) (rg : Nat) (n0 : NR) (h0 : ns[ns.length - 1]? = some n0) :
  Calls Tryz.prog 108 #[ptr fb, .int .i64 rg] w fun v w' => v = .returned (.int .i64 (eG T rg (dz T rg ns 0 n0.aO n0.at_).1 (dz T rg ns 0 n0.aO n0.at_).2 ns 0)) /\ Below w.heap.size w w' := by
 obtain ⟨m, hm⟩ : ∃ m, m = ns.length := ⟨_, rfl⟩
 have TQ : ∀ W', Below w.heap.size w W' -> W'.cell? ⟨fb, 0, none⟩ = some (.slice x1 n1 c1) /\ W'.cell? ⟨fb, 1, none⟩ = some (.slice x2 n2 c2) /\ fb < W'.heap.size := fun W' hb => by
  have := (h.below hb).c.y
  exact ⟨by rw [aa this]; rfl, by rw [aa this]; rfl, af this⟩
 have Hk : ∀ W', Below w.heap.size w W' -> ∀ (k : Nat) (n : NR), ns[k]? = some n -> Calls Tryz.prog 94 #[.agg #[.slice x1 n1 c1, .slice x2 n2 c2], .int .i64 k] W' fun v w' => v = .returned (aI n) /\ Below w.heap.size w w' := fun W' hb k n hk => by
  refine (dZ W' _ _ ns op (h.below hb).t k n hk hn).mono ?_
  rintro _ w' ⟨rfl, hb'⟩
  exact ⟨rfl, hb.trans (hb'.mono hb.size)⟩
 have Qa : ∀ W', Below w.heap.size w W' -> Calls Tryz.prog 93 #[.agg #[.slice x1 n1 c1, .slice x2 n2 c2]] W' fun v w' => v = .returned (.int .i64 m) /\ Below w.heap.size w w' := fun W' hb => by
  have := gx W' _ _ ns op (h.below hb).t
  rw [<- hm] at this
  refine this.mono ?_
  rintro _ w' ⟨rfl, hb'⟩
  exact ⟨rfl, hb.trans (hb'.mono hb.size)⟩
 have UY : ∀ W', Below w.heap.size w W' -> ∀ i : Nat, i < m -> Calls Tryz.prog 137 #[.pointer (some ⟨fb, 0, none⟩), .int .i64 i, .int .i64 rg] W' fun v w' => v = .returned (.bool ((ai T i).has rg)) /\ Below w.heap.size w w' := fun W' hb i hi => by
  refine (pJ fb W' _ _ pv tv tb K ns op D T (h.below hb) hR hl hK i rg (by omega)).mono ?_
  rintro _ w' ⟨rfl, hb'⟩
  exact ⟨rfl, hb.trans (hb'.mono hb.size)⟩
 have U0 := J7 fb w x1 n1 c1 x2 n2 c2 pv tv tb K ns op D T h hR hl hK hn rg n0 h0
 obtain ⟨sa, sb, hsp⟩ : ∃ sa sb, dz T rg ns 0 n0.aO n0.at_ = (sa, sb) := ⟨_, _, rfl⟩
 rw [hsp] at U0 ⊢
 simp only at U0 ⊢
 obtain ⟨R, Rl⟩ : ∃ R, R = eG T rg sa sb ns 0 := ⟨_, rfl⟩
 rw [<- Rl]
 unfold aI at Hk
 unfold ptr at U0
 have Rm : Hid _ := TQ
 have qQ : Hid _ := Hk
 have JA : Hid _ := Qa
 have NJ : Hid _ := UY
 have HSP : Hid _ := U0
 have HM : Hid _ := hm
 have Qb : Hid _ := Rl
 rw [<- hm] at hn
 clear TQ Hk Qa UY h hR hm Rl h0 U0 hsp
 show Calls _ _ #[Value.pointer (some ⟨fb, 0, none⟩), _] w _
 go_enter Tryz.func108, Tryz.ntmps108
 go_wp2_with fail
 refine Calls.mono HSP.out ?_
 rintro _ w0 ⟨rfl, hb0⟩
 have DD : Hid _ := hb0
 clear hb0 HSP
 go_wp2
 go_loopw [7, 8] (fun i _ wr => ∃ (k : Nat), k <= m /\ i = .int .i64 k /\ Hid (eG T rg sa sb ns 0 = eG T rg sa sb (ns.drop k) k) /\ Below w.heap.size w wr) (fun i _ _ => m - (intOf i).toNat)
 case atStart => exact ⟨0, Nat.zero_le _, rfl, (rfl : eG T rg sa sb ns 0 = eG T rg sa sb (ns.drop 0) 0), DD.out⟩
 case round =>
  obtain ⟨k, hk, rfl, HF, dw⟩ := hrel
  obtain ⟨b0, b1, bl⟩ := Rm.out _ dw
  have gQ := JA.out _ dw
  by_cases hlt : k < m
  ·have hkl : k < ns.length := by have := HM.out; omega
   obtain ⟨n, hn'⟩ : ∃ n, ns[k]? = some n := ⟨ns[k], List.getElem?_eq_getElem hkl⟩
   have nn : ns.drop k = n :: ns.drop (k + 1) := by
    rw [List.drop_eq_getElem_cons hkl]; rw [List.getElem?_eq_getElem hkl] at hn'; simp only [Option.some.injEq] at hn'; rw [hn']
   have hst := HF.out
   rw [nn] at hst
   simp only [eG] at hst
   have iQ : Hid _ := hst
   have HN : Hid _ := hn'
   clear hst nn hn' HF dw hkl
   go_wp2_with fail
   refine gQ.mono ?_
   rintro _ w1 ⟨rfl, hb1⟩
   have hno := qQ.out w1 hb1 k n HN.out
   clear gQ b0 b1 bl
   obtain ⟨b0, b1, bl⟩ := Rm.out _ hb1
   clear hb1
   go_wp2_with fail
   refine hno.mono ?_
   rintro _ w2 ⟨rfl, hb2⟩
   have hb3 := cz hb2 (bR n)
   have hme := NJ.out _ hb3 k hlt
   have iI : Hid _ := hb3
   unfold bR xS at hme iI
   clear hno hb2 hb3 b0 b1 bl
   by_cases ha : n.at_ <= sa
   ·have qa : (n.at_ : Int) <= (sa : Int) := by omega
    by_cases hb : sb <= n.aO
    ·have qb : (sb : Int) <= (n.aO : Int) := by omega
     have hst := iQ.out
     cases hmm : (ai T (k : Int)).has rg with
     | false =>
      rw [hmm] at hme
      rw [if_pos ⟨ha, hb, hmm⟩] at hst
      have HA : Hid (R = (k : Int)) := (show R = (k : Int) by rw [Qb.out, hst])
      clear hst iQ hmm ha hb
      go_wp2_with fail
      refine hme.mono ?_
      rintro _ w4 ⟨rfl, hb4⟩
      have oF : Hid _ := hb4
      clear hb4 hme
      go_wp2
      go_ret
      exact ⟨by rw [HA.out]; first | done | rfl, oF.out⟩
     | true =>
      rw [hmm] at hme
      rw [if_neg (fun h => by rw [hmm] at h; exact absurd h.2.2 (by decide))] at hst
      have ed : Hid _ := hst
      clear hst iQ hmm ha hb
      go_wp2_with fail
      refine hme.mono ?_
      rintro _ w4 ⟨rfl, hb4⟩
      have oF : Hid _ := hb4
      clear hb4 hme
      go_wp2
      go_roundw
      case rel => exact ⟨k + 1, by omega, by go_num, ed.out, oF.out⟩
      case measure => simp [intOf]; omega
    ·have qb : ¬ (sb : Int) <= (n.aO : Int) := by omega
     have hst := iQ.out
     rw [if_neg (fun h => hb h.2.1)] at hst
     have ed : Hid _ := hst
     clear hst iQ ha hb hme
     go_wp2
     go_roundw
     case rel => exact ⟨k + 1, by omega, by go_num, ed.out, iI.out⟩
     case measure => simp [intOf]; omega
   ·have qa : ¬ (n.at_ : Int) <= (sa : Int) := by omega
    have hst := iQ.out
    rw [if_neg (fun h => ha h.1)] at hst
    have ed : Hid _ := hst
    clear hst iQ ha hme
    go_wp2
    go_roundw
    case rel => exact ⟨k + 1, by omega, by go_num, ed.out, iI.out⟩
    case measure => simp [intOf]; omega
  ·have TJ : Hid (R = -1) := by
    have hd : ns.drop k = [] := List.drop_eq_nil_of_le (by have := HM.out; omega)
    have hst := HF.out
    rw [hd] at hst
    rw [Qb.out, hst]; exact rfl
   clear HF dw
   go_wp2_with fail
   refine gQ.mono ?_
   rintro _ w1 ⟨rfl, hb1⟩
   have dF : Hid _ := hb1
   clear hb1 gQ
   go_wp2
   go_ret
   exact ⟨by rw [TJ.out]; first | done | rfl, dF.out⟩
theorem xY (w : World) (x1 : Option Addr) (n1 c1 : Nat) (x2 : Option Addr) (n2 c2 : Nat) (ns : List NR) (op : List Int) (hT : bh w (.slice x1 n1 c1) (.slice x2 n2 c2) ns op) (hl : ns.length <= 9000) (sj : ∀ n ∈ ns, n.small) (n0 : NR) (h0 : ns[ns.length - 1]? = some n0) (hB : n0.aO <= 9000) (hat : ∀ n ∈ ns, n.at_ < n0.aO) (hsz : iY [] (ns.map atR)) :
  Calls Tryz.prog 104 #[aK (.slice x1 n1 c1) (.slice x2 n2 c2)] w fun e w' => ∃ pa pn pc ta tn tc ev, e = .returned (.agg #[.slice pa pn pc, .slice ta tn tc, ev]) /\ Below w.heap.size w w' /\ w'.ownsRow 0 3 1 ev n0.aO (cA (rq [] (List.range n0.aO) ns)) /\ (∀ g, ev.ownBlock = some g -> w.heap.size <= g) := by
 obtain ⟨m, hm⟩ : ∃ m, m = ns.length := ⟨_, rfl⟩
 have lQ : 1 <= m := by have := (List.getElem?_eq_some_iff.1 h0).1; omega
 have hm9 : m <= 9000 := by omega
 have Rj : 1 <= n0.aO := by have := hat n0 (List.mem_of_getElem? h0); omega
 obtain ⟨W0, FF⟩ : ∃ W0, W0 = ((w.alloc (.cells #[.slice x1 n1 c1, .slice x2 n2 c2] 59)).alloc (.cells #[.slice none 0 0, .slice none 0 0, .slice none 0 0] 186)).alloc (.cells #[.slice none 0 0, .slice none 0 0, .slice none 0 0] 186) := ⟨_, rfl⟩
 have hw0 : Below w.heap.size w W0 := by rw [FF]; exact cz (cz (cz (Below.refl _ _) _) _) _
 have hs0 : W0.heap.size = w.heap.size + 1 + 1 + 1 := by rw [FF]; simp
 have hbx : W0.heap[w.heap.size]? = some (.cells #[.slice x1 n1 c1, .slice x2 n2 c2] 59 (0, 0)) := by
  have h1 := aj w (.cells #[.slice x1 n1 c1, .slice x2 n2 c2] 59 (0, 0))
  have h2 := cz (cz (Below.refl (w.alloc (.cells #[.slice x1 n1 c1, .slice x2 n2 c2] 59)).heap.size (w.alloc (.cells #[.slice x1 n1 c1, .slice x2 n2 c2] 59))) (.cells #[.slice none 0 0, .slice none 0 0, .slice none 0 0] 186)) (.cells #[.slice none 0 0, .slice none 0 0, .slice none 0 0] 186)
  rw [FF, h2.block _ (by simp)]; exact h1
 have hsb : W0.heap[w.heap.size + 1 + 1]? = some (.cells #[.slice none 0 0, .slice none 0 0, .slice none 0 0] 186 (0, 0)) := by
  have := aj ((w.alloc (.cells #[.slice x1 n1 c1, .slice x2 n2 c2] 59)).alloc (.cells #[.slice none 0 0, .slice none 0 0, .slice none 0 0] 186)) (.cells #[.slice none 0 0, .slice none 0 0, .slice none 0 0] 186 (0, 0))
  rw [FF]; simpa using this
 have Bp : W0.heap[w.heap.size + 1]? = some (.cells #[.slice none 0 0, .slice none 0 0, .slice none 0 0] 186 (0, 0)) := by
  have h1 := aj (w.alloc (.cells #[.slice x1 n1 c1, .slice x2 n2 c2] 59)) (.cells #[.slice none 0 0, .slice none 0 0, .slice none 0 0] 186 (0, 0))
  have h2 := cz (Below.refl ((w.alloc (.cells #[.slice x1 n1 c1, .slice x2 n2 c2] 59)).alloc (.cells #[.slice none 0 0, .slice none 0 0, .slice none 0 0] 186)).heap.size ((w.alloc (.cells #[.slice x1 n1 c1, .slice x2 n2 c2] 59)).alloc (.cells #[.slice none 0 0, .slice none 0 0, .slice none 0 0] 186))) (.cells #[.slice none 0 0, .slice none 0 0, .slice none 0 0] 186)
  rw [FF, h2.block _ (by simp)]; simpa using h1
 obtain ⟨sb, Ro⟩ : ∃ sb, sb = w.heap.size + 1 + 1 := ⟨_, rfl⟩
 have hBC : ∀ W', Below sb W0 W' -> W'.cell? ⟨w.heap.size, 0, none⟩ = some (.slice x1 n1 c1) /\ W'.cell? ⟨w.heap.size, 1, none⟩ = some (.slice x2 n2 c2) /\ w.heap.size < W'.heap.size := fun W' hb => by
  have h1 : W'.heap[w.heap.size]? = some (.cells #[.slice x1 n1 c1, .slice x2 n2 c2] 59 (0, 0)) := by rw [hb.block _ (by omega)]; exact hbx
  exact ⟨by rw [aa h1]; rfl, by rw [aa h1]; rfl, af h1⟩
 have XI : ∀ W', Below sb W0 W' -> bh W' (.slice x1 n1 c1) (.slice x2 n2 c2) ns op := fun W' hb => hT.below (hw0.trans (hb.mono (by omega)))
 have UX : ∀ W', Below W0.heap.size W0 W' -> Calls Tryz.prog 68 #[.agg #[.slice x1 n1 c1, .slice x2 n2 c2]] W' fun v w' => v = .returned (.int .i64 ((m - 1 : Nat) : Int)) /\ Below W0.heap.size W0 w' /\ Below W'.heap.size W' w' := fun W' hb => by
  refine (rr W' _ _ ns op (XI W' (hb.mono (by omega))) hl).mono ?_
  rintro _ w' ⟨rfl, hb'⟩
  exact ⟨by congr 2; omega, hb.trans (hb'.mono hb.size), hb'⟩
 have Hk : ∀ W', Below sb W0 W' -> ∀ (k : Nat) (n : NR), ns[k]? = some n -> Calls Tryz.prog 94 #[.agg #[.slice x1 n1 c1, .slice x2 n2 c2], .int .i64 k] W' fun v w' => v = .returned (aI n) /\ Below W'.heap.size W' w' := fun W' hb k n hk => dZ W' _ _ ns op (XI W' hb) k n hk hl
 have Rk : ∀ W', Below W0.heap.size W0 W' -> Calls Tryz.prog 94 #[.agg #[.slice x1 n1 c1, .slice x2 n2 c2], .int .i64 ((m - 1 : Nat) : Int)] W' fun v w' => v = .returned (aI n0) /\ Below W0.heap.size W0 w' /\ Below W'.heap.size W' w' := fun W' hb => by
  refine (Hk W' (hb.mono (by omega)) (m - 1) n0 (by rw [hm]; exact h0)).mono ?_
  rintro _ w' ⟨rfl, hb'⟩
  exact ⟨rfl, hb.trans (hb'.mono hb.size), hb'⟩
 have Qa : ∀ W', Below sb W0 W' -> Calls Tryz.prog 93 #[.agg #[.slice x1 n1 c1, .slice x2 n2 c2]] W' fun v w' => v = .returned (.int .i64 m) /\ Below W'.heap.size W' w' := fun W' hb => by
  have := gx W' _ _ ns op (XI W' hb)
  rw [<- hm] at this; exact this
 obtain ⟨i0, hi, hz0, hz1, hz2⟩ := info_parts Tryz.oB
 have HI : Hid _ := hi
 have pq : Hid _ := hz0
 have pz : Hid _ := hz1
 have pF : Hid _ := hz2
 unfold aI at Rk Hk
 have NQ : Hid _ := hBC
 have Jz : Hid _ := UX
 have qQ : Hid _ := Hk
 have UZ : Hid _ := Rk
 have JA : Hid _ := Qa
 have Rp : Hid _ := hsb
 have HRS : Hid _ := Bp
 have TR : Hid _ := hw0
 have HM : Hid _ := hm
 have Rq : Hid _ := FF
 have Q7 : Hid _ := sj
 have JR : Hid _ := hat
 have Rg : Hid _ := hsz
 clear hi hz0 hz1 hz2 hBC UX Hk Rk Qa hsb Bp hw0 hm FF sj hat hsz hT XI hbx h0
 have hsW : sb < W0.heap.size := by omega
 have YK : w.heap.size < sb := by omega
 have HS0 : Hid _ := hs0
 clear hs0
 unfold aK
 go_enter Tryz.func104, Tryz.ntmps104
 go_upto_region 2 with fail
 rw [<- Rq.out, <- Ro]
 have HSE : Hid _ := Ro
 clear Ro
 obtain ⟨b0, b1, bl⟩ := NQ.out W0 (Below.refl _ _)
 go_cut [4] from 11 to 14 (fun t4 wx => ∃ q, t4 = .pointer (some ⟨q, 0, none⟩) /\ wx.heap[q]? = some (bR n0) /\ W0.heap.size <= q /\ Below W0.heap.size W0 wx)
 case first =>
  go_region_law (first
   | (refine kH rfl 68 #[.agg #[.slice x1 n1 c1, .slice x2 n2 c2]] ?_ ?_
      ·go_simp
      refine Calls.mono (Jz.out _ ?_) ?_
      ·repeat (first | with_reducible exact Below.refl _ _ | with_reducible refine cz ?_ _ | with_reducible refine sH ?_ | with_reducible refine fK ?_)
      rintro e w2 ⟨rfl, hb2, Rn⟩
      obtain ⟨b0, b1, bl⟩ := NQ.out _ (hb2.mono (by omega))
      have J8 := hb2.size
      try (have hz : w2.heap[W0.heap.size]? = some (.cells nz 160 (0, 0)) := (Rn.block _ (by simp)).trans (aj _ _))
      refine ⟨_, rfl, ?_⟩)
   | (refine kH rfl 94 #[.agg #[.slice x1 n1 c1, .slice x2 n2 c2], .int .i64 ((m - 1 : Nat) : Int)] ?_ ?_
      ·go_simp
      refine Calls.mono (UZ.out _ ?_) ?_
      ·repeat (first | with_reducible exact Below.refl _ _ | with_reducible exact hb2 | with_reducible refine cz ?_ _ | with_reducible refine sH ?_ | with_reducible refine fK ?_)
      rintro e w3 ⟨rfl, hb3, zX⟩
      try (have NN : w3.heap[w2.heap.size]? = some (.cells nz 160 (0, 0)) := (zX.block _ (by simp)).trans (aj _ _))
      try (have NP : w3.heap[W0.heap.size]? = some (.cells nz 160 (0, 0)) := (zX.block _ (af hz)).trans hz)
      try (obtain ⟨z0, z1, z2, z3, z4, z5, z6, z7, z8, z9⟩ := ru NN; obtain ⟨f0, f1, f2, f3, f4, f5, f6, f7, f8, f9⟩ := uG NN; have hzl := af NN)
      try (obtain ⟨z0, z1, z2, z3, z4, z5, z6, z7, z8, z9⟩ := ru NP; obtain ⟨f0, f1, f2, f3, f4, f5, f6, f7, f8, f9⟩ := uG NP; have hzl := af NP)
      refine ⟨_, rfl, ?_⟩))
  all_goals (go_wp2_with fail; go_meet)
  all_goals first
   | (have hE := zW (.int .i64 n0.form) (.int .i64 n0.at_) (.int .i64 n0.aO) (.int .i64 n0.num) (.string (bs n0.word)) (.int .i64 n0.region) (.int .i64 n0.source) (.int .i64 n0.p0) (.int .i64 n0.p1) (.int .i64 n0.p2) hb3 J8 NN; exact ⟨_, rfl, hE.1, J8, hE.2⟩)
   | (have hE := zW (.int .i64 n0.form) (.int .i64 n0.at_) (.int .i64 n0.aO) (.int .i64 n0.num) (.string (bs n0.word)) (.int .i64 n0.region) (.int .i64 n0.source) (.int .i64 n0.p0) (.int .i64 n0.p1) (.int .i64 n0.p2) hb3 (Nat.le_refl _) NP; exact ⟨_, rfl, hE.1, Nat.le_refl _, hE.2⟩)
   | exact ⟨_, rfl, aj _ _, hb3.size, cz hb3 _⟩
   | skip
 case rest =>
  obtain ⟨q, rfl, hq, YJ, hbc⟩ := hcut
  have M6 : wc.cell? ⟨q, 2, none⟩ = some (.int .i64 n0.aO) := (aC hq).2.2.1
  have TM := af hq
  have hsc : wc.heap[sb]? = some (.cells #[.slice none 0 0, .slice none 0 0, .slice none 0 0] 186 (0, 0)) := by rw [hbc.block _ hsW, HSE.out]; exact Rp.out
  have H1 : Hid (TL W0 sb q n0 wc (.slice none 0 0) 0) := ⟨hbc.mono (by omega), hsc, hq, World.ownsRow_nil _ _ _ _, fun g hg => by simp [Value.ownBlock] at hg, by omega⟩
  clear hq hbc hsc Jz UZ b0 b1 bl M6 Rp
  obtain ⟨B, YL⟩ : ∃ B, B = n0.aO := ⟨_, rfl⟩
  rw [<- YL] at hB JR Rj
  have HBE : Hid _ := YL
  clear YL
  go_wp2
  go_loopw [5] (fun i wr => ∃ (k : Nat) (ev : Value), k <= B /\ i = .int .i64 k /\ TL W0 sb q n0 wr ev k) (fun i _ => B - (intOf i).toNat)
  case atStart => exact ⟨0, _, Nat.zero_le _, rfl, H1.out⟩
  case round =>
   obtain ⟨k, ev, hk, rfl, hS⟩ := hrel
   have d2 : wr.cell? ⟨q, 2, none⟩ = some (.int .i64 B) := by rw [HBE.out]; exact (aC hS.n).2.2.1
   have dl := af hS.n
   by_cases hlt : k < B
   ·obtain ⟨ao, oc, pI⟩ := aF hS.r
    have y2 : wr.cell? ⟨sb, 2, none⟩ = some (.slice ao k oc) := by rw [aa hS.y, <- pI]; rfl
    have yl := af hS.y
    have dS : Hid ((wr.alloc (.cells #[.int .i64 k] 3)).ownsRow 0 3 1 (.slice ao k oc) k (cA (List.range k))) := by
     have := hS.r.alloc (.cells #[.int .i64 k] 3)
     rw [pI] at this; exact this
    have Dw : Hid ((wr.alloc (.cells #[.int .i64 k] 3)).heap[sb]? = some (.cells #[.slice none 0 0, .slice none 0 0, ev] 186 (0, 0))) := aL _ hS.y
    have vo : Hid (∀ u ∈ ([.int .i64 k] : List Value), u.oneCell' = true) := by intro v hv; simp only [List.mem_singleton] at hv; subst hv; rfl
    have XJ : Hid _ := pI
    have HS : Hid _ := hS
    clear hS pI
    go_wp2_with (at_builtin; go_must (refine oC _ rfl (.tmp 22) (.tmp 24) 42 rfl 3 i0 _ 1 8 Tryz.oD HI.out pq.out pz.out pF.out rfl (by decide) (.slice ao k oc) k (cA (List.range k)) rfl dS.out ⟨wr.heap.size, 0, none⟩ 1 1 [.int .i64 k] rfl rfl ?c1 vo.out (by decide) ?c3 ?c4 ?_))
    case c1 =>
     intro j v hj
     rw [<- hj]
     first | rfl | exact bH _ _ _ _
    case c3 => unfold maxLen; omega
    case c4 => omega
    intro g cap w4 hown hgrow gP
    have hsl : sb < w4.heap.size := by have := hgrow.size; simp at this; omega
    have vp := cu hgrow Dw.out (fun e => by have := (HS.out.e sb (by rw [XJ.out]; exact e)).1; omega)
    have z1 : w4.cell? ⟨sb, 2, none⟩ = some (.slice ao k oc) := by rw [aa vp, <- XJ.out]; rfl
    have zf := ag vp 2
    have HAD : Hid _ := TL.add (g := g) (cap := cap) HS.out ((Below.refl _ wr).alloc (Nat.le_refl _) (.cells #[.int .i64 k] 3)) (by rw [XJ.out]; exact hgrow) hown (by rw [XJ.out, show (wr.alloc (.cells #[.int .i64 k] 3)).heap.size = wr.heap.size + 1 from by simp]; exact gP)
    clear hown hgrow gP vp
    go_wp2
    go_roundw
    case rel => exact ⟨k + 1, _, by omega, by go_num, HAD.out⟩
    case measure => simp [intOf]; omega
   ·have hkB : k = B := by omega
    subst hkB
    have HS : Hid _ := hS
    obtain ⟨g, cap, pI⟩ := fB hS.r (by omega)
    subst pI
    have H2 : Hid (DC W0 sb g cap k wr (.slice none 0 0) (.slice none 0 0) [] [] (List.range k)) :=
     ⟨hS.b, ⟨hS.y, rfl, rfl, World.ownsRow_nil _ _ _ _, World.ownsRow_nil _ _ _ _, by simp [Value.ownBlock], by simp [Value.ownBlock], fun j hj => by simp [Value.ownBlock] at hj⟩, hS.r, (hS.e g rfl).1, by simp [Value.ownBlock], by simp [Value.ownBlock], fun j hj => by simp [Value.ownBlock] at hj, fun j hj => by simp [Value.ownBlock] at hj⟩
    obtain ⟨U1, U2⟩ : ∃ U1, U1 = rq [] (List.range k) ns := ⟨_, rfl⟩
    have jT : Hid _ := U2
    clear hS hlt HS U2
    go_wp2
    go_loopw [6, 7, 8, 9] (fun i _ _ _ wx => ∃ (j : Nat) (pv tv : Value) (tb : List TP) (D : List Ty) (K : List Nat) (T : List Ty) (E : List Nat), j <= m /\ i = .int .i64 j /\ DC W0 sb g cap k wx pv tv tb K E /\ Rel tb D K T /\ K.length = j /\ tb.length <= j /\ XH k tb /\ E.length = k /\ Hid (U1 = rq T E (ns.drop j)) /\ iY T ((ns.drop j).map atR)) (fun i _ _ _ _ => m - (intOf i).toNat)
    case atStart => exact ⟨0, _, _, [], [], [], [], List.range k, Nat.zero_le _, rfl, H2.out, JO, rfl, Nat.le_refl _, fun j => by simp [fo]; omega, List.length_range, (jT.out : U1 = rq [] (List.range k) (ns.drop 0)), Rg.out⟩
    case round =>
     obtain ⟨j, pv, tv, tb, D, K, T, E, hj, rfl, hS, jE, DP, htl, TS, M7, HF, yE⟩ := hrel
     obtain ⟨b0, b1, bl⟩ := NQ.out _ hS.b
     have gQ := JA.out _ hS.b
     by_cases hlt : j < m
     ·have hjl : j < ns.length := by have := HM.out; omega
      obtain ⟨n, hn⟩ : ∃ n, ns[j]? = some n := ⟨ns[j], List.getElem?_eq_getElem hjl⟩
      have hnm := List.mem_of_getElem? hn
      have dM := Q7.out n hnm
      have hat := JR.out n hnm
      have nn : ns.drop j = n :: ns.drop (j + 1) := by
       rw [List.drop_eq_getElem_cons hjl]; rw [List.getElem?_eq_getElem hjl] at hn; simp only [Option.some.injEq] at hn; rw [hn]
      have hst := HF.out
      rw [nn] at yE hst
      simp only [List.map_cons, iY] at yE
      simp only [rq] at hst
      obtain ⟨D', BB⟩ := J2 jE (atR n) yE.1
      have gX : Rel (gM tb K n n.at_).2 D' (K ++ [(gM tb K n n.at_).1]) (T ++ [cH T (atR n)]) := BB
      have hok : Q1 tb K n := ⟨by omega, by omega, fun i => by have := (jE.known i).2.1; omega, fun j => by have := jE.Fx j; omega, ⟨by have := dM.1; omega, by have := dM.1; omega⟩, ⟨by have := dM.2.1; omega, by have := dM.2.1; omega⟩, ⟨by have := dM.2.2.1; omega, by have := dM.2.2.1; omega⟩, ⟨by have := dM.2.2.2; omega, by have := dM.2.2.2; omega⟩⟩
      have uj : (gM tb K n n.at_).2.length <= j + 1 := by
       have hpl := lV tb n.at_ (aq K n.p0) (aq K n.p1)
       unfold gM
       repeat' split
       all_goals first | (simp only; omega) | omega
      have Rs := UU TS K n n.at_ hat
      have hadd := fun (w' : World) (h' : DC W0 sb g cap k w' pv tv tb K E) => vm w' sb 0 _ _ pv tv tb K n n.at_ n.at_ (fun _ => rfl) h'.c hok
      have U3 : -10 <= n.p1 /\ n.p1 <= 10000 := ⟨by have := dM.2.2.1; omega, by have := dM.2.2.1; omega⟩
      have U4 : -10 <= n.p2 /\ n.p2 <= 10000 := ⟨by have := dM.2.2.2; omega, by have := dM.2.2.2; omega⟩
      obtain ⟨k1, k2, _⟩ := gX.known n.p1
      obtain ⟨l1, l2, _⟩ := gX.known n.p2
      have YM := fun f hf => vE gX f E (aq (K ++ [(gM tb K n n.at_).1]) n.p1) (aq (K ++ [(gM tb K n n.at_).1]) n.p2) hf k2 l2
      rw [<- k1, <- l1] at YM
      have hmL := cD (ai (T ++ [cH T (atR n)]) n.p1) (ai (T ++ [cH T (atR n)]) n.p2) E
      have U5 : (K ++ [(gM tb K n n.at_).1]).length = j + 1 := by simp [DP]
      have hlow := gX.low
      have hKK : ∀ (w' : World) (mf pj : Value), DC W0 sb g cap k w' mf pj (gM tb K n n.at_).2 (K ++ [(gM tb K n n.at_).1]) E -> ∀ i : Int, -10 <= i /\ i <= 10000 -> Calls Tryz.prog 127 #[.pointer (some ⟨sb, 0, none⟩), .int .i64 i] w' fun v w'' => v = .returned (.int .i64 (aq (K ++ [(gM tb K n n.at_).1]) i)) /\ w'' = w' := fun w' mf pj h' i hi => gC w' sb 0 pj _ i h'.c.c1 h'.c.t (by omega) hi
      have hMM : ∀ (w' : World) (mf pj : Value), DC W0 sb g cap k w' mf pj (gM tb K n n.at_).2 (K ++ [(gM tb K n n.at_).1]) E -> Calls Tryz.prog 135 #[.pointer (some ⟨sb, 0, none⟩), .int .i64 (aq (K ++ [(gM tb K n n.at_).1]) n.p1), .int .i64 (aq (K ++ [(gM tb K n n.at_).1]) n.p2)] w' fun v w'' => v = .returned (.tuple #[]) /\ DC W0 sb g cap k w'' mf pj (gM tb K n n.at_).2 (K ++ [(gM tb K n n.at_).1]) (cC E (ai (T ++ [cH T (atR n)]) n.p1) (ai (T ++ [cH T (atR n)]) n.p2)) /\ xL g w' w'' := fun w' mf pj h' => by
       have := Hh sb g cap mf (gM tb K n n.at_).2 (by omega) hlow (by have := h'.gs; omega) h'.pg (aq (K ++ [(gM tb K n n.at_).1]) n.p1 + 1) (aq (K ++ [(gM tb K n n.at_).1]) n.p1) (aq (K ++ [(gM tb K n n.at_).1]) n.p2) E w' (by omega) (by omega) (by omega) (by omega) (by rw [M7]; exact Rs) h'.c.c0 (by rw [aa h'.c.y, M7]; rfl) h'.c.p (by rw [M7]; exact h'.r)
       rw [YM _ (by omega), M7] at this
       refine this.mono ?_
       rintro _ w'' ⟨rfl, hf, hr⟩
       exact ⟨rfl, h'.XG hf hr, hf⟩
      have iQ : Hid _ := hst
      have HN : Hid _ := hn
      have HS : Hid _ := hS
      have JT : Hid _ := gX
      have Rh : Hid _ := yE.2
      unfold aI at hadd
      have HAD : Hid _ := hadd
      have sJ : Hid _ := hKK
      have U6 : Hid _ := hMM
      have Jt : Hid _ := Rs
      have lH : Hid _ := uj
      have Rt : Hid _ := U5
      have HML : Hid _ := hmL
      have YN : Hid _ := M7
      clear hS jE DP htl TS M7 HF yE hnm dM nn hst BB gX hok hadd YM k1 k2 l1 l2 hlow hKK hMM hn hjl uj Rs U5 hmL
      generalize gM tb K n n.at_ = X at *
      generalize T ++ [cH T (atR n)] = T' at *
      generalize cC E (ai T' n.p1) (ai T' n.p2) = E' at *
      go_wp2_with fail
      refine gQ.mono ?_
      rintro _ w1 ⟨rfl, hb1⟩
      have BC := HS.out.below hb1
      clear gQ b0 b1 bl
      obtain ⟨b0, b1, bl⟩ := NQ.out _ BC.b
      have hno := qQ.out w1 BC.b j n HN.out
      have Qc : Hid _ := BC.c.lt
      have Hm : Hid _ := BC
      clear BC hb1 HS
      go_wp2_with fail
      refine hno.mono ?_
      rintro _ w2 ⟨rfl, hb2⟩
      have P8 : Below w1.heap.size w1 (w2.alloc (bR n)) := hb2.alloc hb2.size (bR n)
      have Ru := hb2.size
      have Rv := Hm.out.below P8
      have hnb := aj w2 (bR n)
      have had := HAD.out _ Rv
      have TT : Hid _ := Rv
      have Ju : Hid _ := hnb
      have hsl2 := af Rv.c.y
      unfold bR xS at had
      clear hb2 P8 Rv hnb hno b0 b1 Hm HAD
      go_wp2_with fail
      refine had.mono ?_
      rintro _ w3 ⟨rfl, Hc, M4, bM, Dv⟩
      have hS3 : DC W0 sb g cap k w3 Hc M4 X.2 (K ++ [X.1]) E := TT.out.add bM Dv
      have Hn : w3.heap[w2.heap.size]? = some (bR n) := by
       obtain ⟨l1, l2, l3⟩ := Qc.out
       rw [bM.blk w2.heap.size (by simp) (by omega) (fun e => by have := l1 _ e; omega) (fun e => by have := l2 _ e; omega)]
       exact Ju.out
      obtain ⟨d0, d1, d2, d3, d4, d5, d6, d7, d8, d9⟩ := aC Hn
      have lg := af Hn
      have JB : Hid _ := hS3
      have aaD : Hid _ := Hn
      clear bM Dv hS3 Hn had TT Ju Qc
      by_cases h7 : n.form = 7
      ·have q7 : ((n.form : Int) == 7) = true := aH (b := 7) h7
       have hst := iQ.out
       rw [if_pos (Or.inl h7)] at hst
       have ed : Hid _ := hst
       have U7 := sJ.out _ _ _ JB.out n.p1 U3
       have U8 := sJ.out _ _ _ JB.out n.p2 U4
       have hmm := U6.out _ _ _ JB.out
       clear hst iQ h7 sJ U6
       go_wp2_with fail
       refine U7.mono ?_
       rintro _ _ ⟨rfl, rfl⟩
       go_wp2_with fail
       refine U8.mono ?_
       rintro _ _ ⟨rfl, rfl⟩
       go_wp2_with fail
       refine hmm.mono ?_
       rintro _ w4 ⟨rfl, U9, _⟩
       have YO : Hid _ := U9
       clear U9 hmm U7 U8
       go_wp2
       go_roundw
       case rel => exact ⟨j + 1, Hc, M4, X.2, D', _, T', E', by omega, by go_num, YO.out, JT.out, Rt.out, lH.out, Jt.out, HML.out.trans YN.out, ed.out, Rh.out⟩
       case measure => simp [intOf]; omega
      ·have q7 : ((n.form : Int) == 7) = false := ah (b := 7) h7
       by_cases h11 : n.form = 11
       ·have xT : ((n.form : Int) == 11) = true := aH (b := 11) h11
        have hst := iQ.out
        rw [if_pos (Or.inr h11)] at hst
        have ed : Hid _ := hst
        have U7 := sJ.out _ _ _ JB.out n.p1 U3
        have U8 := sJ.out _ _ _ JB.out n.p2 U4
        have hmm := U6.out _ _ _ JB.out
        clear hst iQ h7 h11 sJ U6
        go_wp2_with fail
        refine U7.mono ?_
        rintro _ _ ⟨rfl, rfl⟩
        go_wp2_with fail
        refine U8.mono ?_
        rintro _ _ ⟨rfl, rfl⟩
        go_wp2_with fail
        refine hmm.mono ?_
        rintro _ w4 ⟨rfl, U9, _⟩
        have YO : Hid _ := U9
        clear U9 hmm U7 U8
        go_wp2
        go_roundw
        case rel => exact ⟨j + 1, Hc, M4, X.2, D', _, T', E', by omega, by go_num, YO.out, JT.out, Rt.out, lH.out, Jt.out, HML.out.trans YN.out, ed.out, Rh.out⟩
        case measure => simp [intOf]; omega
       ·have xT : ((n.form : Int) == 11) = false := ah (b := 11) h11
        have hst := iQ.out
        rw [if_neg (fun h => h.elim h7 h11)] at hst
        have ed : Hid _ := hst
        clear hst iQ h7 h11 sJ U6
        go_wp2
        go_roundw
        case rel => exact ⟨j + 1, Hc, M4, X.2, D', _, T', E, by omega, by go_num, JB.out, JT.out, Rt.out, lH.out, Jt.out, YN.out, ed.out, Rh.out⟩
        case measure => simp [intOf]; omega
     ·have HA : Hid (U1 = E) := by
       have hd : ns.drop j = [] := List.drop_eq_nil_of_le (by have := HM.out; omega)
       have hst := HF.out
       rw [hd] at hst
       rw [hst]; exact rfl
      have HS : Hid _ := hS
      clear hS jE DP htl TS M7 HF yE
      go_wp2_with fail
      refine gQ.mono ?_
      rintro _ w1 ⟨rfl, hb1⟩
      have BC := HS.out.below hb1
      have e0 : w1.cell? ⟨sb, 0, none⟩ = some pv := BC.c.c0
      have e1 : w1.cell? ⟨sb, 1, none⟩ = some tv := BC.c.c1
      have e2 : w1.cell? ⟨sb, 2, none⟩ = some (.slice (some ⟨g, 0, none⟩) k cap) := by rw [aa BC.c.y]; rfl
      have el := af BC.c.y
      have hr1 : w1.heap[w.heap.size + 1]? = some (.cells #[.slice none 0 0, .slice none 0 0, .slice none 0 0] 186 (0, 0)) := by rw [BC.b.block _ (by have := HSE.out; omega)]; exact HRS.out
      have r0 : w1.cell? ⟨w.heap.size + 1, 0, none⟩ = some (.slice none 0 0) := by rw [aa hr1]; rfl
      have r1 : w1.cell? ⟨w.heap.size + 1, 1, none⟩ = some (.slice none 0 0) := by rw [aa hr1]; rfl
      have r2 : w1.cell? ⟨w.heap.size + 1, 2, none⟩ = some (.slice none 0 0) := by rw [aa hr1]; rfl
      have g0 := ag hr1 0
      have g1 := ag hr1 1
      have g2 := ag hr1 2
      have rl := af hr1
      obtain ⟨pa, pn, pc, rfl⟩ : ∃ a n c, pv = .slice a n c := by obtain ⟨a, c, e⟩ := aF BC.c.p; exact ⟨_, _, _, e⟩
      obtain ⟨ta, tn, tc, rfl⟩ : ∃ a n c, tv = .slice a n c := by obtain ⟨a, c, e⟩ := aF BC.c.t; exact ⟨_, _, _, e⟩
      have Hm : Hid _ := BC
      have M8 : Hid _ := hr1
      clear BC hr1 hb1 gQ b0 b1 HS
      go_wp2
      obtain ⟨WF, M9⟩ : ∃ WF, WF = ((w1.setCell ⟨w.heap.size + 1, 0, none⟩ (.slice pa pn pc)).setCell ⟨w.heap.size + 1, 1, none⟩ (.slice ta tn tc)).setCell ⟨w.heap.size + 1, 2, none⟩ (.slice (some ⟨g, 0, none⟩) k cap) := ⟨_, rfl⟩
      have hF : WF.heap[w.heap.size + 1]? = some (.cells #[.slice pa pn pc, .slice ta tn tc, .slice (some ⟨g, 0, none⟩) k cap] 186 (0, 0)) := by rw [M9]; exact az (az (az M8.out 0 _) 1 _) 2 _
      have u0 : WF.cell? ⟨w.heap.size + 1, 0, none⟩ = some (.slice pa pn pc) := by rw [aa hF]; rfl
      have u1 : WF.cell? ⟨w.heap.size + 1, 1, none⟩ = some (.slice ta tn tc) := by rw [aa hF]; rfl
      have u2 : WF.cell? ⟨w.heap.size + 1, 2, none⟩ = some (.slice (some ⟨g, 0, none⟩) k cap) := by rw [aa hF]; rfl
      rw [<- M9]
      refine bodyPost_ret (v := .agg #[.slice pa pn pc, .slice ta tn tc, .slice (some ⟨g, 0, none⟩) k cap]) (by simp [results, Tryz.results104, go_sem, u0, u1, u2]) rfl ⟨_, _, _, _, _, _, _, rfl, ?_, ?_, ?_⟩
      ·rw [M9]
       exact (TR.out.trans ((Hm.out.b.mono (Nat.le_of_lt YK)))).trans (eF (eF (eF (Below.refl _ _) (by omega)) (by omega)) (by omega))
      ·rw [<- HBE.out, <- jT.out, HA.out, M9]
       exact ax Hm.out.r (fun i hi => by
        simp only [Value.ownBlock, Option.some.injEq] at hi
        subst hi
        have := Hm.out.gs
        rw [ak _ _ (by simp only; omega), ak _ _ (by simp only; omega), ak _ _ (by simp only; omega)])
      ·intro i hi
       simp only [Value.ownBlock, Option.some.injEq] at hi
       have := Hm.out.gs
       omega
def aX (E : List Nat) (l : List NR) : List Nat := (l.filter (fun n => n.form == 4 && bg E n.at_ == n.at_)).map (·.at_)
theorem zY (E : List Nat) (l : List NR) (n : NR) : aX E (l ++ [n]) = aX E l ++ (if n.form = 4 /\ bg E n.at_ = n.at_ then [n.at_] else []) := by
 unfold aX
 rw [List.filter_append, List.map_append]
 by_cases h : n.form = 4 /\ bg E n.at_ = n.at_
 ·rw [if_pos h]; simp [h.1, h.2]
 ·rw [if_neg h]
  have : (n.form == 4 && bg E n.at_ == n.at_) = false := by
   rw [Bool.and_eq_false_iff]
   by_cases h4 : n.form = 4
   ·right; rw [beq_eq_false_iff_ne]; exact fun e => h ⟨h4, e⟩
   ·left; rw [beq_eq_false_iff_ne]; exact h4
  simp [this]
theorem nL (E : List Nat) (l : List NR) : (aX E l).length <= l.length := by
 unfold aX; rw [List.length_map]; exact List.length_filter_le _ _
theorem take_one {α : Type} (l : List α) (k : Nat) (x : α) (h : l[k]? = some x) : l.take (k + 1) = l.take k ++ [x] := by rw [List.take_add_one, h]; rfl
theorem D3 (w : World) (sb : Nat) (ev nv ov : Value) (E : List Nat) (ns : List NR) (op : List Int) (h : bh w nv ov ns op) (ho : vq ns op) (hl : ns.length <= 9000) (hc : w.cell? ⟨sb, 2, none⟩ = some ev) (hr : w.ownsRow 0 3 1 ev E.length (cA E)) (hE : E.length <= 9000) (hat : ∀ n ∈ ns, n.at_ <= 9000) :
  Calls Tryz.prog 105 #[ptr sb, aK nv ov] w fun e w' => ∃ fv, e = .returned fv /\ w'.ownsRow w.heap.size 3 1 fv (aX E (bD ns op)).length (cA (aX E (bD ns op))) /\ Below w.heap.size w w' := by
 obtain ⟨i0, hi, hz0, hz1, hz2⟩ := info_parts Tryz.oB
 have HI : Hid _ := hi
 have pq : Hid _ := hz0
 have pz : Hid _ := hz1
 have pF : Hid _ := hz2
 clear hi hz0 hz1 hz2
 have YP := World.block_lt_of_cell? _ _ hc
 have hlen := fun (w' : World) (hb : Below w.heap.size w w') => gx w' nv ov ns op (h.below hb)
 have gD := fun (w' : World) (hb : Below w.heap.size w w') (k i : Nat) (n : NR) (hk : op[k]? = some (i : Int)) (hi : ns[i]? = some n) => mn w' nv ov ns op (h.below hb) k i n hk hi hl (by rw [ho.1]; omega)
 have Rw := fun (w' : World) (hb : Below w.heap.size w w') (p : Nat) (hp : p <= 10000) => oJ w' sb 0 ev E p (by rw [hb.cell (p := ⟨sb, 2, none⟩) YP]; exact hc) (aA hr hb) hE hp
 have Ve : ∀ n ∈ bD ns op, n.at_ <= 9000 := fun n hn => by
  unfold bD at hn
  obtain ⟨x, hx, rfl⟩ := List.mem_map.1 hn
  cases e : ns[x.toNat]? with
  | none => simp [DT]
  | some y => exact hat y (List.mem_of_getElem? e)
 obtain ⟨a0, jS, e0⟩ := aF h.nd
 obtain ⟨a1, kE, e1⟩ := aF h.op
 rw [ho.1] at e1
 obtain ⟨m, hm⟩ : ∃ m, m = ns.length := ⟨_, rfl⟩
 rw [<- hm] at e0 e1 hl
 subst e0
 subst e1
 have HO : Hid _ := ho
 have HM : Hid _ := hm
 unfold aK at hlen gD
 unfold aK
 unfold ptr at Rw
 unfold aI at gD
 rw [<- hm] at hlen
 have lH : Hid _ := hlen
 have DV : Hid _ := gD
 have Rx : Hid _ := Rw
 have JR : Hid _ := Ve
 obtain ⟨O, hO⟩ : ∃ O, O = bD ns op := ⟨_, rfl⟩
 have hOl : O.length = m := by rw [hO, kF, ho.1, hm]
 rw [<- hO] at JR ⊢
 have HOE : Hid _ := hO
 clear hlen gD ho h hm Rw Ve hO hc hr hat
 have A7 : Below w.heap.size w (w.alloc (.cells #[.slice a0 m jS, .slice a1 m kE] 59)) := (Below.refl _ w).alloc (Nat.le_refl _) _
 have dK : Hid _ := A7
 clear A7
 show Calls _ _ #[Value.pointer (some ⟨sb, 0, none⟩), _] w _
 go_enter Tryz.func105, Tryz.ntmps105
 go_wp2
 obtain ⟨WB, pY⟩ : ∃ WB, WB = w.alloc (.cells #[.slice a0 m jS, .slice a1 m kE] 59) := ⟨_, rfl⟩
 have Br : Hid (WB.heap.size = w.heap.size + 1) := (show WB.heap.size = w.heap.size + 1 by rw [pY]; simp)
 have oX : Hid (∀ wr, Below WB.heap.size WB wr -> wr.cell? ⟨w.heap.size, 0, none⟩ = some (.slice a0 m jS) /\ wr.cell? ⟨w.heap.size, 1, none⟩ = some (.slice a1 m kE) /\ w.heap.size < wr.heap.size) := by
  intro wr hb
  rw [pY] at hb
  exact cX hb
 rw [<- pY] at dK ⊢
 clear pY
 go_loopw [5, 6, 7] (fun v5 i _ wr => ∃ (k : Nat), k <= m /\ i = .int .i64 k /\ wr.ownsRow WB.heap.size 3 1 v5 (aX E (O.take k)).length (cA (aX E (O.take k))) /\ Below WB.heap.size WB wr) (fun _ i _ _ => m - (intOf i).toNat)
 case atStart =>
  refine ⟨0, Nat.zero_le _, rfl, ⟨rfl, Or.inr ⟨w.heap.size + 1, 0, #[], rfl, by rw [Br.out]; exact Nat.le_refl _, ?_, Nat.le_refl _, by unfold maxLen; omega, rfl, rfl⟩⟩, (Below.refl _ WB).alloc (Nat.le_refl _) _⟩
  rw [<- Br.out]; exact aj _ _
 case round =>
  obtain ⟨k, hk, rfl, hown, dw⟩ := hrel
  obtain ⟨b0, b1, bl⟩ := oX.out _ dw
  have xV := dK.out.trans (dw.mono dK.out.size)
  have gQ := lH.out _ xV
  have lJ := dw.size
  by_cases hlt : k < m
  ·obtain ⟨i, n, hop, hni, nn, hmem⟩ := zQ HO.out k (by have := HM.out; omega)
   rw [<- HOE.out] at nn hmem
   have hOk : O[k]? = some n := by
    have := congrArg (fun l => l[0]?) nn
    simpa using this
   have hat := JR.out n hmem
   have iF := zY E (O.take k) n
   rw [<- take_one O k n hOk] at iF
   have ld : Hid _ := iF
   have Hg : Hid _ := hop
   have UI : Hid _ := hni
   have dS : Hid _ := hown
   have gW : Hid _ := dw
   have hfl : (aX E (O.take k)).length <= k := by have := nL E (O.take k); simp only [List.length_take] at this; omega
   clear hop hni nn hown iF hOk hmem
   go_wp2_with fail
   refine gQ.mono ?_
   rintro _ w1 ⟨rfl, hb1⟩
   have jr := dw.trans (hb1.mono lJ)
   obtain ⟨d0, d1, dl⟩ := oX.out _ jr
   have gD := DV.out w1 (dK.out.trans (jr.mono dK.out.size)) k i n Hg.out UI.out
   have dF : Hid _ := hb1
   clear jr hb1 gQ b0 b1 dw
   go_wp2_with fail
   refine gD.mono ?_
   rintro _ w2 ⟨rfl, hb2⟩
   have ez : Below wr.heap.size wr w2 := dF.out.trans (hb2.mono dF.out.size)
   have hW3 : Below wr.heap.size wr (w2.alloc (bR n)) := ez.alloc ez.size (bR n)
   have Ry := gW.out.trans (hW3.mono lJ)
   have hfi := fun nq => Rx.out ((w2.alloc (bR n)).drewN nq) (fK (dK.out.trans (Ry.mono dK.out.size))) n.at_ (by omega)
   have FB : Hid _ := hW3
   have iI : Hid _ := Ry
   have DY : Hid _ := aA dS.out hW3
   have aaE := gW.out.size
   have aaF := FB.out.size
   unfold bR xS at hfi FB iI DY
   clear hb2 ez hW3 gD d0 d1 Ry
   by_cases h4 : n.form = 4
   ·have q4 : ((n.form : Int) == 4) = true := aH (b := 4) h4
    by_cases hf : bg E n.at_ = n.at_
    ·have q5 : (((bg E n.at_ : Nat) : Int) == (n.at_ : Int)) = true := by rw [hf]; simp
     have iF := ld.out
     rw [if_pos ⟨h4, hf⟩] at iF
     have kI : Hid _ := iF
     generalize bg E n.at_ = ft at *
     clear iF ld h4 hf
     obtain ⟨W3, rz⟩ : ∃ W3, W3 = w2.alloc (.cells #[.int .i64 n.form, .int .i64 n.at_, .int .i64 n.aO, .int .i64 n.num, .string (bs n.word), .int .i64 n.region, .int .i64 n.source, .int .i64 n.p0, .int .i64 n.p1, .int .i64 n.p2] 160) := ⟨_, rfl⟩
     rw [<- rz] at hfi iI DY
     have hnb : W3.heap[w2.heap.size]? = some (bR n) := by rw [rz]; exact aj _ _
     obtain ⟨d0, d1, d2, d3, d4, d5, d6, d7, d8, d9⟩ := aC hnb
     have lg := af hnb
     have Rq : Hid _ := rz
     clear rz hnb
     go_upto_region 6 with fail
     rw [<- Rq.out]
     go_quiet ((go_at_call 106; exact Calls.quiet_of_same (hfi _)))
     have oF : Hid (Below WB.heap.size WB ((W3.drewN nq).alloc (.cells #[.int .i64 n.at_] 3))) := by
      have h1 := fK (n := nq) iI.out
      exact h1.alloc h1.size _
     have Jv : Hid (((W3.drewN nq).alloc (.cells #[.int .i64 n.at_] 3)).ownsRow WB.heap.size 3 1 u5 (aX E (O.take k)).length (cA (aX E (O.take k)))) := (aA DY.out (fK (Below.refl _ _))).alloc _
     have Vf : (W3.drewN nq).heap.size = W3.heap.size := rfl
     have xX : Hid (∀ (j : Nat) (u : Value), ([.int .i64 n.at_] : List Value)[j]? = some u -> ((W3.drewN nq).alloc (.cells #[.int .i64 n.at_] 3)).cell? ((⟨W3.heap.size, 0, none⟩ : Addr).add j) = some u) := by
      intro j u hj
      have hq := bH (W3.drewN nq) [.int .i64 n.at_] 3 j
      rw [Vf] at hq
      rw [<- hj, <- hq]; first | done | rfl
     have vo : Hid (∀ u ∈ ([.int .i64 n.at_] : List Value), u.oneCell' = true) := by intro v hv; simp only [List.mem_singleton] at hv; subst hv; rfl
     clear Vf
     have Vg : WB.heap.size <= W3.heap.size := iI.out.size
     go_wp2_with (at_builtin; go_must (refine wpList_append_own _ rfl (.tmp 30) (.tmp 33) 42 rfl WB.heap.size 3 i0 _ 1 8 Tryz.oD HI.out pq.out pz.out pF.out rfl (by decide) u5 (aX E (O.take k)).length (cA (aX E (O.take k))) rfl Jv.out ⟨W3.heap.size, 0, none⟩ 1 1 [.int .i64 n.at_] rfl rfl xX.out vo.out ?c3 ?c4 ?c5 ?_))
     case c3 => unfold maxLen; omega
     case c4 => omega
     case c5 => first | omega | (simp; omega)
     intro v' w6 hown' hgrow hnil
     have DX : Hid (Below WB.heap.size WB w6) := (oF.out).grown hgrow oF.out.size (fun b hb => (World.ownsRow.lt Jv.out b hb).1)
     have NH : Hid (w6.ownsRow WB.heap.size 3 1 v' (aX E (O.take (k + 1))).length (cA (aX E (O.take (k + 1))))) := by
      show w6.ownsRow WB.heap.size 3 1 v' (aX E (O.take (k + 1))).length (cA (aX E (O.take (k + 1))))
      rw [kI.out, List.length_append]
      unfold cA at hown' ⊢
      rw [List.map_append]
      exact hown'
     clear hown' hgrow hnil
     go_wp2
     go_roundw
     case rel => exact ⟨k + 1, by omega, by go_num, NH.out, DX.out⟩
     case measure => simp [intOf]; omega
    ·have q5 : (((bg E n.at_ : Nat) : Int) == (n.at_ : Int)) = false := by rw [beq_eq_false_iff_ne]; omega
     have iF := ld.out
     rw [if_neg (fun h => hf h.2), List.append_nil] at iF
     have kI : Hid _ := iF
     generalize bg E n.at_ = ft at *
     clear iF ld h4 hf
     obtain ⟨W3, rz⟩ : ∃ W3, W3 = w2.alloc (.cells #[.int .i64 n.form, .int .i64 n.at_, .int .i64 n.aO, .int .i64 n.num, .string (bs n.word), .int .i64 n.region, .int .i64 n.source, .int .i64 n.p0, .int .i64 n.p1, .int .i64 n.p2] 160) := ⟨_, rfl⟩
     rw [<- rz] at hfi iI DY
     have hnb : W3.heap[w2.heap.size]? = some (bR n) := by rw [rz]; exact aj _ _
     obtain ⟨d0, d1, d2, d3, d4, d5, d6, d7, d8, d9⟩ := aC hnb
     have lg := af hnb
     have Rq : Hid _ := rz
     clear rz hnb
     go_upto_region 6 with fail
     rw [<- Rq.out]
     go_quiet ((go_at_call 106; exact Calls.quiet_of_same (hfi _)))
     have Jv : Hid ((W3.drewN nq).ownsRow WB.heap.size 3 1 u5 (aX E (O.take (k + 1))).length (cA (aX E (O.take (k + 1))))) := by
      show (W3.drewN nq).ownsRow WB.heap.size 3 1 u5 (aX E (O.take (k + 1))).length (cA (aX E (O.take (k + 1))))
      rw [kI.out]; exact aA DY.out (fK (Below.refl _ _))
     have oF : Hid _ := fK (n := nq) iI.out
     go_wp2
     go_roundw
     case rel => exact ⟨k + 1, by omega, by go_num, Jv.out, oF.out⟩
     case measure => simp [intOf]; omega
   ·have q4 : ((n.form : Int) == 4) = false := ah (b := 4) h4
    have iF := ld.out
    rw [if_neg (fun h => h4 h.1), List.append_nil] at iF
    have kI : Hid _ := iF
    clear iF ld h4 hfi
    obtain ⟨W3, rz⟩ : ∃ W3, W3 = w2.alloc (.cells #[.int .i64 n.form, .int .i64 n.at_, .int .i64 n.aO, .int .i64 n.num, .string (bs n.word), .int .i64 n.region, .int .i64 n.source, .int .i64 n.p0, .int .i64 n.p1, .int .i64 n.p2] 160) := ⟨_, rfl⟩
    rw [<- rz] at iI DY
    have hnb : W3.heap[w2.heap.size]? = some (bR n) := by rw [rz]; exact aj _ _
    obtain ⟨d0, d1, d2, d3, d4, d5, d6, d7, d8, d9⟩ := aC hnb
    have lg := af hnb
    have Rq : Hid _ := rz
    clear rz hnb
    go_upto_region 6 with fail
    rw [<- Rq.out]
    go_quiet (fail)
    have Jv : Hid ((W3.drewN nq).ownsRow WB.heap.size 3 1 u5 (aX E (O.take (k + 1))).length (cA (aX E (O.take (k + 1))))) := by
     show (W3.drewN nq).ownsRow WB.heap.size 3 1 u5 (aX E (O.take (k + 1))).length (cA (aX E (O.take (k + 1))))
     rw [kI.out]; exact aA DY.out (fK (Below.refl _ _))
    have oF : Hid _ := fK (n := nq) iI.out
    go_wp2
    go_roundw
    case rel => exact ⟨k + 1, by omega, by go_num, Jv.out, oF.out⟩
    case measure => simp [intOf]; omega
  ·have FC : O.take k = O := by rw [List.take_of_length_le (by omega)]
   rw [FC] at hown
   have gW : Hid _ := dw
   have dS : Hid _ := hown
   clear dw hown FC
   go_wp2_with fail
   refine gQ.mono ?_
   rintro _ w1 ⟨rfl, hb1⟩
   have dF : Hid _ := dK.out.trans ((gW.out.trans (hb1.mono lJ)).mono dK.out.size)
   have P6 : Hid _ := aA dS.out hb1
   clear hb1 gQ
   go_wp2
   go_ret
   exact ⟨_, rfl, cY P6.out (fun k hk => by have := Br.out; have := (World.ownsRow.lt P6.out k hk).1; omega), dF.out⟩
open Go.Lib (decDigits)
def cI (k : Kw) (nm : List UInt8) (i : Nat) (x : List UInt8) : List UInt8 := (if (k = .bb /\ i = 0) \/ (k = .loop /\ i = 1) then 32 :: nm else []) ++ (32 :: x)
def bC (k : Kw) (nm : List UInt8) : Nat -> List (List UInt8) -> List UInt8
 | _, [] => []
 | i, x :: r => cI k nm i x ++ bC k nm (i + 1) r
theorem qg (k : Kw) (nm : List UInt8) (x : List UInt8) : ∀ (l : List (List UInt8)) (i : Nat), bC k nm i (l ++ [x]) = bC k nm i l ++ cI k nm (i + l.length) x
 | [], i => by simp [bC]
 | y :: r, i => by
  simp only [List.cons_append, bC, qg k nm x r (i + 1), List.append_assoc, List.length_cons]
  rw [show i + 1 + r.length = i + (r.length + 1) from by omega]
mutual
def PT.yF : PT -> List UInt8
 | .num _ s => decDigits (au s).toNat
 | .name _ s => s
 | .node _ k nm _ kids => if k = .new then (lZ kids).headD [] else 40 :: (k.bytes ++ (bC k nm 0 (lZ kids) ++ [41]))
def lZ : List PT -> List (List UInt8)
 | [] => []
 | t :: r => t.yF :: lZ r
end
theorem BD : ∀ ts : List PT, (lZ ts).length = ts.length
 | [] => rfl
 | _ :: r => by simp [lZ, BD r]
mutual
def PT.bN : PT -> Prop
 | .num _ s => 0 <= au s /\ au s <= 9999
 | .name _ s => s.length <= 9000
 | .node _ _ nm _ kids => nm.length <= 9000 /\ bG kids
def bG : List PT -> Prop
 | [] => True
 | t :: r => t.bN /\ bG r
end
theorem kJ (u : Nat) (h : u <= 9999) : (decDigits u).length <= 4 := by
 rw [Go.Lib.decDigits]; split
 ·simp
 ·rw [Go.Lib.decDigits]; split
  ·simp
  ·rw [Go.Lib.decDigits]; split
   ·simp
   ·rw [Go.Lib.decDigits]; split
    ·simp
    ·omega
theorem D4 (k : Kw) (nm : List UInt8) (i : Nat) (x : List UInt8) (h : nm.length <= 9000) : (cI k nm i x).length <= 9002 + x.length := by
 unfold cI; split <;> simp <;> omega
theorem vH (lo hi : Int) : ∀ (l : List UInt8) (c : UInt8), c ∈ l.take (run lo hi l) -> j7 lo hi c = true
 | [], c, h => by simp at h
 | d :: r, c, h => by
  simp only [run] at h
  split at h
  ·rename_i hd
   rw [List.take_succ_cons, List.mem_cons] at h
   rcases h with h | h
   ·rw [h]; exact hd
   ·exact vH lo hi r c h
  ·simp at h
theorem vI : ∀ (l : List UInt8) (a : Int), (∀ c ∈ l, j7 48 57 c = true) -> 0 <= a ->
  0 <= l.foldl (fun n c => if c = 35 then n else 10 * n + (c.toNat : Int) - 48) a /\ l.foldl (fun n c => if c = 35 then n else 10 * n + (c.toNat : Int) - 48) a <= (a + 1) * ((10 ^ l.length : Nat) : Int) - 1
 | [], a, _, h => by simp; omega
 | c :: r, a, hd, h => by
  have hc := hd c (by simp)
  simp only [j7, Bool.and_eq_true, decide_eq_true_eq] at hc
  have zZ : c ≠ 35 := by intro e; subst e; simp at hc
  have ih := vI r (10 * a + (c.toNat : Int) - 48) (fun x hx => hd x (by simp [hx])) (by omega)
  simp only [List.foldl_cons, if_neg zZ, List.length_cons]
  refine ⟨ih.1, Int.le_trans ih.2 ?_⟩
  have e : ((10 ^ (r.length + 1) : Nat) : Int) = 10 * ((10 ^ r.length : Nat) : Int) := by rw [Nat.pow_succ]; omega
  rw [e]
  have hp : (0 : Int) <= ((10 ^ r.length : Nat) : Int) := Int.natCast_nonneg _
  have h2 : (10 * a + (c.toNat : Int) - 48 + 1) <= (a + 1) * 10 := by omega
  have h3 := Int.mul_le_mul_of_nonneg_right h2 hp
  rw [Int.mul_assoc] at h3
  omega
def lM (t : Tk) : Prop := (t.c = .num -> 0 <= au t.s /\ au t.s <= 9999) /\ (t.c = .xP -> t.s.length <= 9000)
theorem J9 (l : List UInt8) : ((aJ l).2 = .num -> 0 <= au (l.take (aJ l).1) /\ au (l.take (aJ l).1) <= 9999) /\ ((aJ l).2 = .xP -> (aJ l).1 <= 9000) := by
 unfold aJ
 split
 ·refine ⟨fun h => ?_, fun h => ?_⟩
  ·simp only [dX] at h
   split at h
   ·simp at h
   ·split at h <;> simp at h
  ·simp only [dX] at h
   split at h
   ·simp at h
   ·split at h
    ·simp only; omega
    ·simp at h
 ·split
  ·refine ⟨fun h => ?_, fun h => ?_⟩
   ·simp only at h
    split at h
    ·rename_i hn
     simp only [bY, Bool.and_eq_true, decide_eq_true_eq] at hn
     have hf := vI (l.take (run 48 57 l)) 0 (fun c hc => vH 48 57 l c hc) (by omega)
     have hp : 10 ^ (l.take (run 48 57 l)).length <= 10 ^ 4 := Nat.pow_le_pow_right (by omega) hn.1.2
     unfold au
     simp only
     omega
    ·simp at h
   ·simp only at h
    split at h <;> simp at h
  ·split
   ·simp
   ·split
    ·refine ⟨fun h => ?_, fun h => ?_⟩ <;> (simp only at h; split at h <;> simp at h)
    ·refine ⟨fun h => ?_, fun _ => by simp⟩
     simp only at h
     split at h
     ·simp at h
     ·split at h <;> simp at h
theorem gI (l : List UInt8) : ∀ t ∈ tokens l, lM t := by
 intro t ht
 obtain ⟨l', _, hs, hc⟩ := rp _ _ _ t ht
 have h := J9 l'
 unfold lM
 rw [hs, hc]
 exact ⟨h.1, fun e => by have := h.2 e; simp; omega⟩
mutual
theorem PE.bN {ae : Bool} : ∀ {l : List Tk} {e : PT} {r : List Tk}, PE ae l e r -> (∀ t ∈ l, lM t) -> e.bN /\ ∀ t ∈ r, lM t
 | _, _, _, .num (t := t) h, ha => ⟨by simp only [PT.bN]; exact (ha t (by simp)).1 h, fun x hx => ha x (by simp [hx])⟩
 | _, _, _, .name (t := t) h, ha => ⟨by simp only [PT.bN]; exact (ha t (by simp)).2 h, fun x hx => ha x (by simp [hx])⟩
 | _, _, _, .node _ _ _ h4, ha => by
  have h := PW.bN h4 (fun x hx => ha x (by simp [hx]))
  exact ⟨by simp only [PT.bN]; exact ⟨h.1, h.2.1⟩, h.2.2⟩
theorem PW.bN {ae : Bool} : ∀ {ws : List Wt} {l : List Tk} {nm rg : List UInt8} {kids : List PT} {r : List Tk}, PW ae ws l nm rg kids r -> (∀ t ∈ l, lM t) -> nm.length <= 9000 /\ bG kids /\ ∀ t ∈ r, lM t
 | _, _, _, _, _, _, .nil, ha => ⟨by simp, by simp [bG], ha⟩
 | _, _, _, _, _, _, .close _ h1, ha => PW.bN h1 (fun x hx => ha x (by simp [hx]))
 | _, _, _, _, _, _, .name (t := t) h h1, ha => by
  have h' := PW.bN h1 (fun x hx => ha x (by simp [hx]))
  exact ⟨(ha t (by simp)).2 h, h'.2⟩
 | _, _, _, _, _, _, .region _ h1, ha => PW.bN h1 (fun x hx => ha x (by simp [hx]))
 | _, _, _, _, _, _, .e h0 h1, ha => by
  have a := PE.bN h0 ha
  have b := PW.bN h1 a.2
  exact ⟨b.1, by simp only [bG]; exact ⟨a.1, b.2.1⟩, b.2.2⟩
end
open Go.RowKit Go.Shelf Go.Sort
def vJ (w0 : World) : Prop := ∀ (n : Nat) (w : World), n <= 9999 -> Below w0.heap.size w0 w -> Calls Tryz.prog 49 #[.int .i64 n] w fun e w' => e = .returned (.string (bs (decDigits n))) /\ Below w.heap.size w w'
shelf_lay LaysM.n171 Nm 171 at Tryz as Tryz.Ka
theorem uH (w0 : World) (htab : Lib.TabIs Tryz.prog w0 "internal/strconv.uint64pow10" .u64 Lib.pow10Tab) : vJ w0 := by
 intro n w hn hb
 refine (Any.strconv_Itoa Tryz.Ka (n : Int) (by omega) (by omega) w (Lib.tabBelow_of_tabIs htab w hb)).mono ?_
 rintro e w' ⟨rfl, k, os, rfl⟩
 refine ⟨?_, Lib.below_grow _ _ (Nat.le_refl _) k os⟩
 have e1 : Lib.itoa (n : Int) = decDigits n := by
  unfold Lib.itoa; rw [if_neg (by omega)]; rfl
 rw [e1]; rfl
end Go.Proofs.YtpicaknklgccoaaGreatDoor
