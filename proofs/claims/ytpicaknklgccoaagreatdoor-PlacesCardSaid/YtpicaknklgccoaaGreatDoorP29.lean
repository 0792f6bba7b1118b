import Derived.Test.YtpicaknklgccoaaGreatDoorP28
namespace Go.Proofs.YtpicaknklgccoaaGreatDoor
open Go.RowKit
set_option maxRecDepth 100000 in
set_option maxHeartbeats 8000000 in
theorem about_any (fb : Nat) (w : World) (x1 : Option Addr) (n1 c1 : Nat) (x2 : Option Addr) (n2 c2 : Nat) (pv tv : Value) (tb : List TP) (K : List Nat) (ns : List NR) (op : List Int) (D : List Ty) (T : List Ty) (h : FdIn fb w (.slice x1 n1 c1) (.slice x2 n2 c2) pv tv tb K ns op) (hR : Rel tb D K T) (hl : tb.length ≤ 9000) (hK : K.length ≤ 9000) (hn : ns.length ≤ 9000) (rg : Nat) (n0 : NR) (h0 : ns[ns.length - 1]? = some n0) :
  Calls Tryz.prog 108 #[ptr fb, .int .i64 rg] w fun v w' => v = .returned (.int .i64 (aboutF T rg (spanF T rg ns 0 n0.beh n0.at_).1 (spanF T rg ns 0 n0.beh n0.at_).2 ns 0)) ∧ Below w.heap.size w w' := by
 obtain ⟨m, hm⟩ : ∃ m, m = ns.length := ⟨_, rfl⟩
 have hCC : ∀ W', Below w.heap.size w W' → W'.cell? ⟨fb, 0, none⟩ = some (.slice x1 n1 c1) ∧ W'.cell? ⟨fb, 1, none⟩ = some (.slice x2 n2 c2) ∧ fb < W'.heap.size := fun W' hb => by
  have := (h.below hb).c.y
  exact ⟨by rw [blk_cell this]; rfl, by rw [blk_cell this]; rfl, blk_lt this⟩
 have hNO : ∀ W', Below w.heap.size w W' → ∀ (k : Nat) (n : NR), ns[k]? = some n → Calls Tryz.prog 94 #[.agg #[.slice x1 n1 c1, .slice x2 n2 c2], .int .i64 k] W' fun v w' => v = .returned (nrVal n) ∧ Below w.heap.size w w' := fun W' hb k n hk => by
  refine (Node_in' W' _ _ ns op (h.below hb).t k n hk hn).mono ?_
  rintro _ w' ⟨rfl, hb'⟩
  exact ⟨rfl, hb.trans (hb'.mono hb.size)⟩
 have hLE : ∀ W', Below w.heap.size w W' → Calls Tryz.prog 93 #[.agg #[.slice x1 n1 c1, .slice x2 n2 c2]] W' fun v w' => v = .returned (.int .i64 m) ∧ Below w.heap.size w w' := fun W' hb => by
  have := Len_any W' _ _ ns op (h.below hb).t
  rw [← hm] at this
  refine this.mono ?_
  rintro _ w' ⟨rfl, hb'⟩
  exact ⟨rfl, hb.trans (hb'.mono hb.size)⟩
 have hME : ∀ W', Below w.heap.size w W' → ∀ i : Nat, i < m → Calls Tryz.prog 137 #[.pointer (some ⟨fb, 0, none⟩), .int .i64 i, .int .i64 rg] W' fun v w' => v = .returned (.bool ((knownT T i).has rg)) ∧ Below w.heap.size w w' := fun W' hb i hi => by
  refine (fmentions_any fb W' _ _ pv tv tb K ns op D T (h.below hb) hR hl hK i rg (by omega)).mono ?_
  rintro _ w' ⟨rfl, hb'⟩
  exact ⟨rfl, hb.trans (hb'.mono hb.size)⟩
 have hSP := span_any fb w x1 n1 c1 x2 n2 c2 pv tv tb K ns op D T h hR hl hK hn rg n0 h0
 obtain ⟨sa, sb, hsp⟩ : ∃ sa sb, spanF T rg ns 0 n0.beh n0.at_ = (sa, sb) := ⟨_, _, rfl⟩
 rw [hsp] at hSP ⊢
 simp only at hSP ⊢
 obtain ⟨R, hRR⟩ : ∃ R, R = aboutF T rg sa sb ns 0 := ⟨_, rfl⟩
 rw [← hRR]
 unfold nrVal at hNO
 unfold ptr at hSP
 have HCC : Hid _ := hCC
 have HNO : Hid _ := hNO
 have HLE : Hid _ := hLE
 have HME : Hid _ := hME
 have HSP : Hid _ := hSP
 have HM : Hid _ := hm
 have HRR : Hid _ := hRR
 rw [← hm] at hn
 clear hCC hNO hLE hME h hR hm hRR h0 hSP hsp
 show Calls _ _ #[Value.pointer (some ⟨fb, 0, none⟩), _] w _
 go_enter Tryz.func108, Tryz.ntmps108
 go_wp2_with fail
 refine Calls.mono HSP.out ?_
 rintro _ w0 ⟨rfl, hb0⟩
 have HB0 : Hid _ := hb0
 clear hb0 HSP
 go_wp2
 go_loopw [7, 8] (fun i _ wr => ∃ (k : Nat), k ≤ m ∧ i = .int .i64 k ∧ Hid (aboutF T rg sa sb ns 0 = aboutF T rg sa sb (ns.drop k) k) ∧ Below w.heap.size w wr) (fun i _ _ => m - (intOf i).toNat)
 case atStart => exact ⟨0, Nat.zero_le _, rfl, (rfl : aboutF T rg sa sb ns 0 = aboutF T rg sa sb (ns.drop 0) 0), HB0.out⟩
 case round =>
  obtain ⟨k, hk, rfl, HF, hbr⟩ := hrel
  obtain ⟨b0, b1, bl⟩ := HCC.out _ hbr
  have hln := HLE.out _ hbr
  by_cases hlt : k < m
  ·have hkl : k < ns.length := by have := HM.out; omega
   obtain ⟨n, hn'⟩ : ∃ n, ns[k]? = some n := ⟨ns[k], List.getElem?_eq_getElem hkl⟩
   have hdr : ns.drop k = n :: ns.drop (k + 1) := by
    rw [List.drop_eq_getElem_cons hkl]; rw [List.getElem?_eq_getElem hkl] at hn'; simp only [Option.some.injEq] at hn'; rw [hn']
   have hst := HF.out
   rw [hdr] at hst
   simp only [aboutF] at hst
   have HST : Hid _ := hst
   have HN : Hid _ := hn'
   clear hst hdr hn' HF hbr hkl
   go_wp2_with fail
   refine hln.mono ?_
   rintro _ w1 ⟨rfl, hb1⟩
   have hno := HNO.out w1 hb1 k n HN.out
   clear hln b0 b1 bl
   obtain ⟨b0, b1, bl⟩ := HCC.out _ hb1
   clear hb1
   go_wp2_with fail
   refine hno.mono ?_
   rintro _ w2 ⟨rfl, hb2⟩
   have hb3 := belY_al hb2 (nrO n)
   have hme := HME.out _ hb3 k hlt
   have HB3 : Hid _ := hb3
   unfold nrO nrC at hme HB3
   clear hno hb2 hb3 b0 b1 bl
   by_cases ha : n.at_ ≤ sa
   ·have qa : (n.at_ : Int) ≤ (sa : Int) := by omega
    by_cases hb : sb ≤ n.beh
    ·have qb : (sb : Int) ≤ (n.beh : Int) := by omega
     have hst := HST.out
     cases hmm : (knownT T (k : Int)).has rg with
     | false =>
      rw [hmm] at hme
      rw [if_pos ⟨ha, hb, hmm⟩] at hst
      have HA : Hid (R = (k : Int)) := (show R = (k : Int) by rw [HRR.out, hst])
      clear hst HST hmm ha hb
      go_wp2_with fail
      refine hme.mono ?_
      rintro _ w4 ⟨rfl, hb4⟩
      have HB4 : Hid _ := hb4
      clear hb4 hme
      go_wp2
      go_ret
      exact ⟨by rw [HA.out]; first | done | rfl, HB4.out⟩
     | true =>
      rw [hmm] at hme
      rw [if_neg (fun h => by rw [hmm] at h; exact absurd h.2.2 (by decide))] at hst
      have HST2 : Hid _ := hst
      clear hst HST hmm ha hb
      go_wp2_with fail
      refine hme.mono ?_
      rintro _ w4 ⟨rfl, hb4⟩
      have HB4 : Hid _ := hb4
      clear hb4 hme
      go_wp2
      go_roundw
      case rel => exact ⟨k + 1, by omega, by go_num, HST2.out, HB4.out⟩
      case measure => simp [intOf]; omega
    ·have qb : ¬ (sb : Int) ≤ (n.beh : Int) := by omega
     have hst := HST.out
     rw [if_neg (fun h => hb h.2.1)] at hst
     have HST2 : Hid _ := hst
     clear hst HST ha hb hme
     go_wp2
     go_roundw
     case rel => exact ⟨k + 1, by omega, by go_num, HST2.out, HB3.out⟩
     case measure => simp [intOf]; omega
   ·have qa : ¬ (n.at_ : Int) ≤ (sa : Int) := by omega
    have hst := HST.out
    rw [if_neg (fun h => ha h.1)] at hst
    have HST2 : Hid _ := hst
    clear hst HST ha hme
    go_wp2
    go_roundw
    case rel => exact ⟨k + 1, by omega, by go_num, HST2.out, HB3.out⟩
    case measure => simp [intOf]; omega
  ·have HRA : Hid (R = -1) := by
    have hd : ns.drop k = [] := List.drop_eq_nil_of_le (by have := HM.out; omega)
    have hst := HF.out
    rw [hd] at hst
    rw [HRR.out, hst]; exact rfl
   clear HF hbr
   go_wp2_with fail
   refine hln.mono ?_
   rintro _ w1 ⟨rfl, hb1⟩
   have HB1 : Hid _ := hb1
   clear hb1 hln
   go_wp2
   go_ret
   exact ⟨by rw [HRA.out]; first | done | rfl, HB1.out⟩
set_option maxRecDepth 100000 in
set_option maxHeartbeats 16000000 in
theorem sharingOf_any (w : World) (x1 : Option Addr) (n1 c1 : Nat) (x2 : Option Addr) (n2 c2 : Nat) (ns : List NR) (op : List Int) (hT : TreeIn w (.slice x1 n1 c1) (.slice x2 n2 c2) ns op) (hl : ns.length ≤ 9000) (hsm : ∀ n ∈ ns, n.small) (n0 : NR) (h0 : ns[ns.length - 1]? = some n0) (hB : n0.beh ≤ 9000) (hat : ∀ n ∈ ns, n.at_ < n0.beh) (hsz : SzOk [] (ns.map atR)) :
  Calls Tryz.prog 104 #[treeV (.slice x1 n1 c1) (.slice x2 n2 c2)] w fun e w' => ∃ pa pn pc ta tn tc ev, e = .returned (.agg #[.slice pa pn pc, .slice ta tn tc, ev]) ∧ Below w.heap.size w w' ∧ w'.ownsRow 0 3 1 ev n0.beh (natVs (shE [] (List.range n0.beh) ns)) ∧ (∀ g, ev.ownBlock = some g → w.heap.size ≤ g) := by
 obtain ⟨m, hm⟩ : ∃ m, m = ns.length := ⟨_, rfl⟩
 have hm1 : 1 ≤ m := by have := (List.getElem?_eq_some_iff.1 h0).1; omega
 have hm9 : m ≤ 9000 := by omega
 have hB1 : 1 ≤ n0.beh := by have := hat n0 (List.mem_of_getElem? h0); omega
 obtain ⟨W0, hW0⟩ : ∃ W0, W0 = ((w.alloc (.cells #[.slice x1 n1 c1, .slice x2 n2 c2] 59)).alloc (.cells #[.slice none 0 0, .slice none 0 0, .slice none 0 0] 186)).alloc (.cells #[.slice none 0 0, .slice none 0 0, .slice none 0 0] 186) := ⟨_, rfl⟩
 have hw0 : Below w.heap.size w W0 := by rw [hW0]; exact belY_al (belY_al (belY_al (Below.refl _ _) _) _) _
 have hs0 : W0.heap.size = w.heap.size + 1 + 1 + 1 := by rw [hW0]; simp
 have hbx : W0.heap[w.heap.size]? = some (.cells #[.slice x1 n1 c1, .slice x2 n2 c2] 59 (0, 0)) := by
  have h1 := blk_new w (.cells #[.slice x1 n1 c1, .slice x2 n2 c2] 59 (0, 0))
  have h2 := belY_al (belY_al (Below.refl (w.alloc (.cells #[.slice x1 n1 c1, .slice x2 n2 c2] 59)).heap.size (w.alloc (.cells #[.slice x1 n1 c1, .slice x2 n2 c2] 59))) (.cells #[.slice none 0 0, .slice none 0 0, .slice none 0 0] 186)) (.cells #[.slice none 0 0, .slice none 0 0, .slice none 0 0] 186)
  rw [hW0, h2.block _ (by simp)]; exact h1
 have hsb : W0.heap[w.heap.size + 1 + 1]? = some (.cells #[.slice none 0 0, .slice none 0 0, .slice none 0 0] 186 (0, 0)) := by
  have := blk_new ((w.alloc (.cells #[.slice x1 n1 c1, .slice x2 n2 c2] 59)).alloc (.cells #[.slice none 0 0, .slice none 0 0, .slice none 0 0] 186)) (.cells #[.slice none 0 0, .slice none 0 0, .slice none 0 0] 186 (0, 0))
  rw [hW0]; simpa using this
 have hrs : W0.heap[w.heap.size + 1]? = some (.cells #[.slice none 0 0, .slice none 0 0, .slice none 0 0] 186 (0, 0)) := by
  have h1 := blk_new (w.alloc (.cells #[.slice x1 n1 c1, .slice x2 n2 c2] 59)) (.cells #[.slice none 0 0, .slice none 0 0, .slice none 0 0] 186 (0, 0))
  have h2 := belY_al (Below.refl ((w.alloc (.cells #[.slice x1 n1 c1, .slice x2 n2 c2] 59)).alloc (.cells #[.slice none 0 0, .slice none 0 0, .slice none 0 0] 186)).heap.size ((w.alloc (.cells #[.slice x1 n1 c1, .slice x2 n2 c2] 59)).alloc (.cells #[.slice none 0 0, .slice none 0 0, .slice none 0 0] 186))) (.cells #[.slice none 0 0, .slice none 0 0, .slice none 0 0] 186)
  rw [hW0, h2.block _ (by simp)]; simpa using h1
 obtain ⟨sb, hsbe⟩ : ∃ sb, sb = w.heap.size + 1 + 1 := ⟨_, rfl⟩
 have hBC : ∀ W', Below sb W0 W' → W'.cell? ⟨w.heap.size, 0, none⟩ = some (.slice x1 n1 c1) ∧ W'.cell? ⟨w.heap.size, 1, none⟩ = some (.slice x2 n2 c2) ∧ w.heap.size < W'.heap.size := fun W' hb => by
  have h1 : W'.heap[w.heap.size]? = some (.cells #[.slice x1 n1 c1, .slice x2 n2 c2] 59 (0, 0)) := by rw [hb.block _ (by omega)]; exact hbx
  exact ⟨by rw [blk_cell h1]; rfl, by rw [blk_cell h1]; rfl, blk_lt h1⟩
 have hTW : ∀ W', Below sb W0 W' → TreeIn W' (.slice x1 n1 c1) (.slice x2 n2 c2) ns op := fun W' hb => hT.below (hw0.trans (hb.mono (by omega)))
 have hRO : ∀ W', Below W0.heap.size W0 W' → Calls Tryz.prog 68 #[.agg #[.slice x1 n1 c1, .slice x2 n2 c2]] W' fun v w' => v = .returned (.int .i64 ((m - 1 : Nat) : Int)) ∧ Below W0.heap.size W0 w' ∧ Below W'.heap.size W' w' := fun W' hb => by
  refine (Root_any W' _ _ ns op (hTW W' (hb.mono (by omega))) hl).mono ?_
  rintro _ w' ⟨rfl, hb'⟩
  exact ⟨by congr 2; omega, hb.trans (hb'.mono hb.size), hb'⟩
 have hNO : ∀ W', Below sb W0 W' → ∀ (k : Nat) (n : NR), ns[k]? = some n → Calls Tryz.prog 94 #[.agg #[.slice x1 n1 c1, .slice x2 n2 c2], .int .i64 k] W' fun v w' => v = .returned (nrVal n) ∧ Below W'.heap.size W' w' := fun W' hb k n hk => Node_in' W' _ _ ns op (hTW W' hb) k n hk hl
 have hN0 : ∀ W', Below W0.heap.size W0 W' → Calls Tryz.prog 94 #[.agg #[.slice x1 n1 c1, .slice x2 n2 c2], .int .i64 ((m - 1 : Nat) : Int)] W' fun v w' => v = .returned (nrVal n0) ∧ Below W0.heap.size W0 w' ∧ Below W'.heap.size W' w' := fun W' hb => by
  refine (hNO W' (hb.mono (by omega)) (m - 1) n0 (by rw [hm]; exact h0)).mono ?_
  rintro _ w' ⟨rfl, hb'⟩
  exact ⟨rfl, hb.trans (hb'.mono hb.size), hb'⟩
 have hLE : ∀ W', Below sb W0 W' → Calls Tryz.prog 93 #[.agg #[.slice x1 n1 c1, .slice x2 n2 c2]] W' fun v w' => v = .returned (.int .i64 m) ∧ Below W'.heap.size W' w' := fun W' hb => by
  have := Len_any W' _ _ ns op (hTW W' hb)
  rw [← hm] at this; exact this
 obtain ⟨i0, hi, hz0, hz1, hz2⟩ := info_parts Tryz.infoInt
 have HI : Hid _ := hi
 have HZ0 : Hid _ := hz0
 have HZ1 : Hid _ := hz1
 have HZ2 : Hid _ := hz2
 unfold nrVal at hN0 hNO
 have HBC : Hid _ := hBC
 have HRO : Hid _ := hRO
 have HNO : Hid _ := hNO
 have HN0 : Hid _ := hN0
 have HLE : Hid _ := hLE
 have HSB : Hid _ := hsb
 have HRS : Hid _ := hrs
 have HW0 : Hid _ := hw0
 have HM : Hid _ := hm
 have HWE : Hid _ := hW0
 have HSM : Hid _ := hsm
 have HAT : Hid _ := hat
 have HSZ : Hid _ := hsz
 clear hi hz0 hz1 hz2 hBC hRO hNO hN0 hLE hsb hrs hw0 hm hW0 hsm hat hsz hT hTW hbx h0
 have hsW : sb < W0.heap.size := by omega
 have hwsb : w.heap.size < sb := by omega
 have HS0 : Hid _ := hs0
 clear hs0
 unfold treeV
 go_enter Tryz.func104, Tryz.ntmps104
 go_upto_region 2 with fail
 rw [← HWE.out, ← hsbe]
 have HSE : Hid _ := hsbe
 clear hsbe
 obtain ⟨b0, b1, bl⟩ := HBC.out W0 (Below.refl _ _)
 go_cut [4] from 11 to 14 (fun t4 wx => ∃ q, t4 = .pointer (some ⟨q, 0, none⟩) ∧ wx.heap[q]? = some (nrO n0) ∧ W0.heap.size ≤ q ∧ Below W0.heap.size W0 wx)
 case first =>
  go_region_law (first
   | (refine stepY_call rfl 68 #[.agg #[.slice x1 n1 c1, .slice x2 n2 c2]] ?_ ?_
      ·go_simp
      refine Calls.mono (HRO.out _ ?_) ?_
      ·repeat (first | with_reducible exact Below.refl _ _ | with_reducible refine belY_al ?_ _ | with_reducible refine belY_d ?_ | with_reducible refine belY_dn ?_)
      rintro e w2 ⟨rfl, hb2, hb2'⟩
      obtain ⟨b0, b1, bl⟩ := HBC.out _ (hb2.mono (by omega))
      have hb2s := hb2.size
      try (have hz : w2.heap[W0.heap.size]? = some (.cells nz 160 (0, 0)) := (hb2'.block _ (by simp)).trans (blk_new _ _))
      refine ⟨_, rfl, ?_⟩)
   | (refine stepY_call rfl 94 #[.agg #[.slice x1 n1 c1, .slice x2 n2 c2], .int .i64 ((m - 1 : Nat) : Int)] ?_ ?_
      ·go_simp
      refine Calls.mono (HN0.out _ ?_) ?_
      ·repeat (first | with_reducible exact Below.refl _ _ | with_reducible exact hb2 | with_reducible refine belY_al ?_ _ | with_reducible refine belY_d ?_ | with_reducible refine belY_dn ?_)
      rintro e w3 ⟨rfl, hb3, hb3'⟩
      try (have hz3 : w3.heap[w2.heap.size]? = some (.cells nz 160 (0, 0)) := (hb3'.block _ (by simp)).trans (blk_new _ _))
      try (have hz4 : w3.heap[W0.heap.size]? = some (.cells nz 160 (0, 0)) := (hb3'.block _ (blk_lt hz)).trans hz)
      try (obtain ⟨z0, z1, z2, z3, z4, z5, z6, z7, z8, z9⟩ := nz_cells hz3; obtain ⟨f0, f1, f2, f3, f4, f5, f6, f7, f8, f9⟩ := nz_free hz3; have hzl := blk_lt hz3)
      try (obtain ⟨z0, z1, z2, z3, z4, z5, z6, z7, z8, z9⟩ := nz_cells hz4; obtain ⟨f0, f1, f2, f3, f4, f5, f6, f7, f8, f9⟩ := nz_free hz4; have hzl := blk_lt hz4)
      refine ⟨_, rfl, ?_⟩))
  all_goals (go_wp2_with fail; go_meet)
  all_goals first
   | (have hE := nz_end (.int .i64 n0.form) (.int .i64 n0.at_) (.int .i64 n0.beh) (.int .i64 n0.num) (.string (bs n0.word)) (.int .i64 n0.region) (.int .i64 n0.source) (.int .i64 n0.p0) (.int .i64 n0.p1) (.int .i64 n0.p2) hb3 hb2s hz3; exact ⟨_, rfl, hE.1, hb2s, hE.2⟩)
   | (have hE := nz_end (.int .i64 n0.form) (.int .i64 n0.at_) (.int .i64 n0.beh) (.int .i64 n0.num) (.string (bs n0.word)) (.int .i64 n0.region) (.int .i64 n0.source) (.int .i64 n0.p0) (.int .i64 n0.p1) (.int .i64 n0.p2) hb3 (Nat.le_refl _) hz4; exact ⟨_, rfl, hE.1, Nat.le_refl _, hE.2⟩)
   | exact ⟨_, rfl, blk_new _ _, hb3.size, belY_al hb3 _⟩
   | skip
 case rest =>
  obtain ⟨q, rfl, hq, hsq, hbc⟩ := hcut
  have hq2 : wc.cell? ⟨q, 2, none⟩ = some (.int .i64 n0.beh) := (nr_cells10 hq).2.2.1
  have hql := blk_lt hq
  have hsc : wc.heap[sb]? = some (.cells #[.slice none 0 0, .slice none 0 0, .slice none 0 0] 186 (0, 0)) := by rw [hbc.block _ hsW, HSE.out]; exact HSB.out
  have H1 : Hid (Sh1 W0 sb q n0 wc (.slice none 0 0) 0) := ⟨hbc.mono (by omega), hsc, hq, World.ownsRow_nil _ _ _ _, fun g hg => by simp [Value.ownBlock] at hg, by omega⟩
  clear hq hbc hsc HRO HN0 b0 b1 bl hq2 HSB
  obtain ⟨B, hBe⟩ : ∃ B, B = n0.beh := ⟨_, rfl⟩
  rw [← hBe] at hB HAT hB1
  have HBE : Hid _ := hBe
  clear hBe
  go_wp2
  go_loopw [5] (fun i wr => ∃ (k : Nat) (ev : Value), k ≤ B ∧ i = .int .i64 k ∧ Sh1 W0 sb q n0 wr ev k) (fun i _ => B - (intOf i).toNat)
  case atStart => exact ⟨0, _, Nat.zero_le _, rfl, H1.out⟩
  case round =>
   obtain ⟨k, ev, hk, rfl, hS⟩ := hrel
   have d2 : wr.cell? ⟨q, 2, none⟩ = some (.int .i64 B) := by rw [HBE.out]; exact (nr_cells10 hS.n).2.2.1
   have dl := blk_lt hS.n
   by_cases hlt : k < B
   ·obtain ⟨ao, oc, hev⟩ := slice_any hS.r
    have y2 : wr.cell? ⟨sb, 2, none⟩ = some (.slice ao k oc) := by rw [blk_cell hS.y, ← hev]; rfl
    have yl := blk_lt hS.y
    have HOWN : Hid ((wr.alloc (.cells #[.int .i64 k] 3)).ownsRow 0 3 1 (.slice ao k oc) k (natVs (List.range k))) := by
     have := hS.r.alloc (.cells #[.int .i64 k] 3)
     rw [hev] at this; exact this
    have HYW : Hid ((wr.alloc (.cells #[.int .i64 k] 3)).heap[sb]? = some (.cells #[.slice none 0 0, .slice none 0 0, ev] 186 (0, 0))) := blk_alloc _ hS.y
    have HC2 : Hid (∀ u ∈ ([.int .i64 k] : List Value), u.oneCell' = true) := by intro v hv; simp only [List.mem_singleton] at hv; subst hv; rfl
    have HEV : Hid _ := hev
    have HS : Hid _ := hS
    clear hS hev
    go_wp2_with (at_builtin; go_must (refine app_own _ rfl (.tmp 22) (.tmp 24) 42 rfl 3 i0 _ 1 8 Tryz.undInts HI.out HZ0.out HZ1.out HZ2.out rfl (by decide) (.slice ao k oc) k (natVs (List.range k)) rfl HOWN.out ⟨wr.heap.size, 0, none⟩ 1 1 [.int .i64 k] rfl rfl ?c1 HC2.out (by decide) ?c3 ?c4 ?_))
    case c1 =>
     intro j v hj
     rw [← hj]
     first | rfl | exact alloc_cell_at _ _ _ _
    case c3 => unfold maxLen; omega
    case c4 => omega
    intro g cap w4 hown hgrow hor
    have hsl : sb < w4.heap.size := by have := hgrow.size; simp at this; omega
    have hcb' := grown_blk hgrow HYW.out (fun e => by have := (HS.out.e sb (by rw [HEV.out]; exact e)).1; omega)
    have z1 : w4.cell? ⟨sb, 2, none⟩ = some (.slice ao k oc) := by rw [blk_cell hcb', ← HEV.out]; rfl
    have zf := blk_free hcb' 2
    have HAD : Hid _ := Sh1.add (g := g) (cap := cap) HS.out ((Below.refl _ wr).alloc (Nat.le_refl _) (.cells #[.int .i64 k] 3)) (by rw [HEV.out]; exact hgrow) hown (by rw [HEV.out, show (wr.alloc (.cells #[.int .i64 k] 3)).heap.size = wr.heap.size + 1 from by simp]; exact hor)
    clear hown hgrow hor hcb'
    go_wp2
    go_roundw
    case rel => exact ⟨k + 1, _, by omega, by go_num, HAD.out⟩
    case measure => simp [intOf]; omega
   ·have hkB : k = B := by omega
    subst hkB
    have HS : Hid _ := hS
    obtain ⟨g, cap, hev⟩ := slice_of hS.r (by omega)
    subst hev
    have H2 : Hid (Sh2 W0 sb g cap k wr (.slice none 0 0) (.slice none 0 0) [] [] (List.range k)) :=
     ⟨hS.b, ⟨hS.y, rfl, rfl, World.ownsRow_nil _ _ _ _, World.ownsRow_nil _ _ _ _, by simp [Value.ownBlock], by simp [Value.ownBlock], fun j hj => by simp [Value.ownBlock] at hj⟩, hS.r, (hS.e g rfl).1, by simp [Value.ownBlock], by simp [Value.ownBlock], fun j hj => by simp [Value.ownBlock] at hj, fun j hj => by simp [Value.ownBlock] at hj⟩
    obtain ⟨ANS, hANS⟩ : ∃ ANS, ANS = shE [] (List.range k) ns := ⟨_, rfl⟩
    have HANS : Hid _ := hANS
    clear hS hlt HS hANS
    go_wp2
    go_loopw [6, 7, 8, 9] (fun i _ _ _ wx => ∃ (j : Nat) (pv tv : Value) (tb : List TP) (D : List Ty) (K : List Nat) (T : List Ty) (E : List Nat), j ≤ m ∧ i = .int .i64 j ∧ Sh2 W0 sb g cap k wx pv tv tb K E ∧ Rel tb D K T ∧ K.length = j ∧ tb.length ≤ j ∧ TbB k tb ∧ E.length = k ∧ Hid (ANS = shE T E (ns.drop j)) ∧ SzOk T ((ns.drop j).map atR)) (fun i _ _ _ _ => m - (intOf i).toNat)
    case atStart => exact ⟨0, _, _, [], [], [], [], List.range k, Nat.zero_le _, rfl, H2.out, rel0, rfl, Nat.le_refl _, fun j => by simp [atP]; omega, List.length_range, (HANS.out : ANS = shE [] (List.range k) (ns.drop 0)), HSZ.out⟩
    case round =>
     obtain ⟨j, pv, tv, tb, D, K, T, E, hj, rfl, hS, hRel, hKl, htl, hTb, hEl, HF, hso⟩ := hrel
     obtain ⟨b0, b1, bl⟩ := HBC.out _ hS.b
     have hln := HLE.out _ hS.b
     by_cases hlt : j < m
     ·have hjl : j < ns.length := by have := HM.out; omega
      obtain ⟨n, hn⟩ : ∃ n, ns[j]? = some n := ⟨ns[j], List.getElem?_eq_getElem hjl⟩
      have hnm := List.mem_of_getElem? hn
      have hnsm := HSM.out n hnm
      have hat := HAT.out n hnm
      have hdr : ns.drop j = n :: ns.drop (j + 1) := by
       rw [List.drop_eq_getElem_cons hjl]; rw [List.getElem?_eq_getElem hjl] at hn; simp only [Option.some.injEq] at hn; rw [hn]
      have hst := HF.out
      rw [hdr] at hso hst
      simp only [List.map_cons, SzOk] at hso
      simp only [shE] at hst
      obtain ⟨D', hRel0⟩ := stepR hRel (atR n) hso.1
      have hRel' : Rel (tyK tb K n n.at_).2 D' (K ++ [(tyK tb K n n.at_).1]) (T ++ [tyR T (atR n)]) := hRel0
      have hok : TOk tb K n := ⟨by omega, by omega, fun i => by have := (hRel.known i).2.1; omega, fun j => by have := hRel.sz_le j; omega, ⟨by have := hnsm.1; omega, by have := hnsm.1; omega⟩, ⟨by have := hnsm.2.1; omega, by have := hnsm.2.1; omega⟩, ⟨by have := hnsm.2.2.1; omega, by have := hnsm.2.2.1; omega⟩, ⟨by have := hnsm.2.2.2; omega, by have := hnsm.2.2.2; omega⟩⟩
      have htl2 : (tyK tb K n n.at_).2.length ≤ j + 1 := by
       have hpl := pairF_len tb n.at_ (knownK K n.p0) (knownK K n.p1)
       unfold tyK
       repeat' split
       all_goals first | (simp only; omega) | omega
      have hTb2 := tyK_b hTb K n n.at_ hat
      have hadd := fun (w' : World) (h' : Sh2 W0 sb g cap k w' pv tv tb K E) => AddO_any w' sb 0 _ _ pv tv tb K n n.at_ n.at_ (fun _ => rfl) h'.c hok
      have hkp1 : -10 ≤ n.p1 ∧ n.p1 ≤ 10000 := ⟨by have := hnsm.2.2.1; omega, by have := hnsm.2.2.1; omega⟩
      have hkp2 : -10 ≤ n.p2 ∧ n.p2 ≤ 10000 := ⟨by have := hnsm.2.2.2; omega, by have := hnsm.2.2.2; omega⟩
      obtain ⟨k1, k2, _⟩ := hRel'.known n.p1
      obtain ⟨l1, l2, _⟩ := hRel'.known n.p2
      have hmT := fun f hf => matchF_T hRel' f E (knownK (K ++ [(tyK tb K n n.at_).1]) n.p1) (knownK (K ++ [(tyK tb K n n.at_).1]) n.p2) hf k2 l2
      rw [← k1, ← l1] at hmT
      have hmL := matchT_len (knownT (T ++ [tyR T (atR n)]) n.p1) (knownT (T ++ [tyR T (atR n)]) n.p2) E
      have hKl2 : (K ++ [(tyK tb K n n.at_).1]).length = j + 1 := by simp [hKl]
      have hlow := hRel'.low
      have hKK : ∀ (w' : World) (pv' tv' : Value), Sh2 W0 sb g cap k w' pv' tv' (tyK tb K n n.at_).2 (K ++ [(tyK tb K n n.at_).1]) E → ∀ i : Int, -10 ≤ i ∧ i ≤ 10000 → Calls Tryz.prog 127 #[.pointer (some ⟨sb, 0, none⟩), .int .i64 i] w' fun v w'' => v = .returned (.int .i64 (knownK (K ++ [(tyK tb K n n.at_).1]) i)) ∧ w'' = w' := fun w' pv' tv' h' i hi => knownO_any w' sb 0 tv' _ i h'.c.c1 h'.c.t (by omega) hi
      have hMM : ∀ (w' : World) (pv' tv' : Value), Sh2 W0 sb g cap k w' pv' tv' (tyK tb K n n.at_).2 (K ++ [(tyK tb K n n.at_).1]) E → Calls Tryz.prog 135 #[.pointer (some ⟨sb, 0, none⟩), .int .i64 (knownK (K ++ [(tyK tb K n n.at_).1]) n.p1), .int .i64 (knownK (K ++ [(tyK tb K n n.at_).1]) n.p2)] w' fun v w'' => v = .returned (.tuple #[]) ∧ Sh2 W0 sb g cap k w'' pv' tv' (tyK tb K n n.at_).2 (K ++ [(tyK tb K n n.at_).1]) (matchT E (knownT (T ++ [tyR T (atR n)]) n.p1) (knownT (T ++ [tyR T (atR n)]) n.p2)) ∧ EFr g w' w'' := fun w' pv' tv' h' => by
       have := match_any sb g cap pv' (tyK tb K n n.at_).2 (by omega) hlow (by have := h'.gs; omega) h'.pg (knownK (K ++ [(tyK tb K n n.at_).1]) n.p1 + 1) (knownK (K ++ [(tyK tb K n n.at_).1]) n.p1) (knownK (K ++ [(tyK tb K n n.at_).1]) n.p2) E w' (by omega) (by omega) (by omega) (by omega) (by rw [hEl]; exact hTb2) h'.c.c0 (by rw [blk_cell h'.c.y, hEl]; rfl) h'.c.p (by rw [hEl]; exact h'.r)
       rw [hmT _ (by omega), hEl] at this
       refine this.mono ?_
       rintro _ w'' ⟨rfl, hf, hr⟩
       exact ⟨rfl, h'.mat hf hr, hf⟩
      have HST : Hid _ := hst
      have HN : Hid _ := hn
      have HS : Hid _ := hS
      have HRL : Hid _ := hRel'
      have HSO : Hid _ := hso.2
      unfold nrVal at hadd
      have HAD : Hid _ := hadd
      have HKK : Hid _ := hKK
      have HMM : Hid _ := hMM
      have HTB : Hid _ := hTb2
      have HLEN : Hid _ := htl2
      have HKL2 : Hid _ := hKl2
      have HML : Hid _ := hmL
      have HEL : Hid _ := hEl
      clear hS hRel hKl htl hTb hEl HF hso hnm hnsm hdr hst hRel0 hRel' hok hadd hmT k1 k2 l1 l2 hlow hKK hMM hn hjl htl2 hTb2 hKl2 hmL
      generalize tyK tb K n n.at_ = X at *
      generalize T ++ [tyR T (atR n)] = T' at *
      generalize matchT E (knownT T' n.p1) (knownT T' n.p2) = E' at *
      go_wp2_with fail
      refine hln.mono ?_
      rintro _ w1 ⟨rfl, hb1⟩
      have hS1 := HS.out.below hb1
      clear hln b0 b1 bl
      obtain ⟨b0, b1, bl⟩ := HBC.out _ hS1.b
      have hno := HNO.out w1 hS1.b j n HN.out
      have HL1 : Hid _ := hS1.c.lt
      have HS1 : Hid _ := hS1
      clear hS1 hb1 HS
      go_wp2_with fail
      refine hno.mono ?_
      rintro _ w2 ⟨rfl, hb2⟩
      have hbA : Below w1.heap.size w1 (w2.alloc (nrO n)) := hb2.alloc hb2.size (nrO n)
      have hw12 := hb2.size
      have hS2 := HS1.out.below hbA
      have hnb := blk_new w2 (nrO n)
      have had := HAD.out _ hS2
      have HS2 : Hid _ := hS2
      have HNB : Hid _ := hnb
      have hsl2 := blk_lt hS2.c.y
      unfold nrO nrC at had
      clear hb2 hbA hS2 hnb hno b0 b1 HS1 HAD
      go_wp2_with fail
      refine had.mono ?_
      rintro _ w3 ⟨rfl, pv3, tv3, hfr3, hC3⟩
      have hS3 : Sh2 W0 sb g cap k w3 pv3 tv3 X.2 (K ++ [X.1]) E := HS2.out.add hfr3 hC3
      have hnb3 : w3.heap[w2.heap.size]? = some (nrO n) := by
       obtain ⟨l1, l2, l3⟩ := HL1.out
       rw [hfr3.blk w2.heap.size (by simp) (by omega) (fun e => by have := l1 _ e; omega) (fun e => by have := l2 _ e; omega)]
       exact HNB.out
      obtain ⟨d0, d1, d2, d3, d4, d5, d6, d7, d8, d9⟩ := nr_cells10 hnb3
      have hnl := blk_lt hnb3
      have HS3 : Hid _ := hS3
      have HNB3 : Hid _ := hnb3
      clear hfr3 hC3 hS3 hnb3 had HS2 HNB HL1
      by_cases h7 : n.form = 7
      ·have q7 : ((n.form : Int) == 7) = true := ibeq_true (b := 7) h7
       have hst := HST.out
       rw [if_pos (Or.inl h7)] at hst
       have HST2 : Hid _ := hst
       have ho1 := HKK.out _ _ _ HS3.out n.p1 hkp1
       have ho2 := HKK.out _ _ _ HS3.out n.p2 hkp2
       have hmm := HMM.out _ _ _ HS3.out
       clear hst HST h7 HKK HMM
       go_wp2_with fail
       refine ho1.mono ?_
       rintro _ _ ⟨rfl, rfl⟩
       go_wp2_with fail
       refine ho2.mono ?_
       rintro _ _ ⟨rfl, rfl⟩
       go_wp2_with fail
       refine hmm.mono ?_
       rintro _ w4 ⟨rfl, hS4, _⟩
       have HS4 : Hid _ := hS4
       clear hS4 hmm ho1 ho2
       go_wp2
       go_roundw
       case rel => exact ⟨j + 1, pv3, tv3, X.2, D', _, T', E', by omega, by go_num, HS4.out, HRL.out, HKL2.out, HLEN.out, HTB.out, HML.out.trans HEL.out, HST2.out, HSO.out⟩
       case measure => simp [intOf]; omega
      ·have q7 : ((n.form : Int) == 7) = false := ibeq_false (b := 7) h7
       by_cases h11 : n.form = 11
       ·have q11 : ((n.form : Int) == 11) = true := ibeq_true (b := 11) h11
        have hst := HST.out
        rw [if_pos (Or.inr h11)] at hst
        have HST2 : Hid _ := hst
        have ho1 := HKK.out _ _ _ HS3.out n.p1 hkp1
        have ho2 := HKK.out _ _ _ HS3.out n.p2 hkp2
        have hmm := HMM.out _ _ _ HS3.out
        clear hst HST h7 h11 HKK HMM
        go_wp2_with fail
        refine ho1.mono ?_
        rintro _ _ ⟨rfl, rfl⟩
        go_wp2_with fail
        refine ho2.mono ?_
        rintro _ _ ⟨rfl, rfl⟩
        go_wp2_with fail
        refine hmm.mono ?_
        rintro _ w4 ⟨rfl, hS4, _⟩
        have HS4 : Hid _ := hS4
        clear hS4 hmm ho1 ho2
        go_wp2
        go_roundw
        case rel => exact ⟨j + 1, pv3, tv3, X.2, D', _, T', E', by omega, by go_num, HS4.out, HRL.out, HKL2.out, HLEN.out, HTB.out, HML.out.trans HEL.out, HST2.out, HSO.out⟩
        case measure => simp [intOf]; omega
       ·have q11 : ((n.form : Int) == 11) = false := ibeq_false (b := 11) h11
        have hst := HST.out
        rw [if_neg (fun h => h.elim h7 h11)] at hst
        have HST2 : Hid _ := hst
        clear hst HST h7 h11 HKK HMM
        go_wp2
        go_roundw
        case rel => exact ⟨j + 1, pv3, tv3, X.2, D', _, T', E, by omega, by go_num, HS3.out, HRL.out, HKL2.out, HLEN.out, HTB.out, HEL.out, HST2.out, HSO.out⟩
        case measure => simp [intOf]; omega
     ·have HA : Hid (ANS = E) := by
       have hd : ns.drop j = [] := List.drop_eq_nil_of_le (by have := HM.out; omega)
       have hst := HF.out
       rw [hd] at hst
       rw [hst]; exact rfl
      have HS : Hid _ := hS
      clear hS hRel hKl htl hTb hEl HF hso
      go_wp2_with fail
      refine hln.mono ?_
      rintro _ w1 ⟨rfl, hb1⟩
      have hS1 := HS.out.below hb1
      have e0 : w1.cell? ⟨sb, 0, none⟩ = some pv := hS1.c.c0
      have e1 : w1.cell? ⟨sb, 1, none⟩ = some tv := hS1.c.c1
      have e2 : w1.cell? ⟨sb, 2, none⟩ = some (.slice (some ⟨g, 0, none⟩) k cap) := by rw [blk_cell hS1.c.y]; rfl
      have el := blk_lt hS1.c.y
      have hr1 : w1.heap[w.heap.size + 1]? = some (.cells #[.slice none 0 0, .slice none 0 0, .slice none 0 0] 186 (0, 0)) := by rw [hS1.b.block _ (by have := HSE.out; omega)]; exact HRS.out
      have r0 : w1.cell? ⟨w.heap.size + 1, 0, none⟩ = some (.slice none 0 0) := by rw [blk_cell hr1]; rfl
      have r1 : w1.cell? ⟨w.heap.size + 1, 1, none⟩ = some (.slice none 0 0) := by rw [blk_cell hr1]; rfl
      have r2 : w1.cell? ⟨w.heap.size + 1, 2, none⟩ = some (.slice none 0 0) := by rw [blk_cell hr1]; rfl
      have g0 := blk_free hr1 0
      have g1 := blk_free hr1 1
      have g2 := blk_free hr1 2
      have rl := blk_lt hr1
      obtain ⟨pa, pn, pc, rfl⟩ : ∃ a n c, pv = .slice a n c := by obtain ⟨a, c, e⟩ := slice_any hS1.c.p; exact ⟨_, _, _, e⟩
      obtain ⟨ta, tn, tc, rfl⟩ : ∃ a n c, tv = .slice a n c := by obtain ⟨a, c, e⟩ := slice_any hS1.c.t; exact ⟨_, _, _, e⟩
      have HS1 : Hid _ := hS1
      have HR1 : Hid _ := hr1
      clear hS1 hr1 hb1 hln b0 b1 HS
      go_wp2
      obtain ⟨WF, hWF⟩ : ∃ WF, WF = ((w1.setCell ⟨w.heap.size + 1, 0, none⟩ (.slice pa pn pc)).setCell ⟨w.heap.size + 1, 1, none⟩ (.slice ta tn tc)).setCell ⟨w.heap.size + 1, 2, none⟩ (.slice (some ⟨g, 0, none⟩) k cap) := ⟨_, rfl⟩
      have hF : WF.heap[w.heap.size + 1]? = some (.cells #[.slice pa pn pc, .slice ta tn tc, .slice (some ⟨g, 0, none⟩) k cap] 186 (0, 0)) := by rw [hWF]; exact blk_set (blk_set (blk_set HR1.out 0 _) 1 _) 2 _
      have u0 : WF.cell? ⟨w.heap.size + 1, 0, none⟩ = some (.slice pa pn pc) := by rw [blk_cell hF]; rfl
      have u1 : WF.cell? ⟨w.heap.size + 1, 1, none⟩ = some (.slice ta tn tc) := by rw [blk_cell hF]; rfl
      have u2 : WF.cell? ⟨w.heap.size + 1, 2, none⟩ = some (.slice (some ⟨g, 0, none⟩) k cap) := by rw [blk_cell hF]; rfl
      rw [← hWF]
      refine bodyPost_ret (v := .agg #[.slice pa pn pc, .slice ta tn tc, .slice (some ⟨g, 0, none⟩) k cap]) (by simp [results, Tryz.results104, go_sem, u0, u1, u2]) rfl ⟨_, _, _, _, _, _, _, rfl, ?_, ?_, ?_⟩
      ·rw [hWF]
       exact (HW0.out.trans ((HS1.out.b.mono (Nat.le_of_lt hwsb)))).trans (bel_set (bel_set (bel_set (Below.refl _ _) (by omega)) (by omega)) (by omega))
      ·rw [← HBE.out, ← HANS.out, HA.out, hWF]
       exact owns_blk HS1.out.r (fun i hi => by
        simp only [Value.ownBlock, Option.some.injEq] at hi
        subst hi
        have := HS1.out.gs
        rw [blk_other _ _ (by simp only; omega), blk_other _ _ (by simp only; omega), blk_other _ _ (by simp only; omega)])
      ·intro i hi
       simp only [Value.ownBlock, Option.some.injEq] at hi
       have := HS1.out.gs
       omega
def firstsL (E : List Nat) (l : List NR) : List Nat := (l.filter (fun n => n.form == 4 && fst' E n.at_ == n.at_)).map (·.at_)
theorem firstsL_snoc (E : List Nat) (l : List NR) (n : NR) : firstsL E (l ++ [n]) = firstsL E l ++ (if n.form = 4 ∧ fst' E n.at_ = n.at_ then [n.at_] else []) := by
 unfold firstsL
 rw [List.filter_append, List.map_append]
 by_cases h : n.form = 4 ∧ fst' E n.at_ = n.at_
 ·rw [if_pos h]; simp [h.1, h.2]
 ·rw [if_neg h]
  have : (n.form == 4 && fst' E n.at_ == n.at_) = false := by
   rw [Bool.and_eq_false_iff]
   by_cases h4 : n.form = 4
   ·right; rw [beq_eq_false_iff_ne]; exact fun e => h ⟨h4, e⟩
   ·left; rw [beq_eq_false_iff_ne]; exact h4
  simp [this]
theorem firstsL_len (E : List Nat) (l : List NR) : (firstsL E l).length ≤ l.length := by
 unfold firstsL; rw [List.length_map]; exact List.length_filter_le _ _
theorem take_one {α : Type} (l : List α) (k : Nat) (x : α) (h : l[k]? = some x) : l.take (k + 1) = l.take k ++ [x] := by rw [List.take_add_one, h]; rfl
set_option maxRecDepth 100000 in
set_option maxHeartbeats 8000000 in
theorem firsts_any (w : World) (sb : Nat) (ev nv ov : Value) (E : List Nat) (ns : List NR) (op : List Int) (h : TreeIn w nv ov ns op) (ho : OpOk ns op) (hl : ns.length ≤ 9000) (hc : w.cell? ⟨sb, 2, none⟩ = some ev) (hr : w.ownsRow 0 3 1 ev E.length (natVs E)) (hE : E.length ≤ 9000) (hat : ∀ n ∈ ns, n.at_ ≤ 9000) :
  Calls Tryz.prog 105 #[ptr sb, treeV nv ov] w fun e w' => ∃ fv, e = .returned fv ∧ w'.ownsRow w.heap.size 3 1 fv (firstsL E (opNs ns op)).length (natVs (firstsL E (opNs ns op))) ∧ Below w.heap.size w w' := by
 obtain ⟨i0, hi, hz0, hz1, hz2⟩ := info_parts Tryz.infoInt
 have HI : Hid _ := hi
 have HZ0 : Hid _ := hz0
 have HZ1 : Hid _ := hz1
 have HZ2 : Hid _ := hz2
 clear hi hz0 hz1 hz2
 have hsbl := World.block_lt_of_cell? _ _ hc
 have hlen := fun (w' : World) (hb : Below w.heap.size w w') => Len_any w' nv ov ns op (h.below hb)
 have hopn := fun (w' : World) (hb : Below w.heap.size w w') (k i : Nat) (n : NR) (hk : op[k]? = some (i : Int)) (hi : ns[i]? = some n) => Opened_in' w' nv ov ns op (h.below hb) k i n hk hi hl (by rw [ho.1]; omega)
 have hfst := fun (w' : World) (hb : Below w.heap.size w w') (p : Nat) (hp : p ≤ 10000) => first_any w' sb 0 ev E p (by rw [hb.cell (p := ⟨sb, 2, none⟩) hsbl]; exact hc) (owns_below hr hb) hE hp
 have hatn : ∀ n ∈ opNs ns op, n.at_ ≤ 9000 := fun n hn => by
  unfold opNs at hn
  obtain ⟨x, hx, rfl⟩ := List.mem_map.1 hn
  cases e : ns[x.toNat]? with
  | none => simp [nr0]
  | some y => exact hat y (List.mem_of_getElem? e)
 obtain ⟨a0, cap0, e0⟩ := slice_any h.nd
 obtain ⟨a1, cap1, e1⟩ := slice_any h.op
 rw [ho.1] at e1
 obtain ⟨m, hm⟩ : ∃ m, m = ns.length := ⟨_, rfl⟩
 rw [← hm] at e0 e1 hl
 subst e0
 subst e1
 have HO : Hid _ := ho
 have HM : Hid _ := hm
 unfold treeV at hlen hopn
 unfold treeV
 unfold ptr at hfst
 unfold nrVal at hopn
 rw [← hm] at hlen
 have HLEN : Hid _ := hlen
 have HOPN : Hid _ := hopn
 have HFST : Hid _ := hfst
 have HAT : Hid _ := hatn
 obtain ⟨O, hO⟩ : ∃ O, O = opNs ns op := ⟨_, rfl⟩
 have hOl : O.length = m := by rw [hO, opNs_len, ho.1, hm]
 rw [← hO] at HAT ⊢
 have HOE : Hid _ := hO
 clear hlen hopn ho h hm hfst hatn hO hc hr hat
 have hBx : Below w.heap.size w (w.alloc (.cells #[.slice a0 m cap0, .slice a1 m cap1] 59)) := (Below.refl _ w).alloc (Nat.le_refl _) _
 have HBX : Hid _ := hBx
 clear hBx
 show Calls _ _ #[Value.pointer (some ⟨sb, 0, none⟩), _] w _
 go_enter Tryz.func105, Tryz.ntmps105
 go_wp2
 obtain ⟨WB, hWB⟩ : ∃ WB, WB = w.alloc (.cells #[.slice a0 m cap0, .slice a1 m cap1] 59) := ⟨_, rfl⟩
 have HWBS : Hid (WB.heap.size = w.heap.size + 1) := (show WB.heap.size = w.heap.size + 1 by rw [hWB]; simp)
 have HBXC : Hid (∀ wr, Below WB.heap.size WB wr → wr.cell? ⟨w.heap.size, 0, none⟩ = some (.slice a0 m cap0) ∧ wr.cell? ⟨w.heap.size, 1, none⟩ = some (.slice a1 m cap1) ∧ w.heap.size < wr.heap.size) := by
  intro wr hb
  rw [hWB] at hb
  exact box_cells hb
 rw [← hWB] at HBX ⊢
 clear hWB
 go_loopw [5, 6, 7] (fun v5 i _ wr => ∃ (k : Nat), k ≤ m ∧ i = .int .i64 k ∧ wr.ownsRow WB.heap.size 3 1 v5 (firstsL E (O.take k)).length (natVs (firstsL E (O.take k))) ∧ Below WB.heap.size WB wr) (fun _ i _ _ => m - (intOf i).toNat)
 case atStart =>
  refine ⟨0, Nat.zero_le _, rfl, ⟨rfl, Or.inr ⟨w.heap.size + 1, 0, #[], rfl, by rw [HWBS.out]; exact Nat.le_refl _, ?_, Nat.le_refl _, by unfold maxLen; omega, rfl, rfl⟩⟩, (Below.refl _ WB).alloc (Nat.le_refl _) _⟩
  rw [← HWBS.out]; exact blk_new _ _
 case round =>
  obtain ⟨k, hk, rfl, hown, hbr⟩ := hrel
  obtain ⟨b0, b1, bl⟩ := HBXC.out _ hbr
  have hbw := HBX.out.trans (hbr.mono HBX.out.size)
  have hln := HLEN.out _ hbw
  have hbrs := hbr.size
  by_cases hlt : k < m
  ·obtain ⟨i, n, hop, hni, hdr, hmem⟩ := opNs_at HO.out k (by have := HM.out; omega)
   rw [← HOE.out] at hdr hmem
   have hOk : O[k]? = some n := by
    have := congrArg (fun l => l[0]?) hdr
    simpa using this
   have hat := HAT.out n hmem
   have hsn := firstsL_snoc E (O.take k) n
   rw [← take_one O k n hOk] at hsn
   have HSN : Hid _ := hsn
   have HOP : Hid _ := hop
   have HNI : Hid _ := hni
   have HOWN : Hid _ := hown
   have HBR : Hid _ := hbr
   have hfl : (firstsL E (O.take k)).length ≤ k := by have := firstsL_len E (O.take k); simp only [List.length_take] at this; omega
   clear hop hni hdr hown hsn hOk hmem
   go_wp2_with fail
   refine hln.mono ?_
   rintro _ w1 ⟨rfl, hb1⟩
   have hbr1 := hbr.trans (hb1.mono hbrs)
   obtain ⟨d0, d1, dl⟩ := HBXC.out _ hbr1
   have hopn := HOPN.out w1 (HBX.out.trans (hbr1.mono HBX.out.size)) k i n HOP.out HNI.out
   have HB1 : Hid _ := hb1
   clear hbr1 hb1 hln b0 b1 hbr
   go_wp2_with fail
   refine hopn.mono ?_
   rintro _ w2 ⟨rfl, hb2⟩
   have hr2 : Below wr.heap.size wr w2 := HB1.out.trans (hb2.mono HB1.out.size)
   have hW3 : Below wr.heap.size wr (w2.alloc (nrO n)) := hr2.alloc hr2.size (nrO n)
   have hW3b := HBR.out.trans (hW3.mono hbrs)
   have hfi := fun nq => HFST.out ((w2.alloc (nrO n)).drewN nq) (belY_dn (HBX.out.trans (hW3b.mono HBX.out.size))) n.at_ (by omega)
   have HW3 : Hid _ := hW3
   have HB3 : Hid _ := hW3b
   have HO3 : Hid _ := owns_below HOWN.out hW3
   have hw2s := HBR.out.size
   have hw23 := HW3.out.size
   unfold nrO nrC at hfi HW3 HB3 HO3
   clear hb2 hr2 hW3 hopn d0 d1 hW3b
   by_cases h4 : n.form = 4
   ·have q4 : ((n.form : Int) == 4) = true := ibeq_true (b := 4) h4
    by_cases hf : fst' E n.at_ = n.at_
    ·have q5 : (((fst' E n.at_ : Nat) : Int) == (n.at_ : Int)) = true := by rw [hf]; simp
     have hsn := HSN.out
     rw [if_pos ⟨h4, hf⟩] at hsn
     have HSN2 : Hid _ := hsn
     generalize fst' E n.at_ = ft at *
     clear hsn HSN h4 hf
     obtain ⟨W3, hW3e⟩ : ∃ W3, W3 = w2.alloc (.cells #[.int .i64 n.form, .int .i64 n.at_, .int .i64 n.beh, .int .i64 n.num, .string (bs n.word), .int .i64 n.region, .int .i64 n.source, .int .i64 n.p0, .int .i64 n.p1, .int .i64 n.p2] 160) := ⟨_, rfl⟩
     rw [← hW3e] at hfi HB3 HO3
     have hnb : W3.heap[w2.heap.size]? = some (nrO n) := by rw [hW3e]; exact blk_new _ _
     obtain ⟨d0, d1, d2, d3, d4, d5, d6, d7, d8, d9⟩ := nr_cells10 hnb
     have hnl := blk_lt hnb
     have HWE : Hid _ := hW3e
     clear hW3e hnb
     go_upto_region 6 with fail
     rw [← HWE.out]
     go_quiet ((go_at_call 106; exact Calls.quiet_of_same (hfi _)))
     have HB4 : Hid (Below WB.heap.size WB ((W3.drewN nq).alloc (.cells #[.int .i64 n.at_] 3))) := by
      have h1 := belY_dn (n := nq) HB3.out
      exact h1.alloc h1.size _
     have HO4 : Hid (((W3.drewN nq).alloc (.cells #[.int .i64 n.at_] 3)).ownsRow WB.heap.size 3 1 u5 (firstsL E (O.take k)).length (natVs (firstsL E (O.take k)))) := (owns_below HO3.out (belY_dn (Below.refl _ _))).alloc _
     have hsz4 : (W3.drewN nq).heap.size = W3.heap.size := rfl
     have HC1 : Hid (∀ (j : Nat) (u : Value), ([.int .i64 n.at_] : List Value)[j]? = some u → ((W3.drewN nq).alloc (.cells #[.int .i64 n.at_] 3)).cell? ((⟨W3.heap.size, 0, none⟩ : Addr).add j) = some u) := by
      intro j u hj
      have hq := alloc_cell_at (W3.drewN nq) [.int .i64 n.at_] 3 j
      rw [hsz4] at hq
      rw [← hj, ← hq]; first | done | rfl
     have HC2 : Hid (∀ u ∈ ([.int .i64 n.at_] : List Value), u.oneCell' = true) := by intro v hv; simp only [List.mem_singleton] at hv; subst hv; rfl
     clear hsz4
     have hW3s : WB.heap.size ≤ W3.heap.size := HB3.out.size
     go_wp2_with (at_builtin; go_must (refine wpList_append_own _ rfl (.tmp 30) (.tmp 33) 42 rfl WB.heap.size 3 i0 _ 1 8 Tryz.undInts HI.out HZ0.out HZ1.out HZ2.out rfl (by decide) u5 (firstsL E (O.take k)).length (natVs (firstsL E (O.take k))) rfl HO4.out ⟨W3.heap.size, 0, none⟩ 1 1 [.int .i64 n.at_] rfl rfl HC1.out HC2.out ?c3 ?c4 ?c5 ?_))
     case c3 => unfold maxLen; omega
     case c4 => omega
     case c5 => first | omega | (simp; omega)
     intro v' w6 hown' hgrow hnil
     have HB6 : Hid (Below WB.heap.size WB w6) := (HB4.out).grown hgrow HB4.out.size (fun b hb => (World.ownsRow.lt HO4.out b hb).1)
     have HO6 : Hid (w6.ownsRow WB.heap.size 3 1 v' (firstsL E (O.take (k + 1))).length (natVs (firstsL E (O.take (k + 1))))) := by
      show w6.ownsRow WB.heap.size 3 1 v' (firstsL E (O.take (k + 1))).length (natVs (firstsL E (O.take (k + 1))))
      rw [HSN2.out, List.length_append]
      unfold natVs at hown' ⊢
      rw [List.map_append]
      exact hown'
     clear hown' hgrow hnil
     go_wp2
     go_roundw
     case rel => exact ⟨k + 1, by omega, by go_num, HO6.out, HB6.out⟩
     case measure => simp [intOf]; omega
    ·have q5 : (((fst' E n.at_ : Nat) : Int) == (n.at_ : Int)) = false := by rw [beq_eq_false_iff_ne]; omega
     have hsn := HSN.out
     rw [if_neg (fun h => hf h.2), List.append_nil] at hsn
     have HSN2 : Hid _ := hsn
     generalize fst' E n.at_ = ft at *
     clear hsn HSN h4 hf
     obtain ⟨W3, hW3e⟩ : ∃ W3, W3 = w2.alloc (.cells #[.int .i64 n.form, .int .i64 n.at_, .int .i64 n.beh, .int .i64 n.num, .string (bs n.word), .int .i64 n.region, .int .i64 n.source, .int .i64 n.p0, .int .i64 n.p1, .int .i64 n.p2] 160) := ⟨_, rfl⟩
     rw [← hW3e] at hfi HB3 HO3
     have hnb : W3.heap[w2.heap.size]? = some (nrO n) := by rw [hW3e]; exact blk_new _ _
     obtain ⟨d0, d1, d2, d3, d4, d5, d6, d7, d8, d9⟩ := nr_cells10 hnb
     have hnl := blk_lt hnb
     have HWE : Hid _ := hW3e
     clear hW3e hnb
     go_upto_region 6 with fail
     rw [← HWE.out]
     go_quiet ((go_at_call 106; exact Calls.quiet_of_same (hfi _)))
     have HO4 : Hid ((W3.drewN nq).ownsRow WB.heap.size 3 1 u5 (firstsL E (O.take (k + 1))).length (natVs (firstsL E (O.take (k + 1))))) := by
      show (W3.drewN nq).ownsRow WB.heap.size 3 1 u5 (firstsL E (O.take (k + 1))).length (natVs (firstsL E (O.take (k + 1))))
      rw [HSN2.out]; exact owns_below HO3.out (belY_dn (Below.refl _ _))
     have HB4 : Hid _ := belY_dn (n := nq) HB3.out
     go_wp2
     go_roundw
     case rel => exact ⟨k + 1, by omega, by go_num, HO4.out, HB4.out⟩
     case measure => simp [intOf]; omega
   ·have q4 : ((n.form : Int) == 4) = false := ibeq_false (b := 4) h4
    have hsn := HSN.out
    rw [if_neg (fun h => h4 h.1), List.append_nil] at hsn
    have HSN2 : Hid _ := hsn
    clear hsn HSN h4 hfi
    obtain ⟨W3, hW3e⟩ : ∃ W3, W3 = w2.alloc (.cells #[.int .i64 n.form, .int .i64 n.at_, .int .i64 n.beh, .int .i64 n.num, .string (bs n.word), .int .i64 n.region, .int .i64 n.source, .int .i64 n.p0, .int .i64 n.p1, .int .i64 n.p2] 160) := ⟨_, rfl⟩
    rw [← hW3e] at HB3 HO3
    have hnb : W3.heap[w2.heap.size]? = some (nrO n) := by rw [hW3e]; exact blk_new _ _
    obtain ⟨d0, d1, d2, d3, d4, d5, d6, d7, d8, d9⟩ := nr_cells10 hnb
    have hnl := blk_lt hnb
    have HWE : Hid _ := hW3e
    clear hW3e hnb
    go_upto_region 6 with fail
    rw [← HWE.out]
    go_quiet (fail)
    have HO4 : Hid ((W3.drewN nq).ownsRow WB.heap.size 3 1 u5 (firstsL E (O.take (k + 1))).length (natVs (firstsL E (O.take (k + 1))))) := by
     show (W3.drewN nq).ownsRow WB.heap.size 3 1 u5 (firstsL E (O.take (k + 1))).length (natVs (firstsL E (O.take (k + 1))))
     rw [HSN2.out]; exact owns_below HO3.out (belY_dn (Below.refl _ _))
    have HB4 : Hid _ := belY_dn (n := nq) HB3.out
    go_wp2
    go_roundw
    case rel => exact ⟨k + 1, by omega, by go_num, HO4.out, HB4.out⟩
    case measure => simp [intOf]; omega
  ·have hkm : O.take k = O := by rw [List.take_of_length_le (by omega)]
   rw [hkm] at hown
   have HBR : Hid _ := hbr
   have HOWN : Hid _ := hown
   clear hbr hown hkm
   go_wp2_with fail
   refine hln.mono ?_
   rintro _ w1 ⟨rfl, hb1⟩
   have HB1 : Hid _ := HBX.out.trans ((HBR.out.trans (hb1.mono hbrs)).mono HBX.out.size)
   have HO1 : Hid _ := owns_below HOWN.out hb1
   clear hb1 hln
   go_wp2
   go_ret
   exact ⟨_, rfl, owns_base HO1.out (fun k hk => by have := HWBS.out; have := (World.ownsRow.lt HO1.out k hk).1; omega), HB1.out⟩
end Go.Proofs.YtpicaknklgccoaaGreatDoor
