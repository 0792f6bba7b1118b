import Derived.Test.YtpicaknklgccoabGreatDoorX30
namespace Go.Proofs.YtpicaknklgccoabGreatDoor
open Go.RowKit
open Go.Lib (decDigits)
def aggD (S : ByteArray) (a b c d : Int) : Value := .agg #[.string S, .int .i64 a, .int .i64 b, .int .i64 c, .int .i64 d]
set_option maxRecDepth 100000 in
set_option maxHeartbeats 4000000 in
theorem Dead_walk (region : Int) (ra : Option Addr) (rn rc : Nat) (w : World) (x : KE) (n : Nat) (D W r bad late good : ByteArray) (US GS : ByteArray) (Ua Ub Uc Ud Ga Gb Gc Gd : Int) (E1 E2 E3 : Nat) (ends : Bool)
  (hr : r = ByteArray.mk #[35] ++ D) (hbad : bad = dBad r W) (hlate : late = dLate r W) (hgood : good = dGood r W) (hD : D.size ≤ 3) (hW : W.size ≤ 1700)
  (hans : (ends = false ∧ (E1 = 12 ∨ E1 = 13) ∧ E3 = 12) ∨ (ends = true ∧ E1 = 13 ∧ E2 = 13 ∧ E3 = 0 ∧ GS = US ∧ Gb = Ub + 1 ∧ Gc = Ub + 1 ∧ Gd = Ub ∧ 0 ≤ Ub ∧ Ub ≤ 1000000))
  (HBD : Hid (Calls Tryz.prog 8 #[.int .i64 0, .slice ra rn rc] w fun e w' => ∃ p, e = .returned (.pointer (some ⟨p, 0, none⟩)) ∧ Below w.heap.size w w' ∧ KIn w' x p))
  (HTX : Hid (∀ W' p, Below w.heap.size w W' → KIn W' x p → Calls Tryz.prog 11 #[.pointer (some ⟨p, 0, none⟩), .string (ByteArray.mk #[32, 35, 57, 57, 57])] W' fun e w' => e = .returned (.string W) ∧ Below W'.heap.size W' w'))
  (HPK : Hid (∀ W, Calls Tryz.prog 10 #[.int .i64 region, .int .i64 999] W fun e w' => e = .returned (.int .i64 n) ∧ w' = W))
  (HTO : Hid (∀ W, Below w.heap.size w W → Calls Tryz.prog 9 #[.pointer (some ⟨W.heap.size, 0, none⟩)] (W.alloc (.cells (kvV n (.pointer none) (.pointer none)) 29 (0, 0))) fun v w' => v = .returned (.string D) ∧ Below W.heap.size W w'))
  (HWK : Hid (∀ W p, Below w.heap.size w W → KIn W x p → Calls Tryz.prog 14 #[.pointer (some ⟨p, 0, none⟩), .int .i64 19997] W fun e w' => e = .returned (.tuple #[aggD US Ua Ub Uc Ud, .bool ends]) ∧ Below W.heap.size W w'))
  (HVB : Hid (∀ W, Calls Tryz.prog 12 #[.string bad] W fun e w' => e = .returned (.tuple #[.int .i64 10, .int .i64 5]) ∧ Below W.heap.size W w'))
  (HVL : Hid (∀ W, Calls Tryz.prog 12 #[.string late] W fun e w' => e = .returned (.tuple #[.int .i64 10, .int .i64 0]) ∧ Below W.heap.size W w'))
  (HVG : Hid (∀ W, Calls Tryz.prog 12 #[.string good] W fun e w' => e = .returned (.tuple #[.int .i64 0, .int .i64 0]) ∧ Below W.heap.size W w'))
  (HRB : Hid (∀ W, Below w.heap.size w W → Calls Tryz.prog 13 #[.string bad, .int .i64 20000] W fun e w' => e = .returned (.tuple #[aggD ⟨#[]⟩ 0 0 0 0, .int .i64 E1]) ∧ Below W.heap.size W w'))
  (HRL : Hid (∀ W, Below w.heap.size w W → Calls Tryz.prog 13 #[.string late, .int .i64 20000] W fun e w' => e = .returned (.tuple #[aggD ⟨#[]⟩ 0 0 0 0, .int .i64 E2]) ∧ Below W.heap.size W w'))
  (HRG : Hid (∀ W, Below w.heap.size w W → Calls Tryz.prog 13 #[.string good, .int .i64 20000] W fun e w' => e = .returned (.tuple #[aggD GS Ga Gb Gc Gd, .int .i64 E3]) ∧ Below W.heap.size W w')) :
  Calls Tryz.prog 7 #[.slice ra rn rc, .int .i64 region] w fun e w' => e = .returned (.bool true) ∧ Below w.heap.size w w' := by
 have HNO : Hid _ := fun W => knought_any W
 unfold aggD at HWK HRB HRL HRG
 unfold dBad dPair at hbad
 unfold dLate dPair at hlate
 unfold dGood dPair at hgood
 subst hr
 have HEB : Hid _ := hbad
 have HEL : Hid _ := hlate
 have HEG : Hid _ := hgood
 have HAN : Hid _ := hans
 clear hbad hlate hgood hans
 go_enter Tryz.func7, Tryz.ntmps7
 go_wp2_with fail
 refine Calls.mono HBD.out ?_
 rintro _ w1 ⟨p, rfl, hb1, hk1⟩
 have HB1 : Hid _ := hb1
 have HK1 : Hid _ := hk1
 have HT1 : Hid _ := HTX.out w1 p hb1 hk1
 clear hb1 hk1 HBD HTX
 go_wp2_with fail
 refine Calls.mono HT1.out ?_
 rintro _ w2 ⟨rfl, hb2⟩
 have HB2 : Hid _ := HB1.out.trans (hb2.mono HB1.out.size)
 have HK2 : Hid _ := HK1.out.below hb2
 clear hb2 HB1 HK1 HT1
 go_wp2_with fail
 refine Calls.mono (HPK.out _) ?_
 rintro _ w2 ⟨rfl, rfl⟩
 clear HPK
 go_wp2_with fail
 refine Calls.mono (HTO.out w2 HB2.out) ?_
 rintro _ w3 ⟨rfl, hb3⟩
 have HB3 : Hid _ := HB2.out.trans (hb3.mono HB2.out.size)
 have HK3 : Hid _ := HK2.out.below hb3
 clear hb3 HB2 HK2 HTO
 have z1 : (ByteArray.mk #[35]).size = 1 := rfl
 have z2 : ((ByteArray.mk #[35]) ++ D).size ≤ 4 := by rw [ByteArray.size_append]; omega
 have z3 : (ByteArray.mk #[40, 112, 97, 105, 114, 32]).size = 6 := rfl
 have z4 : (ByteArray.mk #[32]).size = 1 := rfl
 have z5 : (ByteArray.mk #[32, 55, 41]).size = 3 := rfl
 have z6 : ((ByteArray.mk #[40, 112, 97, 105, 114, 32]) ++ ((ByteArray.mk #[35]) ++ D)).size ≤ 10 := by rw [ByteArray.size_append]; omega
 have z7 : (((ByteArray.mk #[40, 112, 97, 105, 114, 32]) ++ ((ByteArray.mk #[35]) ++ D)) ++ (ByteArray.mk #[32])).size ≤ 11 := by rw [ByteArray.size_append]; omega
 have z8 : ((((ByteArray.mk #[40, 112, 97, 105, 114, 32]) ++ ((ByteArray.mk #[35]) ++ D)) ++ (ByteArray.mk #[32])) ++ W).size ≤ 1711 := by rw [ByteArray.size_append]; omega
 have z9 : (((((ByteArray.mk #[40, 112, 97, 105, 114, 32]) ++ ((ByteArray.mk #[35]) ++ D)) ++ (ByteArray.mk #[32])) ++ W) ++ (ByteArray.mk #[32, 55, 41])).size ≤ 1714 := by rw [ByteArray.size_append]; omega
 have z10 : (ByteArray.mk #[40, 102, 115, 116, 32, 40, 110, 101, 119, 32]).size = 10 := rfl
 have z11 : (ByteArray.mk #[41, 41]).size = 2 := rfl
 have z12 : ((ByteArray.mk #[40, 102, 115, 116, 32, 40, 110, 101, 119, 32]) ++ ((ByteArray.mk #[35]) ++ D)).size ≤ 14 := by rw [ByteArray.size_append]; omega
 have z13 : (((ByteArray.mk #[40, 102, 115, 116, 32, 40, 110, 101, 119, 32]) ++ ((ByteArray.mk #[35]) ++ D)) ++ (ByteArray.mk #[32])).size ≤ 15 := by rw [ByteArray.size_append]; omega
 have z14 : ((((ByteArray.mk #[40, 102, 115, 116, 32, 40, 110, 101, 119, 32]) ++ ((ByteArray.mk #[35]) ++ D)) ++ (ByteArray.mk #[32])) ++ (((((ByteArray.mk #[40, 112, 97, 105, 114, 32]) ++ ((ByteArray.mk #[35]) ++ D)) ++ (ByteArray.mk #[32])) ++ W) ++ (ByteArray.mk #[32, 55, 41]))).size ≤ 1729 := by rw [ByteArray.size_append]; omega
 have z15 : (((((ByteArray.mk #[40, 102, 115, 116, 32, 40, 110, 101, 119, 32]) ++ ((ByteArray.mk #[35]) ++ D)) ++ (ByteArray.mk #[32])) ++ (((((ByteArray.mk #[40, 112, 97, 105, 114, 32]) ++ ((ByteArray.mk #[35]) ++ D)) ++ (ByteArray.mk #[32])) ++ W) ++ (ByteArray.mk #[32, 55, 41]))) ++ (ByteArray.mk #[41, 41])).size ≤ 1731 := by rw [ByteArray.size_append]; omega
 have z16 : (ByteArray.mk #[40, 110, 101, 119, 32]).size = 5 := rfl
 have z17 : (ByteArray.mk #[41]).size = 1 := rfl
 have z18 : ((ByteArray.mk #[40, 110, 101, 119, 32]) ++ ((ByteArray.mk #[35]) ++ D)).size ≤ 9 := by rw [ByteArray.size_append]; omega
 have z19 : (((ByteArray.mk #[40, 110, 101, 119, 32]) ++ ((ByteArray.mk #[35]) ++ D)) ++ (ByteArray.mk #[32])).size ≤ 10 := by rw [ByteArray.size_append]; omega
 have z20 : ((((ByteArray.mk #[40, 110, 101, 119, 32]) ++ ((ByteArray.mk #[35]) ++ D)) ++ (ByteArray.mk #[32])) ++ (((((ByteArray.mk #[40, 112, 97, 105, 114, 32]) ++ ((ByteArray.mk #[35]) ++ D)) ++ (ByteArray.mk #[32])) ++ W) ++ (ByteArray.mk #[32, 55, 41]))).size ≤ 1724 := by rw [ByteArray.size_append]; omega
 have z21 : (((((ByteArray.mk #[40, 110, 101, 119, 32]) ++ ((ByteArray.mk #[35]) ++ D)) ++ (ByteArray.mk #[32])) ++ (((((ByteArray.mk #[40, 112, 97, 105, 114, 32]) ++ ((ByteArray.mk #[35]) ++ D)) ++ (ByteArray.mk #[32])) ++ W) ++ (ByteArray.mk #[32, 55, 41]))) ++ (ByteArray.mk #[41])).size ≤ 1725 := by rw [ByteArray.size_append]; omega
 have z22 : (ByteArray.mk #[32, 40, 102, 115, 116, 32]).size = 6 := rfl
 have z23 : (((ByteArray.mk #[40, 110, 101, 119, 32]) ++ ((ByteArray.mk #[35]) ++ D)) ++ (ByteArray.mk #[32, 40, 102, 115, 116, 32])).size ≤ 15 := by rw [ByteArray.size_append]; omega
 have z24 : ((((ByteArray.mk #[40, 110, 101, 119, 32]) ++ ((ByteArray.mk #[35]) ++ D)) ++ (ByteArray.mk #[32, 40, 102, 115, 116, 32])) ++ (((((ByteArray.mk #[40, 112, 97, 105, 114, 32]) ++ ((ByteArray.mk #[35]) ++ D)) ++ (ByteArray.mk #[32])) ++ W) ++ (ByteArray.mk #[32, 55, 41]))).size ≤ 1729 := by rw [ByteArray.size_append]; omega
 have z25 : (((((ByteArray.mk #[40, 110, 101, 119, 32]) ++ ((ByteArray.mk #[35]) ++ D)) ++ (ByteArray.mk #[32, 40, 102, 115, 116, 32])) ++ (((((ByteArray.mk #[40, 112, 97, 105, 114, 32]) ++ ((ByteArray.mk #[35]) ++ D)) ++ (ByteArray.mk #[32])) ++ W) ++ (ByteArray.mk #[32, 55, 41]))) ++ (ByteArray.mk #[41, 41])).size ≤ 1731 := by rw [ByteArray.size_append]; omega
 go_wp2_with fail
 rw [← HEB.out, ← HEL.out, ← HEG.out]
 clear hD hW HEB HEL HEG z1 z2 z3 z4 z5 z6 z7 z8 z9 z10 z11 z12 z13 z14 z15 z16 z17 z18 z19 z20 z21 z22 z23 z24 z25
 refine Calls.mono (HWK.out w3 p HB3.out HK3.out) ?_
 rintro _ w4 ⟨rfl, hb4⟩
 have hB4 := HB3.out.trans (hb4.mono HB3.out.size)
 have HB4 : Hid _ := hB4.alloc hB4.size (.cells #[.string US, .int .i64 Ua, .int .i64 Ub, .int .i64 Uc, .int .i64 Ud] 35 (0, 0))
 have HQ4 : Hid _ := blk_new w4 (.cells #[.string US, .int .i64 Ua, .int .i64 Ub, .int .i64 Uc, .int .i64 Ud] 35 (0, 0))
 clear hb4 hB4 HWK HB3 HK3
 go_wp2_with fail
 refine Calls.mono (HVB.out _) ?_
 rintro _ w5 ⟨rfl, hb5⟩
 have HB5 : Hid _ := HB4.out.trans (hb5.mono HB4.out.size)
 have HQ5 : Hid _ := (hb5.block _ (blk_lt HQ4.out)).trans HQ4.out
 clear hb5 HVB HB4 HQ4
 go_wp2_with fail
 refine Calls.mono (HVL.out _) ?_
 rintro _ w6 ⟨rfl, hb6⟩
 have HB6 : Hid _ := HB5.out.trans (hb6.mono HB5.out.size)
 have HQ6 : Hid _ := (hb6.block _ (blk_lt HQ5.out)).trans HQ5.out
 clear hb6 HVL HB5 HQ5
 go_wp2_with fail
 refine Calls.mono (HVG.out _) ?_
 rintro _ w7 ⟨rfl, hb7⟩
 have HB7 : Hid _ := HB6.out.trans (hb7.mono HB6.out.size)
 have HQ7 : Hid _ := (hb7.block _ (blk_lt HQ6.out)).trans HQ6.out
 clear hb7 HVG HB6 HQ6
 go_wp2_with fail
 refine Calls.mono (HRB.out w7 HB7.out) ?_
 rintro _ w8 ⟨rfl, hb8⟩
 have hB8 := HB7.out.trans (hb8.mono HB7.out.size)
 have hq8 := (hb8.block _ (blk_lt HQ7.out)).trans HQ7.out
 have hal := below_alZ (Below.refl _ w8) (.cells #[.string ⟨#[]⟩, .int .i64 0, .int .i64 0, .int .i64 0, .int .i64 0] 35 (0, 0))
 have HB8 : Hid _ := hB8.alloc hB8.size (.cells #[.string ⟨#[]⟩, .int .i64 0, .int .i64 0, .int .i64 0, .int .i64 0] 35 (0, 0))
 have HQ8 : Hid _ := (hal.block _ (blk_lt hq8)).trans hq8
 have HA8 : Hid _ := blk_new w8 (.cells #[.string ⟨#[]⟩, .int .i64 0, .int .i64 0, .int .i64 0, .int .i64 0] 35 (0, 0))
 clear hb8 hB8 hq8 hal HRB HB7 HQ7
 go_wp2_with fail
 refine Calls.mono (HRL.out _ HB8.out) ?_
 rintro _ w9 ⟨rfl, hb9⟩
 have hB9 := HB8.out.trans (hb9.mono HB8.out.size)
 have hq9 := (hb9.block _ (blk_lt HQ8.out)).trans HQ8.out
 have ha9 := (hb9.block _ (blk_lt HA8.out)).trans HA8.out
 have hal := below_alZ (Below.refl _ w9) (.cells #[.string ⟨#[]⟩, .int .i64 0, .int .i64 0, .int .i64 0, .int .i64 0] 35 (0, 0))
 have HB9 : Hid _ := hB9.alloc hB9.size (.cells #[.string ⟨#[]⟩, .int .i64 0, .int .i64 0, .int .i64 0, .int .i64 0] 35 (0, 0))
 have HQ9 : Hid _ := (hal.block _ (blk_lt hq9)).trans hq9
 have HA9 : Hid _ := (hal.block _ (blk_lt ha9)).trans ha9
 have HC9 : Hid _ := blk_new w9 (.cells #[.string ⟨#[]⟩, .int .i64 0, .int .i64 0, .int .i64 0, .int .i64 0] 35 (0, 0))
 clear hb9 hB9 hq9 ha9 hal HRL HB8 HQ8 HA8
 go_wp2_with fail
 refine Calls.mono (HRG.out _ HB9.out) ?_
 rintro _ w10 ⟨rfl, hb10⟩
 have hB10 := HB9.out.trans (hb10.mono HB9.out.size)
 have hq10 := (hb10.block _ (blk_lt HQ9.out)).trans HQ9.out
 have ha10 := (hb10.block _ (blk_lt HA9.out)).trans HA9.out
 have hc10 := (hb10.block _ (blk_lt HC9.out)).trans HC9.out
 have hal := below_alZ (Below.refl _ w10) (.cells #[.string GS, .int .i64 Ga, .int .i64 Gb, .int .i64 Gc, .int .i64 Gd] 35 (0, 0))
 have HB10 : Hid _ := hB10.alloc hB10.size (.cells #[.string GS, .int .i64 Ga, .int .i64 Gb, .int .i64 Gc, .int .i64 Gd] 35 (0, 0))
 have hq := (hal.block _ (blk_lt hq10)).trans hq10
 have ha := (hal.block _ (blk_lt ha10)).trans ha10
 have hc := (hal.block _ (blk_lt hc10)).trans hc10
 have hg := blk_new w10 (.cells #[.string GS, .int .i64 Ga, .int .i64 Gb, .int .i64 Gc, .int .i64 Gd] 35 (0, 0))
 obtain ⟨a0, a1, a2, a3, a4⟩ := res_cells ha10
 have al10 := blk_lt ha10
 have an10 := Nat.ne_of_lt al10
 have HQ : Hid _ := hq
 have HC : Hid _ := hc
 have HG : Hid _ := hg
 clear hb10 hB10 hq10 ha10 hc10 hal HRG HB9 HQ9 HA9 HC9 hq ha hc hg
 rcases HAN.out with ⟨rfl, h1, rfl⟩ | ⟨rfl, rfl, rfl, rfl, rfl, rfl, rfl, rfl, h0, h1⟩
 ·clear HAN HQ HC HG HNO
  rcases h1 with rfl | rfl
  ·go_wp2
   go_ret
   exact ⟨rfl, HB10.out⟩
  ·go_wp2
   go_ret
   exact ⟨rfl, HB10.out⟩
 ·clear HAN
  go_wp2_with fail
  refine Calls.mono (HNO.out _) ?_
  rintro _ w12 ⟨rfl, hb12⟩
  have HB12 : Hid _ := HB10.out.trans (hb12.mono HB10.out.size)
  have hc12 := (hb12.block _ (blk_lt HC.out)).trans HC.out
  have HQ12 : Hid _ := (hb12.block _ (blk_lt HQ.out)).trans HQ.out
  have HG12 : Hid _ := (hb12.block _ (blk_lt HG.out)).trans HG.out
  obtain ⟨c0, c1, c2, c3, c4⟩ := res_cells hc12
  have cl12 := blk_lt hc12
  clear hb12 hc12 HB10 HQ HC HG a0 a1 a2 a3 a4 al10 an10
  go_wp2_with fail
  refine Calls.mono (HNO.out _) ?_
  rintro _ w13 ⟨rfl, hb13⟩
  have HB13 : Hid _ := HB12.out.trans (hb13.mono HB12.out.size)
  have hq13 := (hb13.block _ (blk_lt HQ12.out)).trans HQ12.out
  have hg13 := (hb13.block _ (blk_lt HG12.out)).trans HG12.out
  obtain ⟨q0, q1, q2, q3, q4⟩ := res_cells hq13
  obtain ⟨g0, g1, g2, g3, g4⟩ := res_cells hg13
  have ql := blk_lt hq13
  have gl := blk_lt hg13
  have qS : (GS.toList == GS.toList) = true := by simp
  clear hb13 hq13 hg13 HB12 HQ12 HG12 c0 c1 c2 c3 c4 cl12 HNO
  go_wp2
  go_ret
  exact ⟨rfl, HB13.out⟩
theorem Dead_any (region : Int) (rv : Value) (raw : List Int) (w : World) (hrg : I64 region) (h : RawIn w rv raw) (htab : Lib.TabIs Tryz.prog w "internal/strconv.uint64pow10" .u64 Lib.pow10Tab) :
  Calls Tryz.prog 7 #[rv, .int .i64 region] w fun v w' => v = .returned (.bool true) ∧ Below w.heap.size w w' := by
 obtain ⟨ra, rn, rc, rfl⟩ : ∃ ra rn rc, rv = .slice ra rn rc := by
  rcases h.2 with ⟨h1, _⟩ | ⟨a, cap, h1, _, _⟩
  ·exact ⟨_, _, _, h1⟩
  ·exact ⟨_, _, _, h1⟩
 have hbd := build_any w 0 (.slice ra rn rc) raw (by constructor <;> omega) h
 obtain ⟨hKT, hlen, hprs, hcnt⟩ := build_ok 0 raw
 rw [show pickF 0 5 = 0 from rfl] at hKT
 generalize buildF 0 raw = x at *
 have hn := pickF_lt region 999 (by omega)
 have hpk := fun W => pick_any region 999 W hrg (by omega) (by omega)
 generalize pickF region 999 = n at *
 have hX := deadX_of hKT hprs
 have hd3 := dec_len3 n (by omega)
 have hrk : ∃ d, (35 :: decDigits n) = 35 :: d ∧ GoodD d 3 := ⟨decDigits n, rfl, dec_good n 3 hd3⟩
 have h7 := good7
 have hkv : valueL (35 :: decDigits n) = (n : Int) := by rw [value_hashD, value_dec]
 have hplen := pt_len (rg := 35 :: decDigits 999) hKT
 have h9 : (35 :: decDigits 999).length ≤ 4 := by have := dec_len3 999 (by omega); simp; omega
 have hpl2 : x.prs * ((35 :: decDigits 999).length + 1) ≤ 75 * 5 := Nat.mul_le_mul hprs (by omega)
 have hit : ∀ W, Below w.heap.size w W → ItoaOk W := fun W hW => by
  intro n W' hn hW'
  exact itoa_ok w htab n W' hn (hW.trans (hW'.mono hW.size))
 have htx := ktext_any (35 :: decDigits 999) hKT (by simp)
 obtain ⟨X, hXe⟩ : ∃ X, X = x.pt (35 :: decDigits 999) := ⟨_, rfl⟩
 have hev : ev 19997 X [] ⟨0, 0, 0⟩ = ev 19997 (x.pt []) [] ⟨0, 0, 0⟩ := by rw [hXe]; exact dead_ev 19997
 have hsz : (bs X.tidy).size ≤ 1700 := by rw [hXe, bs_size]; omega
 have hdz : (bs (decDigits n)).size ≤ 3 := by rw [bs_size]; exact hd3
 rw [← hXe] at hX
 obtain ⟨r, hr⟩ : ∃ r, r = ByteArray.mk #[35] ++ bs (decDigits n) := ⟨_, rfl⟩
 have hrz : r.size ≤ 4 := by rw [hr, ByteArray.size_append]; show 1 + _ ≤ 4; omega
 have hpz := dPair_size r (bs X.tidy)
 obtain ⟨bad, hbad⟩ : ∃ s, s = dBad r (bs X.tidy) := ⟨_, rfl⟩
 obtain ⟨late, hlate⟩ : ∃ s, s = dLate r (bs X.tidy) := ⟨_, rfl⟩
 obtain ⟨good, hgood⟩ : ∃ s, s = dGood r (bs X.tidy) := ⟨_, rfl⟩
 have hbz : bad.size ≤ 9000 := by rw [hbad, dBad_size]; omega
 have hlz : late.size ≤ 9000 := by rw [hlate, dLate_size]; omega
 have hgz : good.size ≤ 9000 := by rw [hgood, dGood_size]; omega
 have hbd2 : bad.data.toList = (PT.node 0 .fst [] [] [.node 0 .new [] (35 :: decDigits n) [deadP X (35 :: decDigits n)]]).tidy := by rw [hbad, hr, dBad_bs]; simp [bs]
 have hld : late.data.toList = (PT.node 0 .new [] (35 :: decDigits n) [deadP X (35 :: decDigits n)]).tidy := by rw [hlate, hr, dLate_bs]; simp [bs]
 have hgd : good.data.toList = (PT.node 0 .new [] (35 :: decDigits n) [.node 0 .fst [] [] [deadP X (35 :: decDigits n)]]).tidy := by rw [hgood, hr, dGood_bs]; simp [bs]
 have hVb := dead_bad hX hrk h7 hkv (by omega) bad hbz hbd2
 have hVl := dead_late hX hrk h7 hkv (by omega) late hlz hld
 have hVg := dead_good hX hrk h7 hkv (by omega) good hgz hgd
 obtain ⟨E1, hE1, hE1', hRb⟩ := dead_run_bad hX hrk h7 hkv (by omega) bad hbz hbd2
 obtain ⟨E2, hE2, hE2', hRl⟩ := dead_run_late hX hrk h7 hkv (by omega) late hlz hld
 obtain ⟨E3, v3, hE3, hE3', hRg⟩ := dead_run_good hX hrk h7 hkv (by omega) good hgz hgd
 rw [hev] at hE1' hE2' hE3 hE3'
 obtain ⟨R, hR⟩ : ∃ R, R = ev 19997 (x.pt []) [] ⟨0, 0, 0⟩ := ⟨_, rfl⟩
 have hWk : ∀ W p, Below w.heap.size w W → KIn W x p → Calls Tryz.prog 14 #[.pointer (some ⟨p, 0, none⟩), .int .i64 (19997 : Nat)] W fun v w' => v = .returned (.tuple #[evalV R, .bool (decide (R.2.e = 0))]) ∧ Below W.heap.size W w' := fun W p hW hk =>
  worked_any W x _ p 19997 (by omega) hKT hk (fun W' hW' => hit W' (hW.trans (hW'.mono hW.size))) R hR
 have hm := ev_mono 19997 (x.pt []) [] ⟨0, 0, 0⟩ (Nat.zero_le _)
 rw [← hR] at hE1' hE2' hE3 hE3' hm
 obtain ⟨hm1, hm2, _⟩ := hm
 simp only at hm2
 obtain ⟨US, Ua, Ub, Uc, Ud, GS, Ga, Gb, Gc, Gd, ends, hu, hv, hend, hans⟩ : ∃ (US : ByteArray) (Ua Ub Uc Ud : Int) (GS : ByteArray) (Ga Gb Gc Gd : Int) (ends : Bool), evalV R = aggD US Ua Ub Uc Ud ∧ v3 = aggD GS Ga Gb Gc Gd ∧ decide (R.2.e = 0) = ends ∧ ((ends = false ∧ (E1 = 12 ∨ E1 = 13) ∧ E3 = 12) ∨ (ends = true ∧ E1 = 13 ∧ E2 = 13 ∧ E3 = 0 ∧ GS = US ∧ Gb = Ub + 1 ∧ Gc = Ub + 1 ∧ Gd = Ub ∧ 0 ≤ Ub ∧ Ub ≤ 1000000)) := by
  by_cases h0 : R.2.e = 0
  ·obtain ⟨h3, st, hv⟩ := hE3' h0
   refine ⟨bs R.1.txt, R.2.steps, R.2.cells, R.2.cells, R.2.cells, bs R.1.txt, st, (R.2.cells : Int) + 1, (R.2.cells : Int) + 1, R.2.cells, true, ?_, ?_, by simp [h0], Or.inr ⟨rfl, hE1' h0, hE2' h0, h3, rfl, rfl, rfl, rfl, by omega, by omega⟩⟩
   ·unfold evalV
    rw [if_neg (fun h => h h0)]
    rfl
   ·rw [hv]; rfl
  ·obtain ⟨h3, hv⟩ := hE3 h0
   obtain ⟨S, a, b, c, d, hV⟩ := evalV_agg R
   exact ⟨S, a, b, c, d, ⟨#[]⟩, 0, 0, 0, 0, false, hV, hv, by simp [h0], Or.inl ⟨rfl, hE1, h3⟩⟩
 rw [hu, hend] at hWk
 rw [hv] at hRg
 refine Dead_walk region ra rn rc w x n (bs (decDigits n)) (bs X.tidy) r bad late good US GS Ua Ub Uc Ud Ga Gb Gc Gd E1 E2 E3 ends hr hbad hlate hgood hdz hsz hans hbd (fun W p hW hk => ?_) hpk (fun W hW => ?_) hWk hVb hVl hVg (fun W hW => hRb W (Lib.tabBelow_of_tabIs htab W hW)) (fun W hW => hRl W (Lib.tabBelow_of_tabIs htab W hW)) (fun W hW => hRg W (Lib.tabBelow_of_tabIs htab W hW))
 ·have := htx p W hk (by omega) (fun W' hW' => hit W' (hW.trans (hW'.mono hW.size)))
  rw [← hXe, reg999] at this
  exact this
 ·have hal := below_alZ (Below.refl _ W) (.cells (kvV n (.pointer none) (.pointer none)) 29 (0, 0))
  refine Calls.mono (ktold_any (.n n) .n W.heap.size _ (show n ≤ 9999 by omega) (by simp [Ty.size]) (blk_new _ _) (fun W' hW' => hit W' (hW.trans ((hal.trans (hW'.mono hal.size)).mono hW.size)))) ?_
  rintro v w' ⟨rfl, hb⟩
  exact ⟨rfl, hal.trans (hb.mono hal.size)⟩
end Go.Proofs.YtpicaknklgccoabGreatDoor
