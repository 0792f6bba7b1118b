import Derived.Test.YtpicaknklgccoaaGreatDoorX28
import Derived.Test.YtpicaknklgccoaaGreatDoorX23
namespace Go.Proofs.YtpicaknklgccoaaGreatDoor
open Go.RowKit
theorem Tryz.infoThree : (Tryz.prog.info? 139).map (·.size) = some 3 := by kernel_rfl
set_option maxRecDepth 100000 in
set_option maxHeartbeats 4000000 in
theorem make_op {w0 : World} {yb : Nat} {rv : Value} {raw : List Int} {f : Nat} (ih : MakeOk w0 yb rv raw f) (t : Nat) (s : MkS) (nv : Value) (w : World) (ht : t < 5) (hf : s.left < f + 1) (hv : s.vars.length + s.left ≤ 100) (ha : s.at_ + 40 * s.left + 11 ≤ 100000) (h : MkIn w0 w yb rv raw s nv) (hl : s.left ≠ 0) (hk : 4 < (nextF raw 9 { s with left := s.left - 1 }).1 ∧ (nextF raw 9 { s with left := s.left - 1 }).1 < 8) (h0 : t = 0) :
  Calls Tryz.prog 48 #[.pointer (some ⟨yb, 0, none⟩), .int .i64 t] w fun e w' => ∃ p nv', e = .returned (.pointer (some ⟨p, 0, none⟩)) ∧ FrO w w' yb nv nv' ∧ MkIn w0 w' yb rv raw (makeF raw (f + 1) t s).2 nv' ∧ KIn w' (makeF raw (f + 1) t s).1 p := by
 have hyl := blk_lt h.ob.y
 have y2 : w.cell? ⟨yb, 2, none⟩ = some (.int .i64 s.left) := by rw [blk_cell h.ob.y]; rfl
 have f2 : w.frozen? ⟨yb, 2, none⟩ = false := blk_free h.ob.y 2
 have hlp : 0 < s.left := by omega
 have hnx := next_any 9 (by omega) (by omega) (make_pre h hl) (by simp only; omega)
 have hst := nextF_st raw 9 { s with left := s.left - 1 }
 have hx9 := nextF_lt raw 9 { s with left := s.left - 1 } (by omega)
 generalize hR : makeF raw (f + 1) t s = R
 simp only [makeF] at hR
 rw [if_neg hl] at hR
 generalize nextF raw 9 { s with left := s.left - 1 } = x at *
 obtain ⟨x1, x2, x3, x4⟩ := hst
 simp only at x1 x2 x3 x4
 skip
 have HF0 : Hid _ := FrO.set1 w yb nv 2 (.int .i64 ((s.left : Int) - 1))
 have HNX : Hid _ := hnx
 clear hnx h
 go_enter Tryz.func48, Tryz.ntmps48
 go_wp2_with fail
 refine Calls.mono HNX.out ?_
 rintro _ w1 ⟨rfl, hf1, hm1⟩
 have HF1 : Hid _ := HF0.out.trans hf1
 have HM1 : Hid _ := hm1
 clear HNX HF0 hf1 hm1 y2 f2
 rw [if_neg (by omega), if_neg (by omega), if_neg (by omega), if_neg (by omega), if_pos hk.2, if_pos h0] at hR
 subst h0
 have hm := nextF_st raw 3 x.2
 have ho3 := nextF_lt raw 3 x.2 (by omega)
 have hnv := fun W hW => next_any (w := W) 3 (by omega) (by omega) (HM1.out.grow hW) (by omega)
 generalize nextF raw 3 x.2 = o at *
 obtain ⟨m1, m2, m3, m4⟩ := hm
 have hao := makeF_ok raw f 0 o.2 (by omega) (by omega) (by rw [m2, x2]; omega)
 have hia := fun W hW => ih 0 o.2 nv W (by omega) (by omega) (by rw [m2, x2]; omega) (by omega) hW
 have hW0 := @W_le 0
 generalize makeF raw f 0 o.2 = a at *
 obtain ⟨a1, a2, a3, a4, a5, a6, a7, a8⟩ := hao
 have hib := fun nv W hW => ih 0 a.2 nv W (by omega) (by omega) (by rw [a2, m2, x2]; omega) (by omega) hW
 generalize makeF raw f 0 a.2 = b at *
 have HNV : Hid _ := hnv
 have HIA : Hid _ := hia
 have HIB : Hid _ := hib
 have HR : Hid _ := hR
 have qk0 : ((x.1 : Int) == 0) = false := by rw [beq_eq_false_iff_ne]; omega
 have qk1 : ((x.1 : Int) == 1) = false := by rw [beq_eq_false_iff_ne]; omega
 have qk2 : ((x.1 : Int) == 2) = false := by rw [beq_eq_false_iff_ne]; omega
 have qk3 : ((x.1 : Int) == 3) = false := by rw [beq_eq_false_iff_ne]; omega
 have qk4 : ((x.1 : Int) == 4) = false := by rw [beq_eq_false_iff_ne]; omega
 clear hnv hia hib ih hR
 go_wp2_with (refine st_row rfl 139 (.tmp 15) (.tmp 119) rfl w1.heap.size #[.string ⟨#[97, 100, 100]⟩, .string ⟨#[115, 117, 98]⟩, .string ⟨#[108, 101, 115, 115]⟩] rfl rfl 139 _ (blk_new _ _) Tryz.infoThree rfl (by simp [Value.oneCell']) ?_; intro W hW hWs hWo hW1 hW2 hW3)
 have hbW : Below w1.heap.size w1 W := below_new (Below.alloc (Below.refl _ w1) (Nat.le_refl _) _) (Nat.le_refl _) hWs hWo hW1 hW2 hW3
 have HMW : Hid _ := HM1.out.grow hbW
 have HFW : Hid _ := HF1.out.trans (FrO.below hbW _ _)
 have HBW : Hid _ := hbW
 have HQ : Hid _ := hW
 clear hWs hWo hW1 hW2 hW3 hbW hW HM1 HF1
 refine Calls.mono (HNV.out W HBW.out) ?_
 rintro _ w2 ⟨rfl, hf2, hm2⟩
 have hq2 := HMW.out.ob.other hf2 (by decide) (by decide) HQ.out
 have hqc : w2.cell? ⟨w1.heap.size, o.1, none⟩ = some (.string (bs (opK o.1).bytes)) := by
  rw [blk_cell hq2]
  have h3 : o.1 = 0 ∨ o.1 = 1 ∨ o.1 = 2 := by omega
  rcases h3 with h | h | h <;> rw [h] <;> rfl
 have hql : w1.heap.size < w2.heap.size := blk_lt hq2
 have HF2 : Hid _ := HFW.out.trans hf2
 have HM2 : Hid _ := hm2
 clear hf2 hm2 HMW HFW HBW HQ HNV hq2
 generalize w1.heap.size = q at *
 go_wp2_with fail
 refine Calls.mono (HIA.out w2 HM2.out) ?_
 rintro _ w3 ⟨p3, nv3, rfl, hf3, hm3, hk3⟩
 have HF3 : Hid _ := HF2.out.trans hf3
 have HM3 : Hid _ := hm3
 have HK3 : Hid _ := hk3
 clear hf3 hm3 hk3 HM2 HF2
 go_wp2_with fail
 refine Calls.mono (HIB.out nv3 w3 HM3.out) ?_
 rintro _ w4 ⟨p4, nv4, rfl, hf4, hm4, hk4⟩
 have HK3b : Hid _ := KIn.fr HK3.out HM3.out hf4
 have HF4 : Hid _ := HF3.out.trans hf4
 have HM4 : Hid _ := hm4
 have HK4 : Hid _ := hk4
 clear hf4 hm4 hk4 HM3 HF3
 have h2 := kpair_new w4 (opK o.1) 0 p3 p4 HK3b.out HK4.out
 have H2 : Hid _ := h2
 clear h2 HIA HIB
 go_wp2
 go_ret
 rw [← HR.out]
 exact ⟨_, nv4, rfl, HF4.out.trans (FrO.below H2.out.1 _ _), HM4.out.grow H2.out.1, H2.out.2⟩
set_option maxRecDepth 100000 in
set_option maxHeartbeats 4000000 in
theorem make_taken {w0 : World} {yb : Nat} {rv : Value} {raw : List Int} {f : Nat} (ih : MakeOk w0 yb rv raw f) (t : Nat) (s : MkS) (nv : Value) (w : World) (ht : t < 5) (hf : s.left < f + 1) (hv : s.vars.length + s.left ≤ 100) (ha : s.at_ + 40 * s.left + 11 ≤ 100000) (h : MkIn w0 w yb rv raw s nv) (hl : s.left ≠ 0) (hk : (nextF raw 9 { s with left := s.left - 1 }).1 = 2 ∨ (nextF raw 9 { s with left := s.left - 1 }).1 = 3) :
  Calls Tryz.prog 48 #[.pointer (some ⟨yb, 0, none⟩), .int .i64 t] w fun e w' => ∃ p nv', e = .returned (.pointer (some ⟨p, 0, none⟩)) ∧ FrO w w' yb nv nv' ∧ MkIn w0 w' yb rv raw (makeF raw (f + 1) t s).2 nv' ∧ KIn w' (makeF raw (f + 1) t s).1 p := by
 have hyl := blk_lt h.ob.y
 have y2 : w.cell? ⟨yb, 2, none⟩ = some (.int .i64 s.left) := by rw [blk_cell h.ob.y]; rfl
 have f2 : w.frozen? ⟨yb, 2, none⟩ = false := blk_free h.ob.y 2
 have hlp : 0 < s.left := by omega
 have hnx := next_any 9 (by omega) (by omega) (make_pre h hl) (by simp only; omega)
 have hst := nextF_st raw 9 { s with left := s.left - 1 }
 have hx9 := nextF_lt raw 9 { s with left := s.left - 1 } (by omega)
 generalize hR : makeF raw (f + 1) t s = R
 simp only [makeF] at hR
 rw [if_neg hl] at hR
 generalize nextF raw 9 { s with left := s.left - 1 } = x at *
 obtain ⟨x1, x2, x3, x4⟩ := hst
 simp only at x1 x2 x3 x4
 skip
 have HF0 : Hid _ := FrO.set1 w yb nv 2 (.int .i64 ((s.left : Int) - 1))
 have HNX : Hid _ := hnx
 clear hnx h
 go_enter Tryz.func48, Tryz.ntmps48
 go_wp2_with fail
 refine Calls.mono HNX.out ?_
 rintro _ w1 ⟨rfl, hf1, hm1⟩
 have HF1 : Hid _ := HF0.out.trans hf1
 have HM1 : Hid _ := hm1
 clear HNX HF0 hf1 hm1 y2 f2
 rw [if_neg (by omega), if_neg (by omega), if_pos hk] at hR
 have htk := taken_of ih t x.2 nv w1 ht (by omega) (by rw [x2]; omega) (by omega) HM1.out
 have HTK : Hid _ := htk
 have HR : Hid (takenF raw f t x.2 = R) := by rw [← hR]; rfl
 have qk0 : ((x.1 : Int) == 0) = false := by rw [beq_eq_false_iff_ne]; omega
 have qk1 : ((x.1 : Int) == 1) = false := by rw [beq_eq_false_iff_ne]; omega
 clear htk hR ih HM1
 have h23 : x.1 = 2 ∨ x.1 = 3 := hk
 rcases h23 with h2 | h3
 ·have qk2 : ((x.1 : Int) == 2) = true := by rw [h2]; rfl
  clear hk h2
  go_wp2_with fail
  refine Calls.mono HTK.out ?_
  rintro _ w2 ⟨p, nv2, rfl, hf2, hm2, hk2⟩
  have HF2 : Hid _ := HF1.out.trans hf2
  have HM2 : Hid _ := hm2
  have HK2 : Hid _ := hk2
  clear hf2 hm2 hk2 HTK
  go_wp2
  go_ret
  rw [← HR.out]
  exact ⟨p, nv2, rfl, HF2.out, HM2.out, HK2.out⟩
 ·have qk2 : ((x.1 : Int) == 2) = false := by rw [h3]; rfl
  have qk3 : ((x.1 : Int) == 3) = true := by rw [h3]; rfl
  clear hk h3
  go_wp2_with fail
  refine Calls.mono HTK.out ?_
  rintro _ w2 ⟨p, nv2, rfl, hf2, hm2, hk2⟩
  have HF2 : Hid _ := HF1.out.trans hf2
  have HM2 : Hid _ := hm2
  have HK2 : Hid _ := hk2
  clear hf2 hm2 hk2 HTK
  go_wp2
  go_ret
  rw [← HR.out]
  exact ⟨p, nv2, rfl, HF2.out, HM2.out, HK2.out⟩
set_option maxRecDepth 100000 in
theorem make_zero {w0 : World} {yb : Nat} {rv : Value} {raw : List Int} {f : Nat} (t : Nat) (s : MkS) (nv : Value) (w : World) (ht : t < 5) (hv : s.vars.length + s.left ≤ 100) (ha : s.at_ + 40 * s.left + 11 ≤ 100000) (h : MkIn w0 w yb rv raw s nv) (hl : s.left = 0) :
  Calls Tryz.prog 48 #[.pointer (some ⟨yb, 0, none⟩), .int .i64 t] w fun e w' => ∃ p nv', e = .returned (.pointer (some ⟨p, 0, none⟩)) ∧ FrO w w' yb nv nv' ∧ MkIn w0 w' yb rv raw (makeF raw (f + 1) t s).2 nv' ∧ KIn w' (makeF raw (f + 1) t s).1 p := by
 have hyl := blk_lt h.ob.y
 have y2 : w.cell? ⟨yb, 2, none⟩ = some (.int .i64 0) := by rw [blk_cell h.ob.y, ← Int.natCast_zero, ← hl]; rfl
 have hR : makeF raw (f + 1) t s = leafF raw 3 t s := by simp only [makeF]; rw [if_pos hl]
 rw [hR]
 have HLF : Hid _ := leaf_any 3 t s nv w ht (by unfold dep; split <;> (try split) <;> omega) h (by omega) (by have := @W_le t; omega)
 clear h hR
 go_enter Tryz.func48, Tryz.ntmps48
 go_wp2_with fail
 refine Calls.mono HLF.out ?_
 rintro _ w2 ⟨p, rfl, hf2, hm2, hk2⟩
 have HF2 : Hid _ := hf2
 have HM2 : Hid _ := hm2
 have HK2 : Hid _ := hk2
 clear hf2 hm2 hk2 HLF
 go_wp2
 go_ret
 exact ⟨p, nv, rfl, HF2.out, HM2.out, HK2.out⟩
theorem make_any {w0 : World} {yb : Nat} {rv : Value} {raw : List Int} : ∀ f, MakeOk w0 yb rv raw f
 | 0 => fun _ _ _ _ _ h => absurd h (by omega)
 | f + 1 => fun t s nv w ht hf hv ha h => by
  by_cases hl : s.left = 0
  ·exact make_zero t s nv w ht hv ha h hl
  ·have ih := make_any (w0 := w0) (yb := yb) (rv := rv) (raw := raw) f
   have h9 := nextF_lt raw 9 { s with left := s.left - 1 } (by omega)
   by_cases h0 : (nextF raw 9 { s with left := s.left - 1 }).1 = 0
   ·exact make_let ih t s nv w ht hf hv ha h hl h0
   by_cases h1 : (nextF raw 9 { s with left := s.left - 1 }).1 = 1
   ·exact make_if ih t s nv w ht hf hv ha h hl h1
   by_cases h2 : (nextF raw 9 { s with left := s.left - 1 }).1 = 2 ∨ (nextF raw 9 { s with left := s.left - 1 }).1 = 3
   ·exact make_taken ih t s nv w ht hf hv ha h hl h2
   by_cases h4 : (nextF raw 9 { s with left := s.left - 1 }).1 = 4
   ·exact make_loop ih t s nv w ht hf hv ha h hl h4
   by_cases h8 : (nextF raw 9 { s with left := s.left - 1 }).1 < 8
   ·by_cases ht0 : t = 0
    ·exact make_op ih t s nv w ht hf hv ha h hl ⟨by omega, h8⟩ ht0
    ·exact make_pair ih t s nv w ht hf hv ha h hl ⟨by omega, h8⟩ ht0
   ·exact make_leaf ih t s nv w ht hf hv ha h hl (by omega)
set_option maxRecDepth 100000 in
theorem build_any (w : World) (t : Int) (rv : Value) (raw : List Int) (ht : I64 t) (h : RawIn w rv raw) :
  Calls Tryz.prog 21 #[.int .i64 t, rv] w fun e w' => ∃ p, e = .returned (.pointer (some ⟨p, 0, none⟩)) ∧ Below w.heap.size w w' ∧ KIn w' (buildF t raw) p := by
 obtain ⟨ra, rn, rc, rfl⟩ : ∃ ra rn rc, rv = .slice ra rn rc := by
  rcases h.2 with ⟨h1, _⟩ | ⟨a, cap, h1, _, _⟩
  ·exact ⟨_, _, _, h1⟩
  ·exact ⟨_, _, _, h1⟩
 have hob : MkIn w (w.alloc (.cells (mkCells (.slice ra rn rc) ⟨0, 24, []⟩ (.slice none 0 0)) 94 (0, 0))) w.heap.size (.slice ra rn rc) raw ⟨0, 24, []⟩ (.slice none 0 0) := by
  refine ⟨h, ⟨below_alZ (Below.refl _ w) _, Nat.le_refl _, blk_new _ _, World.ownsRow_nil _ _ _ _, by simp [Value.ownBlock]⟩⟩
 have hpk := fun W => pick_any t 5 W ht (by omega) (by omega)
 have h5 := pickF_lt t 5 (by omega)
 have hmk := make_any (w0 := w) (yb := w.heap.size) (rv := .slice ra rn rc) (raw := raw) 25 (pickF t 5) ⟨0, 24, []⟩ (.slice none 0 0) _ h5 (by simp) (by simp) (by simp) hob
 have HPK : Hid _ := hpk
 have HMK : Hid _ := hmk
 clear hob hpk hmk h
 go_enter Tryz.func21, Tryz.ntmps21
 go_wp2_with fail
 refine Calls.mono (HPK.out _) ?_
 rintro _ w2 ⟨rfl, rfl⟩
 go_wp2_with fail
 refine Calls.mono HMK.out ?_
 rintro _ w3 ⟨p, nv', rfl, hf, hm, hk⟩
 have HB : Hid _ := hm.ob.b0
 have HK : Hid (KIn w3 (buildF t raw) p) := hk
 clear hf hm hk HMK HPK
 go_wp2
 go_ret
 exact ⟨p, rfl, HB.out, HK.out⟩
open Go.Lib (decDigits)
theorem ofNat_toNat8 (n : Nat) (h : n < 256) : (UInt8.ofNat n).toNat = n := by simp; omega
theorem value_dec (u : Nat) : valueL (decDigits u) = u := by
 induction u using Nat.strongRecOn with
 | _ u ih =>
  rw [decDigits]
  split
  ·rename_i h
   have e : (UInt8.ofNat (48 + u)).toNat = 48 + u := ofNat_toNat8 _ (by omega)
   have hne : UInt8.ofNat (48 + u) ≠ 35 := by intro hc; rw [hc] at e; simp at e; omega
   simp only [valueL, List.foldl_cons, List.foldl_nil, if_neg hne, e]; omega
  ·rename_i h
   have e : (UInt8.ofNat (48 + u % 10)).toNat = 48 + u % 10 := ofNat_toNat8 _ (by omega)
   have hne : UInt8.ofNat (48 + u % 10) ≠ 35 := by intro hc; rw [hc] at e; simp at e; omega
   rw [valueL_snoc, if_neg hne, ih _ (by omega), e]; omega
theorem dec_ne (u : Nat) : decDigits u ≠ [] := by rw [decDigits]; split <;> simp
theorem dec_head (u : Nat) (h : 0 < u) : (decDigits u).head? ≠ some 48 := by
 induction u using Nat.strongRecOn with
 | _ u ih =>
  rw [decDigits]
  split
  ·rename_i h1
   have e : (UInt8.ofNat (48 + u)).toNat = 48 + u := ofNat_toNat8 _ (by omega)
   intro hc
   simp only [List.head?_cons, Option.some.injEq] at hc
   rw [hc] at e; simp at e; omega
  ·rename_i h1
   have := ih (u / 10) (by omega) (by omega)
   cases hd : decDigits (u / 10) with
   | nil => exact absurd hd (dec_ne _)
   | cons a r => rw [hd] at this; simpa using this
theorem dec_good (u m : Nat) (h : (decDigits u).length ≤ m) : GoodD (decDigits u) m := by
 refine ⟨fun c hc => ?_, ?_⟩
 ·have := dec_digit u c hc
  unfold digitB at this
  simp only [Bool.and_eq_true, decide_eq_true_eq] at this
  unfold inB
  simp only [Bool.and_eq_true, decide_eq_true_eq]
  omega
 ·unfold numeralB
  have hp : 0 < (decDigits u).length := List.length_pos_iff.2 (dec_ne u)
  have hl : (decDigits u).length = 1 ∨ (decDigits u).head? ≠ some 48 := by
   rcases Nat.eq_zero_or_pos u with rfl | hu
   ·left; rw [decDigits]; simp
   ·exact Or.inr (dec_head u hu)
  simp only [Bool.and_eq_true, Bool.or_eq_true, decide_eq_true_eq, bne_iff_ne]
  exact ⟨⟨hp, h⟩, hl⟩
theorem dec_len2 (u : Nat) (h : u ≤ 99) : (decDigits u).length ≤ 2 := by
 rw [decDigits]; split
 ·simp
 ·rw [decDigits]; split
  ·simp
  ·omega
theorem dec_len3 (u : Nat) (h : u ≤ 999) : (decDigits u).length ≤ 3 := by
 rw [decDigits]; split
 ·simp
 ·rw [decDigits]; split
  ·simp
  ·rw [decDigits]; split
   ·simp
   ·omega
def nameL (n : Nat) : List UInt8 := [UInt8.ofNat (97 + n / 26 % 26), UInt8.ofNat (97 + n % 26), 118]
theorem nameL_inj {a b : Nat} (ha : a < 676) (hb : b < 676) (h : nameL a = nameL b) : a = b := by
 simp only [nameL, List.cons.injEq, and_true] at h
 have h1 := congrArg UInt8.toNat h.1
 have h2 := congrArg UInt8.toNat h.2
 rw [ofNat_toNat8 _ (by omega), ofNat_toNat8 _ (by omega)] at h1 h2
 omega
theorem nameL_good (n : Nat) : GoodN (nameL n) := by
 refine ⟨by simp [nameL], fun c hc => ?_, by simp [nameL], ?_⟩
 ·simp only [nameL, List.mem_cons, List.not_mem_nil, or_false] at hc
  have e1 : (UInt8.ofNat (97 + n / 26 % 26)).toNat = 97 + n / 26 % 26 := ofNat_toNat8 _ (by omega)
  have e2 : (UInt8.ofNat (97 + n % 26)).toNat = 97 + n % 26 := ofNat_toNat8 _ (by omega)
  unfold inB
  simp only [Bool.and_eq_true, decide_eq_true_eq]
  rcases hc with rfl | rfl | rfl
  ·omega
  ·omega
  ·decide
 ·cases h : kwOf (nameL n) with
  | none => rfl
  | some k =>
   have := kwOf_some h
   cases k <;> simp [nameL, Kw.bytes] at this
def bindN (k : Kw) (n : Nat) : List UInt8 := if k = .let_ ∨ k = .loop then nameL n else []
def KE.pt (rg : List UInt8) : KE → PT
 | .num n => .num 0 (decDigits n)
 | .var n => .name 0 (nameL n)
 | .n1 k a => .node 0 k [] [] [a.pt rg]
 | .n2 k n a b => .node 0 k (bindN k n) (if k = .pair then rg else []) [a.pt rg, b.pt rg]
 | .n3 k n a b c => .node 0 k (bindN k n) [] [a.pt rg, b.pt rg, c.pt rg]
theorem pt_np (rg : List UInt8) : ∀ x : KE, (x.pt rg).np = x.pt rg
 | .num _ => rfl
 | .var _ => rfl
 | .n1 _ a => by simp only [KE.pt, PT.np, npL, pt_np rg a]
 | .n2 _ _ a b => by simp only [KE.pt, PT.np, npL, pt_np rg a, pt_np rg b]
 | .n3 _ _ a b c => by simp only [KE.pt, PT.np, npL, pt_np rg a, pt_np rg b, pt_np rg c]
theorem pt_prs (rg : List UInt8) : ∀ {vs : List Nat} {x : KE} {t : Nat}, KT vs x t → (x.pt rg).prs = x.prs := by
 intro vs x t h
 induction h with
 | num _ => rfl
 | var _ => rfl
 | let_ _ _ _ _ ha hb => simp [KE.pt, PT.prs, prsL, KE.prs, ha, hb]
 | if_ _ _ _ ha hb hc => simp [KE.pt, PT.prs, prsL, KE.prs, ha, hb, hc]; omega
 | loop _ _ _ _ ha hb hc => simp [KE.pt, PT.prs, prsL, KE.prs, ha, hb, hc]; omega
 | pair _ _ _ _ ha hb => simp [KE.pt, PT.prs, prsL, KE.prs, ha, hb]; omega
 | fst _ _ _ ha => simp [KE.pt, PT.prs, prsL, KE.prs, ha]
 | snd _ _ _ ha => simp [KE.pt, PT.prs, prsL, KE.prs, ha]
 | two hk _ _ ha hb => rcases hk with rfl | rfl | rfl <;> simp [KE.pt, PT.prs, prsL, KE.prs, ha, hb]
def RgOk (placed : Bool) (rg : List UInt8) : Prop := if placed = true then ∃ d, rg = 35 :: d ∧ GoodD d 3 else rg = []
theorem pt_ok {placed : Bool} {rg : List UInt8} (hr : RgOk placed rg) : ∀ {vs : List Nat} {x : KE} {t : Nat}, KT vs x t → (x.pt rg).ok placed := by
 intro vs x t h
 unfold RgOk at hr
 induction h with
 | num h => simp only [KE.pt, PT.ok]; exact dec_good _ 4 (Nat.le_trans (dec_len2 _ (by omega)) (by omega))
 | var _ => simp only [KE.pt, PT.ok]; exact nameL_good _
 | let_ _ _ _ _ ha hb => simp [KE.pt, PT.ok, okL, bindN, wantsK, arity, nameL_good, ha, hb]
 | if_ _ _ _ ha hb hc => simp [KE.pt, PT.ok, okL, bindN, wantsK, arity, ha, hb, hc]
 | loop _ _ _ _ ha hb hc => simp [KE.pt, PT.ok, okL, bindN, wantsK, arity, nameL_good, ha, hb, hc]
 | pair _ _ _ _ ha hb =>
  cases placed with
  | true => simp [KE.pt, PT.ok, okL, bindN, wantsK, arity, ha, hb]; simpa using hr
  | false => simp [KE.pt, PT.ok, okL, bindN, wantsK, arity, ha, hb]; simpa using hr
 | fst _ _ _ ha => simp [KE.pt, PT.ok, okL, wantsK, arity, ha]
 | snd _ _ _ ha => simp [KE.pt, PT.ok, okL, wantsK, arity, ha]
 | two hk _ _ ha hb => rcases hk with rfl | rfl | rfl <;> simp [KE.pt, PT.ok, okL, bindN, wantsK, arity, ha, hb]
theorem pt_len {rg : List UInt8} : ∀ {vs : List Nat} {x : KE} {t : Nat}, KT vs x t → (x.pt rg).tidy.length ≤ x.len + x.prs * (rg.length + 1) := by
 intro vs x t h
 induction h with
 | num h => simp only [KE.pt, PT.tidy, KE.len, KE.prs]; exact Nat.le_trans (dec_len2 _ (by omega)) (by omega)
 | var _ => simp [KE.pt, PT.tidy, KE.len, KE.prs, nameL]
 | let_ _ _ _ _ ha hb => simp [KE.pt, PT.tidy, tidyL, joinT, pieceT, KE.len, KE.prs, regT, bindN, nameL, Kw.bytes, Nat.add_mul]; omega
 | if_ _ _ _ ha hb hc => simp [KE.pt, PT.tidy, tidyL, joinT, pieceT, KE.len, KE.prs, regT, bindN, Kw.bytes, Nat.add_mul]; omega
 | loop _ _ _ _ ha hb hc => simp [KE.pt, PT.tidy, tidyL, joinT, pieceT, KE.len, KE.prs, regT, bindN, nameL, Kw.bytes, Nat.add_mul]; omega
 | pair _ _ _ _ ha hb =>
  simp only [KE.pt, PT.tidy, tidyL, joinT, pieceT, KE.len, KE.prs, regT, bindN, Kw.bytes, Nat.add_mul, if_true]
  by_cases hr : rg = []
  ·subst hr; simp; simp at ha hb; omega
  ·simp [hr]; omega
 | fst _ _ _ ha => simp [KE.pt, PT.tidy, tidyL, joinT, pieceT, KE.len, KE.prs, regT, Kw.bytes]; omega
 | snd _ _ _ ha => simp [KE.pt, PT.tidy, tidyL, joinT, pieceT, KE.len, KE.prs, regT, Kw.bytes]; omega
 | two hk _ _ ha hb => rcases hk with rfl | rfl | rfl <;> simp [KE.pt, PT.tidy, tidyL, joinT, pieceT, KE.len, KE.prs, regT, bindN, Kw.bytes, Nat.add_mul] <;> omega
def tyJ (t : Nat) : Ty := if t = 0 then .n else .p 0 .n .n
def tyZ (t : Nat) : Ty := if t = 0 then .n else .p 0 (tyJ (fT t)) (tyJ (sT t))
theorem tyZ_pair {t : Nat} (ht : t < 5) (h0 : t ≠ 0) : tyZ t = .p 0 (tyZ (fT t)) (tyZ (sT t)) := by
 match t, ht, h0 with
 | 1, _, _ => rfl
 | 2, _, _ => rfl
 | 3, _, _ => rfl
 | 4, _, _ => rfl
theorem tyZ_size (t : Nat) : (tyZ t).size ≤ 3 := by
 have hj : ∀ t, (tyJ t).size ≤ 1 := fun t => by unfold tyJ; split <;> simp [Ty.size]
 unfold tyZ
 split
 ·simp [Ty.size]
 ·have := hj (fT t); have := hj (sT t); simp only [Ty.size]; omega
theorem look_snoc' (env : TEnv) (nm s : List UInt8) (T : Ty) : look (env ++ [(nm, T)]) s = if nm = s then some T else look env s := by
 unfold look
 rw [List.reverse_append, List.reverse_singleton, List.singleton_append, List.find?_cons]
 by_cases h : nm = s
 ·subst h; simp
 ·have : (nm == s) = false := by rw [beq_eq_false_iff_ne]; exact h
  simp only [this, if_neg h]
def envT (vs : List Nat) : TEnv := vs.mapIdx (fun i t => (nameL i, tyZ t))
theorem envT_snoc (vs : List Nat) (t : Nat) : envT (vs ++ [t]) = envT vs ++ [(nameL vs.length, tyZ t)] := by unfold envT; rw [List.mapIdx_concat]
theorem look_envT (vs : List Nat) (n t : Nat) (h : vs[n]? = some t) (hl : vs.length ≤ 600) : look (envT vs) (nameL n) = some (tyZ t) := by
 have hn : n < vs.length := by
  rcases Nat.lt_or_ge n vs.length with h1 | h1
  ·exact h1
  ·rw [List.getElem?_eq_none h1] at h; cases h
 have key : ∀ k, n < k → k ≤ vs.length → look (envT (vs.take k)) (nameL n) = some (tyZ t) := by
  intro k
  induction k with
  | zero => intro h; omega
  | succ k ih =>
   intro h1 h2
   rw [List.take_succ_eq_append_getElem (by omega), envT_snoc, look_snoc', List.length_take, Nat.min_eq_left (by omega)]
   by_cases e : k = n
   ·subst e
    rw [if_pos rfl]
    rw [List.getElem?_eq_getElem (by omega)] at h
    simp only [Option.some.injEq] at h
    rw [h]
   ·rw [if_neg (fun hc => e (nameL_inj (by omega) (by omega) hc))]
    exact ih (by omega) (by omega)
 have := key vs.length hn (Nat.le_refl _)
 rwa [List.take_length] at this
theorem pt_WT {rg : List UInt8} : ∀ {vs : List Nat} {x : KE} {t : Nat}, KT vs x t → vs.length ≤ 100 → WT (envT vs) (x.pt rg) (tyZ t) := by
 intro vs x t h
 induction h with
 | num _ => intro _; exact .num
 | var h => intro hl; exact .name (look_envT _ _ _ h (by omega))
 | let_ _ hl _ _ ha hb => intro _; simp only [KE.pt]; exact .let_ (ha (by omega)) (by have := hb (by simp; omega); rw [envT_snoc] at this; simpa [bindN] using this)
 | if_ _ _ _ ha hb hc => intro hl; simp only [KE.pt]; exact .if_ (ha hl) (hb hl) (hc hl)
 | loop hl _ _ _ ha hb hc => intro _; simp only [KE.pt]; exact .loop (ha (by omega)) (hb (by omega)) (by have := hc (by simp; omega); rw [envT_snoc] at this; simpa [bindN] using this)
 | pair h0 ht _ _ ha hb =>
  intro hl
  simp only [KE.pt]
  have hs := tyZ_size ‹Nat›
  rw [tyZ_pair ht h0]
  exact .pair (ha hl) (hb hl) (by rw [← tyZ_pair ht h0]; have := tyZ_size ‹Nat›; omega)
 | fst h0 hp _ ha => intro hl; simp only [KE.pt]; have := ha hl; rw [tyZ_pair hp h0] at this; exact .fst this
 | snd h0 hp _ ha => intro hl; simp only [KE.pt]; have := ha hl; rw [tyZ_pair hp h0] at this; exact .snd this
 | two hk _ _ ha hb => intro hl; simp only [KE.pt]; exact .two hk (ha hl) (hb hl)
theorem Tryz.undBytesZ : Tryz.prog.underlying 121 = some (.slice 5) := by kernel_rfl
theorem Tryz.undStrZ : Tryz.prog.underlying 9 = some .string := by kernel_rfl
theorem Tryz.undU8Z : Tryz.prog.underlying 5 = some (.int .u8) := by kernel_rfl
set_option maxRecDepth 100000 in
theorem kname_any (n : Nat) (hn : n ≤ 1000) (w : World) : Calls Tryz.prog 50 #[.int .i64 n] w fun e w' => e = .returned (.string (bs (nameL n))) ∧ Below w.heap.size w w' := by
 have hcv : (convert 121 9 (.slice (some ⟨w.heap.size, 0, none⟩) 3 3)).run Tryz.prog (w.alloc (.cells #[.int .u8 (97 + ((n / 26 % 26 : Nat) : Int)), .int .u8 (97 + ((n % 26 : Nat) : Int)), .int .u8 118] 5 (0, 0))) = .ok (.string (bs (nameL n))) (w.alloc (.cells #[.int .u8 (97 + ((n / 26 % 26 : Nat) : Int)), .int .u8 (97 + ((n % 26 : Nat) : Int)), .int .u8 118] 5 (0, 0))) := by
  refine Lib.run_convert_whole (P := Tryz.prog) _ _ _ _ Tryz.undBytesZ Tryz.undU8Z Tryz.undStrZ w.heap.size 0 (bs (nameL n)) ?_ 3
  intro i hi
  have hi3 : i < 3 := hi
  have e1 : (UInt8.ofNat (97 + n / 26 % 26)).toNat = 97 + n / 26 % 26 := ofNat_toNat8 _ (by omega)
  have e2 : (UInt8.ofNat (97 + n % 26)).toNat = 97 + n % 26 := ofNat_toNat8 _ (by omega)
  rw [blk_cell (blk_new w _)]
  match i, hi3 with
  | 0, _ =>
   show some (Value.int .u8 (97 + ((n / 26 % 26 : Nat) : Int))) = some (Value.int .u8 ((UInt8.ofNat (97 + n / 26 % 26)).toNat : Int))
   rw [e1]; rfl
  | 1, _ =>
   show some (Value.int .u8 (97 + ((n % 26 : Nat) : Int))) = some (Value.int .u8 ((UInt8.ofNat (97 + n % 26)).toNat : Int))
   rw [e2]; rfl
  | 2, _ => rfl
 obtain ⟨a, ha⟩ : ∃ a, a = n / 26 % 26 := ⟨_, rfl⟩
 obtain ⟨b, hb⟩ : ∃ b, b = n % 26 := ⟨_, rfl⟩
 have hal : a < 26 := by omega
 have hbl : b < 26 := by omega
 have e1 : (n : Int) / 26 % 26 = (a : Int) := by omega
 have e2 : (n : Int) % 26 = (b : Int) := by omega
 rw [← ha, ← hb] at hcv
 clear ha hb
 go_enter Tryz.func50, Tryz.ntmps50
 go_wp2
 go_ret
 exact ⟨rfl, below_alZ (Below.refl _ _) _⟩
def accZ (pre : List UInt8) (k : Kw) (nm : List UInt8) (ts : List (List UInt8)) (j : Nat) : List UInt8 := pre ++ joinT k nm 0 (ts.take j)
theorem accZ_succ (pre : List UInt8) (k : Kw) (nm : List UInt8) (ts : List (List UInt8)) (j : Nat) (x : List UInt8) (hx : ts[j]? = some x) : accZ pre k nm ts (j + 1) = accZ pre k nm ts j ++ pieceT k nm j x := by
 have hj : j < ts.length := by
  rcases Nat.lt_or_ge j ts.length with h | h
  ·exact h
  ·rw [List.getElem?_eq_none h] at hx; cases hx
 unfold accZ
 rw [List.take_add_one, hx, Option.toList_some, joinT_snoc, List.length_take, Nat.min_eq_left (by omega), Nat.zero_add, List.append_assoc]
theorem joinT_app (k : Kw) (nm : List UInt8) : ∀ (a b : List (List UInt8)) (i : Nat), joinT k nm i (a ++ b) = joinT k nm i a ++ joinT k nm (i + a.length) b
 | [], b, i => by simp [joinT]
 | x :: r, b, i => by
  simp only [List.cons_append, joinT, joinT_app k nm r b (i + 1), List.append_assoc, List.length_cons]
  rw [show i + 1 + r.length = i + (r.length + 1) by omega]
theorem accZ_le (pre : List UInt8) (k : Kw) (nm : List UInt8) (ts : List (List UInt8)) (j : Nat) : (accZ pre k nm ts j).length ≤ pre.length + (joinT k nm 0 ts).length := by
 unfold accZ
 have h : joinT k nm 0 ts = joinT k nm 0 (ts.take j) ++ joinT k nm (0 + (ts.take j).length) (ts.drop j) := by rw [← joinT_app, List.take_append_drop]
 rw [h]; simp
theorem joinT_mem (k : Kw) (nm : List UInt8) : ∀ (ts : List (List UInt8)) (i : Nat) (x : List UInt8), x ∈ ts → x.length + 1 ≤ (joinT k nm i ts).length
 | [], _, _, h => by simp at h
 | t :: r, i, x, h => by
  simp only [joinT, List.length_append]
  rcases List.mem_cons.1 h with h | h
  ·subst h; unfold pieceT; simp; try omega
  ·have := joinT_mem k nm r (i + 1) x h; omega
def KE.kids : KE → List KE
 | .num _ => []
 | .var _ => []
 | .n1 _ a => [a]
 | .n2 _ _ a b => [a, b]
 | .n3 _ _ a b c => [a, b, c]
def KText (rg : List UInt8) (x : KE) : Prop := ∀ (p : Nat) (w : World), KIn w x p → (x.pt rg).tidy.length ≤ 100000 → (∀ W, Below w.heap.size w W → ItoaOk W) →
 Calls Tryz.prog 22 #[.pointer (some ⟨p, 0, none⟩), .string (bs (regT rg))] w fun e w' => e = .returned (.string (bs (x.pt rg).tidy)) ∧ Below w.heap.size w w'
set_option maxRecDepth 100000 in
theorem text_num (rg : List UInt8) (n : Nat) (hn : n ≤ 9999) : KText rg (.num n) := by
 intro p w hx _ hit
 have hx' : w.heap[p]? = some (.cells (exV [] n (.slice none 0 0)) 98 (0, 0)) := hx
 have hp := blk_lt hx'
 have x0 : w.cell? ⟨p, 0, none⟩ = some (.string ⟨#[]⟩) := by rw [blk_cell hx']; rfl
 have x1 : w.cell? ⟨p, 1, none⟩ = some (.int .i64 n) := by rw [blk_cell hx']; rfl
 have hi := hit w (Below.refl _ _) n w hn (Below.refl _ _)
 have HI : Hid _ := hi
 simp only [KE.pt, PT.tidy]
 clear hx hx' hi hit
 go_enter Tryz.func22, Tryz.ntmps22
 go_wp2_with fail
 refine Calls.mono HI.out ?_
 rintro _ w2 ⟨rfl, hb⟩
 go_wp2
 go_ret
 exact ⟨rfl, hb⟩
set_option maxRecDepth 100000 in
theorem text_var (rg : List UInt8) (n : Nat) (hn : n ≤ 1000) : KText rg (.var n) := by
 intro p w hx _ _
 have hx' : w.heap[p]? = some (.cells (exV [120] n (.slice none 0 0)) 98 (0, 0)) := hx
 have hp := blk_lt hx'
 have x0 : w.cell? ⟨p, 0, none⟩ = some (.string ⟨#[120]⟩) := by rw [blk_cell hx']; rfl
 have x1 : w.cell? ⟨p, 1, none⟩ = some (.int .i64 n) := by rw [blk_cell hx']; rfl
 have HI : Hid _ := kname_any n hn w
 simp only [KE.pt, PT.tidy]
 clear hx hx'
 go_enter Tryz.func22, Tryz.ntmps22
 go_wp2_with fail
 refine Calls.mono HI.out ?_
 rintro _ w2 ⟨rfl, hb⟩
 go_wp2
 go_ret
 exact ⟨rfl, hb⟩
theorem join_bind (k : Kw) (n : Nat) : ∀ (l : List (List UInt8)) (i : Nat), joinT k (bindN k n) i l = joinT k (nameL n) i l
 | [], _ => rfl
 | x :: r, i => by
  simp only [joinT]
  rw [join_bind k n r (i + 1)]
  congr 1
  unfold pieceT
  split
  ·rename_i h
   unfold bindN
   rw [if_pos (h.elim (fun h => Or.inl h.1) (fun h => Or.inr h.1))]
  ·rfl
def KNode (w : World) (p : Nat) (k : Kw) (n : Nat) (ks : List KE) : Prop := ∃ c : Nat, c < w.heap.size ∧ w.heap[p]? = some (.cells (exV k.bytes n (.slice (some ⟨c, 0, none⟩) ks.length ks.length)) 98 (0, 0)) ∧ ∀ (j : Nat) (y : KE), ks[j]? = some y → ∃ q : Nat, w.cell? ⟨c, j, none⟩ = some (.pointer (some ⟨q, 0, none⟩)) ∧ KIn w y q
theorem knode1 {w : World} {p : Nat} {k : Kw} {a : KE} (h : KIn w (.n1 k a) p) : KNode w p k 0 [a] := by
 obtain ⟨c, pa, h1, h2, h3⟩ := h
 refine ⟨c, blk_lt h2, h1, fun j y hj => ?_⟩
 match j, hj with
 | 0, hj => simp at hj; subst hj; exact ⟨pa, by rw [blk_cell h2]; rfl, h3⟩
 | j + 1, hj => simp at hj
theorem knode2 {w : World} {p : Nat} {k : Kw} {n : Nat} {a b : KE} (h : KIn w (.n2 k n a b) p) : KNode w p k n [a, b] := by
 obtain ⟨c, pa, pb, h1, h2, h3, h4⟩ := h
 refine ⟨c, blk_lt h2, h1, fun j y hj => ?_⟩
 match j, hj with
 | 0, hj => simp at hj; subst hj; exact ⟨pa, by rw [blk_cell h2]; rfl, h3⟩
 | 1, hj => simp at hj; subst hj; exact ⟨pb, by rw [blk_cell h2]; rfl, h4⟩
 | j + 2, hj => simp at hj
theorem knode3 {w : World} {p : Nat} {k : Kw} {n : Nat} {a b d : KE} (h : KIn w (.n3 k n a b d) p) : KNode w p k n [a, b, d] := by
 obtain ⟨c, pa, pb, pd, h1, h2, h3, h4, h5⟩ := h
 refine ⟨c, blk_lt h2, h1, fun j y hj => ?_⟩
 match j, hj with
 | 0, hj => simp at hj; subst hj; exact ⟨pa, by rw [blk_cell h2]; rfl, h3⟩
 | 1, hj => simp at hj; subst hj; exact ⟨pb, by rw [blk_cell h2]; rfl, h4⟩
 | 2, hj => simp at hj; subst hj; exact ⟨pd, by rw [blk_cell h2]; rfl, h5⟩
 | j + 3, hj => simp at hj
set_option maxRecDepth 100000 in
set_option maxHeartbeats 4000000 in
theorem text_node (rg : List UInt8) (x : KE) (k : Kw) (n : Nat) (ks : List KE) (hkn : k ≠ .new) (hn : n ≤ 1000)
  (hpt : (x.pt rg).tidy = 40 :: (k.bytes ++ ((if k = .pair then regT rg else []) ++ (joinT k (nameL n) 0 (ks.map (fun y => (y.pt rg).tidy)) ++ [41]))))
  (hin : ∀ w p, KIn w x p → KNode w p k n ks) (hk3 : ks.length ≤ 3) (ih : ∀ y ∈ ks, KText rg y) : KText rg x := by
 intro p w hx hlen hit
 obtain ⟨c, hc, hb, hkid⟩ := hin w p hx
 have hp := blk_lt hb
 have x0 : w.cell? ⟨p, 0, none⟩ = some (.string (bs k.bytes)) := by rw [blk_cell hb]; rfl
 have x1 : w.cell? ⟨p, 1, none⟩ = some (.int .i64 n) := by rw [blk_cell hb]; rfl
 have x2 : w.cell? ⟨p, 2, none⟩ = some (.slice (some ⟨c, 0, none⟩) ks.length ks.length) := by rw [blk_cell hb]; rfl
 have h1 : ((bs k.bytes).toList == []) = false := by rw [bs_beq0]; cases k <;> decide
 have h2 : ((bs k.bytes).toList == [120]) = false := by rw [bs_beq0]; cases k <;> decide
 obtain ⟨bp, hbp⟩ : ∃ bp, ((bs k.bytes).toList == [112, 97, 105, 114]) = bp := ⟨_, rfl⟩
 obtain ⟨bl, hl⟩ : ∃ bl, ((bs k.bytes).toList == [108, 101, 116]) = bl := ⟨_, rfl⟩
 obtain ⟨bo, ho⟩ : ∃ bo, ((bs k.bytes).toList == [108, 111, 111, 112]) = bo := ⟨_, rfl⟩
 have hP : bp = decide (k = .pair) := by rw [← hbp, bs_beq0]; cases k <;> decide
 have hL : bl = decide (k = .let_) := by rw [← hl, bs_beq0]; cases k <;> decide
 have hO : bo = decide (k = .loop) := by rw [← ho, bs_beq0]; cases k <;> decide
 have hLO : ¬ (bl = true ∧ bo = true) := by rw [hL, hO]; cases k <;> simp
 obtain ⟨ts, hts⟩ : ∃ ts, ts = ks.map (fun y => (y.pt rg).tidy) := ⟨_, rfl⟩
 have htl : ts.length = ks.length := by rw [hts]; simp
 obtain ⟨pre, hpre⟩ : ∃ pre, pre = 40 :: (k.bytes ++ (if k = .pair then regT rg else [])) := ⟨_, rfl⟩
 rw [← hts] at hpt
 have hfin : accZ pre k (nameL n) ts ks.length ++ [41] = (x.pt rg).tidy := by
  rw [hpt, hpre]; unfold accZ; rw [← htl, List.take_length]; simp
 have hlenp : pre.length + (joinT k (nameL n) 0 ts).length + 1 = (x.pt rg).tidy.length := by rw [hpt, hpre]; simp; omega
 have hacc := fun j => accZ_le pre k (nameL n) ts j
 have hall : ∀ j, (hj : j < ks.length) → ∀ w', Below w.heap.size w w' → ∃ (q : Nat) (tx : List UInt8), w'.cell? ⟨c, j, none⟩ = some (.pointer (some ⟨q, 0, none⟩)) ∧ ts[j]? = some tx ∧ tx.length ≤ 100000 ∧
   Calls Tryz.prog 22 #[.pointer (some ⟨q, 0, none⟩), .string (bs (regT rg))] w' (fun e w'' => e = .returned (.string (bs tx)) ∧ Below w'.heap.size w' w'') := by
  intro j hj w' hw'
  obtain ⟨q, hq, hy⟩ := hkid j ks[j] (List.getElem?_eq_getElem hj)
  have htx : ts[j]? = some (ks[j].pt rg).tidy := by rw [hts, List.getElem?_map, List.getElem?_eq_getElem hj]; rfl
  have hm := joinT_mem k (nameL n) ts 0 _ (List.mem_of_getElem? htx)
  exact ⟨q, _, (hw'.cell (p := ⟨c, j, none⟩) hc).trans hq, htx, by omega, ih ks[j] (List.getElem_mem hj) q w' (hy.below hw') (by omega) (fun W hW => hit W (hw'.trans (hW.mono hw'.size)))⟩
 have hnm := fun W => kname_any n hn W
 have hkb : k.bytes.length ≤ 4 := by cases k <;> decide
 have hrl : (regT rg).length ≤ 100000 ∨ k ≠ .pair := by
  by_cases h : k = .pair
  ·left; rw [hpre, if_pos h] at hlenp; simp at hlenp; omega
  ·exact Or.inr h
 have hz : ∀ j, (bs (accZ pre k (nameL n) ts j)).size ≤ 100000 := fun j => by rw [bs_size]; have := hacc j; omega
 have HALL : Hid _ := hall
 have HNM : Hid _ := hnm
 have HFIN : Hid _ := hfin
 have HL : Hid _ := hL
 have HO : Hid _ := hO
 have HZ : Hid _ := hz
 have z1 : (ByteArray.mk #[40]).size = 1 := rfl
 have z2 : (bs k.bytes).size ≤ 4 := by rw [bs_size]; exact hkb
 have z3 : (bs (nameL n)).size = 3 := rfl
 have zR : bp = true → (bs (regT rg)).size ≤ 100000 := by
  intro h; rw [bs_size]; rw [hP, decide_eq_true_eq] at h
  rcases hrl with h1 | h1
  ·exact h1
  ·exact absurd h h1
 have e0 : bp = true → ByteArray.mk #[40] ++ bs k.bytes ++ bs (regT rg) = bs (accZ pre k (nameL n) ts 0) := by
  intro h
  rw [hP, decide_eq_true_eq] at h
  rw [show ByteArray.mk #[40] = bs [40] from rfl, bs_app, bs_app, hpre, if_pos h]; simp [accZ, joinT]
 have e1 : bp = false → ByteArray.mk #[40] ++ bs k.bytes = bs (accZ pre k (nameL n) ts 0) := by
  intro h
  rw [hP, decide_eq_false_iff_not] at h
  rw [show ByteArray.mk #[40] = bs [40] from rfl, bs_app, hpre, if_neg h]; simp [accZ, joinT]
 have zS : (ByteArray.mk #[40] ++ bs k.bytes).size ≤ 5 := by rw [ByteArray.size_append]; omega
 have E0 : Hid _ := e0
 have E1 : Hid _ := e1
 have ZR : Hid _ := zR
 clear hall hx hkid ih hit hL hO hP hpt hin hfin hpre hts hacc hnm hz e0 e1 zR hb hrl hlen hlenp hkb
 go_enter Tryz.func22, Tryz.ntmps22
 cases bp
 all_goals
  first
  | (have ee0 : Hid _ := E1.out rfl)
  | (have ee0 : Hid _ := E0.out rfl)
  first
  | (have zR := ZR.out rfl)
  | skip
  clear E0 E1 ZR
  go_wp2_with fail
  go_loopw [5, 6] (fun v i wr => ∃ j : Nat, j ≤ ks.length ∧ i = .int .i64 j ∧ v = .string (bs (accZ pre k (nameL n) ts j)) ∧ Below w.heap.size w wr) (fun _ i _ => ks.length - (intOf i).toNat)
  case atStart => exact ⟨0, by omega, rfl, by rw [← ee0.out], Below.refl _ _⟩
  case round =>
   obtain ⟨j, hj, rfl, rfl, hbel⟩ := hrel
   have hsz := hbel.size
   have q0 : wr.cell? ⟨p, 0, none⟩ = some (.string (bs k.bytes)) := (hbel.cell (p := ⟨p, 0, none⟩) hp).trans x0
   have q1 : wr.cell? ⟨p, 1, none⟩ = some (.int .i64 n) := (hbel.cell (p := ⟨p, 1, none⟩) hp).trans x1
   have q2 : wr.cell? ⟨p, 2, none⟩ = some (.slice (some ⟨c, 0, none⟩) ks.length ks.length) := (hbel.cell (p := ⟨p, 2, none⟩) hp).trans x2
   have hpr : p < wr.heap.size := by omega
   have hcr : c < wr.heap.size := by omega
   have zA := HZ.out j
   have z4 : (ByteArray.mk #[32]).size = 1 := rfl
   have z5 : (ByteArray.mk #[41]).size = 1 := rfl
   have HB : Hid _ := hbel
   by_cases hlt : j < ks.length
   ·have hnx : ∀ tx, ts[j]? = some tx → accZ pre k (nameL n) ts (j + 1) = accZ pre k (nameL n) ts j ++ pieceT k (nameL n) j tx := fun tx htx => accZ_succ pre k (nameL n) ts j tx htx
    have HNX : Hid _ := hnx
    have zB : (bs (accZ pre k (nameL n) ts j) ++ ByteArray.mk #[32]).size ≤ 100001 := by rw [ByteArray.size_append]; omega
    have zC : (bs (accZ pre k (nameL n) ts j) ++ ByteArray.mk #[32] ++ bs (nameL n)).size ≤ 100004 := by rw [ByteArray.size_append]; omega
    have zD : (bs (accZ pre k (nameL n) ts j) ++ ByteArray.mk #[32] ++ bs (nameL n) ++ ByteArray.mk #[32]).size ≤ 100005 := by rw [ByteArray.size_append]; omega
    have eN : ((bl = true ∧ j = 0) ∨ (bo = true ∧ j = 1)) → ∀ tx, ts[j]? = some tx → bs (accZ pre k (nameL n) ts j) ++ ByteArray.mk #[32] ++ bs (nameL n) ++ ByteArray.mk #[32] ++ bs tx = bs (accZ pre k (nameL n) ts (j + 1)) := by
     intro hcd tx htx
     rw [HL.out, HO.out, decide_eq_true_eq, decide_eq_true_eq] at hcd
     rw [HNX.out tx htx, show ByteArray.mk #[32] = bs [32] from rfl, bs_app, bs_app, bs_app, bs_app]
     unfold pieceT; rw [if_pos hcd]; simp
    have eP : ¬ ((bl = true ∧ j = 0) ∨ (bo = true ∧ j = 1)) → ∀ tx, ts[j]? = some tx → bs (accZ pre k (nameL n) ts j) ++ ByteArray.mk #[32] ++ bs tx = bs (accZ pre k (nameL n) ts (j + 1)) := by
     intro hcd tx htx
     rw [HL.out, HO.out, decide_eq_true_eq, decide_eq_true_eq] at hcd
     rw [HNX.out tx htx, show ByteArray.mk #[32] = bs [32] from rfl, bs_app, bs_app]
     unfold pieceT; rw [if_neg hcd]; simp
    have EN : Hid _ := eN
    have EP : Hid _ := eP
    clear eN eP hnx hbel
    by_cases hcd : (bl = true ∧ j = 0) ∨ (bo = true ∧ j = 1)
    ·have HEE : Hid _ := EN.out hcd
     clear EN EP HNX HL HO HZ
     have hbr : (bl = true ∧ j = 0) ∨ (bl = false ∧ bo = true ∧ j = 1) := by
      rcases hcd with h | h
      ·exact Or.inl h
      ·right
       refine ⟨?_, h⟩
       cases bl with
       | false => rfl
       | true => exact absurd ⟨rfl, h.1⟩ hLO
     clear hcd hLO
     have hbq : (bl = true ∧ ((j : Int) == 0) = true) ∨ (bl = false ∧ bo = true ∧ ((j : Int) == 1) = true) := by
      rcases hbr with ⟨h1, h2⟩ | ⟨h1, h2, h3⟩
      ·exact Or.inl ⟨h1, by rw [h2]; rfl⟩
      ·exact Or.inr ⟨h1, h2, by rw [h3]; rfl⟩
     clear hbr
     rcases hbq with ⟨rfl, hqj⟩ | ⟨rfl, rfl, hqj⟩
     all_goals
      go_wp2_with fail
      refine Calls.mono (HNM.out _) ?_
      rintro _ w1 ⟨rfl, hb1⟩
      have HB1 : Hid _ := HB.out.trans (hb1.mono hsz)
      have r2 : w1.cell? ⟨p, 2, none⟩ = some (.slice (some ⟨c, 0, none⟩) ks.length ks.length) := (HB1.out.cell (p := ⟨p, 2, none⟩) hp).trans x2
      have hpr1 : p < w1.heap.size := by have := HB1.out.size; omega
      have hcr1 : c < w1.heap.size := by have := HB1.out.size; omega
      obtain ⟨q, tx, hq, htx, htl', hcall⟩ := HALL.out _ hlt w1 HB1.out
      have hfe := HEE.out tx htx
      have zE : (bs tx).size ≤ 100000 := by rw [bs_size]; exact htl'
      have HC : Hid _ := hcall
      have HFE : Hid _ := hfe
      clear hcall hfe htx HEE hb1
      go_wp2_with fail
      refine Calls.mono HC.out ?_
      rintro _ w2 ⟨rfl, hb2⟩
      have HB2 : Hid _ := HB1.out.trans (hb2.mono HB1.out.size)
      clear hb2 HC
      go_wp2
      go_roundw
      case rel => exact ⟨j + 1, by omega, by go_num, by rw [← HFE.out], HB2.out⟩
      case measure => simp [intOf]; omega
    ·have HEE : Hid _ := EP.out hcd
     clear EN EP HNX HL HO HZ
     obtain ⟨q, tx, hq, htx, htl', hcall⟩ := HALL.out j hlt wr HB.out
     have hfe := HEE.out tx htx
     have zE : (bs tx).size ≤ 100000 := by rw [bs_size]; exact htl'
     have HC : Hid _ := hcall
     have HFE : Hid _ := hfe
     have hnl : ¬ (bl = true ∧ j = 0) := fun h => hcd (Or.inl h)
     have hno : ¬ (bo = true ∧ j = 1) := fun h => hcd (Or.inr h)
     clear hcall hfe htx HEE hcd
     have qj0 : j ≠ 0 → ((j : Int) == 0) = false := fun h => by rw [beq_eq_false_iff_ne]; omega
     have qj1 : j ≠ 1 → ((j : Int) == 1) = false := fun h => by rw [beq_eq_false_iff_ne]; omega
     cases bl <;> cases bo <;> first | exact absurd ⟨rfl, rfl⟩ hLO | skip
     all_goals
      clear hLO
      first
      | (have hj0 : j ≠ 0 := fun h => hnl ⟨rfl, h⟩
         have q6 := qj0 hj0)
      | (have hj1 : j ≠ 1 := fun h => hno ⟨rfl, h⟩
         have q6 := qj1 hj1)
      | skip
      clear hnl hno qj0 qj1
      go_wp2_with fail
      refine Calls.mono HC.out ?_
      rintro _ w2 ⟨rfl, hb2⟩
      have HB2 : Hid _ := HB.out.trans (hb2.mono hsz)
      clear hb2 HC
      go_wp2
      go_roundw
      case rel => exact ⟨j + 1, by omega, by go_num, by rw [← HFE.out], HB2.out⟩
      case measure => simp [intOf]; omega
   ·have hjk : j = ks.length := by omega
    subst hjk
    clear HALL HL HO
    go_wp2_with fail
    go_ret
    refine ⟨?_, HB.out⟩
    rw [← HFIN.out, ← bs_app]; rfl
theorem NoNew.kw {p : Nat} {k : Kw} {nm rg : List UInt8} {kids : List PT} (h : NoNew (.node p k nm rg kids)) : k ≠ .new := by cases h with | node h _ => exact h
theorem regT_if (k : Kw) (rg : List UInt8) : regT (if k = .pair then rg else []) = if k = .pair then regT rg else [] := by split <;> rfl
theorem ktext_any (rg : List UInt8) : ∀ {vs : List Nat} {x : KE} {t : Nat}, KT vs x t → vs.length ≤ 101 → KText rg x := by
 intro vs x t h
 induction h with
 | num h => intro _; exact text_num rg _ (by omega)
 | var h =>
  intro hl
  refine text_var rg _ ?_
  have := (List.getElem?_eq_some_iff.1 h).1
  omega
 | let_ _ hl _ _ ha hb =>
  intro _
  refine text_node rg _ .let_ _ [_, _] (by decide) (by omega) ?_ (fun w p h => knode2 h) (by simp) ?_
  ·simp only [KE.pt, PT.tidy, tidyL, regT_if, join_bind, List.map_cons, List.map_nil]
  ·intro y hy
   simp only [List.mem_cons, List.not_mem_nil, or_false] at hy
   rcases hy with rfl | rfl
   ·exact ha (by omega)
   ·exact hb (by simp; omega)
 | if_ _ _ _ ha hb hc =>
  intro hl
  refine text_node rg _ .if_ 0 [_, _, _] (by decide) (by omega) ?_ (fun w p h => knode3 h) (by simp) ?_
  ·simp only [KE.pt, PT.tidy, tidyL, join_bind, List.map_cons, List.map_nil]
   rfl
  ·intro y hy
   simp only [List.mem_cons, List.not_mem_nil, or_false] at hy
   rcases hy with rfl | rfl | rfl
   ·exact ha hl
   ·exact hb hl
   ·exact hc hl
 | loop hl _ _ _ ha hb hc =>
  intro _
  refine text_node rg _ .loop _ [_, _, _] (by decide) (by omega) ?_ (fun w p h => knode3 h) (by simp) ?_
  ·simp only [KE.pt, PT.tidy, tidyL, join_bind, List.map_cons, List.map_nil]
   rfl
  ·intro y hy
   simp only [List.mem_cons, List.not_mem_nil, or_false] at hy
   rcases hy with rfl | rfl | rfl
   ·exact ha (by omega)
   ·exact hb (by omega)
   ·exact hc (by simp; omega)
 | pair _ _ _ _ ha hb =>
  intro hl
  refine text_node rg _ .pair 0 [_, _] (by decide) (by omega) ?_ (fun w p h => knode2 h) (by simp) ?_
  ·simp only [KE.pt, PT.tidy, tidyL, join_bind, List.map_cons, List.map_nil, if_true]
  ·intro y hy
   simp only [List.mem_cons, List.not_mem_nil, or_false] at hy
   rcases hy with rfl | rfl
   ·exact ha hl
   ·exact hb hl
 | fst _ _ _ ha =>
  intro hl
  refine text_node rg _ .fst 0 [_] (by decide) (by omega) ?_ (fun w p h => knode1 h) (by simp) ?_
  ·simp only [KE.pt, PT.tidy, tidyL, List.map_cons, List.map_nil, ← join_bind]
   rfl
  ·intro y hy
   simp only [List.mem_cons, List.not_mem_nil, or_false] at hy
   subst hy
   exact ha hl
 | snd _ _ _ ha =>
  intro hl
  refine text_node rg _ .snd 0 [_] (by decide) (by omega) ?_ (fun w p h => knode1 h) (by simp) ?_
  ·simp only [KE.pt, PT.tidy, tidyL, List.map_cons, List.map_nil, ← join_bind]
   rfl
  ·intro y hy
   simp only [List.mem_cons, List.not_mem_nil, or_false] at hy
   subst hy
   exact ha hl
 | two hk _ _ ha hb =>
  intro hl
  refine text_node rg _ _ 0 [_, _] (by rcases hk with rfl | rfl | rfl <;> decide) (by omega) ?_ (fun w p h => knode2 h) (by simp) ?_
  ·simp only [KE.pt, PT.tidy, tidyL, regT_if, join_bind, List.map_cons, List.map_nil]
  ·intro y hy
   simp only [List.mem_cons, List.not_mem_nil, or_false] at hy
   rcases hy with rfl | rfl
   ·exact ha hl
   ·exact hb hl
theorem fin_end {id p : Nat} {x : Ty × TSt} {T : Ty} {A : Nat} (h0 : x.2.e = 0) (hb : x.1.bare = T) (hs : T.size ≤ 63) (ha : x.2.at_ = A) : (fin id p x).2.e = 0 ∧ (fin id p x).1.bare = T ∧ T.size ≤ 63 ∧ (fin id p x).2.at_ = A := by
 have hsz : x.1.size ≤ 63 := by rw [← bare_sizeE, hb]; exact hs
 unfold fin
 have : ¬ (x.2.e = 0 ∧ 63 < x.1.size) := by omega
 simp only [if_neg this]
 exact ⟨h0, hb, hs, ha⟩
theorem bare_pair {T A B : Ty} {r : Nat} (h : T.bare = .p r A B) : ∃ q u v, T = .p q u v ∧ u.bare = A ∧ v.bare = B := by
 cases T with
 | n => simp [Ty.bare] at h
 | p q u v => simp only [Ty.bare, Ty.p.injEq] at h; exact ⟨q, u, v, rfl, h.2.1, h.2.2⟩
theorem bare_num {T : Ty} (h : T.bare = .n) : T = .n := by cases T with
 | n => rfl
 | p q u v => simp [Ty.bare] at h
theorem WT.find {G : TEnv} {e : PT} {T : Ty} (h : WT G e T) : ∀ (cls : List Nat) (id site : Nat) (env : TEnv) (st : TSt), bareE env = G → (∀ x ∈ env, x.2.size ≤ 63) → st.e = 0 →
  (tyFind cls e id site env st).2.e = 0 ∧ (tyFind cls e id site env st).1.bare = T ∧ T.size ≤ 63 ∧ (tyFind cls e id site env st).2.at_ = st.at_ := by
 induction h with
 | num => intro cls id site env st _ _ h0; simp only [tyFind]; exact fin_end h0 rfl (by simp [Ty.size]) rfl
 | name h =>
  intro cls id site env st hG hs h0
  simp only [tyFind]
  rw [← hG, look_bare] at h
  cases hl : look env _ with
  | none => rw [hl] at h; simp at h
  | some U =>
   rw [hl] at h
   simp only [Option.map_some, Option.some.injEq] at h
   have hU : U.size ≤ 63 := by
    unfold look at hl
    cases hf : env.reverse.find? (fun x => x.1 == _) with
    | none => rw [hf] at hl; simp at hl
    | some z =>
     rw [hf] at hl
     simp only [Option.map_some, Option.some.injEq] at hl
     have := List.mem_of_find?_eq_some hf
     rw [← hl]
     exact hs z (List.mem_reverse.1 this)
   exact fin_end h0 h (by rw [← h, bare_sizeE]; exact hU) rfl
 | let_ ha hb iha ihb =>
  intro cls id site env st hG hs h0
  simp only [tyFind, if_true, tyLet]
  obtain ⟨a1, a2, a3, a4⟩ := iha cls (id + 1) site env st hG hs h0
  rename_i nm _ a b A B
  obtain ⟨b1, b2, b3, b4⟩ := ihb cls (id + 1 + a.cnt) (site + a.prs) (env ++ [(nm, (tyFind cls a (id + 1) site env st).1)]) (tyFind cls a (id + 1) site env st).2 (by rw [bareE_snoc, hG, a2]) (by
   intro x hx
   rcases List.mem_append.1 hx with hx | hx
   ·exact hs x hx
   ·simp only [List.mem_singleton] at hx; subst hx; rw [← bare_sizeE, a2]; exact a3) a1
  exact fin_end b1 b2 b3 (b4.trans a4)
 | pair ha hb hsz iha ihb =>
  intro cls id site env st hG hs h0
  simp only [tyFind, if_true, tyKids, if_neg (show Kw.pair ≠ .let_ by decide), if_neg (show Kw.pair ≠ .loop by decide)]
  rename_i a b A B
  obtain ⟨a1, a2, a3, a4⟩ := iha cls (id + 1) (site + 1) env st hG hs h0
  obtain ⟨b1, b2, b3, b4⟩ := ihb cls (id + 1 + a.cnt) (site + 1 + a.prs) env _ hG hs a1
  rw [if_neg (by rw [b1]; simp)]
  simp only [madeT]
  exact fin_end b1 (by simp only [Ty.bare, a2, b2]) hsz (b4.trans a4)
 | fst ha iha =>
  intro cls id site env st hG hs h0
  simp only [tyFind, tyKids, if_neg (show Kw.fst ≠ .let_ by decide), if_neg (show Kw.fst ≠ .loop by decide), if_neg (show Kw.fst ≠ .pair by decide), Nat.add_zero]
  obtain ⟨a1, a2, a3, a4⟩ := iha cls (id + 1) site env st hG hs h0
  rw [if_neg (by rw [a1]; simp)]
  obtain ⟨q, u, v, e, hu, hv⟩ := bare_pair a2
  rw [e]
  simp only [madeT]
  simp only [Ty.size] at a3
  exact fin_end a1 hu (by omega) a4
 | snd ha iha =>
  intro cls id site env st hG hs h0
  simp only [tyFind, tyKids, if_neg (show Kw.snd ≠ .let_ by decide), if_neg (show Kw.snd ≠ .loop by decide), if_neg (show Kw.snd ≠ .pair by decide), Nat.add_zero]
  obtain ⟨a1, a2, a3, a4⟩ := iha cls (id + 1) site env st hG hs h0
  rw [if_neg (by rw [a1]; simp)]
  obtain ⟨q, u, v, e, hu, hv⟩ := bare_pair a2
  rw [e]
  simp only [madeT]
  simp only [Ty.size] at a3
  exact fin_end a1 hv (by omega) a4
 | if_ ha hb hc iha ihb ihc =>
  intro cls id site env st hG hs h0
  simp only [tyFind, tyKids, if_neg (show Kw.if_ ≠ .let_ by decide), if_neg (show Kw.if_ ≠ .loop by decide), if_neg (show Kw.if_ ≠ .pair by decide), Nat.add_zero]
  rename_i a b c T
  obtain ⟨a1, a2, a3, a4⟩ := iha cls (id + 1) site env st hG hs h0
  obtain ⟨b1, b2, b3, b4⟩ := ihb cls (id + 1 + a.cnt) (site + a.prs) env _ hG hs a1
  obtain ⟨c1, c2, c3, c4⟩ := ihc cls (id + 1 + a.cnt + b.cnt) (site + a.prs + b.prs) env _ hG hs b1
  rw [if_neg (by rw [c1]; simp)]
  simp only [madeT]
  rw [if_pos ⟨bare_num a2, by rw [b2, c2]⟩]
  exact fin_end c1 b2 b3 (c4.trans (b4.trans a4))
 | two hk ha hb iha ihb =>
  intro cls id site env st hG hs h0
  rename_i k _ _ a b
  have hk' : k ≠ .let_ ∧ k ≠ .loop ∧ k ≠ .pair := by rcases hk with rfl | rfl | rfl <;> decide
  simp only [tyFind, tyKids, if_neg hk'.1, if_neg hk'.2.1, if_neg hk'.2.2, Nat.add_zero]
  obtain ⟨a1, a2, a3, a4⟩ := iha cls (id + 1) site env st hG hs h0
  obtain ⟨b1, b2, b3, b4⟩ := ihb cls (id + 1 + a.cnt) (site + a.prs) env _ hG hs a1
  rw [if_neg (by rw [b1]; simp)]
  have hm : ∀ (ps : Nat) (A B : Ty) (s : TSt), A = .n → B = .n → madeT cls k ps site [A, B] s = (.n, s) := by
   rintro ps _ _ s rfl rfl
   rcases hk with rfl | rfl | rfl <;> simp [madeT]
  rw [hm _ _ _ _ (bare_num a2) (bare_num b2)]
  exact fin_end b1 rfl (by simp [Ty.size]) (b4.trans a4)
 | loop ha hb hc iha ihb ihc =>
  intro cls id site env st hG hs h0
  simp only [tyFind, tyLoop, if_true, if_neg (show Kw.loop ≠ .let_ by decide)]
  rename_i nm _ a b c T
  obtain ⟨a1, a2, a3, a4⟩ := iha cls (id + 1) site env st hG hs h0
  obtain ⟨b1, b2, b3, b4⟩ := ihb cls (id + 1 + a.cnt) (site + a.prs) env _ hG hs a1
  obtain ⟨c1, c2, c3, c4⟩ := ihc cls (id + 1 + a.cnt + b.cnt) (site + a.prs + b.prs) (env ++ [(nm, (tyFind cls b (id + 1 + a.cnt) (site + a.prs) env (tyFind cls a (id + 1) site env st).2).1)]) _ (by rw [bareE_snoc, hG, b2]) (by
   intro x hx
   rcases List.mem_append.1 hx with hx | hx
   ·exact hs x hx
   ·simp only [List.mem_singleton] at hx; subst hx; rw [← bare_sizeE, b2]; exact b3) b1
  rw [if_neg (by rw [c1]; simp)]
  simp only [madeT]
  rw [if_pos ⟨bare_num a2, by rw [b2, c2]⟩]
  exact fin_end c1 b2 b3 (c4.trans (b4.trans a4))
 | new ha iha =>
  intro cls id site env st hG hs h0
  simp only [tyFind, tyKids, if_neg (show Kw.new ≠ .let_ by decide), if_neg (show Kw.new ≠ .loop by decide), if_neg (show Kw.new ≠ .pair by decide), Nat.add_zero]
  obtain ⟨a1, a2, a3, a4⟩ := iha cls (id + 1) site env st hG hs h0
  rw [if_neg (by rw [a1]; simp)]
  simp only [madeT]
  exact fin_end a1 a2 a3 a4
theorem chk_ok {e : PT} {T : Ty} (h : WT [] e T) (hp : e.prs ≤ 100) : chkAns e = (0, 0) := by
 unfold chkAns
 have hf := h.find (List.range e.prs) 0 0 [] (st0 e) rfl (by simp) rfl
 rw [if_neg (by omega), hf.1, hf.2.2.2]
 rfl
mutual
theorem np_prs : ∀ e : PT, e.np.prs = e.prs
 | .num _ _ => rfl
 | .name _ _ => rfl
 | .node _ _ _ _ kids => by simp only [PT.np, PT.prs, npL_prs kids]
theorem npL_prs : ∀ l : List PT, prsL (npL l) = prsL l
 | [] => rfl
 | t :: r => by simp only [npL, prsL, np_prs t, npL_prs r]
end
mutual
theorem np_ev (fuel : Nat) : ∀ (e : PT) (env : VEnv) (st : ESt), ev fuel e.np env st = ev fuel e env st
 | .num _ _, _, _ => rfl
 | .name _ _, _, _ => rfl
 | .node _ k nm rg kids, env, st => by
  simp only [PT.np, ev]
  congr 1
  funext st
  rw [np_evLet fuel nm kids, np_evIf fuel kids, np_evLoop fuel nm kids, np_evKids fuel kids]
theorem np_evKids (fuel : Nat) : ∀ (l : List PT) (env : VEnv) (st : ESt), evKids fuel (npL l) env st = evKids fuel l env st
 | [], _, _ => rfl
 | t :: r, env, st => by simp only [npL, evKids, np_ev fuel t, np_evKids fuel r]
theorem np_evLet (fuel : Nat) (nm : List UInt8) : ∀ (l : List PT) (env : VEnv) (st : ESt), evLet fuel nm (npL l) env st = evLet fuel nm l env st
 | [], _, _ => rfl
 | [_], _, _ => rfl
 | [a, b], env, st => by simp only [npL, evLet, np_ev fuel a, np_ev fuel b]
 | _ :: _ :: _ :: _, _, _ => rfl
theorem np_evIf (fuel : Nat) : ∀ (l : List PT) (env : VEnv) (st : ESt), evIf fuel (npL l) env st = evIf fuel l env st
 | [], _, _ => rfl
 | [_], _, _ => rfl
 | [_, _], _, _ => rfl
 | [a, b, c], env, st => by simp only [npL, evIf, np_ev fuel a, np_ev fuel b, np_ev fuel c]
 | _ :: _ :: _ :: _ :: _, _, _ => rfl
theorem np_evLoop (fuel : Nat) (nm : List UInt8) : ∀ (l : List PT) (env : VEnv) (st : ESt), evLoop fuel nm (npL l) env st = evLoop fuel nm l env st
 | [], _, _ => rfl
 | [_], _, _ => rfl
 | [_, _], _, _ => rfl
 | [a, b, c], env, st => by simp only [npL, evLoop, np_ev fuel a, np_ev fuel b, np_ev fuel c]
 | _ :: _ :: _ :: _ :: _, _, _ => rfl
end
theorem ev_congr {fuel p : Nat} {k : Kw} {nm rg rg' : List UInt8} {kids kids' : List PT} (h1 : evLet fuel nm kids = evLet fuel nm kids') (h2 : evIf fuel kids = evIf fuel kids') (h3 : evLoop fuel nm kids = evLoop fuel nm kids') (h4 : evKids fuel kids = evKids fuel kids') : ev fuel (.node p k nm rg kids) = ev fuel (.node p k nm rg' kids') := by
 funext env st
 simp only [ev]
 rw [h1, h2, h3, h4]
theorem rg_ev (fuel : Nat) (rg : List UInt8) : ∀ (x : KE), ev fuel (x.pt rg) = ev fuel (x.pt [])
 | .num _ => rfl
 | .var _ => rfl
 | .n1 k a => by
  simp only [KE.pt]
  refine ev_congr rfl rfl rfl ?_
  funext env st; simp only [evKids, rg_ev fuel rg a]
 | .n2 k n a b => by
  simp only [KE.pt]
  refine ev_congr ?_ rfl rfl ?_
  ·funext env st; simp only [evLet, rg_ev fuel rg a, rg_ev fuel rg b]
  ·funext env st; simp only [evKids, rg_ev fuel rg a, rg_ev fuel rg b]
 | .n3 k n a b c => by
  simp only [KE.pt]
  refine ev_congr rfl ?_ ?_ ?_
  ·funext env st; simp only [evIf, rg_ev fuel rg a, rg_ev fuel rg b, rg_ev fuel rg c]
  ·funext env st; simp only [evLoop, rg_ev fuel rg a, rg_ev fuel rg b, rg_ev fuel rg c]
  ·funext env st; simp only [evKids, rg_ev fuel rg a, rg_ev fuel rg b, rg_ev fuel rg c]
mutual
theorem np_WT : ∀ (e : PT) {G : TEnv} {T : Ty}, WT G e.np T → WT G e T
 | .num _ _, _, _, h => by cases h; exact .num
 | .name _ _, _, _, h => by cases h with | name h => exact .name h
 | .node p k nm rg kids, G, T, h => by
  match kids with
  | [] => simp only [PT.np, npL] at h; cases h
  | [a] =>
   simp only [PT.np, npL] at h
   cases h with
   | fst h => exact .fst (np_WT a h)
   | snd h => exact .snd (np_WT a h)
   | new h => exact .new (np_WT a h)
  | [a, b] =>
   simp only [PT.np, npL] at h
   cases h with
   | let_ h1 h2 => exact .let_ (np_WT a h1) (np_WT b h2)
   | pair h1 h2 h3 => exact .pair (np_WT a h1) (np_WT b h2) h3
   | two hk h1 h2 => exact .two hk (np_WT a h1) (np_WT b h2)
  | [a, b, c] =>
   simp only [PT.np, npL] at h
   cases h with
   | if_ h1 h2 h3 => exact .if_ (np_WT a h1) (np_WT b h2) (np_WT c h3)
   | loop h1 h2 h3 => exact .loop (np_WT a h1) (np_WT b h2) (np_WT c h3)
  | _ :: _ :: _ :: _ :: _ => simp only [PT.np, npL] at h; cases h
end
end Go.Proofs.YtpicaknklgccoaaGreatDoor
