import Derived.Test.YtpicaknklgccoaaGreatDoorX26
namespace Go.Proofs.YtpicaknklgccoaaGreatDoor
open Go.RowKit
theorem natsV_len (l : List Nat) : (natsV l).length = l.length := by simp [natsV]
theorem natsV_snoc (l : List Nat) (v : Nat) : natsV (l ++ [v]) = natsV l ++ [.int .i64 v] := by simp [natsV]
set_option maxRecDepth 100000 in
set_option maxHeartbeats 2000000 in
theorem bind_of {w0 : World} {yb : Nat} {rv : Value} {raw : List Int} (g : Nat → MkS → KE × MkS) (v t : Nat) (s : MkS) (nv : Value) (w : World)
  (hf : ∀ (nv : Value) (w : World), MkIn w0 w yb rv raw { s with vars := s.vars ++ [v] } nv → Calls Tryz.prog 48 #[.pointer (some ⟨yb, 0, none⟩), .int .i64 t] w fun e w' => ∃ p nv', e = .returned (.pointer (some ⟨p, 0, none⟩)) ∧ FrO w w' yb nv nv' ∧ MkIn w0 w' yb rv raw (g t { s with vars := s.vars ++ [v] }).2 nv' ∧ KIn w' (g t { s with vars := s.vars ++ [v] }).1 p)
  (hg : (g t { s with vars := s.vars ++ [v] }).2.vars = s.vars ++ [v]) (h : MkIn w0 w yb rv raw s nv) (hvl : s.vars.length ≤ 200) :
  Calls Tryz.prog 80 #[.pointer (some ⟨yb, 0, none⟩), .int .i64 v, .int .i64 t] w fun e w' => ∃ p nv', e = .returned (.pointer (some ⟨p, 0, none⟩)) ∧ FrO w w' yb nv nv' ∧ MkIn w0 w' yb rv raw (bindF g v t s).2 nv' ∧ KIn w' (bindF g v t s).1 p := by
 obtain ⟨i0, hi, hz0, hz1, hz2⟩ := info_parts Tryz.infoIntZ
 have HI : Hid _ := hi
 have HZ0 : Hid _ := hz0
 have HZ1 : Hid _ := hz1
 have HZ2 : Hid _ := hz2
 have HH : Hid _ := h
 have hyl := blk_lt h.ob.y
 obtain ⟨na, nc, hnv, _, _⟩ := h.ob.shape
 rw [natsV_len] at hnv
 have y3 : w.cell? ⟨yb, 3, none⟩ = some (.slice na s.vars.length nc) := by rw [blk_cell h.ob.y, ← hnv]; rfl
 have f3 : w.frozen? ⟨yb, 3, none⟩ = false := blk_free h.ob.y 3
 have hown : w.ownsRow 0 3 1 (.slice na s.vars.length nc) s.vars.length (natsV s.vars) := by
  have := owns_base (base' := 0) h.ob.n (fun _ _ => Nat.zero_le _)
  rw [natsV_len, hnv] at this; exact this
 have HNV : Hid _ := hnv
 have HOWN : Hid (w.ownsRow 0 3 1 (.slice na s.vars.length nc) s.vars.length (natsV s.vars)) := hown
 have HHF : Hid _ := hf
 have HHG : Hid _ := hg
 clear hi hz0 hz1 hz2 hown hnv h hf hg
 go_enter Tryz.func80, Tryz.ntmps80
 go_wp2_with (at_builtin; go_must (refine app_own _ rfl (.tmp 18) (.tmp 20) 42 rfl 3 i0 _ 1 8 Tryz.undIntsZ HI.out HZ0.out HZ1.out HZ2.out rfl (by decide) (.slice na s.vars.length nc) s.vars.length (natsV s.vars) rfl (HOWN.out.alloc _) ⟨w.heap.size, 0, none⟩ 1 1 [.int .i64 v] rfl rfl ?d1 ?d2 (by decide) ?d3 ?d4 ?_))
 case d1 =>
  intro j' u hj'
  match j', hj' with
  | 0, hj' => simp at hj'; subst hj'; simp [Addr.add]
  | j' + 1, hj' => simp at hj'
 case d2 => intro u hu; simp at hu; subst hu; rfl
 case d3 => unfold maxLen; omega
 case d4 => omega
 intro g1 c1 w3 ho3 hg3 hgg3
 have hp1 := ObIn.push (x := .int .i64 v) (o := 3) (W := w3.setCell ⟨yb, 3, none⟩ (.slice (some ⟨g1, 0, none⟩) (s.vars.length + 1) c1)) HH.out.ob (by rw [HNV.out]; exact hg3) (by rw [natsV_len]; exact ho3) (by rw [HNV.out]; simpa using hgg3) (by rw [natsV_len])
 rw [natsV_len] at hp1
 obtain ⟨hO1, hs1⟩ := hp1
 have hm1 : MkIn w0 (w3.setCell ⟨yb, 3, none⟩ (.slice (some ⟨g1, 0, none⟩) (s.vars.length + 1) c1)) yb rv raw { s with vars := s.vars ++ [v] } (.slice (some ⟨g1, 0, none⟩) (s.vars.length + 1) c1) := by
  refine ⟨HH.out.r, ?_⟩
  rw [natsV_snoc]
  exact hO1
 have hcall := HHF.out _ _ hm1
 have hy3 : w3.heap[yb]? = some (.cells (mkCells rv s nv) 94 (0, 0)) := by
  rw [hg3.block yb (by simp; omega) (fun e => HH.out.ob.ny (by rw [HNV.out]; exact e.symm)), Below.heap_alloc _ _ _ hyl]; exact HH.out.ob.y
 have hyl3 := blk_lt hy3
 have y33 : w3.cell? ⟨yb, 3, none⟩ = some nv := by rw [blk_cell hy3]; rfl
 have f33 : w3.frozen? ⟨yb, 3, none⟩ = false := blk_free hy3 3
 have HC : Hid _ := hcall
 have HS1 : Hid _ := hs1
 clear ho3 hg3 hgg3 hO1 hy3 y3 f3 hcall hm1 hs1 HHF HOWN
 go_wp2_with fail
 refine Calls.mono HC.out ?_
 rintro _ w7 ⟨p, nv7, rfl, hs7, hm7, hk7⟩
 obtain ⟨na7, nc7, hnv7, hcap7, hna7⟩ := hm7.ob.shape
 have hob := hm7.ob
 rw [natsV_len, HHG.out, List.length_append, List.length_singleton] at hnv7 hna7 hcap7
 obtain ⟨g7, hg7⟩ := hna7 (by omega)
 rw [hg7] at hnv7
 have y37 : w7.cell? ⟨yb, 3, none⟩ = some (.slice (some ⟨g7, 0, none⟩) (s.vars.length + 1) nc7) := by rw [blk_cell hob.y, ← hnv7]; rfl
 have f37 : w7.frozen? ⟨yb, 3, none⟩ = false := blk_free hob.y 3
 have hyl7 := blk_lt hob.y
 obtain ⟨R, hR⟩ : ∃ R, R = g t { s with vars := s.vars ++ [v] } := ⟨_, rfl⟩
 have hP : ObIn w0 (w7.setCell ⟨yb, 3, none⟩ (.slice (some ⟨g7, 0, none⟩) s.vars.length nc7)) yb (mkCells rv (bindF g v t s).2 (.slice (some ⟨g7, 0, none⟩) s.vars.length nc7)) 94 (.slice (some ⟨g7, 0, none⟩) s.vars.length nc7) 3 (natsV s.vars) := by
  have h1 := hob
  rw [HHG.out, natsV_snoc, hnv7] at h1
  have h2 := ObIn.pop (o := 3) (xs := natsV s.vars) (x := .int .i64 v) (g := g7) (cap := nc7) (by rw [natsV_len]; exact h1)
  rw [natsV_len] at h2
  exact h2
 have hbv : (bindF g v t s).2.vars = s.vars := by unfold bindF; simp only [HHG.out, List.take_left]
 have HMK : Hid (MkIn w0 (w7.setCell ⟨yb, 3, none⟩ (.slice (some ⟨g7, 0, none⟩) s.vars.length nc7)) yb rv raw (bindF g v t s).2 (.slice (some ⟨g7, 0, none⟩) s.vars.length nc7)) := ⟨HH.out.r, by rw [hbv]; exact hP⟩
 have hfs := FrO.set1 w7 yb nv7 3 (.slice (some ⟨g7, 0, none⟩) s.vars.length nc7)
 have HKK : Hid _ := hk7.fr hm7 hfs
 have HFR : Hid _ := ((HS1.out.trans hs7).trans hfs).recast (nv2 := .slice (some ⟨g7, 0, none⟩) s.vars.length nc7) (by rw [hnv7]; rfl)
 clear hs7 hm7 hk7 hob hnv7 hna7 hg7 hP hbv hfs hR HC HS1 y33 f33
 go_wp2
 go_ret
 exact ⟨p, _, rfl, HFR.out, HMK.out, HKK.out⟩
def MakeOk (w0 : World) (yb : Nat) (rv : Value) (raw : List Int) (f : Nat) : Prop :=
 ∀ (t : Nat) (s : MkS) (nv : Value) (w : World), t < 5 → s.left < f → s.vars.length + s.left ≤ 100 → s.at_ + 40 * s.left + 11 ≤ 100000 → MkIn w0 w yb rv raw s nv →
  Calls Tryz.prog 48 #[.pointer (some ⟨yb, 0, none⟩), .int .i64 t] w fun e w' => ∃ p nv', e = .returned (.pointer (some ⟨p, 0, none⟩)) ∧ FrO w w' yb nv nv' ∧ MkIn w0 w' yb rv raw (makeF raw f t s).2 nv' ∧ KIn w' (makeF raw f t s).1 p
theorem make_pre {w0 w : World} {yb : Nat} {rv : Value} {raw : List Int} {s : MkS} {nv : Value} (h : MkIn w0 w yb rv raw s nv) (hl : s.left ≠ 0) : MkIn w0 (w.setCell ⟨yb, 2, none⟩ (.int .i64 ((s.left : Int) - 1))) yb rv raw { s with left := s.left - 1 } nv := by
 refine ⟨h.r, h.ob.set 2 _ ?_⟩
 simp only [mkCells]
 rw [show (s.left : Int) - 1 = ((s.left - 1 : Nat) : Int) by omega]
 rfl
theorem ktrip_new (w : World) (k : Kw) (n pa pb pd : Nat) {a b d : KE} (ha : KIn w a pa) (hb : KIn w b pb) (hd : KIn w d pd) :
  Below w.heap.size w ((w.alloc (.cells #[.pointer (some ⟨pa, 0, none⟩), .pointer (some ⟨pb, 0, none⟩), .pointer (some ⟨pd, 0, none⟩)] 43 (0, 0))).alloc (.cells (exV k.bytes n (.slice (some ⟨w.heap.size, 0, none⟩) 3 3)) 98 (0, 0))) ∧
  KIn ((w.alloc (.cells #[.pointer (some ⟨pa, 0, none⟩), .pointer (some ⟨pb, 0, none⟩), .pointer (some ⟨pd, 0, none⟩)] 43 (0, 0))).alloc (.cells (exV k.bytes n (.slice (some ⟨w.heap.size, 0, none⟩) 3 3)) 98 (0, 0))) (.n3 k n a b d) (w.heap.size + 1) := by
 have h1 := below_alZ (Below.refl _ w) (.cells #[.pointer (some ⟨pa, 0, none⟩), .pointer (some ⟨pb, 0, none⟩), .pointer (some ⟨pd, 0, none⟩)] 43 (0, 0))
 have h2 := below_alZ h1 (.cells (exV k.bytes n (.slice (some ⟨w.heap.size, 0, none⟩) 3 3)) 98 (0, 0))
 refine ⟨h2, w.heap.size, pa, pb, pd, ?_, ?_, ha.below h2, hb.below h2, hd.below h2⟩
 ·have := blk_new (w.alloc (.cells #[.pointer (some ⟨pa, 0, none⟩), .pointer (some ⟨pb, 0, none⟩), .pointer (some ⟨pd, 0, none⟩)] 43 (0, 0))) (.cells (exV k.bytes n (.slice (some ⟨w.heap.size, 0, none⟩) 3 3)) 98 (0, 0))
  simpa using this
 ·rw [Below.heap_alloc _ _ _ (by simp)]; exact blk_new _ _
set_option maxRecDepth 100000 in
set_option maxHeartbeats 4000000 in
theorem make_let {w0 : World} {yb : Nat} {rv : Value} {raw : List Int} {f : Nat} (ih : MakeOk w0 yb rv raw f) (t : Nat) (s : MkS) (nv : Value) (w : World) (ht : t < 5) (hf : s.left < f + 1) (hv : s.vars.length + s.left ≤ 100) (ha : s.at_ + 40 * s.left + 11 ≤ 100000) (h : MkIn w0 w yb rv raw s nv) (hl : s.left ≠ 0) (hk : (nextF raw 9 { s with left := s.left - 1 }).1 = 0) :
  Calls Tryz.prog 48 #[.pointer (some ⟨yb, 0, none⟩), .int .i64 t] w fun e w' => ∃ p nv', e = .returned (.pointer (some ⟨p, 0, none⟩)) ∧ FrO w w' yb nv nv' ∧ MkIn w0 w' yb rv raw (makeF raw (f + 1) t s).2 nv' ∧ KIn w' (makeF raw (f + 1) t s).1 p := by
 have hyl := blk_lt h.ob.y
 have y2 : w.cell? ⟨yb, 2, none⟩ = some (.int .i64 s.left) := by rw [blk_cell h.ob.y]; rfl
 have f2 : w.frozen? ⟨yb, 2, none⟩ = false := blk_free h.ob.y 2
 have hlp : 0 < s.left := by omega
 have hnx := next_any 9 (by omega) (by omega) (make_pre h hl) (by simp only; omega)
 have hst := nextF_st raw 9 { s with left := s.left - 1 }
 have hx9 := nextF_lt raw 9 { s with left := s.left - 1 } (by omega)
 generalize hR : makeF raw (f + 1) t s = R
 simp only [makeF] at hR
 rw [if_neg hl] at hR
 generalize nextF raw 9 { s with left := s.left - 1 } = x at *
 obtain ⟨x1, x2, x3, x4⟩ := hst
 simp only at x1 x2 x3 x4
 have qk : ((x.1 : Int) == 0) = true := by rw [hk]; rfl
 have HF0 : Hid _ := FrO.set1 w yb nv 2 (.int .i64 ((s.left : Int) - 1))
 have HNX : Hid _ := hnx
 clear hnx h
 go_enter Tryz.func48, Tryz.ntmps48
 go_wp2_with fail
 refine Calls.mono HNX.out ?_
 rintro _ w1 ⟨rfl, hf1, hm1⟩
 have HF1 : Hid _ := HF0.out.trans hf1
 have HM1 : Hid _ := hm1
 clear HNX HF0 hf1 hm1 y2 f2
 rw [if_pos hk] at hR
 have hm := nextF_st raw 5 x.2
 have hm5 := nextF_lt raw 5 x.2 (by omega)
 have hnv := next_any 5 (by omega) (by omega) HM1.out (by omega)
 generalize nextF raw 5 x.2 = v at *
 obtain ⟨m1, m2, m3, m4⟩ := hm
 have hao := makeF_ok raw f v.1 v.2 hm5 (by omega) (by rw [m2, x2]; omega)
 have hia := ih v.1 v.2 nv
 generalize makeF raw f v.1 v.2 = a at *
 obtain ⟨a1, a2, a3, a4, a5, a6, a7, a8⟩ := hao
 have hWv := @W_le v.1
 have hbo := makeF_ok raw f t { a.2 with vars := a.2.vars ++ [v.1] } ht (by simp only; omega) (by simp only [List.length_append, List.length_singleton, a2, m2, x2]; omega)
 have hib := fun nv W hW => bind_of (makeF raw f) v.1 t a.2 nv W (fun nv' W' h' => ih t { a.2 with vars := a.2.vars ++ [v.1] } nv' W' ht (by simp only; omega) (by simp only [List.length_append, List.length_singleton, a2, m2, x2]; omega) (by simp only; omega) h') hbo.vars hW (by rw [a2, m2, x2]; omega)
 have hbv := bindF_ok (v := v.1) hbo
 generalize bindF (makeF raw f) v.1 t a.2 = b at *
 obtain ⟨_, b2, _⟩ := hbv
 have HNV : Hid _ := hnv
 have HIA : Hid (∀ W, MkIn w0 W yb rv raw v.2 nv → _) := fun W hW => hia W hm5 (by omega) (by rw [m2, x2]; omega) (by omega) hW
 have HIB : Hid _ := hib
 have hbl : b.2.vars.length ≤ 100 := by rw [b2, a2, m2, x2]; omega
 clear hnv hia hib ih hbo
 go_wp2_with fail
 refine Calls.mono HNV.out ?_
 rintro _ w2 ⟨rfl, hf2, hm2⟩
 have HF2 : Hid _ := HF1.out.trans hf2
 have HM2 : Hid _ := hm2
 clear hf2 hm2 HM1 HF1 HNV
 go_wp2_with fail
 refine Calls.mono (HIA.out w2 HM2.out) ?_
 rintro _ w3 ⟨p3, nv3, rfl, hf3, hm3, hk3⟩
 have HF3 : Hid _ := HF2.out.trans hf3
 have HM3 : Hid _ := hm3
 have HK3 : Hid _ := hk3
 clear hf3 hm3 hk3 HM2 HF2
 go_wp2_with fail
 refine Calls.mono (HIB.out nv3 w3 HM3.out) ?_
 rintro _ w4 ⟨p4, nv4, rfl, hf4, hm4, hk4⟩
 have HK3b : Hid _ := KIn.fr HK3.out HM3.out hf4
 have HF4 : Hid _ := HF3.out.trans hf4
 have HM4 : Hid _ := hm4
 have HK4 : Hid _ := hk4
 clear hf4 hm4 hk4 HM3 HF3
 obtain ⟨na, nc, hnv4, _, _⟩ := HM4.out.ob.shape
 rw [natsV_len] at hnv4
 have y3 : w4.cell? ⟨yb, 3, none⟩ = some (.slice na b.2.vars.length nc) := by rw [blk_cell HM4.out.ob.y, ← hnv4]; rfl
 have hyl4 := blk_lt HM4.out.ob.y
 have HR : Hid _ := hR
 have h2 := kpair_new w4 .let_ b.2.vars.length p3 p4 HK3b.out HK4.out
 have H2 : Hid _ := h2
 clear hR h2 hnv4 b2 HIA HIB
 go_wp2
 go_ret
 rw [← HR.out]
 exact ⟨_, nv4, rfl, HF4.out.trans (FrO.below H2.out.1 _ _), HM4.out.grow H2.out.1, H2.out.2⟩
set_option maxRecDepth 100000 in
set_option maxHeartbeats 4000000 in
theorem make_if {w0 : World} {yb : Nat} {rv : Value} {raw : List Int} {f : Nat} (ih : MakeOk w0 yb rv raw f) (t : Nat) (s : MkS) (nv : Value) (w : World) (ht : t < 5) (hf : s.left < f + 1) (hv : s.vars.length + s.left ≤ 100) (ha : s.at_ + 40 * s.left + 11 ≤ 100000) (h : MkIn w0 w yb rv raw s nv) (hl : s.left ≠ 0) (hk : (nextF raw 9 { s with left := s.left - 1 }).1 = 1) :
  Calls Tryz.prog 48 #[.pointer (some ⟨yb, 0, none⟩), .int .i64 t] w fun e w' => ∃ p nv', e = .returned (.pointer (some ⟨p, 0, none⟩)) ∧ FrO w w' yb nv nv' ∧ MkIn w0 w' yb rv raw (makeF raw (f + 1) t s).2 nv' ∧ KIn w' (makeF raw (f + 1) t s).1 p := by
 have hyl := blk_lt h.ob.y
 have y2 : w.cell? ⟨yb, 2, none⟩ = some (.int .i64 s.left) := by rw [blk_cell h.ob.y]; rfl
 have f2 : w.frozen? ⟨yb, 2, none⟩ = false := blk_free h.ob.y 2
 have hlp : 0 < s.left := by omega
 have hnx := next_any 9 (by omega) (by omega) (make_pre h hl) (by simp only; omega)
 have hst := nextF_st raw 9 { s with left := s.left - 1 }
 have hx9 := nextF_lt raw 9 { s with left := s.left - 1 } (by omega)
 generalize hR : makeF raw (f + 1) t s = R
 simp only [makeF] at hR
 rw [if_neg hl] at hR
 generalize nextF raw 9 { s with left := s.left - 1 } = x at *
 obtain ⟨x1, x2, x3, x4⟩ := hst
 simp only at x1 x2 x3 x4
 skip
 have HF0 : Hid _ := FrO.set1 w yb nv 2 (.int .i64 ((s.left : Int) - 1))
 have HNX : Hid _ := hnx
 clear hnx h
 go_enter Tryz.func48, Tryz.ntmps48
 go_wp2_with fail
 refine Calls.mono HNX.out ?_
 rintro _ w1 ⟨rfl, hf1, hm1⟩
 have HF1 : Hid _ := HF0.out.trans hf1
 have HM1 : Hid _ := hm1
 clear HNX HF0 hf1 hm1 y2 f2
 rw [if_neg (by omega), if_pos hk] at hR
 have hao := makeF_ok raw f 0 x.2 (by omega) (by omega) (by rw [x2]; omega)
 have hia := fun W hW => ih 0 x.2 nv W (by omega) (by omega) (by rw [x2]; omega) (by omega) hW
 generalize makeF raw f 0 x.2 = a at *
 obtain ⟨a1, a2, a3, a4, a5, a6, a7, a8⟩ := hao
 have hbo := makeF_ok raw f t a.2 ht (by omega) (by rw [a2, x2]; omega)
 have hW0 := @W_le 0
 have hWt := @W_le t
 have hib := fun nv W hW => ih t a.2 nv W ht (by omega) (by rw [a2, x2]; omega) (by omega) hW
 generalize makeF raw f t a.2 = b at *
 obtain ⟨b1, b2, b3, b4, b5, b6, b7, b8⟩ := hbo
 have hic := fun nv W hW => ih t b.2 nv W ht (by omega) (by rw [b2, a2, x2]; omega) (by omega) hW
 generalize makeF raw f t b.2 = d at *
 have HIA : Hid _ := hia
 have HIB : Hid _ := hib
 have HIC : Hid _ := hic
 have qk : ((x.1 : Int) == 0) = false := by rw [beq_eq_false_iff_ne]; omega
 have qk1 : ((x.1 : Int) == 1) = true := by rw [hk]; rfl
 clear hia hib hic ih
 go_wp2_with fail
 refine Calls.mono (HIA.out w1 HM1.out) ?_
 rintro _ w3 ⟨p3, nv3, rfl, hf3, hm3, hk3⟩
 have HF3 : Hid _ := HF1.out.trans hf3
 have HM3 : Hid _ := hm3
 have HK3 : Hid _ := hk3
 clear hf3 hm3 hk3 HM1 HF1
 go_wp2_with fail
 refine Calls.mono (HIB.out nv3 w3 HM3.out) ?_
 rintro _ w4 ⟨p4, nv4, rfl, hf4, hm4, hk4⟩
 have HK3b : Hid _ := KIn.fr HK3.out HM3.out hf4
 have HF4 : Hid _ := HF3.out.trans hf4
 have HM4 : Hid _ := hm4
 have HK4 : Hid _ := hk4
 clear hf4 hm4 hk4 HM3 HF3
 go_wp2_with fail
 refine Calls.mono (HIC.out nv4 w4 HM4.out) ?_
 rintro _ w5 ⟨p5, nv5, rfl, hf5, hm5, hk5⟩
 have HK3c : Hid _ := KIn.fr HK3b.out HM4.out hf5
 have HK4b : Hid _ := KIn.fr HK4.out HM4.out hf5
 have HF5 : Hid _ := HF4.out.trans hf5
 have HM5 : Hid _ := hm5
 have HK5 : Hid _ := hk5
 clear hf5 hm5 hk5 HM4 HF4
 have HR : Hid _ := hR
 have h2 := ktrip_new w5 .if_ 0 p3 p4 p5 HK3c.out HK4b.out HK5.out
 have H2 : Hid _ := h2
 clear hR h2 HIA HIB HIC
 go_wp2
 go_ret
 rw [← HR.out]
 exact ⟨_, nv5, rfl, HF5.out.trans (FrO.below H2.out.1 _ _), HM5.out.grow H2.out.1, H2.out.2⟩
set_option maxRecDepth 100000 in
set_option maxHeartbeats 4000000 in
theorem make_loop {w0 : World} {yb : Nat} {rv : Value} {raw : List Int} {f : Nat} (ih : MakeOk w0 yb rv raw f) (t : Nat) (s : MkS) (nv : Value) (w : World) (ht : t < 5) (hf : s.left < f + 1) (hv : s.vars.length + s.left ≤ 100) (ha : s.at_ + 40 * s.left + 11 ≤ 100000) (h : MkIn w0 w yb rv raw s nv) (hl : s.left ≠ 0) (hk : (nextF raw 9 { s with left := s.left - 1 }).1 = 4) :
  Calls Tryz.prog 48 #[.pointer (some ⟨yb, 0, none⟩), .int .i64 t] w fun e w' => ∃ p nv', e = .returned (.pointer (some ⟨p, 0, none⟩)) ∧ FrO w w' yb nv nv' ∧ MkIn w0 w' yb rv raw (makeF raw (f + 1) t s).2 nv' ∧ KIn w' (makeF raw (f + 1) t s).1 p := by
 have hyl := blk_lt h.ob.y
 have y2 : w.cell? ⟨yb, 2, none⟩ = some (.int .i64 s.left) := by rw [blk_cell h.ob.y]; rfl
 have f2 : w.frozen? ⟨yb, 2, none⟩ = false := blk_free h.ob.y 2
 have hlp : 0 < s.left := by omega
 have hnx := next_any 9 (by omega) (by omega) (make_pre h hl) (by simp only; omega)
 have hst := nextF_st raw 9 { s with left := s.left - 1 }
 have hx9 := nextF_lt raw 9 { s with left := s.left - 1 } (by omega)
 generalize hR : makeF raw (f + 1) t s = R
 simp only [makeF] at hR
 rw [if_neg hl] at hR
 generalize nextF raw 9 { s with left := s.left - 1 } = x at *
 obtain ⟨x1, x2, x3, x4⟩ := hst
 simp only at x1 x2 x3 x4
 skip
 have HF0 : Hid _ := FrO.set1 w yb nv 2 (.int .i64 ((s.left : Int) - 1))
 have HNX : Hid _ := hnx
 clear hnx h
 go_enter Tryz.func48, Tryz.ntmps48
 go_wp2_with fail
 refine Calls.mono HNX.out ?_
 rintro _ w1 ⟨rfl, hf1, hm1⟩
 have HF1 : Hid _ := HF0.out.trans hf1
 have HM1 : Hid _ := hm1
 clear HNX HF0 hf1 hm1 y2 f2
 rw [if_neg (by omega), if_neg (by omega), if_neg (by omega), if_pos hk] at hR
 have hm := nextF_st raw 4 x.2
 have hm4 := nextF_lt raw 4 x.2 (by omega)
 have hnv := next_any 4 (by omega) (by omega) HM1.out (by omega)
 generalize nextF raw 4 x.2 = n at *
 obtain ⟨m1, m2, m3, m4⟩ := hm
 have hao := makeF_ok raw f t n.2 ht (by omega) (by rw [m2, x2]; omega)
 have hia := fun W hW => ih t n.2 nv W ht (by omega) (by rw [m2, x2]; omega) (by omega) hW
 generalize makeF raw f t n.2 = a at *
 obtain ⟨a1, a2, a3, a4, a5, a6, a7, a8⟩ := hao
 have hWt := @W_le t
 have hbo := makeF_ok raw f t { a.2 with vars := a.2.vars ++ [t] } ht (by simp only; omega) (by simp only [List.length_append, List.length_singleton, a2, m2, x2]; omega)
 have hib := fun nv W hW => bind_of (makeF raw f) t t a.2 nv W (fun nv' W' h' => ih t { a.2 with vars := a.2.vars ++ [t] } nv' W' ht (by simp only; omega) (by simp only [List.length_append, List.length_singleton, a2, m2, x2]; omega) (by simp only; omega) h') hbo.vars hW (by rw [a2, m2, x2]; omega)
 have hbv := bindF_ok (v := t) hbo
 generalize bindF (makeF raw f) t t a.2 = b at *
 obtain ⟨_, b2, _⟩ := hbv
 have HNV : Hid _ := hnv
 have HIA : Hid _ := hia
 have HIB : Hid _ := hib
 have hbl : b.2.vars.length ≤ 100 := by rw [b2, a2, m2, x2]; omega
 have qk : ((x.1 : Int) == 0) = false := by rw [beq_eq_false_iff_ne]; omega
 have qk1 : ((x.1 : Int) == 1) = false := by rw [beq_eq_false_iff_ne]; omega
 have qk2 : ((x.1 : Int) == 2) = false := by rw [beq_eq_false_iff_ne]; omega
 have qk3 : ((x.1 : Int) == 3) = false := by rw [beq_eq_false_iff_ne]; omega
 have qk4 : ((x.1 : Int) == 4) = true := by rw [hk]; rfl
 clear hnv hia hib ih hbo
 go_wp2_with fail
 refine Calls.mono HNV.out ?_
 rintro _ w2 ⟨rfl, hf2, hm2⟩
 have hbn := below_alZ (Below.refl _ w2) (.cells (exV [] n.1 (.slice none 0 0)) 98 (0, 0))
 have HKN : Hid (KIn (w2.alloc (.cells (exV [] n.1 (.slice none 0 0)) 98 (0, 0))) (.num n.1) w2.heap.size) := blk_new _ _
 have HF2 : Hid _ := (HF1.out.trans hf2).trans (FrO.below hbn _ _)
 have HM2 : Hid _ := hm2.grow hbn
 clear hf2 hm2 hbn HM1 HF1 HNV
 go_wp2_with fail
 refine Calls.mono (HIA.out _ HM2.out) ?_
 rintro _ w3 ⟨p3, nv3, rfl, hf3, hm3, hk3⟩
 have HKNb : Hid _ := KIn.fr HKN.out HM2.out hf3
 have HF3 : Hid _ := HF2.out.trans hf3
 have HM3 : Hid _ := hm3
 have HK3 : Hid _ := hk3
 clear hf3 hm3 hk3 HM2 HF2
 go_wp2_with fail
 refine Calls.mono (HIB.out nv3 w3 HM3.out) ?_
 rintro _ w4 ⟨p4, nv4, rfl, hf4, hm4, hk4⟩
 have HK3b : Hid _ := KIn.fr HK3.out HM3.out hf4
 have HKNc : Hid _ := KIn.fr HKNb.out HM3.out hf4
 have HF4 : Hid _ := HF3.out.trans hf4
 have HM4 : Hid _ := hm4
 have HK4 : Hid _ := hk4
 clear hf4 hm4 hk4 HM3 HF3
 obtain ⟨na, nc, hnv4, _, _⟩ := HM4.out.ob.shape
 rw [natsV_len] at hnv4
 have y3 : w4.cell? ⟨yb, 3, none⟩ = some (.slice na b.2.vars.length nc) := by rw [blk_cell HM4.out.ob.y, ← hnv4]; rfl
 have hyl4 := blk_lt HM4.out.ob.y
 have HR : Hid _ := hR
 have h2 := ktrip_new w4 .loop b.2.vars.length w2.heap.size p3 p4 HKNc.out HK3b.out HK4.out
 have H2 : Hid _ := h2
 clear hR h2 hnv4 b2 HIA HIB HKN
 go_wp2
 go_ret
 rw [← HR.out]
 exact ⟨_, nv4, rfl, HF4.out.trans (FrO.below H2.out.1 _ _), HM4.out.grow H2.out.1, H2.out.2⟩
set_option maxRecDepth 100000 in
set_option maxHeartbeats 4000000 in
theorem make_pair {w0 : World} {yb : Nat} {rv : Value} {raw : List Int} {f : Nat} (ih : MakeOk w0 yb rv raw f) (t : Nat) (s : MkS) (nv : Value) (w : World) (ht : t < 5) (hf : s.left < f + 1) (hv : s.vars.length + s.left ≤ 100) (ha : s.at_ + 40 * s.left + 11 ≤ 100000) (h : MkIn w0 w yb rv raw s nv) (hl : s.left ≠ 0) (hk : 4 < (nextF raw 9 { s with left := s.left - 1 }).1 ∧ (nextF raw 9 { s with left := s.left - 1 }).1 < 8) (h0 : t ≠ 0) :
  Calls Tryz.prog 48 #[.pointer (some ⟨yb, 0, none⟩), .int .i64 t] w fun e w' => ∃ p nv', e = .returned (.pointer (some ⟨p, 0, none⟩)) ∧ FrO w w' yb nv nv' ∧ MkIn w0 w' yb rv raw (makeF raw (f + 1) t s).2 nv' ∧ KIn w' (makeF raw (f + 1) t s).1 p := by
 have hyl := blk_lt h.ob.y
 have y2 : w.cell? ⟨yb, 2, none⟩ = some (.int .i64 s.left) := by rw [blk_cell h.ob.y]; rfl
 have f2 : w.frozen? ⟨yb, 2, none⟩ = false := blk_free h.ob.y 2
 have hlp : 0 < s.left := by omega
 have hnx := next_any 9 (by omega) (by omega) (make_pre h hl) (by simp only; omega)
 have hst := nextF_st raw 9 { s with left := s.left - 1 }
 have hx9 := nextF_lt raw 9 { s with left := s.left - 1 } (by omega)
 generalize hR : makeF raw (f + 1) t s = R
 simp only [makeF] at hR
 rw [if_neg hl] at hR
 generalize nextF raw 9 { s with left := s.left - 1 } = x at *
 obtain ⟨x1, x2, x3, x4⟩ := hst
 simp only at x1 x2 x3 x4
 skip
 have HF0 : Hid _ := FrO.set1 w yb nv 2 (.int .i64 ((s.left : Int) - 1))
 have HNX : Hid _ := hnx
 clear hnx h
 go_enter Tryz.func48, Tryz.ntmps48
 go_wp2_with fail
 refine Calls.mono HNX.out ?_
 rintro _ w1 ⟨rfl, hf1, hm1⟩
 have HF1 : Hid _ := HF0.out.trans hf1
 have HM1 : Hid _ := hm1
 clear HNX HF0 hf1 hm1 y2 f2
 rw [if_neg (by omega), if_neg (by omega), if_neg (by omega), if_neg (by omega), if_pos hk.2, if_neg h0] at hR
 have hp := W_pair ht h0
 have hfi : fI t = ((fT t : Nat) : Int) := by unfold fI; rw [if_neg h0]
 have hsi : sI t = ((sT t : Nat) : Int) := by unfold sI; rw [if_neg h0]
 have hfs := kfirst_any t ht
 have hss := ksecond_any t ht
 rw [hfi] at hfs
 rw [hsi] at hss
 have HFS : Hid _ := hfs
 have HSS : Hid _ := hss
 have hao := makeF_ok raw f (fT t) x.2 hp.2.2.2.2.1 (by omega) (by rw [x2]; omega)
 have hia := fun W hW => ih (fT t) x.2 nv W hp.2.2.2.2.1 (by omega) (by rw [x2]; omega) (by omega) hW
 have hWf := @W_le (fT t)
 generalize makeF raw f (fT t) x.2 = a at *
 obtain ⟨a1, a2, a3, a4, a5, a6, a7, a8⟩ := hao
 have hib := fun nv W hW => ih (sT t) a.2 nv W hp.2.2.2.2.2 (by omega) (by rw [a2, x2]; omega) (by omega) hW
 generalize makeF raw f (sT t) a.2 = b at *
 have HIA : Hid _ := hia
 have HIB : Hid _ := hib
 have q0 : ((t : Int) == 0) = false := by rw [beq_eq_false_iff_ne]; omega
 have qk0 : ((x.1 : Int) == 0) = false := by rw [beq_eq_false_iff_ne]; omega
 have qk1 : ((x.1 : Int) == 1) = false := by rw [beq_eq_false_iff_ne]; omega
 have qk2 : ((x.1 : Int) == 2) = false := by rw [beq_eq_false_iff_ne]; omega
 have qk3 : ((x.1 : Int) == 3) = false := by rw [beq_eq_false_iff_ne]; omega
 have qk4 : ((x.1 : Int) == 4) = false := by rw [beq_eq_false_iff_ne]; omega
 clear hia hib ih hfi hsi hfs hss hp
 go_wp2_with fail
 refine Calls.mono (HFS.out _) ?_
 rintro _ w2 ⟨rfl, hb2⟩
 have HF2 : Hid _ := HF1.out.trans (FrO.below hb2 _ _)
 have HM2 : Hid _ := HM1.out.grow hb2
 clear hb2 HF1 HM1
 go_wp2_with fail
 refine Calls.mono (HIA.out w2 HM2.out) ?_
 rintro _ w3 ⟨p3, nv3, rfl, hf3, hm3, hk3⟩
 have HF3 : Hid _ := HF2.out.trans hf3
 have HM3 : Hid _ := hm3
 have HK3 : Hid _ := hk3
 clear hf3 hm3 hk3 HM2 HF2
 go_wp2_with fail
 refine Calls.mono (HSS.out _) ?_
 rintro _ w4 ⟨rfl, hb4⟩
 have HF4 : Hid _ := HF3.out.trans (FrO.below hb4 _ _)
 have HM4 : Hid _ := HM3.out.grow hb4
 have HK4 : Hid _ := HK3.out.below hb4
 clear hb4 HF3 HM3 HK3
 go_wp2_with fail
 refine Calls.mono (HIB.out nv3 w4 HM4.out) ?_
 rintro _ w5 ⟨p5, nv5, rfl, hf5, hm5, hk5⟩
 have HK4b : Hid _ := KIn.fr HK4.out HM4.out hf5
 have HF5 : Hid _ := HF4.out.trans hf5
 have HM5 : Hid _ := hm5
 have HK5 : Hid _ := hk5
 clear hf5 hm5 hk5 HM4 HF4
 have HR : Hid _ := hR
 have h2 := kpair_new w5 .pair 0 p3 p5 HK4b.out HK5.out
 have H2 : Hid _ := h2
 clear hR h2 HIA HIB HFS HSS
 go_wp2
 go_ret
 rw [← HR.out]
 exact ⟨_, nv5, rfl, HF5.out.trans (FrO.below H2.out.1 _ _), HM5.out.grow H2.out.1, H2.out.2⟩
set_option maxRecDepth 100000 in
set_option maxHeartbeats 4000000 in
theorem make_leaf {w0 : World} {yb : Nat} {rv : Value} {raw : List Int} {f : Nat} (ih : MakeOk w0 yb rv raw f) (t : Nat) (s : MkS) (nv : Value) (w : World) (ht : t < 5) (hf : s.left < f + 1) (hv : s.vars.length + s.left ≤ 100) (ha : s.at_ + 40 * s.left + 11 ≤ 100000) (h : MkIn w0 w yb rv raw s nv) (hl : s.left ≠ 0) (hk : 8 ≤ (nextF raw 9 { s with left := s.left - 1 }).1) :
  Calls Tryz.prog 48 #[.pointer (some ⟨yb, 0, none⟩), .int .i64 t] w fun e w' => ∃ p nv', e = .returned (.pointer (some ⟨p, 0, none⟩)) ∧ FrO w w' yb nv nv' ∧ MkIn w0 w' yb rv raw (makeF raw (f + 1) t s).2 nv' ∧ KIn w' (makeF raw (f + 1) t s).1 p := by
 have hyl := blk_lt h.ob.y
 have y2 : w.cell? ⟨yb, 2, none⟩ = some (.int .i64 s.left) := by rw [blk_cell h.ob.y]; rfl
 have f2 : w.frozen? ⟨yb, 2, none⟩ = false := blk_free h.ob.y 2
 have hlp : 0 < s.left := by omega
 have hnx := next_any 9 (by omega) (by omega) (make_pre h hl) (by simp only; omega)
 have hst := nextF_st raw 9 { s with left := s.left - 1 }
 have hx9 := nextF_lt raw 9 { s with left := s.left - 1 } (by omega)
 generalize hR : makeF raw (f + 1) t s = R
 simp only [makeF] at hR
 rw [if_neg hl] at hR
 generalize nextF raw 9 { s with left := s.left - 1 } = x at *
 obtain ⟨x1, x2, x3, x4⟩ := hst
 simp only at x1 x2 x3 x4
 skip
 have HF0 : Hid _ := FrO.set1 w yb nv 2 (.int .i64 ((s.left : Int) - 1))
 have HNX : Hid _ := hnx
 clear hnx h
 go_enter Tryz.func48, Tryz.ntmps48
 go_wp2_with fail
 refine Calls.mono HNX.out ?_
 rintro _ w1 ⟨rfl, hf1, hm1⟩
 have HF1 : Hid _ := HF0.out.trans hf1
 have HM1 : Hid _ := hm1
 clear HNX HF0 hf1 hm1 y2 f2
 rw [if_neg (by omega), if_neg (by omega), if_neg (by omega), if_neg (by omega), if_neg (by omega)] at hR
 have hlf := leaf_any 3 t x.2 nv w1 ht (by unfold dep; split <;> (try split) <;> omega) HM1.out (by rw [x2]; omega) (by have := @W_le t; omega)
 rw [hR] at hlf
 have HLF : Hid _ := hlf
 have qk0 : ((x.1 : Int) == 0) = false := by rw [beq_eq_false_iff_ne]; omega
 have qk1 : ((x.1 : Int) == 1) = false := by rw [beq_eq_false_iff_ne]; omega
 have qk2 : ((x.1 : Int) == 2) = false := by rw [beq_eq_false_iff_ne]; omega
 have qk3 : ((x.1 : Int) == 3) = false := by rw [beq_eq_false_iff_ne]; omega
 have qk4 : ((x.1 : Int) == 4) = false := by rw [beq_eq_false_iff_ne]; omega
 have hff := hf
 have hii := ih
 clear hlf HM1 ih hii hff
 go_wp2_with fail
 refine Calls.mono HLF.out ?_
 rintro _ w2 ⟨p, rfl, hf2, hm2, hk2⟩
 have HF2 : Hid _ := HF1.out.trans hf2
 have HM2 : Hid _ := hm2
 have HK2 : Hid _ := hk2
 clear hf2 hm2 hk2 HF1 HLF
 go_wp2
 go_ret
 exact ⟨p, nv, rfl, HF2.out, HM2.out, HK2.out⟩
def takenF (raw : List Int) (f t : Nat) (s : MkS) : KE × MkS :=
 match takeG t (nextF raw 4 s).1 0 10 with
 | some q => (.n1 q.1 (makeF raw f q.2 (nextF raw 4 s).2).1, (makeF raw f q.2 (nextF raw 4 s).2).2)
 | none => leafF raw 3 t (nextF raw 4 s).2
theorem takeG_succ (t k i n : Nat) : takeG t k i (n + 1) = if (i + k) / 5 % 2 = 1 then (if sI ((i + k) % 5) = t then some (.snd, (i + k) % 5) else takeG t k (i + 1) n) else (if fI ((i + k) % 5) = t then some (.fst, (i + k) % 5) else takeG t k (i + 1) n) := rfl
theorem kone_new (w : World) (k : Kw) (pa : Nat) {a : KE} (ha : KIn w a pa) :
  Below w.heap.size w ((w.alloc (.cells #[.pointer (some ⟨pa, 0, none⟩)] 43 (0, 0))).alloc (.cells (exV k.bytes 0 (.slice (some ⟨w.heap.size, 0, none⟩) 1 1)) 98 (0, 0))) ∧
  KIn ((w.alloc (.cells #[.pointer (some ⟨pa, 0, none⟩)] 43 (0, 0))).alloc (.cells (exV k.bytes 0 (.slice (some ⟨w.heap.size, 0, none⟩) 1 1)) 98 (0, 0))) (.n1 k a) (w.heap.size + 1) := by
 have h1 := below_alZ (Below.refl _ w) (.cells #[.pointer (some ⟨pa, 0, none⟩)] 43 (0, 0))
 have h2 := below_alZ h1 (.cells (exV k.bytes 0 (.slice (some ⟨w.heap.size, 0, none⟩) 1 1)) 98 (0, 0))
 refine ⟨h2, w.heap.size, pa, ?_, ?_, ha.below h2⟩
 ·have := blk_new (w.alloc (.cells #[.pointer (some ⟨pa, 0, none⟩)] 43 (0, 0))) (.cells (exV k.bytes 0 (.slice (some ⟨w.heap.size, 0, none⟩) 1 1)) 98 (0, 0))
  simpa using this
 ·rw [Below.heap_alloc _ _ _ (by simp)]; exact blk_new _ _
set_option maxRecDepth 100000 in
set_option maxHeartbeats 4000000 in
theorem taken_of {w0 : World} {yb : Nat} {rv : Value} {raw : List Int} {f : Nat} (ih : MakeOk w0 yb rv raw f) (t : Nat) (s : MkS) (nv : Value) (w : World) (ht : t < 5) (hf : s.left < f) (hv : s.vars.length + s.left ≤ 100) (ha : s.at_ + 40 * s.left + 12 ≤ 100000) (h : MkIn w0 w yb rv raw s nv) :
  Calls Tryz.prog 81 #[.pointer (some ⟨yb, 0, none⟩), .int .i64 t] w fun e w' => ∃ p nv', e = .returned (.pointer (some ⟨p, 0, none⟩)) ∧ FrO w w' yb nv nv' ∧ MkIn w0 w' yb rv raw (takenF raw f t s).2 nv' ∧ KIn w' (takenF raw f t s).1 p := by
 have hnx := next_any 4 (by omega) (by omega) h (by omega)
 have hst := nextF_st raw 4 s
 have hk4 := nextF_lt raw 4 s (by omega)
 have hS : ∀ q, takeG t (nextF raw 4 s).1 0 10 = some q → takenF raw f t s = (.n1 q.1 (makeF raw f q.2 (nextF raw 4 s).2).1, (makeF raw f q.2 (nextF raw 4 s).2).2) := fun q hq => by unfold takenF; rw [hq]
 have hN : takeG t (nextF raw 4 s).1 0 10 = none → takenF raw f t s = leafF raw 3 t (nextF raw 4 s).2 := fun hq => by unfold takenF; rw [hq]
 have htg := fun q => takeG_ty t ht (nextF raw 4 s).1 hk4 q
 generalize takenF raw f t s = R at *
 generalize nextF raw 4 s = x at *
 obtain ⟨x1, x2, x3, x4⟩ := hst
 have HS : Hid _ := hS
 have HN : Hid _ := hN
 have HTG : Hid _ := htg
 have HNX : Hid _ := hnx
 have HLF : Hid _ := fun W (hW : MkIn w0 W yb rv raw x.2 nv) => leaf_any 3 t x.2 nv W ht (by unfold dep; split <;> (try split) <;> omega) hW (by rw [x2]; omega) (by have := @W_le t; omega)
 have HIH : Hid _ := fun (p : Nat) (hp : p < 5) W hW => ih p x.2 nv W hp (by omega) (by rw [x2]; omega) (by omega) hW
 clear hS hN htg hnx h ih
 obtain ⟨k, s1⟩ := x
 simp only at *
 go_enter Tryz.func81, Tryz.ntmps81
 go_wp2_with fail
 refine Calls.mono HNX.out ?_
 rintro _ w1 ⟨rfl, hf1, hm1⟩
 have HF1 : Hid _ := hf1
 have HM1 : Hid _ := hm1
 clear hf1 hm1 HNX
 go_wp2_with fail
 go_loopw [6] (fun i wr => ∃ j : Nat, j ≤ 10 ∧ i = .int .i64 j ∧ takeG t k 0 10 = takeG t k j (10 - j) ∧ Below w1.heap.size w1 wr) (fun i _ => 10 - (intOf i).toNat)
 case atStart => exact ⟨0, by omega, rfl, rfl, Below.refl _ _⟩
 case round =>
  obtain ⟨j, hj, rfl, htk, hbel⟩ := hrel
  have hsz := hbel.size
  have HB : Hid _ := hbel
  by_cases hlt : j < 10
  ·obtain ⟨n, hn⟩ : ∃ n, 10 - j = n + 1 := ⟨9 - j, by omega⟩
   have hn9 : n = 10 - (j + 1) := by omega
   rw [hn] at htk
   replace htk := htk.trans (takeG_succ t k j n)
   rw [hn9] at htk
   have hp5 : (j + k) % 5 < 5 := Nat.mod_lt _ (by omega)
   have HFS : Hid _ := kfirst_any ((j + k) % 5) hp5
   have HSS : Hid _ := ksecond_any ((j + k) % 5) hp5
   have e1 : ((j : Int) + (k : Int)) % 5 = (((j + k) % 5 : Nat) : Int) := by omega
   have HTK : Hid _ := htk
   clear htk hbel hn hn9
   obtain ⟨p, hp⟩ : ∃ p, p = (j + k) % 5 := ⟨_, rfl⟩
   rw [← hp] at e1 HTK HFS HSS hp5
   by_cases hod : (j + k) / 5 % 2 = 1
   ·have e2 : ((j : Int) + (k : Int)) / 5 % 2 = 1 := by omega
    have HTK2 : Hid (takeG t k 0 10 = if sI p = t then some (.snd, p) else takeG t k (j + 1) (10 - (j + 1))) := by have := HTK.out; rw [if_pos hod] at this; exact this
    clear HTK hp hod
    go_wp2_with fail
    refine Calls.mono (HFS.out _) ?_
    rintro _ w2 ⟨rfl, hb2⟩
    have HB2 : Hid _ := HB.out.trans (hb2.mono hsz)
    have hsz2 := HB2.out.size
    clear hb2 HFS
    go_wp2_with fail
    refine Calls.mono (HSS.out _) ?_
    rintro _ w3 ⟨rfl, hb3⟩
    have HB3 : Hid _ := HB2.out.trans (hb3.mono hsz2)
    clear hb3 HSS
    by_cases hh : sI p = t
    ·have qh : (sI p == (t : Int)) = true := by rw [hh]; simp
     have hq : takeG t k 0 10 = some (.snd, p) := by rw [HTK2.out, if_pos hh]
     have HR : Hid _ := HS.out _ hq
     have HMW : Hid _ := HM1.out.grow HB3.out
     clear hh hq HTK2
     go_wp2_with fail
     refine Calls.mono (HIH.out p hp5 w3 HMW.out) ?_
     rintro _ w4 ⟨pa, nv4, rfl, hf4, hm4, hk4⟩
     have HF4 : Hid _ := (HF1.out.trans (FrO.below HB3.out _ _)).trans hf4
     have HM4 : Hid _ := hm4
     have H2 : Hid _ := kone_new w4 .snd pa hk4
     clear hf4 hm4 hk4
     go_wp2
     go_ret
     rw [HR.out]
     exact ⟨_, nv4, rfl, HF4.out.trans (FrO.below H2.out.1 _ _), HM4.out.grow H2.out.1, H2.out.2⟩
    ·have qh : (sI p == (t : Int)) = false := by rw [beq_eq_false_iff_ne]; exact hh
     have HQ : Hid _ := HTK2.out.trans (if_neg hh)
     clear hh HTK2
     go_wp2
     go_roundw
     case rel => exact ⟨j + 1, by omega, by go_num, HQ.out, HB3.out⟩
     case measure => simp [intOf]; omega
   ·have e2 : ((j : Int) + (k : Int)) / 5 % 2 = 0 := by omega
    have HTK2 : Hid (takeG t k 0 10 = if fI p = t then some (.fst, p) else takeG t k (j + 1) (10 - (j + 1))) := by have := HTK.out; rw [if_neg hod] at this; exact this
    clear HTK hp hod
    go_wp2_with fail
    refine Calls.mono (HFS.out _) ?_
    rintro _ w2 ⟨rfl, hb2⟩
    have HB3 : Hid _ := HB.out.trans (hb2.mono hsz)
    clear hb2 HFS
    by_cases hh : fI p = t
    ·have qh : (fI p == (t : Int)) = true := by rw [hh]; simp
     have hq : takeG t k 0 10 = some (.fst, p) := by rw [HTK2.out, if_pos hh]
     have HR : Hid _ := HS.out _ hq
     have HMW : Hid _ := HM1.out.grow HB3.out
     clear hh hq HTK2
     go_wp2_with fail
     refine Calls.mono (HIH.out p hp5 w2 HMW.out) ?_
     rintro _ w4 ⟨pa, nv4, rfl, hf4, hm4, hk4⟩
     have HF4 : Hid _ := (HF1.out.trans (FrO.below HB3.out _ _)).trans hf4
     have HM4 : Hid _ := hm4
     have H2 : Hid _ := kone_new w4 .fst pa hk4
     clear hf4 hm4 hk4
     go_wp2
     go_ret
     rw [HR.out]
     exact ⟨_, nv4, rfl, HF4.out.trans (FrO.below H2.out.1 _ _), HM4.out.grow H2.out.1, H2.out.2⟩
    ·have qh : (fI p == (t : Int)) = false := by rw [beq_eq_false_iff_ne]; exact hh
     have HQ : Hid _ := HTK2.out.trans (if_neg hh)
     clear hh HTK2
     go_wp2
     go_roundw
     case rel => exact ⟨j + 1, by omega, by go_num, HQ.out, HB3.out⟩
     case measure => simp [intOf]; omega
  ·have hje : j = 10 := by omega
   subst hje
   have HR : Hid _ := HN.out htk
   have HMW : Hid _ := HM1.out.grow HB.out
   clear htk hbel
   go_wp2_with fail
   refine Calls.mono (HLF.out _ HMW.out) ?_
   rintro _ w2 ⟨p, rfl, hf2, hm2, hk2⟩
   have HF2 : Hid _ := (HF1.out.trans (FrO.below HB.out _ _)).trans hf2
   have HM2 : Hid _ := hm2
   have HK2 : Hid _ := hk2
   clear hf2 hm2 hk2
   go_wp2
   go_ret
   rw [HR.out]
   exact ⟨p, nv, rfl, HF2.out, HM2.out, HK2.out⟩
theorem Tryz.infoThree : (Tryz.prog.info? 139).map (·.size) = some 3 := by kernel_rfl
set_option maxRecDepth 100000 in
set_option maxHeartbeats 4000000 in
theorem make_op {w0 : World} {yb : Nat} {rv : Value} {raw : List Int} {f : Nat} (ih : MakeOk w0 yb rv raw f) (t : Nat) (s : MkS) (nv : Value) (w : World) (ht : t < 5) (hf : s.left < f + 1) (hv : s.vars.length + s.left ≤ 100) (ha : s.at_ + 40 * s.left + 11 ≤ 100000) (h : MkIn w0 w yb rv raw s nv) (hl : s.left ≠ 0) (hk : 4 < (nextF raw 9 { s with left := s.left - 1 }).1 ∧ (nextF raw 9 { s with left := s.left - 1 }).1 < 8) (h0 : t = 0) :
  Calls Tryz.prog 48 #[.pointer (some ⟨yb, 0, none⟩), .int .i64 t] w fun e w' => ∃ p nv', e = .returned (.pointer (some ⟨p, 0, none⟩)) ∧ FrO w w' yb nv nv' ∧ MkIn w0 w' yb rv raw (makeF raw (f + 1) t s).2 nv' ∧ KIn w' (makeF raw (f + 1) t s).1 p := by
 have hyl := blk_lt h.ob.y
 have y2 : w.cell? ⟨yb, 2, none⟩ = some (.int .i64 s.left) := by rw [blk_cell h.ob.y]; rfl
 have f2 : w.frozen? ⟨yb, 2, none⟩ = false := blk_free h.ob.y 2
 have hlp : 0 < s.left := by omega
 have hnx := next_any 9 (by omega) (by omega) (make_pre h hl) (by simp only; omega)
 have hst := nextF_st raw 9 { s with left := s.left - 1 }
 have hx9 := nextF_lt raw 9 { s with left := s.left - 1 } (by omega)
 generalize hR : makeF raw (f + 1) t s = R
 simp only [makeF] at hR
 rw [if_neg hl] at hR
 generalize nextF raw 9 { s with left := s.left - 1 } = x at *
 obtain ⟨x1, x2, x3, x4⟩ := hst
 simp only at x1 x2 x3 x4
 skip
 have HF0 : Hid _ := FrO.set1 w yb nv 2 (.int .i64 ((s.left : Int) - 1))
 have HNX : Hid _ := hnx
 clear hnx h
 go_enter Tryz.func48, Tryz.ntmps48
 go_wp2_with fail
 refine Calls.mono HNX.out ?_
 rintro _ w1 ⟨rfl, hf1, hm1⟩
 have HF1 : Hid _ := HF0.out.trans hf1
 have HM1 : Hid _ := hm1
 clear HNX HF0 hf1 hm1 y2 f2
 rw [if_neg (by omega), if_neg (by omega), if_neg (by omega), if_neg (by omega), if_pos hk.2, if_pos h0] at hR
 subst h0
 have hm := nextF_st raw 3 x.2
 have ho3 := nextF_lt raw 3 x.2 (by omega)
 have hnv := fun W hW => next_any (w := W) 3 (by omega) (by omega) (HM1.out.grow hW) (by omega)
 generalize nextF raw 3 x.2 = o at *
 obtain ⟨m1, m2, m3, m4⟩ := hm
 have hao := makeF_ok raw f 0 o.2 (by omega) (by omega) (by rw [m2, x2]; omega)
 have hia := fun W hW => ih 0 o.2 nv W (by omega) (by omega) (by rw [m2, x2]; omega) (by omega) hW
 have hW0 := @W_le 0
 generalize makeF raw f 0 o.2 = a at *
 obtain ⟨a1, a2, a3, a4, a5, a6, a7, a8⟩ := hao
 have hib := fun nv W hW => ih 0 a.2 nv W (by omega) (by omega) (by rw [a2, m2, x2]; omega) (by omega) hW
 generalize makeF raw f 0 a.2 = b at *
 have HNV : Hid _ := hnv
 have HIA : Hid _ := hia
 have HIB : Hid _ := hib
 have HR : Hid _ := hR
 have qk0 : ((x.1 : Int) == 0) = false := by rw [beq_eq_false_iff_ne]; omega
 have qk1 : ((x.1 : Int) == 1) = false := by rw [beq_eq_false_iff_ne]; omega
 have qk2 : ((x.1 : Int) == 2) = false := by rw [beq_eq_false_iff_ne]; omega
 have qk3 : ((x.1 : Int) == 3) = false := by rw [beq_eq_false_iff_ne]; omega
 have qk4 : ((x.1 : Int) == 4) = false := by rw [beq_eq_false_iff_ne]; omega
 clear hnv hia hib ih hR
 go_wp2_with (refine st_row rfl 139 (.tmp 15) (.tmp 119) rfl w1.heap.size #[.string ⟨#[97, 100, 100]⟩, .string ⟨#[115, 117, 98]⟩, .string ⟨#[108, 101, 115, 115]⟩] rfl rfl 139 _ (blk_new _ _) Tryz.infoThree rfl (by simp [Value.oneCell']) ?_; intro W hW hWs hWo hW1 hW2 hW3)
 have hbW : Below w1.heap.size w1 W := below_new (Below.alloc (Below.refl _ w1) (Nat.le_refl _) _) (Nat.le_refl _) hWs hWo hW1 hW2 hW3
 have HMW : Hid _ := HM1.out.grow hbW
 have HFW : Hid _ := HF1.out.trans (FrO.below hbW _ _)
 have HBW : Hid _ := hbW
 have HQ : Hid _ := hW
 clear hWs hWo hW1 hW2 hW3 hbW hW HM1 HF1
 refine Calls.mono (HNV.out W HBW.out) ?_
 rintro _ w2 ⟨rfl, hf2, hm2⟩
 have hq2 := HMW.out.ob.other hf2 (by decide) (by decide) HQ.out
 have hqc : w2.cell? ⟨w1.heap.size, o.1, none⟩ = some (.string (bs (opK o.1).bytes)) := by
  rw [blk_cell hq2]
  have h3 : o.1 = 0 ∨ o.1 = 1 ∨ o.1 = 2 := by omega
  rcases h3 with h | h | h <;> rw [h] <;> rfl
 have hql : w1.heap.size < w2.heap.size := blk_lt hq2
 have HF2 : Hid _ := HFW.out.trans hf2
 have HM2 : Hid _ := hm2
 clear hf2 hm2 HMW HFW HBW HQ HNV hq2
 generalize w1.heap.size = q at *
 go_wp2_with fail
 refine Calls.mono (HIA.out w2 HM2.out) ?_
 rintro _ w3 ⟨p3, nv3, rfl, hf3, hm3, hk3⟩
 have HF3 : Hid _ := HF2.out.trans hf3
 have HM3 : Hid _ := hm3
 have HK3 : Hid _ := hk3
 clear hf3 hm3 hk3 HM2 HF2
 go_wp2_with fail
 refine Calls.mono (HIB.out nv3 w3 HM3.out) ?_
 rintro _ w4 ⟨p4, nv4, rfl, hf4, hm4, hk4⟩
 have HK3b : Hid _ := KIn.fr HK3.out HM3.out hf4
 have HF4 : Hid _ := HF3.out.trans hf4
 have HM4 : Hid _ := hm4
 have HK4 : Hid _ := hk4
 clear hf4 hm4 hk4 HM3 HF3
 have h2 := kpair_new w4 (opK o.1) 0 p3 p4 HK3b.out HK4.out
 have H2 : Hid _ := h2
 clear h2 HIA HIB
 go_wp2
 go_ret
 rw [← HR.out]
 exact ⟨_, nv4, rfl, HF4.out.trans (FrO.below H2.out.1 _ _), HM4.out.grow H2.out.1, H2.out.2⟩
set_option maxRecDepth 100000 in
set_option maxHeartbeats 4000000 in
theorem make_taken {w0 : World} {yb : Nat} {rv : Value} {raw : List Int} {f : Nat} (ih : MakeOk w0 yb rv raw f) (t : Nat) (s : MkS) (nv : Value) (w : World) (ht : t < 5) (hf : s.left < f + 1) (hv : s.vars.length + s.left ≤ 100) (ha : s.at_ + 40 * s.left + 11 ≤ 100000) (h : MkIn w0 w yb rv raw s nv) (hl : s.left ≠ 0) (hk : (nextF raw 9 { s with left := s.left - 1 }).1 = 2 ∨ (nextF raw 9 { s with left := s.left - 1 }).1 = 3) :
  Calls Tryz.prog 48 #[.pointer (some ⟨yb, 0, none⟩), .int .i64 t] w fun e w' => ∃ p nv', e = .returned (.pointer (some ⟨p, 0, none⟩)) ∧ FrO w w' yb nv nv' ∧ MkIn w0 w' yb rv raw (makeF raw (f + 1) t s).2 nv' ∧ KIn w' (makeF raw (f + 1) t s).1 p := by
 have hyl := blk_lt h.ob.y
 have y2 : w.cell? ⟨yb, 2, none⟩ = some (.int .i64 s.left) := by rw [blk_cell h.ob.y]; rfl
 have f2 : w.frozen? ⟨yb, 2, none⟩ = false := blk_free h.ob.y 2
 have hlp : 0 < s.left := by omega
 have hnx := next_any 9 (by omega) (by omega) (make_pre h hl) (by simp only; omega)
 have hst := nextF_st raw 9 { s with left := s.left - 1 }
 have hx9 := nextF_lt raw 9 { s with left := s.left - 1 } (by omega)
 generalize hR : makeF raw (f + 1) t s = R
 simp only [makeF] at hR
 rw [if_neg hl] at hR
 generalize nextF raw 9 { s with left := s.left - 1 } = x at *
 obtain ⟨x1, x2, x3, x4⟩ := hst
 simp only at x1 x2 x3 x4
 skip
 have HF0 : Hid _ := FrO.set1 w yb nv 2 (.int .i64 ((s.left : Int) - 1))
 have HNX : Hid _ := hnx
 clear hnx h
 go_enter Tryz.func48, Tryz.ntmps48
 go_wp2_with fail
 refine Calls.mono HNX.out ?_
 rintro _ w1 ⟨rfl, hf1, hm1⟩
 have HF1 : Hid _ := HF0.out.trans hf1
 have HM1 : Hid _ := hm1
 clear HNX HF0 hf1 hm1 y2 f2
 rw [if_neg (by omega), if_neg (by omega), if_pos hk] at hR
 have htk := taken_of ih t x.2 nv w1 ht (by omega) (by rw [x2]; omega) (by omega) HM1.out
 have HTK : Hid _ := htk
 have HR : Hid (takenF raw f t x.2 = R) := by rw [← hR]; rfl
 have qk0 : ((x.1 : Int) == 0) = false := by rw [beq_eq_false_iff_ne]; omega
 have qk1 : ((x.1 : Int) == 1) = false := by rw [beq_eq_false_iff_ne]; omega
 clear htk hR ih HM1
 have h23 : x.1 = 2 ∨ x.1 = 3 := hk
 rcases h23 with h2 | h3
 ·have qk2 : ((x.1 : Int) == 2) = true := by rw [h2]; rfl
  clear hk h2
  go_wp2_with fail
  refine Calls.mono HTK.out ?_
  rintro _ w2 ⟨p, nv2, rfl, hf2, hm2, hk2⟩
  have HF2 : Hid _ := HF1.out.trans hf2
  have HM2 : Hid _ := hm2
  have HK2 : Hid _ := hk2
  clear hf2 hm2 hk2 HTK
  go_wp2
  go_ret
  rw [← HR.out]
  exact ⟨p, nv2, rfl, HF2.out, HM2.out, HK2.out⟩
 ·have qk2 : ((x.1 : Int) == 2) = false := by rw [h3]; rfl
  have qk3 : ((x.1 : Int) == 3) = true := by rw [h3]; rfl
  clear hk h3
  go_wp2_with fail
  refine Calls.mono HTK.out ?_
  rintro _ w2 ⟨p, nv2, rfl, hf2, hm2, hk2⟩
  have HF2 : Hid _ := HF1.out.trans hf2
  have HM2 : Hid _ := hm2
  have HK2 : Hid _ := hk2
  clear hf2 hm2 hk2 HTK
  go_wp2
  go_ret
  rw [← HR.out]
  exact ⟨p, nv2, rfl, HF2.out, HM2.out, HK2.out⟩
set_option maxRecDepth 100000 in
theorem make_zero {w0 : World} {yb : Nat} {rv : Value} {raw : List Int} {f : Nat} (t : Nat) (s : MkS) (nv : Value) (w : World) (ht : t < 5) (hv : s.vars.length + s.left ≤ 100) (ha : s.at_ + 40 * s.left + 11 ≤ 100000) (h : MkIn w0 w yb rv raw s nv) (hl : s.left = 0) :
  Calls Tryz.prog 48 #[.pointer (some ⟨yb, 0, none⟩), .int .i64 t] w fun e w' => ∃ p nv', e = .returned (.pointer (some ⟨p, 0, none⟩)) ∧ FrO w w' yb nv nv' ∧ MkIn w0 w' yb rv raw (makeF raw (f + 1) t s).2 nv' ∧ KIn w' (makeF raw (f + 1) t s).1 p := by
 have hyl := blk_lt h.ob.y
 have y2 : w.cell? ⟨yb, 2, none⟩ = some (.int .i64 0) := by rw [blk_cell h.ob.y, ← Int.natCast_zero, ← hl]; rfl
 have hR : makeF raw (f + 1) t s = leafF raw 3 t s := by simp only [makeF]; rw [if_pos hl]
 rw [hR]
 have HLF : Hid _ := leaf_any 3 t s nv w ht (by unfold dep; split <;> (try split) <;> omega) h (by omega) (by have := @W_le t; omega)
 clear h hR
 go_enter Tryz.func48, Tryz.ntmps48
 go_wp2_with fail
 refine Calls.mono HLF.out ?_
 rintro _ w2 ⟨p, rfl, hf2, hm2, hk2⟩
 have HF2 : Hid _ := hf2
 have HM2 : Hid _ := hm2
 have HK2 : Hid _ := hk2
 clear hf2 hm2 hk2 HLF
 go_wp2
 go_ret
 exact ⟨p, nv, rfl, HF2.out, HM2.out, HK2.out⟩
theorem make_any {w0 : World} {yb : Nat} {rv : Value} {raw : List Int} : ∀ f, MakeOk w0 yb rv raw f
 | 0 => fun _ _ _ _ _ h => absurd h (by omega)
 | f + 1 => fun t s nv w ht hf hv ha h => by
  by_cases hl : s.left = 0
  ·exact make_zero t s nv w ht hv ha h hl
  ·have ih := make_any (w0 := w0) (yb := yb) (rv := rv) (raw := raw) f
   have h9 := nextF_lt raw 9 { s with left := s.left - 1 } (by omega)
   by_cases h0 : (nextF raw 9 { s with left := s.left - 1 }).1 = 0
   ·exact make_let ih t s nv w ht hf hv ha h hl h0
   by_cases h1 : (nextF raw 9 { s with left := s.left - 1 }).1 = 1
   ·exact make_if ih t s nv w ht hf hv ha h hl h1
   by_cases h2 : (nextF raw 9 { s with left := s.left - 1 }).1 = 2 ∨ (nextF raw 9 { s with left := s.left - 1 }).1 = 3
   ·exact make_taken ih t s nv w ht hf hv ha h hl h2
   by_cases h4 : (nextF raw 9 { s with left := s.left - 1 }).1 = 4
   ·exact make_loop ih t s nv w ht hf hv ha h hl h4
   by_cases h8 : (nextF raw 9 { s with left := s.left - 1 }).1 < 8
   ·by_cases ht0 : t = 0
    ·exact make_op ih t s nv w ht hf hv ha h hl ⟨by omega, h8⟩ ht0
    ·exact make_pair ih t s nv w ht hf hv ha h hl ⟨by omega, h8⟩ ht0
   ·exact make_leaf ih t s nv w ht hf hv ha h hl (by omega)
set_option maxRecDepth 100000 in
theorem build_any (w : World) (t : Int) (rv : Value) (raw : List Int) (ht : I64 t) (h : RawIn w rv raw) :
  Calls Tryz.prog 21 #[.int .i64 t, rv] w fun e w' => ∃ p, e = .returned (.pointer (some ⟨p, 0, none⟩)) ∧ Below w.heap.size w w' ∧ KIn w' (buildF t raw) p := by
 obtain ⟨ra, rn, rc, rfl⟩ : ∃ ra rn rc, rv = .slice ra rn rc := by
  rcases h.2 with ⟨h1, _⟩ | ⟨a, cap, h1, _, _⟩
  ·exact ⟨_, _, _, h1⟩
  ·exact ⟨_, _, _, h1⟩
 have hob : MkIn w (w.alloc (.cells (mkCells (.slice ra rn rc) ⟨0, 24, []⟩ (.slice none 0 0)) 94 (0, 0))) w.heap.size (.slice ra rn rc) raw ⟨0, 24, []⟩ (.slice none 0 0) := by
  refine ⟨h, ⟨below_alZ (Below.refl _ w) _, Nat.le_refl _, blk_new _ _, World.ownsRow_nil _ _ _ _, by simp [Value.ownBlock]⟩⟩
 have hpk := fun W => pick_any t 5 W ht (by omega) (by omega)
 have h5 := pickF_lt t 5 (by omega)
 have hmk := make_any (w0 := w) (yb := w.heap.size) (rv := .slice ra rn rc) (raw := raw) 25 (pickF t 5) ⟨0, 24, []⟩ (.slice none 0 0) _ h5 (by simp) (by simp) (by simp) hob
 have HPK : Hid _ := hpk
 have HMK : Hid _ := hmk
 clear hob hpk hmk h
 go_enter Tryz.func21, Tryz.ntmps21
 go_wp2_with fail
 refine Calls.mono (HPK.out _) ?_
 rintro _ w2 ⟨rfl, rfl⟩
 go_wp2_with fail
 refine Calls.mono HMK.out ?_
 rintro _ w3 ⟨p, nv', rfl, hf, hm, hk⟩
 have HB : Hid _ := hm.ob.b0
 have HK : Hid (KIn w3 (buildF t raw) p) := hk
 clear hf hm hk HMK HPK
 go_wp2
 go_ret
 exact ⟨p, rfl, HB.out, HK.out⟩
end Go.Proofs.YtpicaknklgccoaaGreatDoor
