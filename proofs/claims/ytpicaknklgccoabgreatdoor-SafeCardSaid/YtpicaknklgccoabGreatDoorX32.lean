import Derived.Test.YtpicaknklgccoabGreatDoorX31
import Derived.Test.YtpicaknklgccoabGreatDoorX21
namespace Go.Proofs.YtpicaknklgccoabGreatDoor
open Go.RowKit
open Go.Lib (decDigits)
theorem wrap_len (raw : List Int) (e : PT) (s : MkS) : e.tidy.length ≤ (wrapF raw e s).1.tidy.length := by
 unfold wrapF
 simp only
 split
 ·simp [PT.tidy, tidyL, joinT, pieceT]; omega
 ·exact Nat.le_refl _
def runL (raw : List Int) : List KE → MkS → List PT × MkS
 | [], s => ([], s)
 | x :: r, s => ((anyF raw x s).1 :: (runL raw r (anyF raw x s).2).1, (runL raw r (anyF raw x s).2).2)
theorem runL_at (raw : List Int) : ∀ (ks : List KE) (s : MkS) (j : Nat) (h : j < ks.length), (runL raw ks s).1[j]? = some (anyF raw ks[j] (runL raw (ks.take j) s).2).1 ∧ (runL raw (ks.take (j + 1)) s).2 = (anyF raw ks[j] (runL raw (ks.take j) s).2).2
 | [], _, _, h => by simp at h
 | x :: r, s, 0, _ => by simp [runL]
 | x :: r, s, j + 1, h => by
  obtain ⟨h1, h2⟩ := runL_at raw r (anyF raw x s).2 j (by simpa using h)
  simp only [runL, List.getElem?_cons_succ, List.take_succ_cons, List.getElem_cons_succ]
  exact ⟨h1, h2⟩
theorem runL_len (raw : List Int) : ∀ (ks : List KE) (s : MkS), (runL raw ks s).1.length = ks.length
 | [], _ => rfl
 | x :: r, s => by simp [runL, runL_len raw r]
theorem tidyL_map : ∀ l : List PT, tidyL l = l.map PT.tidy
 | [] => rfl
 | t :: r => by simp [tidyL, tidyL_map r]
theorem wrapF_mono (raw : List Int) (e : PT) (s : MkS) : s.at_ ≤ (wrapF raw e s).2.at_ := (nextF_st raw 12 s).2.2.1
theorem anyF_mono (raw : List Int) : ∀ (x : KE) (s : MkS), s.at_ ≤ (anyF raw x s).2.at_
 | .num _, s => wrapF_mono raw _ s
 | .var _, s => wrapF_mono raw _ s
 | .n1 k a, s => by
  simp only [anyF]
  exact Nat.le_trans (rgF_st raw k s).2.1 (Nat.le_trans (anyF_mono raw a _) (wrapF_mono raw _ _))
 | .n2 k n a b, s => by
  simp only [anyF]
  exact Nat.le_trans (rgF_st raw k s).2.1 (Nat.le_trans (anyF_mono raw a _) (Nat.le_trans (anyF_mono raw b _) (wrapF_mono raw _ _)))
 | .n3 k n a b c, s => by
  simp only [anyF]
  exact Nat.le_trans (rgF_st raw k s).2.1 (Nat.le_trans (anyF_mono raw a _) (Nat.le_trans (anyF_mono raw b _) (Nat.le_trans (anyF_mono raw c _) (wrapF_mono raw _ _))))
theorem runL_mono (raw : List Int) : ∀ (ks : List KE) (s : MkS), s.at_ ≤ (runL raw ks s).2.at_
 | [], _ => Nat.le_refl _
 | x :: r, s => Nat.le_trans (anyF_mono raw x s) (runL_mono raw r _)
theorem runL_take (raw : List Int) : ∀ (ks : List KE) (s : MkS) (j : Nat), (runL raw (ks.take j) s).2.at_ ≤ (runL raw ks s).2.at_
 | [], _, _ => by simp
 | x :: r, s, 0 => runL_mono raw (x :: r) s
 | x :: r, s, j + 1 => by simp only [List.take_succ_cons, runL]; exact runL_take raw r _ j
theorem told_num {w0 W : World} {yb : Nat} {rv : Value} {raw : List Int} {s : MkS} {nv : Value} (hit : ∀ W, Below w0.heap.size w0 W → ItoaOk W) (n : Nat) (hn : n ≤ 9999) (h : MkIn w0 W yb rv raw s nv) :
  Calls Tryz.prog 9 #[.pointer (some ⟨W.heap.size, 0, none⟩)] (W.alloc (.cells (kvV n (.pointer none) (.pointer none)) 29 (0, 0))) fun v w' => v = .returned (.string (bs (decDigits n))) ∧ Below W.heap.size W w' := by
 have hal := below_alZ (Below.refl _ W) (.cells (kvV n (.pointer none) (.pointer none)) 29 (0, 0))
 refine Calls.mono (ktold_any (.n n) .n W.heap.size _ (show n ≤ 9999 by omega) (by simp [Ty.size]) (blk_new _ _) (fun W' hW' => hit W' (h.ob.b0.trans ((hal.trans (hW'.mono hal.size)).mono h.ob.b0.size)))) ?_
 rintro v w' ⟨rfl, hb⟩
 exact ⟨rfl, hal.trans (hb.mono hal.size)⟩
def KAny (raw : List Int) (x : KE) : Prop := ∀ (w0 w : World) (yb p : Nat) (rv nv : Value) (s : MkS), MkIn w0 w yb rv raw s nv → KIn w0 x p → (anyF raw x s).1.tidy.length ≤ 100000 → (anyF raw x s).2.at_ ≤ 1000000 → (∀ W, Below w0.heap.size w0 W → ItoaOk W) →
 Calls Tryz.prog 19 #[.pointer (some ⟨p, 0, none⟩), .pointer (some ⟨yb, 0, none⟩)] w fun e w' => e = .returned (.string (bs (anyF raw x s).1.tidy)) ∧ MkIn w0 w' yb rv raw (anyF raw x s).2 nv
theorem wrap_facts (raw : List Int) (e : PT) (s : MkS) (k12 : Nat) (s12 : MkS) (hx : nextF raw 12 s = (k12, s12)) : (wrapF raw e s).2 = s12 ∧ (k12 < 4 → ByteArray.mk #[40, 110, 101, 119, 32, 35] ++ bs (decDigits k12) ++ ByteArray.mk #[32] ++ bs e.tidy ++ ByteArray.mk #[41] = bs (wrapF raw e s).1.tidy) ∧ (¬ k12 < 4 → bs e.tidy = bs (wrapF raw e s).1.tidy) := by
 unfold wrapF
 rw [hx]
 refine ⟨rfl, fun h => ?_, fun h => ?_⟩
 ·simp only [if_pos h]
  rw [show ByteArray.mk #[40, 110, 101, 119, 32, 35] = bs [40, 110, 101, 119, 32, 35] from rfl, show ByteArray.mk #[32] = bs [32] from rfl, show ByteArray.mk #[41] = bs [41] from rfl, bs_app, bs_app, bs_app, bs_app]
  congr 1
  have hne : rgL k12 ≠ [] := by unfold rgL; simp
  simp [PT.tidy, tidyL, joinT, pieceT, regT, Kw.bytes, rgL]
 ·simp only [if_neg h]
set_option maxRecDepth 100000 in
set_option maxHeartbeats 1000000 in
theorem anyw_num (raw : List Int) (n : Nat) (hn : n ≤ 9999) : KAny raw (.num n) := by
 intro w0 w yb p rv nv s hmk hx hlen hat hit
 have hx' : w0.heap[p]? = some (.cells (exV [] n (.slice none 0 0)) 59 (0, 0)) := hx
 have hx2 : w.heap[p]? = some (.cells (exV [] n (.slice none 0 0)) 59 (0, 0)) := (hmk.ob.b0.block p (blk_lt hx')).trans hx'
 have hp := blk_lt hx2
 have x0 : w.cell? ⟨p, 0, none⟩ = some (.string ⟨#[]⟩) := by rw [blk_cell hx2]; rfl
 have x1 : w.cell? ⟨p, 1, none⟩ = some (.int .i64 n) := by rw [blk_cell hx2]; rfl
 simp only [anyF] at hlen hat ⊢
 obtain ⟨T, hT⟩ : ∃ T, T = (PT.num 0 (decDigits n)) := ⟨_, rfl⟩
 have hTt : T.tidy = decDigits n := by rw [hT]; rfl
 rw [← hT] at hlen hat ⊢
 have hmono := wrapF_mono raw T s
 have hnx := fun (W : World) (h : MkIn w0 W yb rv raw s nv) => next_any 12 (by omega) (by omega) h (by omega)
 obtain ⟨k12, s12, hxx⟩ : ∃ k12 s12, nextF raw 12 s = (k12, s12) := ⟨_, _, rfl⟩
 obtain ⟨f1, f2, f3⟩ := wrap_facts raw T s k12 s12 hxx
 have hk12 : k12 < 12 := by have := nextF_lt raw 12 s (by omega); rw [hxx] at this; exact this
 rw [f1]
 have hto := fun (m : Nat) (W : World) (s' : MkS) (hm : m ≤ 9999) (h : MkIn w0 W yb rv raw s' nv) => told_num hit m hm h
 have hwl := wrap_len raw T s
 have HNX : Hid (∀ (W : World) (h : MkIn w0 W yb rv raw s nv), Calls Tryz.prog 34 #[.pointer (some ⟨yb, 0, none⟩), .int .i64 (12 : Nat)] W fun e w' => e = .returned (.int .i64 (k12 : Nat)) ∧ MkIn w0 w' yb rv raw s12 nv) := fun W h => (hnx W h).mono fun _ _ ⟨a, _, c⟩ => by rw [hxx] at a c; exact ⟨a, c⟩
 have HWY : Hid _ := f2
 have HWN : Hid _ := f3
 have HTO : Hid _ := hto
 have HMK : Hid _ := hmk
 have zt : (bs T.tidy).size ≤ 100000 := by rw [bs_size]; omega
 have HTT : Hid _ := hTt
 have HT0 : Hid _ := hto n w s hn hmk
 clear hx hx' hx2 hmk hlen hat hit hT hTt hmono hnx hxx f1 f2 f3 hto hwl
 go_enter Tryz.func19, Tryz.ntmps19
 go_wp2_with fail
 refine Calls.mono HT0.out ?_
 rintro _ w1 ⟨rfl, hb1⟩
 have HM1 : Hid _ := HMK.out.grow hb1
 clear hb1 HMK
 rw [← HTT.out]
 clear HTT
 go_wp2_with fail
 refine Calls.mono (HNX.out _ HM1.out) ?_
 rintro _ w8 ⟨rfl, hm8⟩
 have HM8 : Hid _ := hm8
 clear hm8 HNX
 by_cases h4 : k12 < 4
 ·have hw8 := HWY.out h4
  have HWY8 : Hid _ := hw8
  have HT8 : Hid _ := HTO.out k12 w8 _ (by omega) HM8.out
  have zk : (bs (decDigits k12)).size ≤ 2 := by rw [bs_size]; exact dec_len2 k12 (by omega)
  have zl : (ByteArray.mk #[40, 110, 101, 119, 32, 35]).size = 6 := rfl
  have zs : (ByteArray.mk #[32]).size = 1 := rfl
  have zc : (ByteArray.mk #[41]).size = 1 := rfl
  have za : (ByteArray.mk #[40, 110, 101, 119, 32, 35] ++ bs (decDigits k12)).size ≤ 8 := by rw [ByteArray.size_append]; omega
  have zb : (ByteArray.mk #[40, 110, 101, 119, 32, 35] ++ bs (decDigits k12) ++ ByteArray.mk #[32]).size ≤ 9 := by rw [ByteArray.size_append]; omega
  have zd : (ByteArray.mk #[40, 110, 101, 119, 32, 35] ++ bs (decDigits k12) ++ ByteArray.mk #[32] ++ bs T.tidy).size ≤ 100009 := by rw [ByteArray.size_append]; omega
  clear hw8 HWY HWN HTO
  go_wp2_with fail
  refine Calls.mono HT8.out ?_
  rintro _ w9 ⟨rfl, hb9⟩
  have HB9 : Hid _ := hb9
  clear hb9 HT8
  go_wp2
  go_ret
  exact ⟨by rw [HWY8.out]; rfl, HM8.out.grow HB9.out⟩
 ·have hw8 := HWN.out h4
  have HWN8 : Hid _ := hw8
  clear hw8 HWY HWN HTO
  go_wp2
  go_ret
  exact ⟨by rw [HWN8.out]; rfl, HM8.out⟩
set_option maxRecDepth 100000 in
set_option maxHeartbeats 1000000 in
theorem anyw_var (raw : List Int) (n : Nat) (hn : n ≤ 1000) : KAny raw (.var n) := by
 intro w0 w yb p rv nv s hmk hx hlen hat hit
 have hx' : w0.heap[p]? = some (.cells (exV [120] n (.slice none 0 0)) 59 (0, 0)) := hx
 have hx2 : w.heap[p]? = some (.cells (exV [120] n (.slice none 0 0)) 59 (0, 0)) := (hmk.ob.b0.block p (blk_lt hx')).trans hx'
 have hp := blk_lt hx2
 have x0 : w.cell? ⟨p, 0, none⟩ = some (.string ⟨#[120]⟩) := by rw [blk_cell hx2]; rfl
 have x1 : w.cell? ⟨p, 1, none⟩ = some (.int .i64 n) := by rw [blk_cell hx2]; rfl
 simp only [anyF] at hlen hat ⊢
 obtain ⟨T, hT⟩ : ∃ T, T = (PT.name 0 (nameL n)) := ⟨_, rfl⟩
 have hTt : T.tidy = nameL n := by rw [hT]; rfl
 rw [← hT] at hlen hat ⊢
 have hmono := wrapF_mono raw T s
 have hnx := fun (W : World) (h : MkIn w0 W yb rv raw s nv) => next_any 12 (by omega) (by omega) h (by omega)
 obtain ⟨k12, s12, hxx⟩ : ∃ k12 s12, nextF raw 12 s = (k12, s12) := ⟨_, _, rfl⟩
 obtain ⟨f1, f2, f3⟩ := wrap_facts raw T s k12 s12 hxx
 have hk12 : k12 < 12 := by have := nextF_lt raw 12 s (by omega); rw [hxx] at this; exact this
 rw [f1]
 have hto := fun (m : Nat) (W : World) (s' : MkS) (hm : m ≤ 9999) (h : MkIn w0 W yb rv raw s' nv) => told_num hit m hm h
 have hwl := wrap_len raw T s
 have HNX : Hid (∀ (W : World) (h : MkIn w0 W yb rv raw s nv), Calls Tryz.prog 34 #[.pointer (some ⟨yb, 0, none⟩), .int .i64 (12 : Nat)] W fun e w' => e = .returned (.int .i64 (k12 : Nat)) ∧ MkIn w0 w' yb rv raw s12 nv) := fun W h => (hnx W h).mono fun _ _ ⟨a, _, c⟩ => by rw [hxx] at a c; exact ⟨a, c⟩
 have HWY : Hid _ := f2
 have HWN : Hid _ := f3
 have HTO : Hid _ := hto
 have HMK : Hid _ := hmk
 have zt : (bs T.tidy).size ≤ 100000 := by rw [bs_size]; omega
 have HTT : Hid _ := hTt
 have HT0 : Hid _ := kname_any n hn w
 clear hx hx' hx2 hmk hlen hat hit hT hTt hmono hnx hxx f1 f2 f3 hto hwl
 go_enter Tryz.func19, Tryz.ntmps19
 go_wp2_with fail
 refine Calls.mono HT0.out ?_
 rintro _ w1 ⟨rfl, hb1⟩
 have HM1 : Hid _ := HMK.out.grow hb1
 clear hb1 HMK
 rw [← HTT.out]
 clear HTT
 go_wp2_with fail
 refine Calls.mono (HNX.out _ HM1.out) ?_
 rintro _ w8 ⟨rfl, hm8⟩
 have HM8 : Hid _ := hm8
 clear hm8 HNX
 by_cases h4 : k12 < 4
 ·have hw8 := HWY.out h4
  have HWY8 : Hid _ := hw8
  have HT8 : Hid _ := HTO.out k12 w8 _ (by omega) HM8.out
  have zk : (bs (decDigits k12)).size ≤ 2 := by rw [bs_size]; exact dec_len2 k12 (by omega)
  have zl : (ByteArray.mk #[40, 110, 101, 119, 32, 35]).size = 6 := rfl
  have zs : (ByteArray.mk #[32]).size = 1 := rfl
  have zc : (ByteArray.mk #[41]).size = 1 := rfl
  have za : (ByteArray.mk #[40, 110, 101, 119, 32, 35] ++ bs (decDigits k12)).size ≤ 8 := by rw [ByteArray.size_append]; omega
  have zb : (ByteArray.mk #[40, 110, 101, 119, 32, 35] ++ bs (decDigits k12) ++ ByteArray.mk #[32]).size ≤ 9 := by rw [ByteArray.size_append]; omega
  have zd : (ByteArray.mk #[40, 110, 101, 119, 32, 35] ++ bs (decDigits k12) ++ ByteArray.mk #[32] ++ bs T.tidy).size ≤ 100009 := by rw [ByteArray.size_append]; omega
  clear hw8 HWY HWN HTO
  go_wp2_with fail
  refine Calls.mono HT8.out ?_
  rintro _ w9 ⟨rfl, hb9⟩
  have HB9 : Hid _ := hb9
  clear hb9 HT8
  go_wp2
  go_ret
  exact ⟨by rw [HWY8.out]; rfl, HM8.out.grow HB9.out⟩
 ·have hw8 := HWN.out h4
  have HWN8 : Hid _ := hw8
  clear hw8 HWY HWN HTO
  go_wp2
  go_ret
  exact ⟨by rw [HWN8.out]; rfl, HM8.out⟩
set_option maxRecDepth 100000 in
set_option maxHeartbeats 4000000 in
theorem anyw_node (raw : List Int) (x : KE) (k : Kw) (n : Nat) (ks : List KE) (hkn : k ≠ .new) (hn : n ≤ 1000)
  (hF : ∀ s, anyF raw x s = wrapF raw (.node 0 k (bindN k n) (rgF raw k s).1 (runL raw ks (rgF raw k s).2).1) (runL raw ks (rgF raw k s).2).2)
  (hin : ∀ w p, KIn w x p → KNode w p k n ks) (hk3 : ks.length ≤ 3) (ih : ∀ y ∈ ks, KAny raw y) : KAny raw x := by
 intro w0 w yb p rv nv s hmk hx hlen hat hit
 obtain ⟨c, hc0, hb0, hkid⟩ := hin w0 p hx
 have hp0 := blk_lt hb0
 have hcell : ∀ W, Below w0.heap.size w0 W → p < W.heap.size ∧ c < W.heap.size ∧ W.cell? ⟨p, 0, none⟩ = some (.string (bs k.bytes)) ∧ W.cell? ⟨p, 1, none⟩ = some (.int .i64 n) ∧ W.cell? ⟨p, 2, none⟩ = some (.slice (some ⟨c, 0, none⟩) ks.length ks.length) := fun W hW => by
  have hb : W.heap[p]? = some (.cells (exV k.bytes n (.slice (some ⟨c, 0, none⟩) ks.length ks.length)) 59 (0, 0)) := (hW.block p hp0).trans hb0
  have := hW.size
  exact ⟨by omega, by omega, by rw [blk_cell hb]; rfl, by rw [blk_cell hb]; rfl, by rw [blk_cell hb]; rfl⟩
 have h1 : ((bs k.bytes).toList == []) = false := by rw [bs_beq0]; cases k <;> decide
 have h2 : ((bs k.bytes).toList == [120]) = false := by rw [bs_beq0]; cases k <;> decide
 obtain ⟨bp, hbp⟩ : ∃ bp, ((bs k.bytes).toList == [112, 97, 105, 114]) = bp := ⟨_, rfl⟩
 obtain ⟨bl, hl⟩ : ∃ bl, ((bs k.bytes).toList == [108, 101, 116]) = bl := ⟨_, rfl⟩
 obtain ⟨bo, ho⟩ : ∃ bo, ((bs k.bytes).toList == [108, 111, 111, 112]) = bo := ⟨_, rfl⟩
 have hP : bp = decide (k = .pair) := by rw [← hbp, bs_beq0]; cases k <;> decide
 have hL : bl = decide (k = .let_) := by rw [← hl, bs_beq0]; cases k <;> decide
 have hO : bo = decide (k = .loop) := by rw [← ho, bs_beq0]; cases k <;> decide
 have hLO : ¬ (bl = true ∧ bo = true) := by rw [hL, hO]; cases k <;> simp
 rw [hF] at hlen hat ⊢
 obtain ⟨r4, s4, hr4⟩ : ∃ r4 s4, nextF raw 4 s = (r4, s4) := ⟨_, _, rfl⟩
 have hr4l : r4 < 4 := by have := nextF_lt raw 4 s (by omega); rw [hr4] at this; exact this
 obtain ⟨rg, s1, hz⟩ : ∃ rg s1, rgF raw k s = (rg, s1) := ⟨_, _, rfl⟩
 rw [hz] at hlen hat ⊢
 simp only at hlen hat ⊢
 have hzP : bp = true → rg = rgL r4 ∧ s1 = s4 := by
  intro h; rw [hP, decide_eq_true_eq] at h
  unfold rgF at hz
  rw [if_pos h, hr4] at hz
  simp only [Prod.mk.injEq] at hz
  exact ⟨hz.1.symm, hz.2.symm⟩
 have hzN : bp = false → rg = [] ∧ s1 = s := by
  intro h; rw [hP, decide_eq_false_iff_not] at h
  unfold rgF at hz
  rw [if_neg h] at hz
  simp only [Prod.mk.injEq] at hz
  exact ⟨hz.1.symm, hz.2.symm⟩
 have hs1 : s.at_ ≤ s1.at_ := by have := (rgF_st raw k s).2.1; rw [hz] at this; exact this
 obtain ⟨T, hT⟩ : ∃ T, T = PT.node 0 k (bindN k n) rg (runL raw ks s1).1 := ⟨_, rfl⟩
 rw [← hT] at hlen hat ⊢
 obtain ⟨s2, hs2⟩ : ∃ s2, s2 = (runL raw ks s1).2 := ⟨_, rfl⟩
 rw [← hs2] at hlen hat ⊢
 have hmono := wrapF_mono raw T s2
 have hs12 := runL_mono raw ks s1
 rw [← hs2] at hs12
 obtain ⟨k12, s12, hxx⟩ : ∃ k12 s12, nextF raw 12 s2 = (k12, s12) := ⟨_, _, rfl⟩
 obtain ⟨f1, f2, f3⟩ := wrap_facts raw T s2 k12 s12 hxx
 have hk12 : k12 < 12 := by have := nextF_lt raw 12 s2 (by omega); rw [hxx] at this; exact this
 have hwl := wrap_len raw T s2
 rw [f1] at hat ⊢
 rw [f1] at hmono
 have HNX : Hid (∀ (W : World) (h : MkIn w0 W yb rv raw s2 nv), Calls Tryz.prog 34 #[.pointer (some ⟨yb, 0, none⟩), .int .i64 (12 : Nat)] W fun e w' => e = .returned (.int .i64 (k12 : Nat)) ∧ MkIn w0 w' yb rv raw s12 nv) := fun W h => (next_any 12 (by omega) (by omega) h (by omega)).mono fun _ _ ⟨a, _, c⟩ => by rw [hxx] at a c; exact ⟨a, c⟩
 have HN4 : Hid (∀ (W : World) (h : MkIn w0 W yb rv raw s nv), Calls Tryz.prog 34 #[.pointer (some ⟨yb, 0, none⟩), .int .i64 (4 : Nat)] W fun e w' => e = .returned (.int .i64 (r4 : Nat)) ∧ MkIn w0 w' yb rv raw s4 nv) := fun W h => (next_any 4 (by omega) (by omega) h (by omega)).mono fun _ _ ⟨a, _, c⟩ => by rw [hr4] at a c; exact ⟨a, c⟩
 have hto := fun (m : Nat) (W : World) (s' : MkS) (hm : m ≤ 9999) (h : MkIn w0 W yb rv raw s' nv) => told_num hit m hm h
 obtain ⟨ts, hts⟩ : ∃ ts, ts = (runL raw ks s1).1.map PT.tidy := ⟨_, rfl⟩
 have htl : ts.length = ks.length := by rw [hts]; simp [runL_len]
 obtain ⟨pre, hpre⟩ : ∃ pre, pre = 40 :: (k.bytes ++ regT rg) := ⟨_, rfl⟩
 have hpt : T.tidy = 40 :: (k.bytes ++ (regT rg ++ (joinT k (nameL n) 0 ts ++ [41]))) := by rw [hT, hts]; simp only [PT.tidy, tidyL_map, join_bind]
 have hfin : accZ pre k (nameL n) ts ks.length ++ [41] = T.tidy := by
  rw [hpt, hpre]; unfold accZ; rw [← htl, List.take_length]; simp
 have hlenp : pre.length + (joinT k (nameL n) 0 ts).length + 1 = T.tidy.length := by rw [hpt, hpre]; simp; omega
 have hacc := fun j => accZ_le pre k (nameL n) ts j
 obtain ⟨sj, hsj⟩ : ∃ sj : Nat → MkS, sj = fun j => (runL raw (ks.take j) s1).2 := ⟨_, rfl⟩
 have hsj0 : sj 0 = s1 := by rw [hsj]; simp [runL]
 have hsjn : sj ks.length = s2 := by rw [hsj, hs2]; simp
 have hall : ∀ j, (hj : j < ks.length) → ∀ w', MkIn w0 w' yb rv raw (sj j) nv → ∃ (q : Nat) (tx : List UInt8), w'.cell? ⟨c, j, none⟩ = some (.pointer (some ⟨q, 0, none⟩)) ∧ ts[j]? = some tx ∧ tx.length ≤ 100000 ∧
   Calls Tryz.prog 19 #[.pointer (some ⟨q, 0, none⟩), .pointer (some ⟨yb, 0, none⟩)] w' (fun e w'' => e = .returned (.string (bs tx)) ∧ MkIn w0 w'' yb rv raw (sj (j + 1)) nv) := by
  intro j hj w' hw'
  obtain ⟨q, hq, hy⟩ := hkid j ks[j] (List.getElem?_eq_getElem hj)
  obtain ⟨g1, g2⟩ := runL_at raw ks s1 j hj
  have htx : ts[j]? = some (anyF raw ks[j] (sj j)).1.tidy := by rw [hts, List.getElem?_map, g1, hsj]; rfl
  have hm := joinT_mem k (nameL n) ts 0 _ (List.mem_of_getElem? htx)
  have hst : (anyF raw ks[j] (sj j)).2 = sj (j + 1) := by rw [hsj]; exact g2.symm
  have hta := runL_take raw ks s1 (j + 1)
  rw [← hs2] at hta
  have hst' : sj (j + 1) = (runL raw (ks.take (j + 1)) s1).2 := by rw [hsj]
  refine ⟨q, _, (hw'.ob.b0.cell (p := ⟨c, j, none⟩) hc0).trans hq, htx, by omega, ?_⟩
  have := ih ks[j] (List.getElem_mem hj) w0 w' yb q rv nv (sj j) hw' hy (by omega) (by rw [hst, hst']; omega) hit
  rw [hst] at this
  exact this
 have hnm := fun W => kname_any n hn W
 have hkb : k.bytes.length ≤ 4 := by cases k <;> decide
 have hz' : ∀ j, (bs (accZ pre k (nameL n) ts j)).size ≤ 100000 := fun j => by rw [bs_size]; have := hacc j; omega
 have HALL : Hid _ := hall
 have HNM : Hid _ := hnm
 have HFIN : Hid _ := hfin
 have HL : Hid _ := hL
 have HO : Hid _ := hO
 have HZ : Hid _ := hz'
 have HC : Hid _ := hcell
 have HWY : Hid _ := f2
 have HWN : Hid _ := f3
 have HTO : Hid _ := hto
 have HMK : Hid _ := hmk
 have zt : (bs T.tidy).size ≤ 100000 := by rw [bs_size]; omega
 have z1 : (ByteArray.mk #[40]).size = 1 := rfl
 have z2 : (bs k.bytes).size ≤ 4 := by rw [bs_size]; exact hkb
 have z3 : (bs (nameL n)).size = 3 := rfl
 have zR : (bs (decDigits r4)).size ≤ 2 := by rw [bs_size]; exact dec_len2 r4 (by omega)
 have zS : (ByteArray.mk #[40] ++ bs k.bytes).size ≤ 5 := by rw [ByteArray.size_append]; omega
 have zH : (ByteArray.mk #[32, 35]).size = 2 := rfl
 have zU : (ByteArray.mk #[40] ++ bs k.bytes ++ ByteArray.mk #[32, 35]).size ≤ 7 := by rw [ByteArray.size_append]; omega
 have e0 : bp = true → ByteArray.mk #[40] ++ bs k.bytes ++ ByteArray.mk #[32, 35] ++ bs (decDigits r4) = bs (accZ pre k (nameL n) ts 0) := by
  intro h
  rw [show ByteArray.mk #[40] = bs [40] from rfl, show ByteArray.mk #[32, 35] = bs [32, 35] from rfl, bs_app, bs_app, bs_app, hpre, (hzP h).1]
  have hne : rgL r4 ≠ [] := by unfold rgL; simp
  simp [accZ, joinT, regT, rgL]
 have e1 : bp = false → ByteArray.mk #[40] ++ bs k.bytes = bs (accZ pre k (nameL n) ts 0) := by
  intro h
  rw [show ByteArray.mk #[40] = bs [40] from rfl, bs_app, hpre, (hzN h).1]; simp [accZ, joinT, regT]
 have E0 : Hid _ := e0
 have E1 : Hid _ := e1
 have E2 : Hid (bp = true → sj 0 = s4) := fun h => hsj0.trans (hzP h).2
 have E3 : Hid (bp = false → sj 0 = s) := fun h => hsj0.trans (hzN h).2
 have HSN : Hid _ := hsjn
 obtain ⟨hpw, hcw, x0, x1, x2⟩ := hcell w hmk.ob.b0
 clear hall hx hkid ih hit hL hO hP hpt hin hfin hpre hts hacc hnm hz' e0 e1 hb0 hlen hlenp hkb hcell hmk f1 f2 f3 hto hxx hwl hmono hzP hzN hs1 hs12 hT hs2 hsj hsj0 hsjn hz hr4 hF hat hp0 hc0
 go_enter Tryz.func19, Tryz.ntmps19
 cases bp
 ·have ee0 : Hid _ := E1.out rfl
  have HM0 : Hid (MkIn w0 w yb rv raw (sj 0) nv) := by have := HMK.out; rw [← E3.out rfl] at this; exact this
  clear E0 E1 E2 E3 HN4
  go_wp2_with fail
  go_loopw [5, 7] (fun v i wr => ∃ j : Nat, j ≤ ks.length ∧ i = .int .i64 j ∧ v = .string (bs (accZ pre k (nameL n) ts j)) ∧ MkIn w0 wr yb rv raw (sj j) nv) (fun _ i _ => ks.length - (intOf i).toNat)
  case atStart => exact ⟨0, by omega, rfl, by rw [← ee0.out], HM0.out⟩
  case round =>
   obtain ⟨j, hj, rfl, rfl, hmj⟩ := hrel
   obtain ⟨hpr, hcr, q0, q1, q2⟩ := HC.out wr hmj.ob.b0
   have zA := HZ.out j
   have z4 : (ByteArray.mk #[32]).size = 1 := rfl
   have z5 : (ByteArray.mk #[41]).size = 1 := rfl
   have HMJ : Hid _ := hmj
   clear hmj HM0
   by_cases hlt : j < ks.length
   ·have hnx : ∀ tx, ts[j]? = some tx → accZ pre k (nameL n) ts (j + 1) = accZ pre k (nameL n) ts j ++ pieceT k (nameL n) j tx := fun tx htx => accZ_succ pre k (nameL n) ts j tx htx
    have HPX : Hid _ := hnx
    have zB : (bs (accZ pre k (nameL n) ts j) ++ ByteArray.mk #[32]).size ≤ 100001 := by rw [ByteArray.size_append]; omega
    have zC : (bs (accZ pre k (nameL n) ts j) ++ ByteArray.mk #[32] ++ bs (nameL n)).size ≤ 100004 := by rw [ByteArray.size_append]; omega
    have zD : (bs (accZ pre k (nameL n) ts j) ++ ByteArray.mk #[32] ++ bs (nameL n) ++ ByteArray.mk #[32]).size ≤ 100005 := by rw [ByteArray.size_append]; omega
    have eN : ((bl = true ∧ j = 0) ∨ (bo = true ∧ j = 1)) → ∀ tx, ts[j]? = some tx → bs (accZ pre k (nameL n) ts j) ++ ByteArray.mk #[32] ++ bs (nameL n) ++ ByteArray.mk #[32] ++ bs tx = bs (accZ pre k (nameL n) ts (j + 1)) := by
     intro hcd tx htx
     rw [HL.out, HO.out, decide_eq_true_eq, decide_eq_true_eq] at hcd
     rw [HPX.out tx htx, show ByteArray.mk #[32] = bs [32] from rfl, bs_app, bs_app, bs_app, bs_app]
     unfold pieceT; rw [if_pos hcd]; simp
    have eP : ¬ ((bl = true ∧ j = 0) ∨ (bo = true ∧ j = 1)) → ∀ tx, ts[j]? = some tx → bs (accZ pre k (nameL n) ts j) ++ ByteArray.mk #[32] ++ bs tx = bs (accZ pre k (nameL n) ts (j + 1)) := by
     intro hcd tx htx
     rw [HL.out, HO.out, decide_eq_true_eq, decide_eq_true_eq] at hcd
     rw [HPX.out tx htx, show ByteArray.mk #[32] = bs [32] from rfl, bs_app, bs_app]
     unfold pieceT; rw [if_neg hcd]; simp
    have EN : Hid _ := eN
    have EP : Hid _ := eP
    clear eN eP hnx HWY HWN HTO HNX
    by_cases hcd : (bl = true ∧ j = 0) ∨ (bo = true ∧ j = 1)
    ·have HEE : Hid _ := EN.out hcd
     clear EN EP HPX HL HO HZ
     have hbr : (bl = true ∧ j = 0) ∨ (bl = false ∧ bo = true ∧ j = 1) := by
      rcases hcd with h | h
      ·exact Or.inl h
      ·right
       refine ⟨?_, h⟩
       cases bl with
       | false => rfl
       | true => exact absurd ⟨rfl, h.1⟩ hLO
     clear hcd hLO
     have hbq : (bl = true ∧ ((j : Int) == 0) = true) ∨ (bl = false ∧ bo = true ∧ ((j : Int) == 1) = true) := by
      rcases hbr with ⟨h1, h2⟩ | ⟨h1, h2, h3⟩
      ·exact Or.inl ⟨h1, by rw [h2]; rfl⟩
      ·exact Or.inr ⟨h1, h2, by rw [h3]; rfl⟩
     clear hbr
     rcases hbq with ⟨rfl, hqj⟩ | ⟨rfl, rfl, hqj⟩
     all_goals
      go_wp2_with fail
      refine Calls.mono (HNM.out _) ?_
      rintro _ w1 ⟨rfl, hb1⟩
      have HM1 : Hid _ := HMJ.out.grow hb1
      obtain ⟨hpr1, hcr1, _, _, r2⟩ := HC.out w1 HM1.out.ob.b0
      obtain ⟨q, tx, hq, htx, htl', hcall⟩ := HALL.out _ hlt w1 HM1.out
      have hfe := HEE.out tx htx
      have zE : (bs tx).size ≤ 100000 := by rw [bs_size]; exact htl'
      have HCC : Hid _ := hcall
      have HFE : Hid _ := hfe
      clear hcall hfe htx HEE hb1
      go_wp2_with fail
      refine Calls.mono HCC.out ?_
      rintro _ w2 ⟨rfl, hm2⟩
      have HM2 : Hid _ := hm2
      clear hm2 HCC
      go_wp2
      go_roundw
      case rel => exact ⟨j + 1, by omega, by go_num, by rw [← HFE.out], HM2.out⟩
      case measure => simp [intOf]; omega
    ·have HEE : Hid _ := EP.out hcd
     clear EN EP HPX HL HO HZ
     obtain ⟨q, tx, hq, htx, htl', hcall⟩ := HALL.out j hlt wr HMJ.out
     have hfe := HEE.out tx htx
     have zE : (bs tx).size ≤ 100000 := by rw [bs_size]; exact htl'
     have HCC : Hid _ := hcall
     have HFE : Hid _ := hfe
     have hnl : ¬ (bl = true ∧ j = 0) := fun h => hcd (Or.inl h)
     have hno : ¬ (bo = true ∧ j = 1) := fun h => hcd (Or.inr h)
     clear hcall hfe htx HEE hcd
     have qj0 : j ≠ 0 → ((j : Int) == 0) = false := fun h => by rw [beq_eq_false_iff_ne]; omega
     have qj1 : j ≠ 1 → ((j : Int) == 1) = false := fun h => by rw [beq_eq_false_iff_ne]; omega
     cases bl <;> cases bo <;> first | exact absurd ⟨rfl, rfl⟩ hLO | skip
     all_goals
      clear hLO
      first
      | (have hj0 : j ≠ 0 := fun h => hnl ⟨rfl, h⟩
         have q6 := qj0 hj0)
      | (have hj1 : j ≠ 1 := fun h => hno ⟨rfl, h⟩
         have q6 := qj1 hj1)
      | skip
      clear hnl hno qj0 qj1
      go_wp2_with fail
      refine Calls.mono HCC.out ?_
      rintro _ w2 ⟨rfl, hm2⟩
      have HM2 : Hid _ := hm2
      clear hm2 HCC
      go_wp2
      go_roundw
      case rel => exact ⟨j + 1, by omega, by go_num, by rw [← HFE.out], HM2.out⟩
      case measure => simp [intOf]; omega
   ·have hjk : j = ks.length := by omega
    subst hjk
    have hmn := HMJ.out
    rw [HSN.out] at hmn
    have HMN : Hid _ := hmn
    have HFJ : Hid (bs (accZ pre k (nameL n) ts ks.length) ++ ByteArray.mk #[41] = bs T.tidy) := by rw [← HFIN.out, ← bs_app]; rfl
    clear HALL HL HO HZ HFIN HMJ hmn
    go_wp2_with fail
    rw [HFJ.out]
    refine Calls.mono (HNX.out _ HMN.out) ?_
    rintro _ w8 ⟨rfl, hm8⟩
    have HM8 : Hid _ := hm8
    clear hm8 HNX
    by_cases h4 : k12 < 4
    ·have hw8 := HWY.out h4
     have HWY8 : Hid _ := hw8
     have HT8 : Hid _ := HTO.out k12 w8 _ (by omega) HM8.out
     have zk : (bs (decDigits k12)).size ≤ 2 := by rw [bs_size]; exact dec_len2 k12 (by omega)
     have zl : (ByteArray.mk #[40, 110, 101, 119, 32, 35]).size = 6 := rfl
     have zs : (ByteArray.mk #[32]).size = 1 := rfl
     have zc : (ByteArray.mk #[41]).size = 1 := rfl
     have za : (ByteArray.mk #[40, 110, 101, 119, 32, 35] ++ bs (decDigits k12)).size ≤ 8 := by rw [ByteArray.size_append]; omega
     have zb : (ByteArray.mk #[40, 110, 101, 119, 32, 35] ++ bs (decDigits k12) ++ ByteArray.mk #[32]).size ≤ 9 := by rw [ByteArray.size_append]; omega
     have zd : (ByteArray.mk #[40, 110, 101, 119, 32, 35] ++ bs (decDigits k12) ++ ByteArray.mk #[32] ++ bs T.tidy).size ≤ 100009 := by rw [ByteArray.size_append]; omega
     clear hw8 HWY HWN HTO
     go_wp2_with fail
     refine Calls.mono HT8.out ?_
     rintro _ w9 ⟨rfl, hb9⟩
     have HB9 : Hid _ := hb9
     clear hb9 HT8
     go_wp2
     go_ret
     exact ⟨by rw [HWY8.out]; rfl, HM8.out.grow HB9.out⟩
    ·have hw8 := HWN.out h4
     have HWN8 : Hid _ := hw8
     clear hw8 HWY HWN HTO
     go_wp2
     go_ret
     exact ⟨by rw [HWN8.out]; rfl, HM8.out⟩
 ·have ee0 : Hid _ := E0.out rfl
  have hs4 := E2.out rfl
  rw [← hs4] at HN4
  clear E0 E1 E2 E3 hs4
  go_wp2_with fail
  refine Calls.mono (HN4.out _ HMK.out) ?_
  rintro _ w5 ⟨rfl, hm5⟩
  have HT5 : Hid _ := HTO.out r4 w5 _ (by omega) hm5
  have HM5 : Hid _ := hm5
  clear hm5 HN4
  go_wp2_with fail
  refine Calls.mono HT5.out ?_
  rintro _ w6 ⟨rfl, hb6⟩
  have HM0 : Hid (MkIn w0 w6 yb rv raw (sj 0) nv) := HM5.out.grow hb6
  clear hb6 HM5 HT5
  go_wp2_with fail
  go_loopw [5, 7] (fun v i wr => ∃ j : Nat, j ≤ ks.length ∧ i = .int .i64 j ∧ v = .string (bs (accZ pre k (nameL n) ts j)) ∧ MkIn w0 wr yb rv raw (sj j) nv) (fun _ i _ => ks.length - (intOf i).toNat)
  case atStart => exact ⟨0, by omega, rfl, by rw [← ee0.out], HM0.out⟩
  case round =>
   obtain ⟨j, hj, rfl, rfl, hmj⟩ := hrel
   obtain ⟨hpr, hcr, q0, q1, q2⟩ := HC.out wr hmj.ob.b0
   have zA := HZ.out j
   have z4 : (ByteArray.mk #[32]).size = 1 := rfl
   have z5 : (ByteArray.mk #[41]).size = 1 := rfl
   have HMJ : Hid _ := hmj
   clear hmj HM0
   by_cases hlt : j < ks.length
   ·have hnx : ∀ tx, ts[j]? = some tx → accZ pre k (nameL n) ts (j + 1) = accZ pre k (nameL n) ts j ++ pieceT k (nameL n) j tx := fun tx htx => accZ_succ pre k (nameL n) ts j tx htx
    have HPX : Hid _ := hnx
    have zB : (bs (accZ pre k (nameL n) ts j) ++ ByteArray.mk #[32]).size ≤ 100001 := by rw [ByteArray.size_append]; omega
    have zC : (bs (accZ pre k (nameL n) ts j) ++ ByteArray.mk #[32] ++ bs (nameL n)).size ≤ 100004 := by rw [ByteArray.size_append]; omega
    have zD : (bs (accZ pre k (nameL n) ts j) ++ ByteArray.mk #[32] ++ bs (nameL n) ++ ByteArray.mk #[32]).size ≤ 100005 := by rw [ByteArray.size_append]; omega
    have eN : ((bl = true ∧ j = 0) ∨ (bo = true ∧ j = 1)) → ∀ tx, ts[j]? = some tx → bs (accZ pre k (nameL n) ts j) ++ ByteArray.mk #[32] ++ bs (nameL n) ++ ByteArray.mk #[32] ++ bs tx = bs (accZ pre k (nameL n) ts (j + 1)) := by
     intro hcd tx htx
     rw [HL.out, HO.out, decide_eq_true_eq, decide_eq_true_eq] at hcd
     rw [HPX.out tx htx, show ByteArray.mk #[32] = bs [32] from rfl, bs_app, bs_app, bs_app, bs_app]
     unfold pieceT; rw [if_pos hcd]; simp
    have eP : ¬ ((bl = true ∧ j = 0) ∨ (bo = true ∧ j = 1)) → ∀ tx, ts[j]? = some tx → bs (accZ pre k (nameL n) ts j) ++ ByteArray.mk #[32] ++ bs tx = bs (accZ pre k (nameL n) ts (j + 1)) := by
     intro hcd tx htx
     rw [HL.out, HO.out, decide_eq_true_eq, decide_eq_true_eq] at hcd
     rw [HPX.out tx htx, show ByteArray.mk #[32] = bs [32] from rfl, bs_app, bs_app]
     unfold pieceT; rw [if_neg hcd]; simp
    have EN : Hid _ := eN
    have EP : Hid _ := eP
    clear eN eP hnx HWY HWN HTO HNX
    by_cases hcd : (bl = true ∧ j = 0) ∨ (bo = true ∧ j = 1)
    ·have HEE : Hid _ := EN.out hcd
     clear EN EP HPX HL HO HZ
     have hbr : (bl = true ∧ j = 0) ∨ (bl = false ∧ bo = true ∧ j = 1) := by
      rcases hcd with h | h
      ·exact Or.inl h
      ·right
       refine ⟨?_, h⟩
       cases bl with
       | false => rfl
       | true => exact absurd ⟨rfl, h.1⟩ hLO
     clear hcd hLO
     have hbq : (bl = true ∧ ((j : Int) == 0) = true) ∨ (bl = false ∧ bo = true ∧ ((j : Int) == 1) = true) := by
      rcases hbr with ⟨h1, h2⟩ | ⟨h1, h2, h3⟩
      ·exact Or.inl ⟨h1, by rw [h2]; rfl⟩
      ·exact Or.inr ⟨h1, h2, by rw [h3]; rfl⟩
     clear hbr
     rcases hbq with ⟨rfl, hqj⟩ | ⟨rfl, rfl, hqj⟩
     all_goals
      go_wp2_with fail
      refine Calls.mono (HNM.out _) ?_
      rintro _ w1 ⟨rfl, hb1⟩
      have HM1 : Hid _ := HMJ.out.grow hb1
      obtain ⟨hpr1, hcr1, _, _, r2⟩ := HC.out w1 HM1.out.ob.b0
      obtain ⟨q, tx, hq, htx, htl', hcall⟩ := HALL.out _ hlt w1 HM1.out
      have hfe := HEE.out tx htx
      have zE : (bs tx).size ≤ 100000 := by rw [bs_size]; exact htl'
      have HCC : Hid _ := hcall
      have HFE : Hid _ := hfe
      clear hcall hfe htx HEE hb1
      go_wp2_with fail
      refine Calls.mono HCC.out ?_
      rintro _ w2 ⟨rfl, hm2⟩
      have HM2 : Hid _ := hm2
      clear hm2 HCC
      go_wp2
      go_roundw
      case rel => exact ⟨j + 1, by omega, by go_num, by rw [← HFE.out], HM2.out⟩
      case measure => simp [intOf]; omega
    ·have HEE : Hid _ := EP.out hcd
     clear EN EP HPX HL HO HZ
     obtain ⟨q, tx, hq, htx, htl', hcall⟩ := HALL.out j hlt wr HMJ.out
     have hfe := HEE.out tx htx
     have zE : (bs tx).size ≤ 100000 := by rw [bs_size]; exact htl'
     have HCC : Hid _ := hcall
     have HFE : Hid _ := hfe
     have hnl : ¬ (bl = true ∧ j = 0) := fun h => hcd (Or.inl h)
     have hno : ¬ (bo = true ∧ j = 1) := fun h => hcd (Or.inr h)
     clear hcall hfe htx HEE hcd
     have qj0 : j ≠ 0 → ((j : Int) == 0) = false := fun h => by rw [beq_eq_false_iff_ne]; omega
     have qj1 : j ≠ 1 → ((j : Int) == 1) = false := fun h => by rw [beq_eq_false_iff_ne]; omega
     cases bl <;> cases bo <;> first | exact absurd ⟨rfl, rfl⟩ hLO | skip
     all_goals
      clear hLO
      first
      | (have hj0 : j ≠ 0 := fun h => hnl ⟨rfl, h⟩
         have q6 := qj0 hj0)
      | (have hj1 : j ≠ 1 := fun h => hno ⟨rfl, h⟩
         have q6 := qj1 hj1)
      | skip
      clear hnl hno qj0 qj1
      go_wp2_with fail
      refine Calls.mono HCC.out ?_
      rintro _ w2 ⟨rfl, hm2⟩
      have HM2 : Hid _ := hm2
      clear hm2 HCC
      go_wp2
      go_roundw
      case rel => exact ⟨j + 1, by omega, by go_num, by rw [← HFE.out], HM2.out⟩
      case measure => simp [intOf]; omega
   ·have hjk : j = ks.length := by omega
    subst hjk
    have hmn := HMJ.out
    rw [HSN.out] at hmn
    have HMN : Hid _ := hmn
    have HFJ : Hid (bs (accZ pre k (nameL n) ts ks.length) ++ ByteArray.mk #[41] = bs T.tidy) := by rw [← HFIN.out, ← bs_app]; rfl
    clear HALL HL HO HZ HFIN HMJ hmn
    go_wp2_with fail
    rw [HFJ.out]
    refine Calls.mono (HNX.out _ HMN.out) ?_
    rintro _ w8 ⟨rfl, hm8⟩
    have HM8 : Hid _ := hm8
    clear hm8 HNX
    by_cases h4 : k12 < 4
    ·have hw8 := HWY.out h4
     have HWY8 : Hid _ := hw8
     have HT8 : Hid _ := HTO.out k12 w8 _ (by omega) HM8.out
     have zk : (bs (decDigits k12)).size ≤ 2 := by rw [bs_size]; exact dec_len2 k12 (by omega)
     have zl : (ByteArray.mk #[40, 110, 101, 119, 32, 35]).size = 6 := rfl
     have zs : (ByteArray.mk #[32]).size = 1 := rfl
     have zc : (ByteArray.mk #[41]).size = 1 := rfl
     have za : (ByteArray.mk #[40, 110, 101, 119, 32, 35] ++ bs (decDigits k12)).size ≤ 8 := by rw [ByteArray.size_append]; omega
     have zb : (ByteArray.mk #[40, 110, 101, 119, 32, 35] ++ bs (decDigits k12) ++ ByteArray.mk #[32]).size ≤ 9 := by rw [ByteArray.size_append]; omega
     have zd : (ByteArray.mk #[40, 110, 101, 119, 32, 35] ++ bs (decDigits k12) ++ ByteArray.mk #[32] ++ bs T.tidy).size ≤ 100009 := by rw [ByteArray.size_append]; omega
     clear hw8 HWY HWN HTO
     go_wp2_with fail
     refine Calls.mono HT8.out ?_
     rintro _ w9 ⟨rfl, hb9⟩
     have HB9 : Hid _ := hb9
     clear hb9 HT8
     go_wp2
     go_ret
     exact ⟨by rw [HWY8.out]; rfl, HM8.out.grow HB9.out⟩
    ·have hw8 := HWN.out h4
     have HWN8 : Hid _ := hw8
     clear hw8 HWY HWN HTO
     go_wp2
     go_ret
     exact ⟨by rw [HWN8.out]; rfl, HM8.out⟩
theorem anyw_any (raw : List Int) : ∀ {vs : List Nat} {x : KE} {t : Nat}, KT vs x t → vs.length ≤ 101 → KAny raw x := by
 intro vs x t h
 induction h with
 | num h => intro _; exact anyw_num raw _ (by omega)
 | var h =>
  intro hl
  refine anyw_var raw _ ?_
  have := (List.getElem?_eq_some_iff.1 h).1
  omega
 | let_ _ hl _ _ ha hb =>
  intro _
  refine anyw_node raw _ .let_ _ [_, _] (by decide) (by omega) (fun s => rfl) (fun w p h => knode2 h) (by simp) ?_
  intro y hy
  simp only [List.mem_cons, List.not_mem_nil, or_false] at hy
  rcases hy with rfl | rfl
  ·exact ha (by omega)
  ·exact hb (by simp; omega)
 | if_ _ _ _ ha hb hc =>
  intro hl
  refine anyw_node raw _ .if_ 0 [_, _, _] (by decide) (by omega) (fun s => rfl) (fun w p h => knode3 h) (by simp) ?_
  intro y hy
  simp only [List.mem_cons, List.not_mem_nil, or_false] at hy
  rcases hy with rfl | rfl | rfl
  ·exact ha hl
  ·exact hb hl
  ·exact hc hl
 | loop hl _ _ _ ha hb hc =>
  intro _
  refine anyw_node raw _ .loop _ [_, _, _] (by decide) (by omega) (fun s => rfl) (fun w p h => knode3 h) (by simp) ?_
  intro y hy
  simp only [List.mem_cons, List.not_mem_nil, or_false] at hy
  rcases hy with rfl | rfl | rfl
  ·exact ha (by omega)
  ·exact hb (by omega)
  ·exact hc (by simp; omega)
 | pair _ _ _ _ ha hb =>
  intro hl
  refine anyw_node raw _ .pair 0 [_, _] (by decide) (by omega) (fun s => rfl) (fun w p h => knode2 h) (by simp) ?_
  intro y hy
  simp only [List.mem_cons, List.not_mem_nil, or_false] at hy
  rcases hy with rfl | rfl
  ·exact ha hl
  ·exact hb hl
 | fst _ _ _ ha =>
  intro hl
  refine anyw_node raw _ .fst 0 [_] (by decide) (by omega) (fun s => rfl) (fun w p h => knode1 h) (by simp) ?_
  intro y hy
  simp only [List.mem_cons, List.not_mem_nil, or_false] at hy
  subst hy
  exact ha hl
 | snd _ _ _ ha =>
  intro hl
  refine anyw_node raw _ .snd 0 [_] (by decide) (by omega) (fun s => rfl) (fun w p h => knode1 h) (by simp) ?_
  intro y hy
  simp only [List.mem_cons, List.not_mem_nil, or_false] at hy
  subst hy
  exact ha hl
 | two hk _ _ ha hb =>
  intro hl
  refine anyw_node raw _ _ 0 [_, _] (by rcases hk with rfl | rfl | rfl <;> decide) (by omega) (fun s => by rcases hk with rfl | rfl | rfl <;> rfl) (fun w p h => knode2 h) (by simp) ?_
  intro y hy
  simp only [List.mem_cons, List.not_mem_nil, or_false] at hy
  rcases hy with rfl | rfl
  ·exact ha hl
  ·exact hb hl
def agg5 (S : ByteArray) (a b c d : Int) : Value := .agg #[.string S, .int .i64 a, .int .i64 b, .int .i64 c, .int .i64 d]
def SafeAns (v u : Value) (E : Nat) (ends : Bool) (c : Nat) : Prop :=
 (c = 0 ∨ c = 7 ∨ c = 8 ∨ c = 9 ∨ c = 10) ∧
 ((E = 13 ∧ c ≠ 0 ∧ v = agg5 ⟨#[]⟩ 0 0 0 0 ∧ ∃ S a b d e, u = agg5 S a b d e) ∨ (E = 12 ∧ ends = false ∧ v = agg5 ⟨#[]⟩ 0 0 0 0 ∧ u = agg5 ⟨#[]⟩ 0 0 0 0) ∨ (E = 0 ∧ ends = true ∧ ∃ S a b d e d' e', v = agg5 S a b d e ∧ u = agg5 S a b d' e'))
set_option maxRecDepth 100000 in
set_option maxHeartbeats 4000000 in
theorem Safe_walk (t fuel : Int) (ra : Option Addr) (rn rc : Nat) (ma : Option Addr) (mn mc : Nat) (w : World) (x : KE) (f : Nat) (q src : ByteArray) (v u : Value) (E : Nat) (ends : Bool) (c a : Nat) (hans : SafeAns v u E ends c)
  (HBD : Hid (Calls Tryz.prog 8 #[.int .i64 t, .slice ra rn rc] w fun e w' => ∃ p, e = .returned (.pointer (some ⟨p, 0, none⟩)) ∧ Below w.heap.size w w' ∧ KIn w' x p))
  (HAN : Hid (∀ W p, Below w.heap.size w W → KIn W x p → Calls Tryz.prog 19 #[.pointer (some ⟨p, 0, none⟩), .pointer (some ⟨W.heap.size, 0, none⟩)] (W.alloc (.cells (mkCells (.slice ma mn mc) ⟨0, 0, []⟩ (.slice none 0 0)) 49 (0, 0))) fun e w' => e = .returned (.string q) ∧ Below W.heap.size W w'))
  (HPK : Hid (∀ W, Calls Tryz.prog 10 #[.int .i64 fuel, .int .i64 20001] W fun e w' => e = .returned (.int .i64 f) ∧ w' = W))
  (HER : Hid (∀ W, Below w.heap.size w W → Calls Tryz.prog 18 #[.string q] W fun e w' => e = .returned (.tuple #[.string src, .int .i64 0]) ∧ Below W.heap.size W w'))
  (HVE : Hid (∀ W, Calls Tryz.prog 12 #[.string q] W fun e w' => e = .returned (.tuple #[.int .i64 c, .int .i64 a]) ∧ Below W.heap.size W w'))
  (HRU : Hid (∀ W, Below w.heap.size w W → Calls Tryz.prog 13 #[.string q, .int .i64 f] W fun e w' => e = .returned (.tuple #[v, .int .i64 E]) ∧ Below W.heap.size W w'))
  (HWK : Hid (∀ W p, Below w.heap.size w W → KIn W x p → Calls Tryz.prog 14 #[.pointer (some ⟨p, 0, none⟩), .int .i64 f] W fun e w' => e = .returned (.tuple #[u, .bool ends]) ∧ Below W.heap.size W w'))
  (HTX : Hid (∀ W p, Below w.heap.size w W → KIn W x p → Calls Tryz.prog 11 #[.pointer (some ⟨p, 0, none⟩), .string ⟨#[]⟩] W fun e w' => e = .returned (.string src) ∧ Below W.heap.size W w')) :
  Calls Tryz.prog 6 #[.int .i64 t, .slice ra rn rc, .slice ma mn mc, .int .i64 fuel] w fun e w' => e = .returned (.bool true) ∧ Below w.heap.size w w' := by
 have HNO : Hid _ := fun W => knought_any W
 have qs : (src.toList == src.toList) = true := by simp
 obtain ⟨hc, hans⟩ := hans
 rcases hans with ⟨rfl, hc0, rfl, S', a', b', d', e', rfl⟩ | ⟨rfl, rfl, rfl, rfl⟩ | ⟨rfl, rfl, S, sa, sb, sd, se, sd', se', rfl, rfl⟩
 ·have qc : ((c : Int) != 0) = true := by simp; omega
  clear hc hc0
  go_enter Tryz.func6, Tryz.ntmps6
  unfold agg5 at HRU HWK
  go_wp2_with fail
  refine Calls.mono HBD.out ?_
  rintro _ w1 ⟨p, rfl, hb1, hk1⟩
  have HB1 : Hid _ := hb1
  have HK1 : Hid _ := hk1
  have HA1 : Hid _ := HAN.out w1 p hb1 hk1
  clear hb1 hk1 HBD HAN
  go_wp2_with fail
  refine Calls.mono HA1.out ?_
  rintro _ w2 ⟨rfl, hb2⟩
  have HB2 : Hid _ := HB1.out.trans (hb2.mono HB1.out.size)
  have HK2 : Hid _ := HK1.out.below hb2
  clear hb2 HB1 HK1 HA1
  go_wp2_with fail
  refine Calls.mono (HPK.out _) ?_
  rintro _ w2 ⟨rfl, rfl⟩
  clear HPK
  go_wp2_with fail
  refine Calls.mono (HER.out w2 HB2.out) ?_
  rintro _ w3 ⟨rfl, hb3⟩
  have HB3 : Hid _ := HB2.out.trans (hb3.mono HB2.out.size)
  have HK3 : Hid _ := HK2.out.below hb3
  clear hb3 HB2 HK2 HER
  go_wp2_with fail
  refine Calls.mono (HVE.out _) ?_
  rintro _ w4 ⟨rfl, hb4⟩
  have HB4 : Hid _ := HB3.out.trans (hb4.mono HB3.out.size)
  have HK4 : Hid _ := HK3.out.below hb4
  clear hb4 HVE HB3 HK3
  go_wp2_with fail
  refine Calls.mono (HRU.out w4 HB4.out) ?_
  rintro _ w5 ⟨rfl, hb5⟩
  have hB5 := HB4.out.trans (hb5.mono HB4.out.size)
  have hal := below_alZ (Below.refl _ w5) (.cells #[.string ⟨#[]⟩, .int .i64 0, .int .i64 0, .int .i64 0, .int .i64 0] 35 (0, 0))
  have HB5 : Hid _ := hB5.alloc hB5.size (.cells #[.string ⟨#[]⟩, .int .i64 0, .int .i64 0, .int .i64 0, .int .i64 0] 35 (0, 0))
  have HQ5 : Hid _ := blk_new w5 (.cells #[.string ⟨#[]⟩, .int .i64 0, .int .i64 0, .int .i64 0, .int .i64 0] 35 (0, 0))
  have HK5 : Hid _ := (HK4.out.below hb5).below hal
  clear hb5 hB5 hal HRU HB4 HK4
  go_wp2_with fail
  refine Calls.mono (HWK.out _ p HB5.out HK5.out) ?_
  rintro _ w6 ⟨rfl, hb6⟩
  have hB6 := HB5.out.trans (hb6.mono HB5.out.size)
  have hq6 := (hb6.block _ (blk_lt HQ5.out)).trans HQ5.out
  have hal := below_alZ (Below.refl _ w6) (.cells #[.string S', .int .i64 a', .int .i64 b', .int .i64 d', .int .i64 e'] 35 (0, 0))
  have HB6 : Hid _ := hB6.alloc hB6.size (.cells #[.string S', .int .i64 a', .int .i64 b', .int .i64 d', .int .i64 e'] 35 (0, 0))
  have HQ6 : Hid _ := (hal.block _ (blk_lt hq6)).trans hq6
  have HR6 : Hid _ := blk_new w6 (.cells #[.string S', .int .i64 a', .int .i64 b', .int .i64 d', .int .i64 e'] 35 (0, 0))
  have HK6 : Hid _ := (HK5.out.below hb6).below hal
  clear hb6 hB6 HWK HB5 HQ5 HK5 hq6 hal
  generalize w5.heap.size = Q at *
  go_wp2_with fail
  refine Calls.mono (HTX.out _ p HB6.out HK6.out) ?_
  rintro _ w7 ⟨rfl, hb7⟩
  have HB7 : Hid _ := HB6.out.trans (hb7.mono HB6.out.size)
  have hq7 := (hb7.block _ (blk_lt HQ6.out)).trans HQ6.out
  have hr7 := (hb7.block _ (blk_lt HR6.out)).trans HR6.out
  obtain ⟨s0, s1, s2, s3, s4⟩ := res_cells hq7
  obtain ⟨t0, t1, t2, t3, t4⟩ := res_cells hr7
  have hql := blk_lt hq7
  have hrl := blk_lt hr7
  clear hb7 hq7 hr7 HQ6 HR6 HK6 HB6 HTX
  generalize w6.heap.size = Q2 at *
  go_wp2_with fail
  refine Calls.mono (HNO.out _) ?_
  rintro _ w8 ⟨rfl, hb8⟩
  have HB8 : Hid _ := HB7.out.trans (hb8.mono HB7.out.size)
  clear hb8 HB7 HNO
  go_wp2
  go_ret
  exact ⟨rfl, HB8.out⟩
 ·rcases hc with rfl | rfl | rfl | rfl | rfl
  all_goals
   go_enter Tryz.func6, Tryz.ntmps6
   unfold agg5 at HRU HWK
   go_wp2_with fail
   refine Calls.mono HBD.out ?_
   rintro _ w1 ⟨p, rfl, hb1, hk1⟩
   have HB1 : Hid _ := hb1
   have HK1 : Hid _ := hk1
   have HA1 : Hid _ := HAN.out w1 p hb1 hk1
   clear hb1 hk1 HBD HAN
   go_wp2_with fail
   refine Calls.mono HA1.out ?_
   rintro _ w2 ⟨rfl, hb2⟩
   have HB2 : Hid _ := HB1.out.trans (hb2.mono HB1.out.size)
   have HK2 : Hid _ := HK1.out.below hb2
   clear hb2 HB1 HK1 HA1
   go_wp2_with fail
   refine Calls.mono (HPK.out _) ?_
   rintro _ w2 ⟨rfl, rfl⟩
   clear HPK
   go_wp2_with fail
   refine Calls.mono (HER.out w2 HB2.out) ?_
   rintro _ w3 ⟨rfl, hb3⟩
   have HB3 : Hid _ := HB2.out.trans (hb3.mono HB2.out.size)
   have HK3 : Hid _ := HK2.out.below hb3
   clear hb3 HB2 HK2 HER
   go_wp2_with fail
   refine Calls.mono (HVE.out _) ?_
   rintro _ w4 ⟨rfl, hb4⟩
   have HB4 : Hid _ := HB3.out.trans (hb4.mono HB3.out.size)
   have HK4 : Hid _ := HK3.out.below hb4
   clear hb4 HVE HB3 HK3
   go_wp2_with fail
   refine Calls.mono (HRU.out w4 HB4.out) ?_
   rintro _ w5 ⟨rfl, hb5⟩
   have hB5 := HB4.out.trans (hb5.mono HB4.out.size)
   have hal := below_alZ (Below.refl _ w5) (.cells #[.string ⟨#[]⟩, .int .i64 0, .int .i64 0, .int .i64 0, .int .i64 0] 35 (0, 0))
   have HB5 : Hid _ := hB5.alloc hB5.size (.cells #[.string ⟨#[]⟩, .int .i64 0, .int .i64 0, .int .i64 0, .int .i64 0] 35 (0, 0))
   have HQ5 : Hid _ := blk_new w5 (.cells #[.string ⟨#[]⟩, .int .i64 0, .int .i64 0, .int .i64 0, .int .i64 0] 35 (0, 0))
   have HK5 : Hid _ := (HK4.out.below hb5).below hal
   clear hb5 hB5 hal HRU HB4 HK4
   go_wp2_with fail
   refine Calls.mono (HWK.out _ p HB5.out HK5.out) ?_
   rintro _ w6 ⟨rfl, hb6⟩
   have hB6 := HB5.out.trans (hb6.mono HB5.out.size)
   have hq6 := (hb6.block _ (blk_lt HQ5.out)).trans HQ5.out
   have hal := below_alZ (Below.refl _ w6) (.cells #[.string ⟨#[]⟩, .int .i64 0, .int .i64 0, .int .i64 0, .int .i64 0] 35 (0, 0))
   have HB6 : Hid _ := hB6.alloc hB6.size (.cells #[.string ⟨#[]⟩, .int .i64 0, .int .i64 0, .int .i64 0, .int .i64 0] 35 (0, 0))
   have HQ6 : Hid _ := (hal.block _ (blk_lt hq6)).trans hq6
   have HR6 : Hid _ := blk_new w6 (.cells #[.string ⟨#[]⟩, .int .i64 0, .int .i64 0, .int .i64 0, .int .i64 0] 35 (0, 0))
   have HK6 : Hid _ := (HK5.out.below hb6).below hal
   clear hb6 hB6 HWK HB5 HQ5 HK5 hq6 hal
   generalize w5.heap.size = Q at *
   go_wp2_with fail
   refine Calls.mono (HTX.out _ p HB6.out HK6.out) ?_
   rintro _ w7 ⟨rfl, hb7⟩
   have HB7 : Hid _ := HB6.out.trans (hb7.mono HB6.out.size)
   have hq7 := (hb7.block _ (blk_lt HQ6.out)).trans HQ6.out
   have hr7 := (hb7.block _ (blk_lt HR6.out)).trans HR6.out
   obtain ⟨s0, s1, s2, s3, s4⟩ := res_cells hq7
   obtain ⟨t0, t1, t2, t3, t4⟩ := res_cells hr7
   have hql := blk_lt hq7
   have hrl := blk_lt hr7
   clear hb7 hq7 hr7 HQ6 HR6 HK6 HB6 HTX
   generalize w6.heap.size = Q2 at *
   go_wp2_with fail
   refine Calls.mono (HNO.out _) ?_
   rintro _ w8 ⟨rfl, hb8⟩
   have HB8 : Hid _ := HB7.out.trans (hb8.mono HB7.out.size)
   clear hb8 HB7 HNO
   go_wp2
   go_ret
   exact ⟨rfl, HB8.out⟩
 ·have qS : (S.toList == S.toList) = true := by simp
  have qa : (sa == sa) = true := by simp
  have qb : (sb == sb) = true := by simp
  rcases hc with rfl | rfl | rfl | rfl | rfl
  all_goals
   go_enter Tryz.func6, Tryz.ntmps6
   unfold agg5 at HRU HWK
   go_wp2_with fail
   refine Calls.mono HBD.out ?_
   rintro _ w1 ⟨p, rfl, hb1, hk1⟩
   have HB1 : Hid _ := hb1
   have HK1 : Hid _ := hk1
   have HA1 : Hid _ := HAN.out w1 p hb1 hk1
   clear hb1 hk1 HBD HAN
   go_wp2_with fail
   refine Calls.mono HA1.out ?_
   rintro _ w2 ⟨rfl, hb2⟩
   have HB2 : Hid _ := HB1.out.trans (hb2.mono HB1.out.size)
   have HK2 : Hid _ := HK1.out.below hb2
   clear hb2 HB1 HK1 HA1
   go_wp2_with fail
   refine Calls.mono (HPK.out _) ?_
   rintro _ w2 ⟨rfl, rfl⟩
   clear HPK
   go_wp2_with fail
   refine Calls.mono (HER.out w2 HB2.out) ?_
   rintro _ w3 ⟨rfl, hb3⟩
   have HB3 : Hid _ := HB2.out.trans (hb3.mono HB2.out.size)
   have HK3 : Hid _ := HK2.out.below hb3
   clear hb3 HB2 HK2 HER
   go_wp2_with fail
   refine Calls.mono (HVE.out _) ?_
   rintro _ w4 ⟨rfl, hb4⟩
   have HB4 : Hid _ := HB3.out.trans (hb4.mono HB3.out.size)
   have HK4 : Hid _ := HK3.out.below hb4
   clear hb4 HVE HB3 HK3
   go_wp2_with fail
   refine Calls.mono (HRU.out w4 HB4.out) ?_
   rintro _ w5 ⟨rfl, hb5⟩
   have hB5 := HB4.out.trans (hb5.mono HB4.out.size)
   have hal := below_alZ (Below.refl _ w5) (.cells #[.string S, .int .i64 sa, .int .i64 sb, .int .i64 sd, .int .i64 se] 35 (0, 0))
   have HB5 : Hid _ := hB5.alloc hB5.size (.cells #[.string S, .int .i64 sa, .int .i64 sb, .int .i64 sd, .int .i64 se] 35 (0, 0))
   have HQ5 : Hid _ := blk_new w5 (.cells #[.string S, .int .i64 sa, .int .i64 sb, .int .i64 sd, .int .i64 se] 35 (0, 0))
   have HK5 : Hid _ := (HK4.out.below hb5).below hal
   clear hb5 hB5 hal HRU HB4 HK4
   go_wp2_with fail
   refine Calls.mono (HWK.out _ p HB5.out HK5.out) ?_
   rintro _ w6 ⟨rfl, hb6⟩
   have hB6 := HB5.out.trans (hb6.mono HB5.out.size)
   have hq6 := (hb6.block _ (blk_lt HQ5.out)).trans HQ5.out
   have hal := below_alZ (Below.refl _ w6) (.cells #[.string S, .int .i64 sa, .int .i64 sb, .int .i64 sd', .int .i64 se'] 35 (0, 0))
   have HB6 : Hid _ := hB6.alloc hB6.size (.cells #[.string S, .int .i64 sa, .int .i64 sb, .int .i64 sd', .int .i64 se'] 35 (0, 0))
   have HQ6 : Hid _ := (hal.block _ (blk_lt hq6)).trans hq6
   have HR6 : Hid _ := blk_new w6 (.cells #[.string S, .int .i64 sa, .int .i64 sb, .int .i64 sd', .int .i64 se'] 35 (0, 0))
   have HK6 : Hid _ := (HK5.out.below hb6).below hal
   clear hb6 hB6 HWK HB5 HQ5 HK5 hq6 hal
   generalize w5.heap.size = Q at *
   go_wp2_with fail
   refine Calls.mono (HTX.out _ p HB6.out HK6.out) ?_
   rintro _ w7 ⟨rfl, hb7⟩
   have HB7 : Hid _ := HB6.out.trans (hb7.mono HB6.out.size)
   have hq7 := (hb7.block _ (blk_lt HQ6.out)).trans HQ6.out
   have hr7 := (hb7.block _ (blk_lt HR6.out)).trans HR6.out
   obtain ⟨s0, s1, s2, s3, s4⟩ := res_cells hq7
   obtain ⟨t0, t1, t2, t3, t4⟩ := res_cells hr7
   have hql := blk_lt hq7
   have hrl := blk_lt hr7
   clear hb7 hq7 hr7 HQ6 HR6 HK6 HB6 HTX
   generalize w6.heap.size = Q2 at *
   go_wp2
   go_ret
   exact ⟨rfl, HB7.out⟩
end Go.Proofs.YtpicaknklgccoabGreatDoor
