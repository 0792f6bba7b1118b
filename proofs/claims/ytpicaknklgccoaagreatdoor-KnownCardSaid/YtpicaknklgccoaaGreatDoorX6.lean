import Derived.Test.YtpicaknklgccoaaGreatDoorX5
import Derived.Test.YtpicaknklgccoaaGreatDoorX4
import Derived.Test.YtpicaknklgccoaaGreatDoorX1
import Derived.BigRegion
import Derived.Deep.LoopGhost
import Derived.Deep.DeepCutAuto
import Derived.Deep.Light
import Derived.Test.YtpicaknklgccoaaGreatDoorProg
import Derived.WalkKit
namespace Go.Proofs.YtpicaknklgccoaaGreatDoor
def Fits (cells : List MC) : Ty → MV → Prop
 | .n, v => v.c = false ∧ 0 ≤ v.n ∧ v.n ≤ 9999
 | .p _ A B, v => (v.c = false ∧ 0 ≤ v.n ∧ v.n ≤ 9999) ∨ (v.c = true ∧ ∃ (i : Nat) (c : MC), v.n = i ∧ cells[i]? = some c ∧ Fits cells A c.a ∧ Fits cells B c.b)
theorem fits_v0 (cells : List MC) (T : Ty) : Fits cells T v0 := by cases T <;> simp [Fits, v0]
theorem Fits.mono {cells l : List MC} : ∀ {T : Ty} {v : MV}, Fits cells T v → Fits (cells ++ l) T v
 | .n, _, h => h
 | .p _ A B, _, h => by
  simp only [Fits] at h ⊢
  rcases h with h | ⟨hc, i, c, hv, hi, ha, hb⟩
  ·exact Or.inl h
  ·refine Or.inr ⟨hc, i, c, hv, ?_, Fits.mono ha, Fits.mono hb⟩
   rw [List.getElem?_append_left (List.getElem?_eq_some_iff.1 hi).1]; exact hi
structure Ext (m m' : MM) (base c : Nat) : Prop where
 cells : ∃ l, m'.cells = m.cells ++ l
 len : m'.named.length = m.named.length
 named : ∀ i, (i < base ∨ base + c ≤ i) → m'.named[i]? = m.named[i]?
theorem Ext.refl (m : MM) (base c : Nat) : Ext m m base c := ⟨⟨[], by simp⟩, rfl, fun _ _ => rfl⟩
theorem Ext.trans {m m1 m2 : MM} {b c b1 c1 b2 c2 : Nat} (h : Ext m m1 b1 c1) (h' : Ext m1 m2 b2 c2) (hb1 : b ≤ b1 ∧ b1 + c1 ≤ b + c) (hb2 : b ≤ b2 ∧ b2 + c2 ≤ b + c) : Ext m m2 b c := by
 obtain ⟨l, hl⟩ := h.cells
 obtain ⟨l', hl'⟩ := h'.cells
 exact ⟨⟨l ++ l', by rw [hl', hl, List.append_assoc]⟩, h'.len.trans h.len, fun i hi => (h'.named i (by omega)).trans (h.named i (by omega))⟩
theorem Ext.same {m m' : MM} (h1 : m'.cells = m.cells) (h2 : m'.named = m.named) (base c : Nat) : Ext m m' base c := ⟨⟨[], by simp [h1]⟩, by rw [h2], fun _ _ => by rw [h2]⟩
theorem Fits.on {m m' : MM} {b c : Nat} {T : Ty} {v : MV} (h : Fits m.cells T v) (he : Ext m m' b c) : Fits m'.cells T v := by
 obtain ⟨l, hl⟩ := he.cells
 rw [hl]; exact h.mono
theorem stop_ext (m : MM) (f base c : Nat) : Ext m (m.stop f) base c := by unfold MM.stop; split <;> (refine Ext.same ?_ ?_ _ _ <;> rfl)
theorem use_ext (m : MM) (v : MV) (base c : Nat) : Ext m (m.use v).2 base c := by
 unfold MM.use; split
 ·exact Ext.refl _ _ _
 ·simp only; split
  ·exact Ext.refl _ _ _
  ·exact stop_ext _ _ _ _
theorem cell_ext (m : MM) (k : Int) (a b : MV) (base c : Nat) : Ext m (m.newCell k a b).2 base c := by
 unfold MM.newCell; split
 ·exact Ext.refl _ _ _
 ·exact ⟨⟨_, rfl⟩, rfl, fun _ _ => rfl⟩
theorem name_ext (m : MM) (j : Nat) (v : MV) (base c : Nat) (hj : base ≤ j ∧ j < base + c) : Ext m (m.name (j : Int) v) base c := by
 unfold MM.name; split
 ·refine ⟨⟨[], by simp⟩, by simp, fun i hi => ?_⟩
  simp only [Int.toNat_natCast]
  rw [List.getElem?_set_ne (by omega)]
 ·exact Ext.refl _ _ _
theorem name_at (m : MM) (j : Nat) (v : MV) (hj : j < m.named.length) : (m.name (j : Int) v).named[j]? = some v := by
 unfold MM.name
 rw [if_pos (by omega)]
 simp only [Int.toNat_natCast]
 rw [List.getElem?_set_self hj]
theorem fin_ext (m : MM) (base c : Nat) : Ext m m.fin base c := by unfold MM.fin; split <;> (refine Ext.same ?_ ?_ _ _ <;> rfl)
def EF (named : List MV) (cells : List MC) (sc : Sc) (G : TEnv) (base : Nat) : Prop := ∀ s T, look G s = some T → ∃ (i : Nat) (v : MV), findS sc s = (i : Int) ∧ i < base ∧ named[i]? = some v ∧ Fits cells T v
theorem look_snocF (G : TEnv) (nm : List UInt8) (T : Ty) (s : List UInt8) : look (G ++ [(nm, T)]) s = if nm = s then some T else look G s := by
 unfold look
 rw [List.reverse_append]
 simp only [List.reverse_cons, List.reverse_nil, List.nil_append, List.singleton_append, List.find?_cons]
 by_cases h : nm = s
 ·simp [h]
 ·have : (nm == s) = false := by rw [beq_eq_false_iff_ne]; exact h
  simp [h, this]
theorem findS_snoc (sc : Sc) (nm : List UInt8) (j : Int) (s : List UInt8) : findS (sc ++ [(nm, j)]) s = if nm = s then j else findS sc s := by
 unfold findS
 rw [List.reverse_append]
 simp only [List.reverse_cons, List.reverse_nil, List.nil_append, List.singleton_append, List.find?_cons]
 by_cases h : nm = s
 ·simp [h]
 ·have : (nm == s) = false := by rw [beq_eq_false_iff_ne]; exact h
  simp [h, this]
theorem EF.on {m m' : MM} {sc : Sc} {G : TEnv} {base b c : Nat} (h : EF m.named m.cells sc G base) (he : Ext m m' b c) (hb : base ≤ b) : EF m'.named m'.cells sc G base := by
 intro s T hl
 obtain ⟨i, v, h1, h2, h3, h4⟩ := h s T hl
 exact ⟨i, v, h1, h2, (he.named i (Or.inl (by omega))).trans h3, h4.on he⟩
theorem EF.up {named : List MV} {cells : List MC} {sc : Sc} {G : TEnv} {base b : Nat} (h : EF named cells sc G base) (hb : base ≤ b) : EF named cells sc G b := by
 intro s T hl
 obtain ⟨i, v, h1, h2, h3, h4⟩ := h s T hl
 exact ⟨i, v, h1, by omega, h3, h4⟩
theorem EF.snoc {m : MM} {sc : Sc} {G : TEnv} {base j : Nat} {nm : List UInt8} {T : Ty} {v : MV} (h : EF m.named m.cells sc G base) (hj : base ≤ j) (hl : j < m.named.length) (hv : Fits m.cells T v) : EF (m.name (j : Int) v).named (m.name (j : Int) v).cells (sc ++ [(nm, (j : Int))]) (G ++ [(nm, T)]) (j + 1) := by
 have he := name_ext m j v j 1 (by omega)
 intro s T' hlk
 rw [look_snocF] at hlk
 rw [findS_snoc]
 by_cases hs : nm = s
 ·rw [if_pos hs] at hlk ⊢
  cases hlk
  exact ⟨j, v, rfl, by omega, name_at m j v hl, hv.on he⟩
 ·rw [if_neg hs] at hlk ⊢
  obtain ⟨i, u, h1, h2, h3, h4⟩ := h s T' hlk
  exact ⟨i, u, h1, by omega, (he.named i (Or.inl (by omega))).trans h3, h4.on he⟩
def FitOut (m : MM) (x : MV × MM) (base c : Nat) (T : Ty) : Prop := Ext m x.2 base c ∧ Fits x.2.cells T x.1
theorem begun_fit {fuel : Nat} {m : MM} {f : MM → MV × MM} {base c : Nat} {T : Ty} (h : FitOut { m with steps := m.steps + 1 } (f { m with steps := m.steps + 1 }) base c T) : FitOut m (mBegun fuel m f) base c T := by
 unfold mBegun
 by_cases hfu : fuel ≤ m.steps
 ·simp only [if_pos hfu]
  have hne : (m.stop 12).fault ≠ 0 := by unfold MM.stop; split <;> simp_all
  simp only [if_pos hne]
  exact ⟨stop_ext _ _ _ _, fits_v0 _ _⟩
 ·simp only [if_neg hfu]
  by_cases hz : m.fault = 0
  ·rw [if_neg (fun hn => hn hz)]
   exact ⟨(show Ext m { m with steps := m.steps + 1 } base c from Ext.same (by rfl) (by rfl) base c).trans h.1 (by omega) (by omega), h.2⟩
  ·rw [if_pos hz]
   exact ⟨Ext.refl _ _ _, fits_v0 _ _⟩
theorem turns_fit {base c j : Nat} {T : Ty} {f : MM → MV × MM} {L : Nat} {P : MM → Prop} (hj : base ≤ j ∧ j < base + c) (hP : ∀ m v, P m → Fits m.cells T v → m.named.length = L → FitOut (m.name (j : Int) v) (f (m.name (j : Int) v)) base c T) (hPe : ∀ m m', P m → Ext m m' base c → P m') : ∀ (k : Nat) (v : MV) (m : MM), P m → Fits m.cells T v → m.named.length = L → FitOut m (mTurns (j : Int) f k v m) base c T
 | 0, v, m, _, hv, _ => ⟨Ext.refl _ _ _, hv⟩
 | k + 1, v, m, hm, hv, hL => by
  simp only [mTurns]
  split
  ·exact ⟨Ext.refl _ _ _, hv⟩
  ·have h1 := hP m v hm hv hL
   have he : Ext m (f (m.name (j : Int) v)).2 base c := (name_ext m j v base c hj).trans h1.1 (by omega) (by omega)
   have h2 := turns_fit hj hP hPe k (f (m.name (j : Int) v)).1 (f (m.name (j : Int) v)).2 (hPe m _ hm he) h1.2 (he.len.trans hL)
   exact ⟨he.trans h2.1 (by omega) (by omega), h2.2⟩
theorem arith_fit (cells : List MC) (k : Kw) (a b : Int) (ha : 0 ≤ a ∧ a ≤ 9999) (hb : 0 ≤ b ∧ b ≤ 9999) : Fits cells .n ⟨false, mArith k a b⟩ := by
 simp only [Fits, mArith, true_and]
 split
 ·rw [Int.tmod_eq_emod_of_nonneg (by omega)]; omega
 ·split
  ·rw [Int.tmod_eq_emod_of_nonneg (by omega)]; omega
  ·split <;> omega
theorem use_fit {m : MM} {A B : Ty} {r : Nat} {v : MV} (h : Fits m.cells (.p r A B) v) : Fits m.cells A (m.use v).1.a ∧ Fits m.cells B (m.use v).1.b := by
 simp only [Fits] at h
 rcases h with h | ⟨hc, i, c, hv, hi, ha, hb⟩
 ·have e : (m.use v).1 = c0 := by unfold MM.use; rw [if_pos (Or.inl h.1)]
  rw [e]; exact ⟨fits_v0 _ _, fits_v0 _ _⟩
 ·have hil := (List.getElem?_eq_some_iff.1 hi).1
  have e : (m.use v).1 = c := by
   unfold MM.use
   rw [if_neg (by rw [hc, hv]; simp; omega)]
   simp only
   rw [hv, Int.toNat_natCast, List.getD_eq_getElem?_getD, hi]; rfl
  rw [e]; exact ⟨ha, hb⟩
theorem cell_fit {m : MM} {A B : Ty} {k : Int} {a b : MV} (ha : Fits m.cells A a) (hb : Fits m.cells B b) : Fits (m.newCell k a b).2.cells (.p 0 A B) (m.newCell k a b).1 := by
 have he := cell_ext m k a b 0 0
 unfold MM.newCell at he ⊢
 split
 ·exact fits_v0 _ _
 ·rename_i r hr
  simp only [Fits]
  refine Or.inr ⟨trivial, m.cells.length, ⟨a, b, m.home k, r.ser⟩, rfl, by simp, ha.mono, hb.mono⟩
set_option maxHeartbeats 1000000 in
theorem mW_fits (fuel : Nat) {G : TEnv} {t : PT} {T : Ty} (h : WT G t T) : ∀ (sc : Sc) (base : Nat) (m : MM), t.rgd → EF m.named m.cells sc G base → base + t.cnt ≤ m.named.length → FitOut m (mW fuel t sc base m) base t.cnt T := by
 induction h with
 | num =>
  intro sc base m hr he hl
  simp only [PT.rgd] at hr
  simp only [mW]
  exact begun_fit ⟨Ext.refl _ _ _, by simp only [Fits, true_and]; exact hr⟩
 | name hlk =>
  intro sc base m hr he hl
  simp only [mW]
  refine begun_fit ⟨Ext.refl _ _ _, ?_⟩
  obtain ⟨i, v, h1, h2, h3, h4⟩ := he _ _ hlk
  have hil := (List.getElem?_eq_some_iff.1 h3).1
  unfold MM.look
  simp only [h1]
  rw [if_neg (by omega), Int.toNat_natCast, List.getD_eq_getElem?_getD, h3]
  exact h4
 | @let_ G p nm rg a b A B ha hb iha ihb =>
  intro sc base m hr he hl
  simp only [PT.rgd, rgdL] at hr
  simp only [PT.cnt, cntL, Nat.add_zero] at hl ⊢
  simp only [mW, mLet, if_true, reduceCtorEq, if_false]
  refine begun_fit ?_
  have h1 := iha sc base { m with steps := m.steps + 1 } hr.2.1 he (by simp only; omega)
  generalize mW fuel a sc base { m with steps := m.steps + 1 } = x at h1 ⊢
  have hca := cnt_pos' a
  have hxl : x.2.named.length = m.named.length := h1.1.len
  have hx := EF.on (m := { m with steps := m.steps + 1 }) he h1.1 (Nat.le_refl _)
  rw [show (((base + a.cnt : Nat) : Int) - 1) = ((base + a.cnt - 1 : Nat) : Int) from by omega]
  have hsn := hx.snoc (nm := nm) (j := base + a.cnt - 1) (by omega) (by omega) h1.2
  rw [show base + a.cnt - 1 + 1 = base + a.cnt from by omega] at hsn
  have hne := name_ext x.2 (base + a.cnt - 1) x.1 base a.cnt (by omega)
  have h2 := ihb _ (base + a.cnt) _ hr.2.2.1 hsn (by rw [hne.len, hxl]; omega)
  exact ⟨(h1.1.trans hne (b := base) (c := a.cnt) (by omega) (by omega)).trans h2.1 (by omega) (by omega), h2.2⟩
 | @pair G p nm rg a b A B ha hb hs iha ihb =>
  intro sc base m hr he hl
  simp only [PT.rgd, rgdL] at hr
  simp only [PT.cnt, cntL, Nat.add_zero] at hl ⊢
  simp only [mW, mOps, if_true, reduceCtorEq, if_false]
  refine begun_fit ?_
  have h1 := iha sc base { m with steps := m.steps + 1 } hr.2.1 he (by simp only; omega)
  generalize mW fuel a sc base { m with steps := m.steps + 1 } = x at h1 ⊢
  have hxl : x.2.named.length = m.named.length := h1.1.len
  have h2 := ihb sc (base + a.cnt) x.2 hr.2.2.1 ((EF.on (m := { m with steps := m.steps + 1 }) he h1.1 (Nat.le_refl _)).up (by omega)) (by omega)
  generalize mW fuel b sc (base + a.cnt) x.2 = y at h2 ⊢
  have h3 := cell_ext y.2 (valueL rg) x.1 y.1 base (1 + (a.cnt + b.cnt))
  exact ⟨(h1.1.trans h2.1 (b := base) (c := a.cnt + b.cnt) (by omega) (by omega)).trans h3 (by omega) (by omega), cell_fit (h1.2.on h2.1) h2.2⟩
 | @fst G p nm rg a A B ha iha =>
  intro sc base m hr he hl
  simp only [PT.rgd, rgdL] at hr
  simp only [PT.cnt, cntL, Nat.add_zero] at hl ⊢
  simp only [mW, mOps, if_true, reduceCtorEq, if_false]
  refine begun_fit ?_
  have h1 := iha sc base { m with steps := m.steps + 1 } hr.2.1 he (by simp only; omega)
  generalize mW fuel a sc base { m with steps := m.steps + 1 } = x at h1 ⊢
  have h3 := use_ext x.2 x.1 base a.cnt
  exact ⟨h1.1.trans h3 (by omega) (by omega), (use_fit h1.2).1.on h3⟩
 | @snd G p nm rg a A B ha iha =>
  intro sc base m hr he hl
  simp only [PT.rgd, rgdL] at hr
  simp only [PT.cnt, cntL, Nat.add_zero] at hl ⊢
  simp only [mW, mOps, reduceCtorEq, if_false]
  refine begun_fit ?_
  have h1 := iha sc base { m with steps := m.steps + 1 } hr.2.1 he (by simp only; omega)
  generalize mW fuel a sc base { m with steps := m.steps + 1 } = x at h1 ⊢
  have h3 := use_ext x.2 x.1 base a.cnt
  exact ⟨h1.1.trans h3 (by omega) (by omega), (use_fit h1.2).2.on h3⟩
 | @if_ G p nm rg a b c T ha hb hc iha ihb ihc =>
  intro sc base m hr he hl
  simp only [PT.rgd, rgdL] at hr
  simp only [PT.cnt, cntL, Nat.add_zero] at hl ⊢
  simp only [mW, mIf, if_true, reduceCtorEq, if_false]
  refine begun_fit ?_
  have h1 := iha sc base { m with steps := m.steps + 1 } hr.2.1 he (by simp only; omega)
  generalize mW fuel a sc base { m with steps := m.steps + 1 } = x at h1 ⊢
  have hxl : x.2.named.length = m.named.length := h1.1.len
  have hx := EF.on (m := { m with steps := m.steps + 1 }) he h1.1 (Nat.le_refl _)
  split
  ·have h2 := ihb sc (base + a.cnt) x.2 hr.2.2.1 (hx.up (by omega)) (by omega)
   exact ⟨h1.1.trans h2.1 (by omega) (by omega), h2.2⟩
  ·have h2 := ihc sc (base + a.cnt + b.cnt) x.2 hr.2.2.2.1 (hx.up (by omega)) (by omega)
   exact ⟨h1.1.trans h2.1 (by omega) (by omega), h2.2⟩
 | @two G p k nm rg a b hk ha hb iha ihb =>
  intro sc base m hr he hl
  simp only [PT.rgd, rgdL] at hr
  simp only [PT.cnt, cntL, Nat.add_zero] at hl ⊢
  have e : mW fuel (.node p k nm rg [a, b]) sc base m = mBegun fuel m (fun m => (⟨false, mArith k (mW fuel a sc base m).1.n (mW fuel b sc (base + a.cnt) (mW fuel a sc base m).2).1.n⟩, (mW fuel b sc (base + a.cnt) (mW fuel a sc base m).2).2)) := by
   rcases hk with rfl | rfl | rfl <;> simp only [mW, mOps, reduceCtorEq, if_false]
  rw [e]
  refine begun_fit ?_
  have h1 := iha sc base { m with steps := m.steps + 1 } hr.2.1 he (by simp only; omega)
  generalize mW fuel a sc base { m with steps := m.steps + 1 } = x at h1 ⊢
  have hxl : x.2.named.length = m.named.length := h1.1.len
  have h2 := ihb sc (base + a.cnt) x.2 hr.2.2.1 ((EF.on (m := { m with steps := m.steps + 1 }) he h1.1 (Nat.le_refl _)).up (by omega)) (by omega)
  generalize mW fuel b sc (base + a.cnt) x.2 = y at h2 ⊢
  have f1 := h1.2
  have f2 := h2.2
  simp only [Fits] at f1 f2
  exact ⟨h1.1.trans h2.1 (by omega) (by omega), arith_fit _ _ _ _ f1.2 f2.2⟩
 | @loop G p nm rg a b c T ha hb hc iha ihb ihc =>
  intro sc base m hr he hl
  simp only [PT.rgd, rgdL] at hr
  simp only [PT.cnt, cntL, Nat.add_zero] at hl ⊢
  simp only [mW, mLoop, if_true, reduceCtorEq, if_false]
  refine begun_fit ?_
  have h1 := iha sc base { m with steps := m.steps + 1 } hr.2.1 he (by simp only; omega)
  generalize mW fuel a sc base { m with steps := m.steps + 1 } = x at h1 ⊢
  have hxl : x.2.named.length = m.named.length := h1.1.len
  have hx := EF.on (m := { m with steps := m.steps + 1 }) he h1.1 (Nat.le_refl _)
  have h2 := ihb sc (base + a.cnt) x.2 hr.2.2.1 (hx.up (by omega)) (by omega)
  generalize mW fuel b sc (base + a.cnt) x.2 = y at h2 ⊢
  have hyl : y.2.named.length = m.named.length := h2.1.len.trans hxl
  have hcb := cnt_pos' b
  have hy := hx.on h2.1 (by omega)
  rw [show (((base + a.cnt + b.cnt : Nat) : Int) - 1) = ((base + a.cnt + b.cnt - 1 : Nat) : Int) from by omega]
  have ht := turns_fit (base := base + a.cnt) (c := b.cnt + c.cnt) (j := base + a.cnt + b.cnt - 1) (T := T) (L := m.named.length) (P := fun m => EF m.named m.cells sc G base) (f := fun m => mW fuel c (sc ++ [(nm, ((base + a.cnt + b.cnt - 1 : Nat) : Int))]) (base + a.cnt + b.cnt) m) (by omega)
   (fun m' v hP hv hL => by
    have hsn := EF.snoc (nm := nm) (j := base + a.cnt + b.cnt - 1) (EF.up hP (show base ≤ base + a.cnt + b.cnt - 1 by omega)) (Nat.le_refl _) (by omega) hv
    rw [show base + a.cnt + b.cnt - 1 + 1 = base + a.cnt + b.cnt from by omega] at hsn
    have h3 := ihc _ (base + a.cnt + b.cnt) _ hr.2.2.2.1 hsn (by rw [(name_ext m' (base + a.cnt + b.cnt - 1) v (base + a.cnt + b.cnt - 1) 1 (by omega)).len]; omega)
    exact ⟨(Ext.refl _ (base + a.cnt) 0).trans h3.1 (by omega) (by omega), h3.2⟩)
   (fun m1 m2 hP hE => EF.on hP hE (by omega)) x.1.n.toNat y.1 y.2 hy h2.2 hyl
  exact ⟨(h1.1.trans h2.1 (b := base) (c := a.cnt + b.cnt) (by omega) (by omega)).trans ht.1 (by omega) (by omega), ht.2⟩
 | @new G p nm rg a T ha iha =>
  intro sc base m hr he hl
  simp only [PT.rgd, rgdL] at hr
  simp only [PT.cnt, cntL, Nat.add_zero] at hl ⊢
  simp only [mW, mNew, if_true]
  have h1 := iha sc base (m.opn (valueL rg)) hr.2.1 he (by show _ ≤ m.named.length; omega)
  generalize mW fuel a sc base (m.opn (valueL rg)) = x at h1 ⊢
  have h0 : Ext m (m.opn (valueL rg)) base a.cnt := Ext.same (by rfl) (by rfl) _ _
  have h3 := fin_ext x.2 base a.cnt
  exact ⟨(h0.trans h1.1 (b := base) (c := a.cnt) (by omega) (by omega)).trans h3 (by omega) (by omega), h1.2.on h3⟩
def Rep (cells : List MC) : Vl → MV → Prop
 | .n k, v => v.c = false ∧ v.n = k ∧ k ≤ 9999
 | .p a b, v => v.c = true ∧ ∃ (i : Nat) (c : MC), v.n = i ∧ cells[i]? = some c ∧ Rep cells a c.a ∧ Rep cells b c.b
theorem Rep.mono {cells l : List MC} : ∀ {x : Vl} {v : MV}, Rep cells x v → Rep (cells ++ l) x v
 | .n _, _, h => h
 | .p a b, _, h => by
  simp only [Rep] at h ⊢
  obtain ⟨hc, i, c, hv, hi, ha, hb⟩ := h
  refine ⟨hc, i, c, hv, ?_, Rep.mono ha, Rep.mono hb⟩
  rw [List.getElem?_append_left (List.getElem?_eq_some_iff.1 hi).1]; exact hi
theorem Rep.on {m m' : MM} {b c : Nat} {x : Vl} {v : MV} (h : Rep m.cells x v) (he : Ext m m' b c) : Rep m'.cells x v := by
 obtain ⟨l, hl⟩ := he.cells
 rw [hl]; exact h.mono
theorem Rep.fits {cells : List MC} : ∀ {x : Vl} {T : Ty} {v : MV}, Rep cells x v → x.has T → Fits cells T v
 | .n k, .n, v, h, _ => by simp only [Rep] at h; simp only [Fits]; exact ⟨h.1, by omega, by omega⟩
 | .p a b, .p _ A B, v, h, ht => by
  simp only [Rep] at h
  simp only [Vl.has] at ht
  obtain ⟨hc, i, c, hv, hi, ha, hb⟩ := h
  simp only [Fits]
  exact Or.inr ⟨hc, i, c, hv, hi, ha.fits ht.1, hb.fits ht.2⟩
 | .n _, .p _ _ _, _, _, ht => by simp [Vl.has] at ht
 | .p _ _, .n, _, _, ht => by simp [Vl.has] at ht
theorem fits_rp {cells : List MC} : ∀ {T : Ty} {v : MV}, Fits cells T v → ∃ x, Rep cells x v ∧ x.size ≤ T.size
 | .n, v, h => by simp only [Fits] at h; exact ⟨.n v.n.toNat, by simp only [Rep]; exact ⟨h.1, by omega, by omega⟩, by simp [Vl.size]⟩
 | .p r A B, v, h => by
  simp only [Fits] at h
  rcases h with h | ⟨hc, i, c, hv, hi, ha, hb⟩
  ·exact ⟨.n v.n.toNat, by simp only [Rep]; exact ⟨h.1, by omega, by omega⟩, by simp [Vl.size]⟩
  ·obtain ⟨x, hx, hxs⟩ := fits_rp ha
   obtain ⟨y, hy, hys⟩ := fits_rp hb
   exact ⟨.p x y, by simp only [Rep]; exact ⟨hc, i, c, hv, hi, hx, hy⟩, by simp only [Vl.size, Ty.size]; omega⟩
structure Sm (fuel : Nat) (st : ESt) (m : MM) : Prop where
 e : st.e = 0
 f : m.fault = 0
 s : m.steps = st.steps
 le : st.steps ≤ fuel
 c : m.cells.length = st.cells
 r : m.regs = [⟨-1, 0, st.cells⟩]
 l : m.live = st.cells
 o : m.most = st.cells
 h : ∀ c ∈ m.cells, c.home = 0 ∧ c.ser = 0
def Both (st : ESt) (m : MM) : Prop := st.e = 12 ∧ m.fault = 12
def SimOut (fuel : Nat) (y : Vl × ESt) (x : MV × MM) (T : Ty) : Prop := (Sm fuel y.2 x.2 ∧ Rep x.2.cells y.1 x.1 ∧ y.1.has T) ∨ Both y.2 x.2
def ER (named : List MV) (cells : List MC) (sc : Sc) (env : VEnv) (G : TEnv) (base : Nat) : Prop := ∀ s T, look G s = some T → ∃ (i : Nat) (v : MV), findS sc s = (i : Int) ∧ i < base ∧ named[i]? = some v ∧ Rep cells (lookV env s) v ∧ (lookV env s).has T
theorem ER.ef {named : List MV} {cells : List MC} {sc : Sc} {env : VEnv} {G : TEnv} {base : Nat} (h : ER named cells sc env G base) : EF named cells sc G base := by
 intro s T hl
 obtain ⟨i, v, h1, h2, h3, h4, h5⟩ := h s T hl
 exact ⟨i, v, h1, h2, h3, h4.fits h5⟩
theorem ER.on {m m' : MM} {sc : Sc} {env : VEnv} {G : TEnv} {base b c : Nat} (h : ER m.named m.cells sc env G base) (he : Ext m m' b c) (hb : base ≤ b) : ER m'.named m'.cells sc env G base := by
 intro s T hl
 obtain ⟨i, v, h1, h2, h3, h4, h5⟩ := h s T hl
 exact ⟨i, v, h1, h2, (he.named i (Or.inl (by omega))).trans h3, h4.on he, h5⟩
theorem ER.up {named : List MV} {cells : List MC} {sc : Sc} {env : VEnv} {G : TEnv} {base b : Nat} (h : ER named cells sc env G base) (hb : base ≤ b) : ER named cells sc env G b := by
 intro s T hl
 obtain ⟨i, v, h1, h2, h3, h4, h5⟩ := h s T hl
 exact ⟨i, v, h1, by omega, h3, h4, h5⟩
theorem lookV_snoc (env : VEnv) (nm : List UInt8) (x : Vl) (s : List UInt8) : lookV (env ++ [(nm, x)]) s = if nm = s then x else lookV env s := by
 unfold lookV
 rw [List.reverse_append]
 simp only [List.reverse_cons, List.reverse_nil, List.nil_append, List.singleton_append, List.find?_cons]
 by_cases h : nm = s
 ·simp [h]
 ·have : (nm == s) = false := by rw [beq_eq_false_iff_ne]; exact h
  simp [h, this]
theorem ER.snoc {m : MM} {sc : Sc} {env : VEnv} {G : TEnv} {base j : Nat} {nm : List UInt8} {T : Ty} {x : Vl} {v : MV} (h : ER m.named m.cells sc env G base) (hj : base ≤ j) (hl : j < m.named.length) (hv : Rep m.cells x v) (hx : x.has T) : ER (m.name (j : Int) v).named (m.name (j : Int) v).cells (sc ++ [(nm, (j : Int))]) (env ++ [(nm, x)]) (G ++ [(nm, T)]) (j + 1) := by
 have he := name_ext m j v j 1 (by omega)
 intro s T' hlk
 rw [look_snocF] at hlk
 rw [findS_snoc, lookV_snoc]
 by_cases hs : nm = s
 ·rw [if_pos hs] at hlk ⊢
  rw [if_pos hs]
  cases hlk
  exact ⟨j, v, rfl, by omega, name_at m j v hl, hv.on he, hx⟩
 ·rw [if_neg hs] at hlk ⊢
  rw [if_neg hs]
  obtain ⟨i, u, h1, h2, h3, h4, h5⟩ := h s T' hlk
  exact ⟨i, u, h1, by omega, (he.named i (Or.inl (by omega))).trans h3, h4.on he, h5⟩
theorem Sm.name {fuel : Nat} {st : ESt} {m : MM} (h : Sm fuel st m) (i : Int) (v : MV) : Sm fuel st (m.name i v) := by
 unfold MM.name; split
 ·exact ⟨h.e, h.f, h.s, h.le, h.c, h.r, h.l, h.o, h.h⟩
 ·exact h
theorem stop_keep (m : MM) (f : Nat) (h : m.fault ≠ 0) : m.stop f = m := by unfold MM.stop; rw [if_neg h]
theorem begun_keep (fuel : Nat) (m : MM) (f : MM → MV × MM) (h : m.fault ≠ 0) : mBegun fuel m f = (v0, m) := by
 unfold mBegun
 have : (if fuel ≤ m.steps then m.stop 12 else m) = m := by split <;> simp [stop_keep m 12 h]
 simp only [this]
 rw [if_pos h]
theorem ev_keep (fuel : Nat) (t : PT) (env : VEnv) (st : ESt) (h : st.e ≠ 0) : ev fuel t env st = (.n 0, st) := by
 cases t <;> (simp only [ev, begun]; rw [if_pos h])
inductive NoNew : PT → Prop
 | num {p : Nat} {s : List UInt8} : NoNew (.num p s)
 | name {p : Nat} {s : List UInt8} : NoNew (.name p s)
 | node {p : Nat} {k : Kw} {nm rg : List UInt8} {kids : List PT} (hk : k ≠ .new) (h : ∀ x ∈ kids, NoNew x) : NoNew (.node p k nm rg kids)
theorem mW_keep (fuel : Nat) (t : PT) (hn : NoNew t) (sc : Sc) (base : Nat) (m : MM) (h : m.fault ≠ 0) : mW fuel t sc base m = (v0, m) := by
 cases hn with
 | num => simp only [mW]; exact begun_keep fuel m _ h
 | name => simp only [mW]; exact begun_keep fuel m _ h
 | node hk _ => simp only [mW]; rw [if_neg hk]; exact begun_keep fuel m _ h
theorem both_keep {fuel : Nat} {t : PT} (hn : NoNew t) (sc : Sc) (base : Nat) (env : VEnv) {st : ESt} {m : MM} (h : Both st m) (T : Ty) : SimOut fuel (ev fuel t env st) (mW fuel t sc base m) T := by
 rw [ev_keep fuel t env st (by rw [h.1]; decide), mW_keep fuel t hn sc base m (by rw [h.2]; decide)]
 exact Or.inr h
theorem begun_sim {fuel : Nat} {st : ESt} {m : MM} {f : ESt → Vl × ESt} {g : MM → MV × MM} {T : Ty} (h : Sm fuel st m) (hk : Sm fuel { st with steps := st.steps + 1 } { m with steps := m.steps + 1 } → SimOut fuel (f { st with steps := st.steps + 1 }) (g { m with steps := m.steps + 1 }) T) : SimOut fuel (begun fuel st f) (mBegun fuel m g) T := by
 unfold begun mBegun
 have hs := h.s
 have hle := h.le
 rw [if_neg (fun hn => hn h.e)]
 by_cases hq : st.steps = fuel
 ·rw [if_pos hq]
  have hq' : fuel ≤ m.steps := by omega
  simp only [if_pos hq']
  have e : m.stop 12 = { m with fault := 12 } := by unfold MM.stop; rw [if_pos h.f]
  rw [e]
  exact Or.inr ⟨rfl, rfl⟩
 ·rw [if_neg hq]
  have hq' : ¬ fuel ≤ m.steps := by omega
  simp only [if_neg hq']
  rw [if_neg (fun hn => hn h.f)]
  exact hk ⟨h.e, h.f, by simp only; omega, by simp only; omega, h.c, h.r, h.l, h.o, h.h⟩
theorem turns_sim {fuel : Nat} {T : Ty} {j : Nat} {f : Vl → ESt → Vl × ESt} {g : MM → MV × MM} {P : MM → Prop} (hstep : ∀ st m x v, P m → Sm fuel st m → Rep m.cells x v → x.has T → SimOut fuel (f x st) (g (m.name (j : Int) v)) T ∧ P (g (m.name (j : Int) v)).2) : ∀ (k : Nat) (st : ESt) (m : MM) (x : Vl) (v : MV), P m → Sm fuel st m → Rep m.cells x v → x.has T → SimOut fuel (turns f k x st) (mTurns (j : Int) g k v m) T
 | 0, st, m, x, v, _, hs, hr, ht => Or.inl ⟨hs, hr, ht⟩
 | k + 1, st, m, x, v, hP, hs, hr, ht => by
  simp only [turns, mTurns]
  rw [if_neg (fun hn => hn hs.e), if_neg (fun hn => hn hs.f)]
  obtain ⟨h1, h2⟩ := hstep st m x v hP hs hr ht
  rcases h1 with ⟨a, b, c⟩ | hB
  ·exact turns_sim hstep k _ _ _ _ h2 a b c
  ·cases k with
   | zero => exact Or.inr hB
   | succ k =>
    simp only [turns, mTurns]
    rw [if_pos (by rw [hB.1]; decide), if_pos (by rw [hB.2]; decide)]
    exact Or.inr hB
end Go.Proofs.YtpicaknklgccoaaGreatDoor
namespace Go.Proofs.YtpicaknklgccoaaGreatDoor
open Go.Lib (decDigits)
def EnvHas (env : VEnv) (G : TEnv) : Prop := ∀ s T, look G s = some T → (lookV env s).has T
theorem EnvHas.snoc {env : VEnv} {G : TEnv} {nm : List UInt8} {v : Vl} {T : Ty} (h : EnvHas env G) (hv : v.has T) : EnvHas (env ++ [(nm, v)]) (G ++ [(nm, T)]) := by
 intro s U hs
 rw [look_snoc] at hs
 rw [lookV_snoc]
 by_cases e : nm = s
 ·rw [if_pos (by simpa using e)] at hs; rw [if_pos e]; cases hs; exact hv
 ·rw [if_neg (by simpa using e)] at hs; rw [if_neg e]; exact h s U hs
def Res (T : Ty) (st : ESt) (r : Vl × ESt) : Prop := (r.2.e = 0 → st.e = 0 ∧ r.1.has T) ∧ (r.2.e ≠ 0 → r.1 = .n 0)
theorem begun_res {fuel : Nat} {st : ESt} {T : Ty} {f : ESt → Vl × ESt} (h : ∀ st' : ESt, st'.e = 0 → st.e = 0 → Res T st' (f st')) : Res T st (begun fuel st f) := by
 unfold begun
 split
 ·rename_i he; exact ⟨fun e => absurd e he, fun _ => rfl⟩
 ·rename_i he
  have h0 : st.e = 0 := by simpa using he
  split
  ·exact ⟨fun e => by simp at e, fun _ => rfl⟩
  ·have := h { st with steps := st.steps + 1 } h0 h0
   exact ⟨fun e => ⟨h0, (this.1 e).2⟩, this.2⟩
theorem turns_res {T : Ty} {f : Vl → ESt → Vl × ESt} (hf : ∀ v st, (st.e = 0 → v.has T) → Res T st (f v st)) : ∀ (k : Nat) (v : Vl) (st : ESt), (st.e = 0 → v.has T) → (st.e ≠ 0 → v = .n 0) → Res T st (turns f k v st)
 | 0, v, st, h1, h2 => ⟨fun e => ⟨e, h1 e⟩, h2⟩
 | k + 1, v, st, h1, h2 => by
  unfold turns
  split
  ·rename_i he; exact ⟨fun e => absurd e he, h2⟩
  ·rename_i he
   have h0 : st.e = 0 := by simpa using he
   have hx := hf v st h1
   have := turns_res hf k (f v st).1 (f v st).2 (fun e => (hx.1 e).2) hx.2
   exact ⟨fun e => ⟨h0, (this.1 e).2⟩, this.2⟩
theorem has_num {v : Vl} (h : v.has .n) : ∃ k, v = .n k ∧ k ≤ 9999 := by
 cases v with
 | n k => exact ⟨k, rfl, h⟩
 | p a b => simp [Vl.has] at h
theorem NoNew.kid {p : Nat} {k : Kw} {nm rg : List UInt8} {kids : List PT} (h : NoNew (.node p k nm rg kids)) : ∀ x ∈ kids, NoNew x := by cases h with | node _ h => exact h
theorem NoNew.kw {p : Nat} {k : Kw} {nm rg : List UInt8} {kids : List PT} (h : NoNew (.node p k nm rg kids)) : k ≠ .new := by cases h with | node h _ => exact h
def partsV (fuel : Nat) (k : Kw) (kids : List PT) (env : VEnv) (st : ESt) : Vl × ESt :=
 if (evKids fuel kids env st).2.e ≠ 0 then (.n 0, (evKids fuel kids env st).2) else madeV k (evKids fuel kids env st).1 (evKids fuel kids env st).2
theorem partsV1 (fuel : Nat) (k : Kw) (x : PT) (env : VEnv) (st : ESt) : partsV fuel k [x] env st = if (ev fuel x env st).2.e ≠ 0 then (.n 0, (ev fuel x env st).2) else madeV k [(ev fuel x env st).1] (ev fuel x env st).2 := by
 unfold partsV; simp only [evKids]; rfl
theorem partsV2 (fuel : Nat) (k : Kw) (x y : PT) (env : VEnv) (st : ESt) : partsV fuel k [x, y] env st = if (ev fuel y env (ev fuel x env st).2).2.e ≠ 0 then (.n 0, (ev fuel y env (ev fuel x env st).2).2) else madeV k [(ev fuel x env st).1, (ev fuel y env (ev fuel x env st).2).1] (ev fuel y env (ev fuel x env st).2).2 := by
 unfold partsV; simp only [evKids]; rfl
theorem ev_parts (fuel p : Nat) (k : Kw) (nm rg : List UInt8) (kids : List PT) (env : VEnv) (st : ESt) (h1 : k ≠ .let_) (h2 : k ≠ .if_) (h3 : k ≠ .loop) : ev fuel (.node p k nm rg kids) env st = begun fuel st (fun st => partsV fuel k kids env st) := by
 conv => lhs; unfold ev
 simp only [if_neg h1, if_neg h2, if_neg h3]
 rfl
theorem ev_res (fuel : Nat) {G : TEnv} {t : PT} {T : Ty} (h : WT G t T) : ∀ (env : VEnv) (st : ESt), t.tame → NoNew t → (st.e = 0 → EnvHas env G) → Res T st (ev fuel t env st) := by
 induction h with
 | num =>
  intro env st ht hn he
  simp only [PT.tame] at ht
  unfold ev
  exact begun_res (fun st' h0 _ => ⟨fun _ => ⟨h0, by simp only [Vl.has]; omega⟩, fun e => absurd h0 e⟩)
 | name hl =>
  intro env st ht hn he
  unfold ev
  exact begun_res (fun st' h0 hs => ⟨fun _ => ⟨h0, he hs _ _ hl⟩, fun e => absurd h0 e⟩)
 | @let_ G p nm rg a b A B ha hb iha ihb =>
  intro env st ht hn he
  simp only [PT.tame, tameL] at ht
  unfold ev
  refine begun_res (fun st' h0 hs => ?_)
  simp only [if_pos, evLet]
  have x := iha env st' ht.2.1 (hn.kid _ (by simp)) (fun _ => he hs)
  have y := ihb (env ++ [(nm, (ev fuel a env st').1)]) (ev fuel a env st').2 ht.2.2.1 (hn.kid _ (by simp)) (fun e => (he (by have := (x.1 e).1; exact hs)).snoc (x.1 e).2)
  exact ⟨fun e => ⟨h0, (y.1 e).2⟩, y.2⟩
 | @pair G p nm rg a b A B ha hb hsz iha ihb =>
  intro env st ht hn he
  simp only [PT.tame, tameL] at ht
  rw [ev_parts _ _ _ _ _ _ _ _ (by decide) (by decide) (by decide)]
  refine begun_res (fun st' h0 hs => ?_)
  have x := iha env st' ht.2.1 (hn.kid _ (by simp)) (fun _ => he hs)
  have y := ihb env (ev fuel a env st').2 ht.2.2.1 (hn.kid _ (by simp)) (fun _ => he hs)
  rw [partsV2]
  split
  ·rename_i e1; exact ⟨fun e => absurd e e1, fun _ => rfl⟩
  ·rename_i e1
   have e0 : (ev fuel b env (ev fuel a env st').2).2.e = 0 := by simpa using e1
   have y0 := y.1 e0
   refine ⟨fun _ => ⟨h0, ?_⟩, fun e => absurd e0 e⟩
   simp only [madeV, Vl.has]
   exact ⟨(x.1 y0.1).2, y0.2⟩
 | @fst G p nm rg a A B ha iha =>
  intro env st ht hn he
  simp only [PT.tame, tameL] at ht
  rw [ev_parts _ _ _ _ _ _ _ _ (by decide) (by decide) (by decide)]
  refine begun_res (fun st' h0 hs => ?_)
  have x := iha env st' ht.2.1 (hn.kid _ (by simp)) (fun _ => he hs)
  rw [partsV1]
  split
  ·rename_i e1; exact ⟨fun e => absurd e e1, fun _ => rfl⟩
  ·rename_i e1
   have e0 : (ev fuel a env st').2.e = 0 := by simpa using e1
   have x0 := (x.1 e0).2
   refine ⟨fun _ => ⟨h0, ?_⟩, fun e => absurd e0 e⟩
   simp only [madeV]
   revert x0
   generalize (ev fuel a env st').1 = v
   intro x0
   cases v with
   | n k => simp [Vl.has] at x0
   | p u v => simp only [Vl.has] at x0; exact x0.1
 | @snd G p nm rg a A B ha iha =>
  intro env st ht hn he
  simp only [PT.tame, tameL] at ht
  rw [ev_parts _ _ _ _ _ _ _ _ (by decide) (by decide) (by decide)]
  refine begun_res (fun st' h0 hs => ?_)
  have x := iha env st' ht.2.1 (hn.kid _ (by simp)) (fun _ => he hs)
  rw [partsV1]
  split
  ·rename_i e1; exact ⟨fun e => absurd e e1, fun _ => rfl⟩
  ·rename_i e1
   have e0 : (ev fuel a env st').2.e = 0 := by simpa using e1
   have x0 := (x.1 e0).2
   refine ⟨fun _ => ⟨h0, ?_⟩, fun e => absurd e0 e⟩
   simp only [madeV]
   revert x0
   generalize (ev fuel a env st').1 = v
   intro x0
   cases v with
   | n k => simp [Vl.has] at x0
   | p u v => simp only [Vl.has] at x0; exact x0.2
 | @if_ G p nm rg a b c T ha hb hc iha ihb ihc =>
  intro env st ht hn he
  simp only [PT.tame, tameL] at ht
  unfold ev
  refine begun_res (fun st' h0 hs => ?_)
  simp only [reduceCtorEq, if_false, if_true, evIf]
  have x := iha env st' ht.2.1 (hn.kid _ (by simp)) (fun _ => he hs)
  split
  ·have y := ihb env (ev fuel a env st').2 ht.2.2.1 (hn.kid _ (by simp)) (fun _ => he hs)
   exact ⟨fun e => ⟨h0, (y.1 e).2⟩, y.2⟩
  ·have y := ihc env (ev fuel a env st').2 ht.2.2.2.1 (hn.kid _ (by simp)) (fun _ => he hs)
   exact ⟨fun e => ⟨h0, (y.1 e).2⟩, y.2⟩
 | @two G p k nm rg a b hk ha hb iha ihb =>
  intro env st ht hn he
  simp only [PT.tame, tameL] at ht
  have k1 : k ≠ .let_ := by rcases hk with rfl | rfl | rfl <;> decide
  have k2 : k ≠ .if_ := by rcases hk with rfl | rfl | rfl <;> decide
  have k3 : k ≠ .loop := by rcases hk with rfl | rfl | rfl <;> decide
  rw [ev_parts _ _ _ _ _ _ _ _ k1 k2 k3]
  refine begun_res (fun st' h0 hs => ?_)
  rw [partsV2]
  split
  ·rename_i e1; exact ⟨fun e => absurd e e1, fun _ => rfl⟩
  ·rename_i e1
   have e0 : (ev fuel b env (ev fuel a env st').2).2.e = 0 := by simpa using e1
   rcases hk with rfl | rfl | rfl
   all_goals
    refine ⟨fun _ => ⟨h0, ?_⟩, fun e => absurd e0 e⟩
    simp only [madeV, Vl.has]
    first | omega | (split <;> omega)
 | @loop G p nm rg a b c T ha hb hc iha ihb ihc =>
  intro env st ht hn he
  simp only [PT.tame, tameL] at ht
  unfold ev
  refine begun_res (fun st' h0 hs => ?_)
  simp only [reduceCtorEq, if_false, if_true, evLoop]
  have y := ihb env (ev fuel a env st').2 ht.2.2.1 (hn.kid _ (by simp)) (fun _ => he hs)
  have z := turns_res (f := fun v st => ev fuel c (env ++ [(nm, v)]) st) (fun v st hv => ihc (env ++ [(nm, v)]) st ht.2.2.2.1 (hn.kid _ (by simp)) (fun e => (he hs).snoc (hv e))) (ev fuel a env st').1.num (ev fuel b env (ev fuel a env st').2).1 (ev fuel b env (ev fuel a env st').2).2 (fun e => (y.1 e).2) y.2
  exact ⟨fun e => ⟨h0, (z.1 e).2⟩, z.2⟩
 | new ha iha =>
  intro env st ht hn he
  exact absurd rfl hn.kw
def Mono (fuel : Nat) (st st' : ESt) : Prop := st.steps ≤ fuel → st'.steps ≤ fuel ∧ st'.cells + st.steps ≤ st.cells + st'.steps ∧ st.steps ≤ st'.steps
theorem Mono.refl (fuel : Nat) (st : ESt) : Mono fuel st st := fun h => ⟨h, by omega, by omega⟩
theorem Mono.trans {fuel : Nat} {a b c : ESt} (h : Mono fuel a b) (h' : Mono fuel b c) : Mono fuel a c := fun h0 => by
 have h1 := h h0
 have h2 := h' h1.1
 exact ⟨h2.1, by omega, by omega⟩
theorem begun_mono {fuel : Nat} {st : ESt} {f : ESt → Vl × ESt} (h : ∀ st' : ESt, st'.steps = st.steps + 1 → st'.cells = st.cells → st'.steps ≤ fuel → (f st').2.steps ≤ fuel ∧ (f st').2.cells + st'.steps ≤ st'.cells + (f st').2.steps + 1 ∧ st'.steps ≤ (f st').2.steps) : Mono fuel st (begun fuel st f).2 := by
 unfold begun
 split
 ·exact Mono.refl _ _
 ·split
  ·exact fun h => ⟨h, by simp, by simp⟩
  ·rename_i hne
   intro h0
   have := h { st with steps := st.steps + 1 } rfl rfl (by simp only; omega)
   simp only at this ⊢
   omega
theorem turns_mono {fuel : Nat} {f : Vl → ESt → Vl × ESt} (hf : ∀ v st, Mono fuel st (f v st).2) : ∀ (k : Nat) (v : Vl) (st : ESt), Mono fuel st (turns f k v st).2
 | 0, _, st => Mono.refl _ _
 | k + 1, v, st => by
  unfold turns
  split
  ·exact Mono.refl _ _
  ·exact (hf v st).trans (turns_mono hf k _ _)
theorem made_mono (k : Kw) (vs : List Vl) (st : ESt) : (madeV k vs st).2.steps = st.steps ∧ (madeV k vs st).2.cells ≤ st.cells + 1 := by
 unfold madeV
 split <;> simp
mutual
theorem ev_mono (fuel : Nat) : ∀ (t : PT) (env : VEnv) (st : ESt), Mono fuel st (ev fuel t env st).2
 | .num _ s, env, st => by
  unfold ev; exact begun_mono (fun st' _ _ h => ⟨h, by simp, Nat.le_refl _⟩)
 | .name _ s, env, st => by
  unfold ev; exact begun_mono (fun st' _ _ h => ⟨h, by simp, Nat.le_refl _⟩)
 | .node _ k nm _ kids, env, st => by
  unfold ev
  refine begun_mono (fun st' _ _ h => ?_)
  split
  ·have := evLet_mono fuel nm kids env st' h; omega
  ·split
   ·have := evIf_mono fuel kids env st' h; omega
   ·split
    ·have := evLoop_mono fuel nm kids env st' h; omega
    ·have := evKids_mono fuel kids env st' h
     simp only
     split
     ·simp only; omega
     ·have := made_mono k (evKids fuel kids env st').1 (evKids fuel kids env st').2
      omega
theorem evKids_mono (fuel : Nat) : ∀ (ts : List PT) (env : VEnv) (st : ESt), Mono fuel st (evKids fuel ts env st).2
 | [], _, st => by simp only [evKids]; exact Mono.refl _ _
 | a :: r, env, st => by simp only [evKids]; exact (ev_mono fuel a env st).trans (evKids_mono fuel r env _)
theorem evLet_mono (fuel : Nat) (nm : List UInt8) : ∀ (ts : List PT) (env : VEnv) (st : ESt), Mono fuel st (evLet fuel nm ts env st).2
 | [a, b], env, st => by simp only [evLet]; exact (ev_mono fuel a env st).trans (ev_mono fuel b _ _)
 | [], _, st => by simp only [evLet]; exact Mono.refl _ _
 | [_], _, st => by simp only [evLet]; exact Mono.refl _ _
 | _ :: _ :: _ :: _, _, st => by simp only [evLet]; exact Mono.refl _ _
theorem evIf_mono (fuel : Nat) : ∀ (ts : List PT) (env : VEnv) (st : ESt), Mono fuel st (evIf fuel ts env st).2
 | [a, b, c], env, st => by
  simp only [evIf]
  split
  ·exact (ev_mono fuel a env st).trans (ev_mono fuel b _ _)
  ·exact (ev_mono fuel a env st).trans (ev_mono fuel c _ _)
 | [], _, st => by simp only [evIf]; exact Mono.refl _ _
 | [_], _, st => by simp only [evIf]; exact Mono.refl _ _
 | [_, _], _, st => by simp only [evIf]; exact Mono.refl _ _
 | _ :: _ :: _ :: _ :: _, _, st => by simp only [evIf]; exact Mono.refl _ _
theorem evLoop_mono (fuel : Nat) (nm : List UInt8) : ∀ (ts : List PT) (env : VEnv) (st : ESt), Mono fuel st (evLoop fuel nm ts env st).2
 | [a, b, c], env, st => by
  simp only [evLoop]
  exact ((ev_mono fuel a env st).trans (ev_mono fuel b _ _)).trans (turns_mono (fun v st => ev_mono fuel c _ st) _ _ _)
 | [], _, st => by simp only [evLoop]; exact Mono.refl _ _
 | [_], _, st => by simp only [evLoop]; exact Mono.refl _ _
 | [_, _], _, st => by simp only [evLoop]; exact Mono.refl _ _
 | _ :: _ :: _ :: _ :: _, _, st => by simp only [evLoop]; exact Mono.refl _ _
end
end Go.Proofs.YtpicaknklgccoaaGreatDoor
namespace Go.Proofs.YtpicaknklgccoaaGreatDoor
open Go.RowKit
open Go.Lib (decDigits)
theorem regT_if (k : Kw) (rg : List UInt8) : regT (if k = .pair then rg else []) = if k = .pair then regT rg else [] := by split <;> rfl
theorem ktext_any (rg : List UInt8) : ∀ {vs : List Nat} {x : KE} {t : Nat}, KT vs x t → vs.length ≤ 101 → KText rg x := by
 intro vs x t h
 induction h with
 | num h => intro _; exact text_num rg _ (by omega)
 | var h =>
  intro hl
  refine text_var rg _ ?_
  have := (List.getElem?_eq_some_iff.1 h).1
  omega
 | let_ _ hl _ _ ha hb =>
  intro _
  refine text_node rg _ .let_ _ [_, _] (by decide) (by omega) ?_ (fun w p h => knode2 h) (by simp) ?_
  ·simp only [KE.pt, PT.tidy, tidyL, regT_if, join_bind, List.map_cons, List.map_nil]
  ·intro y hy
   simp only [List.mem_cons, List.not_mem_nil, or_false] at hy
   rcases hy with rfl | rfl
   ·exact ha (by omega)
   ·exact hb (by simp; omega)
 | if_ _ _ _ ha hb hc =>
  intro hl
  refine text_node rg _ .if_ 0 [_, _, _] (by decide) (by omega) ?_ (fun w p h => knode3 h) (by simp) ?_
  ·simp only [KE.pt, PT.tidy, tidyL, join_bind, List.map_cons, List.map_nil]
   rfl
  ·intro y hy
   simp only [List.mem_cons, List.not_mem_nil, or_false] at hy
   rcases hy with rfl | rfl | rfl
   ·exact ha hl
   ·exact hb hl
   ·exact hc hl
 | loop hl _ _ _ ha hb hc =>
  intro _
  refine text_node rg _ .loop _ [_, _, _] (by decide) (by omega) ?_ (fun w p h => knode3 h) (by simp) ?_
  ·simp only [KE.pt, PT.tidy, tidyL, join_bind, List.map_cons, List.map_nil]
   rfl
  ·intro y hy
   simp only [List.mem_cons, List.not_mem_nil, or_false] at hy
   rcases hy with rfl | rfl | rfl
   ·exact ha (by omega)
   ·exact hb (by omega)
   ·exact hc (by simp; omega)
 | pair _ _ _ _ ha hb =>
  intro hl
  refine text_node rg _ .pair 0 [_, _] (by decide) (by omega) ?_ (fun w p h => knode2 h) (by simp) ?_
  ·simp only [KE.pt, PT.tidy, tidyL, join_bind, List.map_cons, List.map_nil, if_true]
  ·intro y hy
   simp only [List.mem_cons, List.not_mem_nil, or_false] at hy
   rcases hy with rfl | rfl
   ·exact ha hl
   ·exact hb hl
 | fst _ _ _ ha =>
  intro hl
  refine text_node rg _ .fst 0 [_] (by decide) (by omega) ?_ (fun w p h => knode1 h) (by simp) ?_
  ·simp only [KE.pt, PT.tidy, tidyL, List.map_cons, List.map_nil, ← join_bind]
   rfl
  ·intro y hy
   simp only [List.mem_cons, List.not_mem_nil, or_false] at hy
   subst hy
   exact ha hl
 | snd _ _ _ ha =>
  intro hl
  refine text_node rg _ .snd 0 [_] (by decide) (by omega) ?_ (fun w p h => knode1 h) (by simp) ?_
  ·simp only [KE.pt, PT.tidy, tidyL, List.map_cons, List.map_nil, ← join_bind]
   rfl
  ·intro y hy
   simp only [List.mem_cons, List.not_mem_nil, or_false] at hy
   subst hy
   exact ha hl
 | two hk _ _ ha hb =>
  intro hl
  refine text_node rg _ _ 0 [_, _] (by rcases hk with rfl | rfl | rfl <;> decide) (by omega) ?_ (fun w p h => knode2 h) (by simp) ?_
  ·simp only [KE.pt, PT.tidy, tidyL, regT_if, join_bind, List.map_cons, List.map_nil]
  ·intro y hy
   simp only [List.mem_cons, List.not_mem_nil, or_false] at hy
   rcases hy with rfl | rfl
   ·exact ha hl
   ·exact hb hl
def kvV (n : Nat) (a b : Value) : Array Value := #[.int .i64 n, a, b]
def KVal (w : World) : Vl → Nat → Prop
 | .n k, p => w.heap[p]? = some (.cells (kvV k (.pointer none) (.pointer none)) 141 (0, 0))
 | .p a b, p => ∃ pa pb : Nat, w.heap[p]? = some (.cells (kvV 0 (.pointer (some ⟨pa, 0, none⟩)) (.pointer (some ⟨pb, 0, none⟩))) 141 (0, 0)) ∧ KVal w a pa ∧ KVal w b pb
theorem KVal.keep {w w' : World} (h : ∀ (k : Nat) (arr : Array Value), w.heap[k]? = some (.cells arr 141 (0, 0)) → w'.heap[k]? = some (.cells arr 141 (0, 0))) : ∀ {v : Vl} {p : Nat}, KVal w v p → KVal w' v p
 | .n _, _, hx => h _ _ hx
 | .p _ _, _, ⟨pa, pb, h1, h2, h3⟩ => ⟨pa, pb, h _ _ h1, KVal.keep h h2, KVal.keep h h3⟩
theorem KVal.below {w w' : World} {v : Vl} {p : Nat} (h : KVal w v p) (hb : Below w.heap.size w w') : KVal w' v p := h.keep (fun k _ hk => (hb.block k (blk_lt hk)).trans hk)
theorem KVal.num {w : World} {v : Vl} {p : Nat} (h : KVal w v p) : p < w.heap.size ∧ w.cell? ⟨p, 0, none⟩ = some (.int .i64 v.num) := by
 cases v with
 | n k => have h' : w.heap[p]? = some (.cells (kvV k (.pointer none) (.pointer none)) 141 (0, 0)) := h; exact ⟨blk_lt h', by rw [blk_cell h']; rfl⟩
 | p a b => obtain ⟨pa, pb, h1, _, _⟩ := h; exact ⟨blk_lt h1, by rw [blk_cell h1]; rfl⟩
def ptrsV (l : List Nat) : List Value := l.map (fun (k : Nat) => Value.pointer (some ⟨k, 0, none⟩))
theorem ptrsV_len (l : List Nat) : (ptrsV l).length = l.length := by simp [ptrsV]
theorem ptrsV_snoc (l : List Nat) (v : Nat) : ptrsV (l ++ [v]) = ptrsV l ++ [.pointer (some ⟨v, 0, none⟩)] := by simp [ptrsV]
def wkCells (nv : Value) (fuel : Nat) (st : ESt) : Array Value := #[nv, .int .i64 fuel, .int .i64 st.steps, .int .i64 st.cells, .bool (decide (st.e ≠ 0))]
structure WkIn (w0 w : World) (yb : Nat) (vals : List Vl) (ps : List Nat) (fuel : Nat) (st : ESt) (nv : Value) : Prop where
 ob : ObIn w0 w yb (wkCells nv fuel st) 103 nv 104 (ptrsV ps)
 len : ps.length = vals.length
 v : ∀ (i : Nat) (v : Vl) (p : Nat), vals[i]? = some v → ps[i]? = some p → KVal w v p
theorem KVal.fr {w0 w w' : World} {yb : Nat} {cs : Array Value} {xs : List Value} {nv nv' : Value} {v : Vl} {p : Nat} (h : KVal w v p) (hm : ObIn w0 w yb cs 103 nv 104 xs) (hf : FrO w w' yb nv nv') : KVal w' v p :=
 h.keep (fun k arr hk => hm.other hf (by decide) (by decide) hk)
theorem WkIn.grow {w0 w w' : World} {yb : Nat} {vals : List Vl} {ps : List Nat} {fuel : Nat} {st : ESt} {nv : Value} (h : WkIn w0 w yb vals ps fuel st nv) (hb : Below w.heap.size w w') : WkIn w0 w' yb vals ps fuel st nv :=
 ⟨h.ob.grow hb, h.len, fun i v p h1 h2 => (h.v i v p h1 h2).below hb⟩
theorem WkIn.set {w0 w : World} {yb : Nat} {vals : List Vl} {ps : List Nat} {fuel : Nat} {st st' : ESt} {nv : Value} (h : WkIn w0 w yb vals ps fuel st nv) (o : Nat) (x : Value) (hx : (wkCells nv fuel st).setIfInBounds o x = wkCells nv fuel st') : WkIn w0 (w.setCell ⟨yb, o, none⟩ x) yb vals ps fuel st' nv :=
 ⟨h.ob.set o x hx, h.len, fun i v p h1 h2 => (h.v i v p h1 h2).fr h.ob (FrO.set1 w yb nv o x)⟩
set_option maxRecDepth 100000 in
set_option maxHeartbeats 1000000 in
theorem ktold_any : ∀ (v : Vl) (T : Ty) (p : Nat) (w : World), v.has T → T.size ≤ 63 → KVal w v p → (∀ W, Below w.heap.size w W → ItoaOk W) →
  Calls Tryz.prog 52 #[.pointer (some ⟨p, 0, none⟩)] w fun e w' => e = .returned (.string (bs v.txt)) ∧ Below w.heap.size w w'
 | .n k, T, p, w, hv, _, hk, hit => by
  have hk9 : k ≤ 9999 := by
   cases T with
   | n => exact hv
   | p _ _ _ => exact hv.elim
  have hk' : w.heap[p]? = some (.cells (kvV k (.pointer none) (.pointer none)) 141 (0, 0)) := hk
  have hp := blk_lt hk'
  have x0 : w.cell? ⟨p, 0, none⟩ = some (.int .i64 k) := by rw [blk_cell hk']; rfl
  have x1 : w.cell? ⟨p, 1, none⟩ = some (.pointer none) := by rw [blk_cell hk']; rfl
  have HI : Hid _ := hit w (Below.refl _ _) k w hk9 (Below.refl _ _)
  simp only [Vl.txt]
  clear hk hk' hit hv
  go_enter Tryz.func52, Tryz.ntmps52
  go_wp2_with fail
  refine Calls.mono HI.out ?_
  rintro _ w2 ⟨rfl, hb⟩
  go_wp2
  go_ret
  exact ⟨rfl, hb⟩
 | .p a b, T, p, w, hv, hT, hk, hit => by
  obtain ⟨r, A, B, rfl, ha, hb⟩ : ∃ r A B, T = .p r A B ∧ a.has A ∧ b.has B := by
   cases T with
   | n => exact hv.elim
   | p r A B => exact ⟨r, A, B, rfl, hv.1, hv.2⟩
  simp only [Ty.size] at hT
  obtain ⟨pa, pb, h1, h2, h3⟩ := hk
  have hp := blk_lt h1
  have x1 : w.cell? ⟨p, 1, none⟩ = some (.pointer (some ⟨pa, 0, none⟩)) := by rw [blk_cell h1]; rfl
  have x2 : w.cell? ⟨p, 2, none⟩ = some (.pointer (some ⟨pb, 0, none⟩)) := by rw [blk_cell h1]; rfl
  have HA : Hid _ := ktold_any a A pa w ha (by omega) h2 hit
  have HB : Hid _ := fun W hW => ktold_any b B pb W hb (by omega) (h3.below hW) (fun W' hW' => hit W' (hW.trans (hW'.mono hW.size)))
  have la := Vl.has_len ha
  have lb := Vl.has_len hb
  have z1 : (ByteArray.mk #[91]).size = 1 := rfl
  have z2 : (ByteArray.mk #[32]).size = 1 := rfl
  have z3 : (ByteArray.mk #[93]).size = 1 := rfl
  have zA : (bs a.txt).size ≤ 1000 := by rw [bs_size]; omega
  have zB : (bs b.txt).size ≤ 1000 := by rw [bs_size]; omega
  have zC : (ByteArray.mk #[91] ++ bs a.txt).size ≤ 1001 := by rw [ByteArray.size_append]; omega
  have zD : (ByteArray.mk #[91] ++ bs a.txt ++ ByteArray.mk #[32]).size ≤ 1002 := by rw [ByteArray.size_append]; omega
  have zE : (ByteArray.mk #[91] ++ bs a.txt ++ ByteArray.mk #[32] ++ bs b.txt).size ≤ 2002 := by rw [ByteArray.size_append]; omega
  have hfin : ByteArray.mk #[91] ++ bs a.txt ++ ByteArray.mk #[32] ++ bs b.txt ++ ByteArray.mk #[93] = bs (Vl.txt (.p a b)) := by
   rw [show ByteArray.mk #[91] = bs [91] from rfl, show ByteArray.mk #[32] = bs [32] from rfl, show ByteArray.mk #[93] = bs [93] from rfl, bs_app, bs_app, bs_app, bs_app]
   simp [Vl.txt]
  have HFIN : Hid _ := hfin
  clear hfin h1 h2 h3 hit hv ha hb la lb
  go_enter Tryz.func52, Tryz.ntmps52
  go_wp2_with fail
  refine Calls.mono HA.out ?_
  rintro _ w2 ⟨rfl, hb2⟩
  have y2 : w2.cell? ⟨p, 2, none⟩ = some (.pointer (some ⟨pb, 0, none⟩)) := (hb2.cell (p := ⟨p, 2, none⟩) hp).trans x2
  have hp2 : p < w2.heap.size := by have := hb2.size; omega
  have HB2 : Hid _ := hb2
  clear hb2 HA
  go_wp2_with fail
  refine Calls.mono (HB.out w2 HB2.out) ?_
  rintro _ w3 ⟨rfl, hb3⟩
  have HB3 : Hid _ := HB2.out.trans (hb3.mono HB2.out.size)
  clear hb3 HB
  go_wp2
  go_ret
  exact ⟨by rw [← HFIN.out]; rfl, HB3.out⟩
end Go.Proofs.YtpicaknklgccoaaGreatDoor
namespace Go.Proofs.YtpicaknklgccoaaGreatDoor
open Go.RowKit
mutual
def PT.prl : PT → List (Nat × List UInt8)
 | .num _ _ => []
 | .name _ _ => []
 | .node p k _ rg kids => (if k = .pair then [(p, rg)] else []) ++ prlL kids
def prlL : List PT → List (Nat × List UInt8)
 | [] => []
 | t :: r => t.prl ++ prlL r
end
mutual
theorem prl_len : ∀ t : PT, t.prl.length = t.prs
 | .num _ _ => rfl
 | .name _ _ => rfl
 | .node _ k _ _ kids => by simp only [PT.prl, PT.prs, List.length_append, prlL_len kids]; split <;> rfl
theorem prlL_len : ∀ ts : List PT, (prlL ts).length = prsL ts
 | [] => rfl
 | t :: r => by simp only [prlL, prsL, List.length_append, prl_len t, prlL_len r]
end
def st0 (t : PT) : TSt := ⟨0, 0, List.replicate t.cnt []⟩
mutual
theorem PE.wf {placed : Bool} : ∀ {l : List Tk} {e : PT} {r : List Tk}, PE placed l e r → e.wf
 | _, _, _, .num _ => by simp [PT.wf]
 | _, _, _, .name _ => by simp [PT.wf]
 | _, _, _, .node (k := k) _ _ h3 h4 => by
  simp only [PT.wf]
  refine ⟨?_, PW.wfl h4⟩
  rw [PW.kids_len h4]
  cases k <;> cases placed <;> first | decide | exact absurd rfl h3
theorem PW.wfl {placed : Bool} : ∀ {ws : List Wt} {l : List Tk} {nm rg : List UInt8} {kids : List PT} {r : List Tk}, PW placed ws l nm rg kids r → wfL kids
 | _, _, _, _, _, _, .nil => by simp [wfL]
 | _, _, _, _, _, _, .close _ h1 => PW.wfl h1
 | _, _, _, _, _, _, .name _ h1 => PW.wfl h1
 | _, _, _, _, _, _, .region _ h1 => PW.wfl h1
 | _, _, _, _, _, _, .e h h1 => by simp only [wfL]; exact ⟨PE.wf h, PW.wfl h1⟩
end
theorem Tryz.infoInt : (Tryz.prog.info? 3).map (fun i => (i.zero, i.size, i.bytes)) = some (some (.int .i64 0), 1, 8) := by kernel_rfl
theorem Tryz.undInts : Tryz.prog.underlying 42 = some (.slice 3) := by kernel_rfl
theorem Study_len {s : ByteArray} {placed : Bool} {e : PT} (hp : PE placed (tokens s.data.toList) e []) : e.cnt ≤ s.size := by
 have h1 := hp.used.1
 have h2 := toks_len s.data.toList.length 0 s.data.toList
 rw [size_list] at h2
 unfold tokens at h1
 rw [size_list] at h1
 simp at h1
 omega
def chkAns (e : PT) : Nat × Nat :=
 if 100 < e.prs then (3, ((e.prl[100]?).map (·.1)).getD 0)
 else ((tyFind (List.range e.prs) e 0 0 [] (st0 e)).2.e, (tyFind (List.range e.prs) e 0 0 [] (st0 e)).2.at_)
end Go.Proofs.YtpicaknklgccoaaGreatDoor
