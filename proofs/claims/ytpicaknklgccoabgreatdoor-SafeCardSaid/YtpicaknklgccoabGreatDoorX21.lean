import Derived.Test.YtpicaknklgccoabGreatDoorX20
import Derived.Test.YtpicaknklgccoabGreatDoorX1
import Derived.Test.YtpicaknklgccoabGreatDoorX19
import Derived.Test.YtpicaknklgccoabGreatDoorX3
namespace Go.Proofs.YtpicaknklgccoabGreatDoor
theorem arith_fit (cells : List MC) (k : Kw) (a b : Int) (ha : 0 ≤ a ∧ a ≤ 9999) (hb : 0 ≤ b ∧ b ≤ 9999) : Fits cells .n ⟨false, mArith k a b⟩ := by
 simp only [Fits, mArith, true_and]
 split
 ·rw [Int.tmod_eq_emod_of_nonneg (by omega)]; omega
 ·split
  ·rw [Int.tmod_eq_emod_of_nonneg (by omega)]; omega
  ·split <;> omega
theorem use_fit {m : MM} {A B : Ty} {r : Nat} {v : MV} (h : Fits m.cells (.p r A B) v) : Fits m.cells A (m.use v).1.a ∧ Fits m.cells B (m.use v).1.b := by
 simp only [Fits] at h
 rcases h with h | ⟨hc, i, c, hv, hi, ha, hb⟩
 ·have e : (m.use v).1 = c0 := by unfold MM.use; rw [if_pos (Or.inl h.1)]
  rw [e]; exact ⟨fits_v0 _ _, fits_v0 _ _⟩
 ·have hil := (List.getElem?_eq_some_iff.1 hi).1
  have e : (m.use v).1 = c := by
   unfold MM.use
   rw [if_neg (by rw [hc, hv]; simp; omega)]
   simp only
   rw [hv, Int.toNat_natCast, List.getD_eq_getElem?_getD, hi]; rfl
  rw [e]; exact ⟨ha, hb⟩
theorem cell_fit {m : MM} {A B : Ty} {k : Int} {a b : MV} (ha : Fits m.cells A a) (hb : Fits m.cells B b) : Fits (m.newCell k a b).2.cells (.p 0 A B) (m.newCell k a b).1 := by
 have he := cell_ext m k a b 0 0
 unfold MM.newCell at he ⊢
 split
 ·exact fits_v0 _ _
 ·rename_i r hr
  simp only [Fits]
  refine Or.inr ⟨trivial, m.cells.length, ⟨a, b, m.home k, r.ser⟩, rfl, by simp, ha.mono, hb.mono⟩
set_option maxHeartbeats 1000000 in
theorem mW_fits (fuel : Nat) {G : TEnv} {t : PT} {T : Ty} (h : WT G t T) : ∀ (sc : Sc) (base : Nat) (m : MM), t.rgd → EF m.named m.cells sc G base → base + t.cnt ≤ m.named.length → FitOut m (mW fuel t sc base m) base t.cnt T := by
 induction h with
 | num =>
  intro sc base m hr he hl
  simp only [PT.rgd] at hr
  simp only [mW]
  exact begun_fit ⟨Ext.refl _ _ _, by simp only [Fits, true_and]; exact hr⟩
 | name hlk =>
  intro sc base m hr he hl
  simp only [mW]
  refine begun_fit ⟨Ext.refl _ _ _, ?_⟩
  obtain ⟨i, v, h1, h2, h3, h4⟩ := he _ _ hlk
  have hil := (List.getElem?_eq_some_iff.1 h3).1
  unfold MM.look
  simp only [h1]
  rw [if_neg (by omega), Int.toNat_natCast, List.getD_eq_getElem?_getD, h3]
  exact h4
 | @let_ G p nm rg a b A B ha hb iha ihb =>
  intro sc base m hr he hl
  simp only [PT.rgd, rgdL] at hr
  simp only [PT.cnt, cntL, Nat.add_zero] at hl ⊢
  simp only [mW, mLet, if_true, reduceCtorEq, if_false]
  refine begun_fit ?_
  have h1 := iha sc base { m with steps := m.steps + 1 } hr.2.1 he (by simp only; omega)
  generalize mW fuel a sc base { m with steps := m.steps + 1 } = x at h1 ⊢
  have hca := cnt_pos' a
  have hxl : x.2.named.length = m.named.length := h1.1.len
  have hx := EF.on (m := { m with steps := m.steps + 1 }) he h1.1 (Nat.le_refl _)
  rw [show (((base + a.cnt : Nat) : Int) - 1) = ((base + a.cnt - 1 : Nat) : Int) from by omega]
  have hsn := hx.snoc (nm := nm) (j := base + a.cnt - 1) (by omega) (by omega) h1.2
  rw [show base + a.cnt - 1 + 1 = base + a.cnt from by omega] at hsn
  have hne := name_ext x.2 (base + a.cnt - 1) x.1 base a.cnt (by omega)
  have h2 := ihb _ (base + a.cnt) _ hr.2.2.1 hsn (by rw [hne.len, hxl]; omega)
  exact ⟨(h1.1.trans hne (b := base) (c := a.cnt) (by omega) (by omega)).trans h2.1 (by omega) (by omega), h2.2⟩
 | @pair G p nm rg a b A B ha hb hs iha ihb =>
  intro sc base m hr he hl
  simp only [PT.rgd, rgdL] at hr
  simp only [PT.cnt, cntL, Nat.add_zero] at hl ⊢
  simp only [mW, mOps, if_true, reduceCtorEq, if_false]
  refine begun_fit ?_
  have h1 := iha sc base { m with steps := m.steps + 1 } hr.2.1 he (by simp only; omega)
  generalize mW fuel a sc base { m with steps := m.steps + 1 } = x at h1 ⊢
  have hxl : x.2.named.length = m.named.length := h1.1.len
  have h2 := ihb sc (base + a.cnt) x.2 hr.2.2.1 ((EF.on (m := { m with steps := m.steps + 1 }) he h1.1 (Nat.le_refl _)).up (by omega)) (by omega)
  generalize mW fuel b sc (base + a.cnt) x.2 = y at h2 ⊢
  have h3 := cell_ext y.2 (valueL rg) x.1 y.1 base (1 + (a.cnt + b.cnt))
  exact ⟨(h1.1.trans h2.1 (b := base) (c := a.cnt + b.cnt) (by omega) (by omega)).trans h3 (by omega) (by omega), cell_fit (h1.2.on h2.1) h2.2⟩
 | @fst G p nm rg a A B ha iha =>
  intro sc base m hr he hl
  simp only [PT.rgd, rgdL] at hr
  simp only [PT.cnt, cntL, Nat.add_zero] at hl ⊢
  simp only [mW, mOps, if_true, reduceCtorEq, if_false]
  refine begun_fit ?_
  have h1 := iha sc base { m with steps := m.steps + 1 } hr.2.1 he (by simp only; omega)
  generalize mW fuel a sc base { m with steps := m.steps + 1 } = x at h1 ⊢
  have h3 := use_ext x.2 x.1 base a.cnt
  exact ⟨h1.1.trans h3 (by omega) (by omega), (use_fit h1.2).1.on h3⟩
 | @snd G p nm rg a A B ha iha =>
  intro sc base m hr he hl
  simp only [PT.rgd, rgdL] at hr
  simp only [PT.cnt, cntL, Nat.add_zero] at hl ⊢
  simp only [mW, mOps, reduceCtorEq, if_false]
  refine begun_fit ?_
  have h1 := iha sc base { m with steps := m.steps + 1 } hr.2.1 he (by simp only; omega)
  generalize mW fuel a sc base { m with steps := m.steps + 1 } = x at h1 ⊢
  have h3 := use_ext x.2 x.1 base a.cnt
  exact ⟨h1.1.trans h3 (by omega) (by omega), (use_fit h1.2).2.on h3⟩
 | @if_ G p nm rg a b c T ha hb hc iha ihb ihc =>
  intro sc base m hr he hl
  simp only [PT.rgd, rgdL] at hr
  simp only [PT.cnt, cntL, Nat.add_zero] at hl ⊢
  simp only [mW, mIf, if_true, reduceCtorEq, if_false]
  refine begun_fit ?_
  have h1 := iha sc base { m with steps := m.steps + 1 } hr.2.1 he (by simp only; omega)
  generalize mW fuel a sc base { m with steps := m.steps + 1 } = x at h1 ⊢
  have hxl : x.2.named.length = m.named.length := h1.1.len
  have hx := EF.on (m := { m with steps := m.steps + 1 }) he h1.1 (Nat.le_refl _)
  split
  ·have h2 := ihb sc (base + a.cnt) x.2 hr.2.2.1 (hx.up (by omega)) (by omega)
   exact ⟨h1.1.trans h2.1 (by omega) (by omega), h2.2⟩
  ·have h2 := ihc sc (base + a.cnt + b.cnt) x.2 hr.2.2.2.1 (hx.up (by omega)) (by omega)
   exact ⟨h1.1.trans h2.1 (by omega) (by omega), h2.2⟩
 | @two G p k nm rg a b hk ha hb iha ihb =>
  intro sc base m hr he hl
  simp only [PT.rgd, rgdL] at hr
  simp only [PT.cnt, cntL, Nat.add_zero] at hl ⊢
  have e : mW fuel (.node p k nm rg [a, b]) sc base m = mBegun fuel m (fun m => (⟨false, mArith k (mW fuel a sc base m).1.n (mW fuel b sc (base + a.cnt) (mW fuel a sc base m).2).1.n⟩, (mW fuel b sc (base + a.cnt) (mW fuel a sc base m).2).2)) := by
   rcases hk with rfl | rfl | rfl <;> simp only [mW, mOps, reduceCtorEq, if_false]
  rw [e]
  refine begun_fit ?_
  have h1 := iha sc base { m with steps := m.steps + 1 } hr.2.1 he (by simp only; omega)
  generalize mW fuel a sc base { m with steps := m.steps + 1 } = x at h1 ⊢
  have hxl : x.2.named.length = m.named.length := h1.1.len
  have h2 := ihb sc (base + a.cnt) x.2 hr.2.2.1 ((EF.on (m := { m with steps := m.steps + 1 }) he h1.1 (Nat.le_refl _)).up (by omega)) (by omega)
  generalize mW fuel b sc (base + a.cnt) x.2 = y at h2 ⊢
  have f1 := h1.2
  have f2 := h2.2
  simp only [Fits] at f1 f2
  exact ⟨h1.1.trans h2.1 (by omega) (by omega), arith_fit _ _ _ _ f1.2 f2.2⟩
 | @loop G p nm rg a b c T ha hb hc iha ihb ihc =>
  intro sc base m hr he hl
  simp only [PT.rgd, rgdL] at hr
  simp only [PT.cnt, cntL, Nat.add_zero] at hl ⊢
  simp only [mW, mLoop, if_true, reduceCtorEq, if_false]
  refine begun_fit ?_
  have h1 := iha sc base { m with steps := m.steps + 1 } hr.2.1 he (by simp only; omega)
  generalize mW fuel a sc base { m with steps := m.steps + 1 } = x at h1 ⊢
  have hxl : x.2.named.length = m.named.length := h1.1.len
  have hx := EF.on (m := { m with steps := m.steps + 1 }) he h1.1 (Nat.le_refl _)
  have h2 := ihb sc (base + a.cnt) x.2 hr.2.2.1 (hx.up (by omega)) (by omega)
  generalize mW fuel b sc (base + a.cnt) x.2 = y at h2 ⊢
  have hyl : y.2.named.length = m.named.length := h2.1.len.trans hxl
  have hcb := cnt_pos' b
  have hy := hx.on h2.1 (by omega)
  rw [show (((base + a.cnt + b.cnt : Nat) : Int) - 1) = ((base + a.cnt + b.cnt - 1 : Nat) : Int) from by omega]
  have ht := turns_fit (base := base + a.cnt) (c := b.cnt + c.cnt) (j := base + a.cnt + b.cnt - 1) (T := T) (L := m.named.length) (P := fun m => EF m.named m.cells sc G base) (f := fun m => mW fuel c (sc ++ [(nm, ((base + a.cnt + b.cnt - 1 : Nat) : Int))]) (base + a.cnt + b.cnt) m) (by omega)
   (fun m' v hP hv hL => by
    have hsn := EF.snoc (nm := nm) (j := base + a.cnt + b.cnt - 1) (EF.up hP (show base ≤ base + a.cnt + b.cnt - 1 by omega)) (Nat.le_refl _) (by omega) hv
    rw [show base + a.cnt + b.cnt - 1 + 1 = base + a.cnt + b.cnt from by omega] at hsn
    have h3 := ihc _ (base + a.cnt + b.cnt) _ hr.2.2.2.1 hsn (by rw [(name_ext m' (base + a.cnt + b.cnt - 1) v (base + a.cnt + b.cnt - 1) 1 (by omega)).len]; omega)
    exact ⟨(Ext.refl _ (base + a.cnt) 0).trans h3.1 (by omega) (by omega), h3.2⟩)
   (fun m1 m2 hP hE => EF.on hP hE (by omega)) x.1.n.toNat y.1 y.2 hy h2.2 hyl
  exact ⟨(h1.1.trans h2.1 (b := base) (c := a.cnt + b.cnt) (by omega) (by omega)).trans ht.1 (by omega) (by omega), ht.2⟩
 | @new G p nm rg a T ha iha =>
  intro sc base m hr he hl
  simp only [PT.rgd, rgdL] at hr
  simp only [PT.cnt, cntL, Nat.add_zero] at hl ⊢
  simp only [mW, mNew, if_true]
  have h1 := iha sc base (m.opn (valueL rg)) hr.2.1 he (by show _ ≤ m.named.length; omega)
  generalize mW fuel a sc base (m.opn (valueL rg)) = x at h1 ⊢
  have h0 : Ext m (m.opn (valueL rg)) base a.cnt := Ext.same (by rfl) (by rfl) _ _
  have h3 := fin_ext x.2 base a.cnt
  exact ⟨(h0.trans h1.1 (b := base) (c := a.cnt) (by omega) (by omega)).trans h3 (by omega) (by omega), h1.2.on h3⟩
def Rep (cells : List MC) : Vl → MV → Prop
 | .n k, v => v.c = false ∧ v.n = k ∧ k ≤ 9999
 | .p a b, v => v.c = true ∧ ∃ (i : Nat) (c : MC), v.n = i ∧ cells[i]? = some c ∧ Rep cells a c.a ∧ Rep cells b c.b
theorem Rep.mono {cells l : List MC} : ∀ {x : Vl} {v : MV}, Rep cells x v → Rep (cells ++ l) x v
 | .n _, _, h => h
 | .p a b, _, h => by
  simp only [Rep] at h ⊢
  obtain ⟨hc, i, c, hv, hi, ha, hb⟩ := h
  refine ⟨hc, i, c, hv, ?_, Rep.mono ha, Rep.mono hb⟩
  rw [List.getElem?_append_left (List.getElem?_eq_some_iff.1 hi).1]; exact hi
theorem Rep.on {m m' : MM} {b c : Nat} {x : Vl} {v : MV} (h : Rep m.cells x v) (he : Ext m m' b c) : Rep m'.cells x v := by
 obtain ⟨l, hl⟩ := he.cells
 rw [hl]; exact h.mono
theorem Rep.fits {cells : List MC} : ∀ {x : Vl} {T : Ty} {v : MV}, Rep cells x v → x.has T → Fits cells T v
 | .n k, .n, v, h, _ => by simp only [Rep] at h; simp only [Fits]; exact ⟨h.1, by omega, by omega⟩
 | .p a b, .p _ A B, v, h, ht => by
  simp only [Rep] at h
  simp only [Vl.has] at ht
  obtain ⟨hc, i, c, hv, hi, ha, hb⟩ := h
  simp only [Fits]
  exact Or.inr ⟨hc, i, c, hv, hi, ha.fits ht.1, hb.fits ht.2⟩
 | .n _, .p _ _ _, _, _, ht => by simp [Vl.has] at ht
 | .p _ _, .n, _, _, ht => by simp [Vl.has] at ht
theorem fits_rp {cells : List MC} : ∀ {T : Ty} {v : MV}, Fits cells T v → ∃ x, Rep cells x v ∧ x.size ≤ T.size
 | .n, v, h => by simp only [Fits] at h; exact ⟨.n v.n.toNat, by simp only [Rep]; exact ⟨h.1, by omega, by omega⟩, by simp [Vl.size]⟩
 | .p r A B, v, h => by
  simp only [Fits] at h
  rcases h with h | ⟨hc, i, c, hv, hi, ha, hb⟩
  ·exact ⟨.n v.n.toNat, by simp only [Rep]; exact ⟨h.1, by omega, by omega⟩, by simp [Vl.size]⟩
  ·obtain ⟨x, hx, hxs⟩ := fits_rp ha
   obtain ⟨y, hy, hys⟩ := fits_rp hb
   exact ⟨.p x y, by simp only [Rep]; exact ⟨hc, i, c, hv, hi, hx, hy⟩, by simp only [Vl.size, Ty.size]; omega⟩
def Both (st : ESt) (m : MM) : Prop := st.e = 12 ∧ m.fault = 12
def ER (named : List MV) (cells : List MC) (sc : Sc) (env : VEnv) (G : TEnv) (base : Nat) : Prop := ∀ s T, look G s = some T → ∃ (i : Nat) (v : MV), findS sc s = (i : Int) ∧ i < base ∧ named[i]? = some v ∧ Rep cells (lookV env s) v ∧ (lookV env s).has T
theorem ER.ef {named : List MV} {cells : List MC} {sc : Sc} {env : VEnv} {G : TEnv} {base : Nat} (h : ER named cells sc env G base) : EF named cells sc G base := by
 intro s T hl
 obtain ⟨i, v, h1, h2, h3, h4, h5⟩ := h s T hl
 exact ⟨i, v, h1, h2, h3, h4.fits h5⟩
theorem ER.on {m m' : MM} {sc : Sc} {env : VEnv} {G : TEnv} {base b c : Nat} (h : ER m.named m.cells sc env G base) (he : Ext m m' b c) (hb : base ≤ b) : ER m'.named m'.cells sc env G base := by
 intro s T hl
 obtain ⟨i, v, h1, h2, h3, h4, h5⟩ := h s T hl
 exact ⟨i, v, h1, h2, (he.named i (Or.inl (by omega))).trans h3, h4.on he, h5⟩
theorem ER.up {named : List MV} {cells : List MC} {sc : Sc} {env : VEnv} {G : TEnv} {base b : Nat} (h : ER named cells sc env G base) (hb : base ≤ b) : ER named cells sc env G b := by
 intro s T hl
 obtain ⟨i, v, h1, h2, h3, h4, h5⟩ := h s T hl
 exact ⟨i, v, h1, by omega, h3, h4, h5⟩
theorem lookV_snoc (env : VEnv) (nm : List UInt8) (x : Vl) (s : List UInt8) : lookV (env ++ [(nm, x)]) s = if nm = s then x else lookV env s := by
 unfold lookV
 rw [List.reverse_append]
 simp only [List.reverse_cons, List.reverse_nil, List.nil_append, List.singleton_append, List.find?_cons]
 by_cases h : nm = s
 ·simp [h]
 ·have : (nm == s) = false := by rw [beq_eq_false_iff_ne]; exact h
  simp [h, this]
theorem ER.snoc {m : MM} {sc : Sc} {env : VEnv} {G : TEnv} {base j : Nat} {nm : List UInt8} {T : Ty} {x : Vl} {v : MV} (h : ER m.named m.cells sc env G base) (hj : base ≤ j) (hl : j < m.named.length) (hv : Rep m.cells x v) (hx : x.has T) : ER (m.name (j : Int) v).named (m.name (j : Int) v).cells (sc ++ [(nm, (j : Int))]) (env ++ [(nm, x)]) (G ++ [(nm, T)]) (j + 1) := by
 have he := name_ext m j v j 1 (by omega)
 intro s T' hlk
 rw [look_snocF] at hlk
 rw [findS_snoc, lookV_snoc]
 by_cases hs : nm = s
 ·rw [if_pos hs] at hlk ⊢
  rw [if_pos hs]
  cases hlk
  exact ⟨j, v, rfl, by omega, name_at m j v hl, hv.on he, hx⟩
 ·rw [if_neg hs] at hlk ⊢
  rw [if_neg hs]
  obtain ⟨i, u, h1, h2, h3, h4, h5⟩ := h s T' hlk
  exact ⟨i, u, h1, by omega, (he.named i (Or.inl (by omega))).trans h3, h4.on he, h5⟩
theorem stop_keep (m : MM) (f : Nat) (h : m.fault ≠ 0) : m.stop f = m := by unfold MM.stop; rw [if_neg h]
theorem begun_keep (fuel : Nat) (m : MM) (f : MM → MV × MM) (h : m.fault ≠ 0) : mBegun fuel m f = (v0, m) := by
 unfold mBegun
 have : (if fuel ≤ m.steps then m.stop 12 else m) = m := by split <;> simp [stop_keep m 12 h]
 simp only [this]
 rw [if_pos h]
theorem ev_keep (fuel : Nat) (t : PT) (env : VEnv) (st : ESt) (h : st.e ≠ 0) : ev fuel t env st = (.n 0, st) := by
 cases t <;> (simp only [ev, begun]; rw [if_pos h])
inductive NoNew : PT → Prop
 | num {p : Nat} {s : List UInt8} : NoNew (.num p s)
 | name {p : Nat} {s : List UInt8} : NoNew (.name p s)
 | node {p : Nat} {k : Kw} {nm rg : List UInt8} {kids : List PT} (hk : k ≠ .new) (h : ∀ x ∈ kids, NoNew x) : NoNew (.node p k nm rg kids)
end Go.Proofs.YtpicaknklgccoabGreatDoor
namespace Go.Proofs.YtpicaknklgccoabGreatDoor
open Go.Lib (decDigits)
def EnvHas (env : VEnv) (G : TEnv) : Prop := ∀ s T, look G s = some T → (lookV env s).has T
theorem EnvHas.snoc {env : VEnv} {G : TEnv} {nm : List UInt8} {v : Vl} {T : Ty} (h : EnvHas env G) (hv : v.has T) : EnvHas (env ++ [(nm, v)]) (G ++ [(nm, T)]) := by
 intro s U hs
 rw [look_snoc] at hs
 rw [lookV_snoc]
 by_cases e : nm = s
 ·rw [if_pos (by simpa using e)] at hs; rw [if_pos e]; cases hs; exact hv
 ·rw [if_neg (by simpa using e)] at hs; rw [if_neg e]; exact h s U hs
def Res (T : Ty) (st : ESt) (r : Vl × ESt) : Prop := (r.2.e = 0 → st.e = 0 ∧ r.1.has T) ∧ (r.2.e ≠ 0 → r.1 = .n 0)
theorem begun_res {fuel : Nat} {st : ESt} {T : Ty} {f : ESt → Vl × ESt} (h : ∀ st' : ESt, st'.e = 0 → st.e = 0 → Res T st' (f st')) : Res T st (begun fuel st f) := by
 unfold begun
 split
 ·rename_i he; exact ⟨fun e => absurd e he, fun _ => rfl⟩
 ·rename_i he
  have h0 : st.e = 0 := by simpa using he
  split
  ·exact ⟨fun e => by simp at e, fun _ => rfl⟩
  ·have := h { st with steps := st.steps + 1 } h0 h0
   exact ⟨fun e => ⟨h0, (this.1 e).2⟩, this.2⟩
theorem turns_res {T : Ty} {f : Vl → ESt → Vl × ESt} (hf : ∀ v st, (st.e = 0 → v.has T) → Res T st (f v st)) : ∀ (k : Nat) (v : Vl) (st : ESt), (st.e = 0 → v.has T) → (st.e ≠ 0 → v = .n 0) → Res T st (turns f k v st)
 | 0, v, st, h1, h2 => ⟨fun e => ⟨e, h1 e⟩, h2⟩
 | k + 1, v, st, h1, h2 => by
  unfold turns
  split
  ·rename_i he; exact ⟨fun e => absurd e he, h2⟩
  ·rename_i he
   have h0 : st.e = 0 := by simpa using he
   have hx := hf v st h1
   have := turns_res hf k (f v st).1 (f v st).2 (fun e => (hx.1 e).2) hx.2
   exact ⟨fun e => ⟨h0, (this.1 e).2⟩, this.2⟩
theorem has_num {v : Vl} (h : v.has .n) : ∃ k, v = .n k ∧ k ≤ 9999 := by
 cases v with
 | n k => exact ⟨k, rfl, h⟩
 | p a b => simp [Vl.has] at h
theorem NoNew.kid {p : Nat} {k : Kw} {nm rg : List UInt8} {kids : List PT} (h : NoNew (.node p k nm rg kids)) : ∀ x ∈ kids, NoNew x := by cases h with | node _ h => exact h
theorem NoNew.kw {p : Nat} {k : Kw} {nm rg : List UInt8} {kids : List PT} (h : NoNew (.node p k nm rg kids)) : k ≠ .new := by cases h with | node h _ => exact h
def partsV (fuel : Nat) (k : Kw) (kids : List PT) (env : VEnv) (st : ESt) : Vl × ESt :=
 if (evKids fuel kids env st).2.e ≠ 0 then (.n 0, (evKids fuel kids env st).2) else madeV k (evKids fuel kids env st).1 (evKids fuel kids env st).2
theorem partsV1 (fuel : Nat) (k : Kw) (x : PT) (env : VEnv) (st : ESt) : partsV fuel k [x] env st = if (ev fuel x env st).2.e ≠ 0 then (.n 0, (ev fuel x env st).2) else madeV k [(ev fuel x env st).1] (ev fuel x env st).2 := by
 unfold partsV; simp only [evKids]; rfl
theorem partsV2 (fuel : Nat) (k : Kw) (x y : PT) (env : VEnv) (st : ESt) : partsV fuel k [x, y] env st = if (ev fuel y env (ev fuel x env st).2).2.e ≠ 0 then (.n 0, (ev fuel y env (ev fuel x env st).2).2) else madeV k [(ev fuel x env st).1, (ev fuel y env (ev fuel x env st).2).1] (ev fuel y env (ev fuel x env st).2).2 := by
 unfold partsV; simp only [evKids]; rfl
theorem ev_parts (fuel p : Nat) (k : Kw) (nm rg : List UInt8) (kids : List PT) (env : VEnv) (st : ESt) (h1 : k ≠ .let_) (h2 : k ≠ .if_) (h3 : k ≠ .loop) : ev fuel (.node p k nm rg kids) env st = begun fuel st (fun st => partsV fuel k kids env st) := by
 conv => lhs; unfold ev
 simp only [if_neg h1, if_neg h2, if_neg h3]
 rfl
theorem ev_res (fuel : Nat) {G : TEnv} {t : PT} {T : Ty} (h : WT G t T) : ∀ (env : VEnv) (st : ESt), t.tame → NoNew t → (st.e = 0 → EnvHas env G) → Res T st (ev fuel t env st) := by
 induction h with
 | num =>
  intro env st ht hn he
  simp only [PT.tame] at ht
  unfold ev
  exact begun_res (fun st' h0 _ => ⟨fun _ => ⟨h0, by simp only [Vl.has]; omega⟩, fun e => absurd h0 e⟩)
 | name hl =>
  intro env st ht hn he
  unfold ev
  exact begun_res (fun st' h0 hs => ⟨fun _ => ⟨h0, he hs _ _ hl⟩, fun e => absurd h0 e⟩)
 | @let_ G p nm rg a b A B ha hb iha ihb =>
  intro env st ht hn he
  simp only [PT.tame, tameL] at ht
  unfold ev
  refine begun_res (fun st' h0 hs => ?_)
  simp only [if_pos, evLet]
  have x := iha env st' ht.2.1 (hn.kid _ (by simp)) (fun _ => he hs)
  have y := ihb (env ++ [(nm, (ev fuel a env st').1)]) (ev fuel a env st').2 ht.2.2.1 (hn.kid _ (by simp)) (fun e => (he (by have := (x.1 e).1; exact hs)).snoc (x.1 e).2)
  exact ⟨fun e => ⟨h0, (y.1 e).2⟩, y.2⟩
 | @pair G p nm rg a b A B ha hb hsz iha ihb =>
  intro env st ht hn he
  simp only [PT.tame, tameL] at ht
  rw [ev_parts _ _ _ _ _ _ _ _ (by decide) (by decide) (by decide)]
  refine begun_res (fun st' h0 hs => ?_)
  have x := iha env st' ht.2.1 (hn.kid _ (by simp)) (fun _ => he hs)
  have y := ihb env (ev fuel a env st').2 ht.2.2.1 (hn.kid _ (by simp)) (fun _ => he hs)
  rw [partsV2]
  split
  ·rename_i e1; exact ⟨fun e => absurd e e1, fun _ => rfl⟩
  ·rename_i e1
   have e0 : (ev fuel b env (ev fuel a env st').2).2.e = 0 := by simpa using e1
   have y0 := y.1 e0
   refine ⟨fun _ => ⟨h0, ?_⟩, fun e => absurd e0 e⟩
   simp only [madeV, Vl.has]
   exact ⟨(x.1 y0.1).2, y0.2⟩
 | @fst G p nm rg a A B ha iha =>
  intro env st ht hn he
  simp only [PT.tame, tameL] at ht
  rw [ev_parts _ _ _ _ _ _ _ _ (by decide) (by decide) (by decide)]
  refine begun_res (fun st' h0 hs => ?_)
  have x := iha env st' ht.2.1 (hn.kid _ (by simp)) (fun _ => he hs)
  rw [partsV1]
  split
  ·rename_i e1; exact ⟨fun e => absurd e e1, fun _ => rfl⟩
  ·rename_i e1
   have e0 : (ev fuel a env st').2.e = 0 := by simpa using e1
   have x0 := (x.1 e0).2
   refine ⟨fun _ => ⟨h0, ?_⟩, fun e => absurd e0 e⟩
   simp only [madeV]
   revert x0
   generalize (ev fuel a env st').1 = v
   intro x0
   cases v with
   | n k => simp [Vl.has] at x0
   | p u v => simp only [Vl.has] at x0; exact x0.1
 | @snd G p nm rg a A B ha iha =>
  intro env st ht hn he
  simp only [PT.tame, tameL] at ht
  rw [ev_parts _ _ _ _ _ _ _ _ (by decide) (by decide) (by decide)]
  refine begun_res (fun st' h0 hs => ?_)
  have x := iha env st' ht.2.1 (hn.kid _ (by simp)) (fun _ => he hs)
  rw [partsV1]
  split
  ·rename_i e1; exact ⟨fun e => absurd e e1, fun _ => rfl⟩
  ·rename_i e1
   have e0 : (ev fuel a env st').2.e = 0 := by simpa using e1
   have x0 := (x.1 e0).2
   refine ⟨fun _ => ⟨h0, ?_⟩, fun e => absurd e0 e⟩
   simp only [madeV]
   revert x0
   generalize (ev fuel a env st').1 = v
   intro x0
   cases v with
   | n k => simp [Vl.has] at x0
   | p u v => simp only [Vl.has] at x0; exact x0.2
 | @if_ G p nm rg a b c T ha hb hc iha ihb ihc =>
  intro env st ht hn he
  simp only [PT.tame, tameL] at ht
  unfold ev
  refine begun_res (fun st' h0 hs => ?_)
  simp only [reduceCtorEq, if_false, if_true, evIf]
  have x := iha env st' ht.2.1 (hn.kid _ (by simp)) (fun _ => he hs)
  split
  ·have y := ihb env (ev fuel a env st').2 ht.2.2.1 (hn.kid _ (by simp)) (fun _ => he hs)
   exact ⟨fun e => ⟨h0, (y.1 e).2⟩, y.2⟩
  ·have y := ihc env (ev fuel a env st').2 ht.2.2.2.1 (hn.kid _ (by simp)) (fun _ => he hs)
   exact ⟨fun e => ⟨h0, (y.1 e).2⟩, y.2⟩
 | @two G p k nm rg a b hk ha hb iha ihb =>
  intro env st ht hn he
  simp only [PT.tame, tameL] at ht
  have k1 : k ≠ .let_ := by rcases hk with rfl | rfl | rfl <;> decide
  have k2 : k ≠ .if_ := by rcases hk with rfl | rfl | rfl <;> decide
  have k3 : k ≠ .loop := by rcases hk with rfl | rfl | rfl <;> decide
  rw [ev_parts _ _ _ _ _ _ _ _ k1 k2 k3]
  refine begun_res (fun st' h0 hs => ?_)
  rw [partsV2]
  split
  ·rename_i e1; exact ⟨fun e => absurd e e1, fun _ => rfl⟩
  ·rename_i e1
   have e0 : (ev fuel b env (ev fuel a env st').2).2.e = 0 := by simpa using e1
   rcases hk with rfl | rfl | rfl
   all_goals
    refine ⟨fun _ => ⟨h0, ?_⟩, fun e => absurd e0 e⟩
    simp only [madeV, Vl.has]
    first | omega | (split <;> omega)
 | @loop G p nm rg a b c T ha hb hc iha ihb ihc =>
  intro env st ht hn he
  simp only [PT.tame, tameL] at ht
  unfold ev
  refine begun_res (fun st' h0 hs => ?_)
  simp only [reduceCtorEq, if_false, if_true, evLoop]
  have y := ihb env (ev fuel a env st').2 ht.2.2.1 (hn.kid _ (by simp)) (fun _ => he hs)
  have z := turns_res (f := fun v st => ev fuel c (env ++ [(nm, v)]) st) (fun v st hv => ihc (env ++ [(nm, v)]) st ht.2.2.2.1 (hn.kid _ (by simp)) (fun e => (he hs).snoc (hv e))) (ev fuel a env st').1.num (ev fuel b env (ev fuel a env st').2).1 (ev fuel b env (ev fuel a env st').2).2 (fun e => (y.1 e).2) y.2
  exact ⟨fun e => ⟨h0, (z.1 e).2⟩, z.2⟩
 | new ha iha =>
  intro env st ht hn he
  exact absurd rfl hn.kw
def Mono (fuel : Nat) (st st' : ESt) : Prop := st.steps ≤ fuel → st'.steps ≤ fuel ∧ st'.cells + st.steps ≤ st.cells + st'.steps ∧ st.steps ≤ st'.steps
theorem Mono.refl (fuel : Nat) (st : ESt) : Mono fuel st st := fun h => ⟨h, by omega, by omega⟩
theorem Mono.trans {fuel : Nat} {a b c : ESt} (h : Mono fuel a b) (h' : Mono fuel b c) : Mono fuel a c := fun h0 => by
 have h1 := h h0
 have h2 := h' h1.1
 exact ⟨h2.1, by omega, by omega⟩
theorem begun_mono {fuel : Nat} {st : ESt} {f : ESt → Vl × ESt} (h : ∀ st' : ESt, st'.steps = st.steps + 1 → st'.cells = st.cells → st'.steps ≤ fuel → (f st').2.steps ≤ fuel ∧ (f st').2.cells + st'.steps ≤ st'.cells + (f st').2.steps + 1 ∧ st'.steps ≤ (f st').2.steps) : Mono fuel st (begun fuel st f).2 := by
 unfold begun
 split
 ·exact Mono.refl _ _
 ·split
  ·exact fun h => ⟨h, by simp, by simp⟩
  ·rename_i hne
   intro h0
   have := h { st with steps := st.steps + 1 } rfl rfl (by simp only; omega)
   simp only at this ⊢
   omega
theorem turns_mono {fuel : Nat} {f : Vl → ESt → Vl × ESt} (hf : ∀ v st, Mono fuel st (f v st).2) : ∀ (k : Nat) (v : Vl) (st : ESt), Mono fuel st (turns f k v st).2
 | 0, _, st => Mono.refl _ _
 | k + 1, v, st => by
  unfold turns
  split
  ·exact Mono.refl _ _
  ·exact (hf v st).trans (turns_mono hf k _ _)
theorem made_mono (k : Kw) (vs : List Vl) (st : ESt) : (madeV k vs st).2.steps = st.steps ∧ (madeV k vs st).2.cells ≤ st.cells + 1 := by
 unfold madeV
 split <;> simp
mutual
theorem ev_mono (fuel : Nat) : ∀ (t : PT) (env : VEnv) (st : ESt), Mono fuel st (ev fuel t env st).2
 | .num _ s, env, st => by
  unfold ev; exact begun_mono (fun st' _ _ h => ⟨h, by simp, Nat.le_refl _⟩)
 | .name _ s, env, st => by
  unfold ev; exact begun_mono (fun st' _ _ h => ⟨h, by simp, Nat.le_refl _⟩)
 | .node _ k nm _ kids, env, st => by
  unfold ev
  refine begun_mono (fun st' _ _ h => ?_)
  split
  ·have := evLet_mono fuel nm kids env st' h; omega
  ·split
   ·have := evIf_mono fuel kids env st' h; omega
   ·split
    ·have := evLoop_mono fuel nm kids env st' h; omega
    ·have := evKids_mono fuel kids env st' h
     simp only
     split
     ·simp only; omega
     ·have := made_mono k (evKids fuel kids env st').1 (evKids fuel kids env st').2
      omega
theorem evKids_mono (fuel : Nat) : ∀ (ts : List PT) (env : VEnv) (st : ESt), Mono fuel st (evKids fuel ts env st).2
 | [], _, st => by simp only [evKids]; exact Mono.refl _ _
 | a :: r, env, st => by simp only [evKids]; exact (ev_mono fuel a env st).trans (evKids_mono fuel r env _)
theorem evLet_mono (fuel : Nat) (nm : List UInt8) : ∀ (ts : List PT) (env : VEnv) (st : ESt), Mono fuel st (evLet fuel nm ts env st).2
 | [a, b], env, st => by simp only [evLet]; exact (ev_mono fuel a env st).trans (ev_mono fuel b _ _)
 | [], _, st => by simp only [evLet]; exact Mono.refl _ _
 | [_], _, st => by simp only [evLet]; exact Mono.refl _ _
 | _ :: _ :: _ :: _, _, st => by simp only [evLet]; exact Mono.refl _ _
theorem evIf_mono (fuel : Nat) : ∀ (ts : List PT) (env : VEnv) (st : ESt), Mono fuel st (evIf fuel ts env st).2
 | [a, b, c], env, st => by
  simp only [evIf]
  split
  ·exact (ev_mono fuel a env st).trans (ev_mono fuel b _ _)
  ·exact (ev_mono fuel a env st).trans (ev_mono fuel c _ _)
 | [], _, st => by simp only [evIf]; exact Mono.refl _ _
 | [_], _, st => by simp only [evIf]; exact Mono.refl _ _
 | [_, _], _, st => by simp only [evIf]; exact Mono.refl _ _
 | _ :: _ :: _ :: _ :: _, _, st => by simp only [evIf]; exact Mono.refl _ _
theorem evLoop_mono (fuel : Nat) (nm : List UInt8) : ∀ (ts : List PT) (env : VEnv) (st : ESt), Mono fuel st (evLoop fuel nm ts env st).2
 | [a, b, c], env, st => by
  simp only [evLoop]
  exact ((ev_mono fuel a env st).trans (ev_mono fuel b _ _)).trans (turns_mono (fun v st => ev_mono fuel c _ st) _ _ _)
 | [], _, st => by simp only [evLoop]; exact Mono.refl _ _
 | [_], _, st => by simp only [evLoop]; exact Mono.refl _ _
 | [_, _], _, st => by simp only [evLoop]; exact Mono.refl _ _
 | _ :: _ :: _ :: _ :: _, _, st => by simp only [evLoop]; exact Mono.refl _ _
end
end Go.Proofs.YtpicaknklgccoabGreatDoor
namespace Go.Proofs.YtpicaknklgccoabGreatDoor
open Go.RowKit
open Go.Lib (decDigits)
theorem regT_if (k : Kw) (rg : List UInt8) : regT (if k = .pair then rg else []) = if k = .pair then regT rg else [] := by split <;> rfl
theorem ktext_any (rg : List UInt8) : ∀ {vs : List Nat} {x : KE} {t : Nat}, KT vs x t → vs.length ≤ 101 → KText rg x := by
 intro vs x t h
 induction h with
 | num h => intro _; exact text_num rg _ (by omega)
 | var h =>
  intro hl
  refine text_var rg _ ?_
  have := (List.getElem?_eq_some_iff.1 h).1
  omega
 | let_ _ hl _ _ ha hb =>
  intro _
  refine text_node rg _ .let_ _ [_, _] (by decide) (by omega) ?_ (fun w p h => knode2 h) (by simp) ?_
  ·simp only [KE.pt, PT.tidy, tidyL, regT_if, join_bind, List.map_cons, List.map_nil]
  ·intro y hy
   simp only [List.mem_cons, List.not_mem_nil, or_false] at hy
   rcases hy with rfl | rfl
   ·exact ha (by omega)
   ·exact hb (by simp; omega)
 | if_ _ _ _ ha hb hc =>
  intro hl
  refine text_node rg _ .if_ 0 [_, _, _] (by decide) (by omega) ?_ (fun w p h => knode3 h) (by simp) ?_
  ·simp only [KE.pt, PT.tidy, tidyL, join_bind, List.map_cons, List.map_nil]
   rfl
  ·intro y hy
   simp only [List.mem_cons, List.not_mem_nil, or_false] at hy
   rcases hy with rfl | rfl | rfl
   ·exact ha hl
   ·exact hb hl
   ·exact hc hl
 | loop hl _ _ _ ha hb hc =>
  intro _
  refine text_node rg _ .loop _ [_, _, _] (by decide) (by omega) ?_ (fun w p h => knode3 h) (by simp) ?_
  ·simp only [KE.pt, PT.tidy, tidyL, join_bind, List.map_cons, List.map_nil]
   rfl
  ·intro y hy
   simp only [List.mem_cons, List.not_mem_nil, or_false] at hy
   rcases hy with rfl | rfl | rfl
   ·exact ha (by omega)
   ·exact hb (by omega)
   ·exact hc (by simp; omega)
 | pair _ _ _ _ ha hb =>
  intro hl
  refine text_node rg _ .pair 0 [_, _] (by decide) (by omega) ?_ (fun w p h => knode2 h) (by simp) ?_
  ·simp only [KE.pt, PT.tidy, tidyL, join_bind, List.map_cons, List.map_nil, if_true]
  ·intro y hy
   simp only [List.mem_cons, List.not_mem_nil, or_false] at hy
   rcases hy with rfl | rfl
   ·exact ha hl
   ·exact hb hl
 | fst _ _ _ ha =>
  intro hl
  refine text_node rg _ .fst 0 [_] (by decide) (by omega) ?_ (fun w p h => knode1 h) (by simp) ?_
  ·simp only [KE.pt, PT.tidy, tidyL, List.map_cons, List.map_nil, ← join_bind]
   rfl
  ·intro y hy
   simp only [List.mem_cons, List.not_mem_nil, or_false] at hy
   subst hy
   exact ha hl
 | snd _ _ _ ha =>
  intro hl
  refine text_node rg _ .snd 0 [_] (by decide) (by omega) ?_ (fun w p h => knode1 h) (by simp) ?_
  ·simp only [KE.pt, PT.tidy, tidyL, List.map_cons, List.map_nil, ← join_bind]
   rfl
  ·intro y hy
   simp only [List.mem_cons, List.not_mem_nil, or_false] at hy
   subst hy
   exact ha hl
 | two hk _ _ ha hb =>
  intro hl
  refine text_node rg _ _ 0 [_, _] (by rcases hk with rfl | rfl | rfl <;> decide) (by omega) ?_ (fun w p h => knode2 h) (by simp) ?_
  ·simp only [KE.pt, PT.tidy, tidyL, regT_if, join_bind, List.map_cons, List.map_nil]
  ·intro y hy
   simp only [List.mem_cons, List.not_mem_nil, or_false] at hy
   rcases hy with rfl | rfl
   ·exact ha hl
   ·exact hb hl
def kvV (n : Nat) (a b : Value) : Array Value := #[.int .i64 n, a, b]
def KVal (w : World) : Vl → Nat → Prop
 | .n k, p => w.heap[p]? = some (.cells (kvV k (.pointer none) (.pointer none)) 29 (0, 0))
 | .p a b, p => ∃ pa pb : Nat, w.heap[p]? = some (.cells (kvV 0 (.pointer (some ⟨pa, 0, none⟩)) (.pointer (some ⟨pb, 0, none⟩))) 29 (0, 0)) ∧ KVal w a pa ∧ KVal w b pb
theorem KVal.keep {w w' : World} (h : ∀ (k : Nat) (arr : Array Value), w.heap[k]? = some (.cells arr 29 (0, 0)) → w'.heap[k]? = some (.cells arr 29 (0, 0))) : ∀ {v : Vl} {p : Nat}, KVal w v p → KVal w' v p
 | .n _, _, hx => h _ _ hx
 | .p _ _, _, ⟨pa, pb, h1, h2, h3⟩ => ⟨pa, pb, h _ _ h1, KVal.keep h h2, KVal.keep h h3⟩
theorem KVal.below {w w' : World} {v : Vl} {p : Nat} (h : KVal w v p) (hb : Below w.heap.size w w') : KVal w' v p := h.keep (fun k _ hk => (hb.block k (blk_lt hk)).trans hk)
theorem KVal.num {w : World} {v : Vl} {p : Nat} (h : KVal w v p) : p < w.heap.size ∧ w.cell? ⟨p, 0, none⟩ = some (.int .i64 v.num) := by
 cases v with
 | n k => have h' : w.heap[p]? = some (.cells (kvV k (.pointer none) (.pointer none)) 29 (0, 0)) := h; exact ⟨blk_lt h', by rw [blk_cell h']; rfl⟩
 | p a b => obtain ⟨pa, pb, h1, _, _⟩ := h; exact ⟨blk_lt h1, by rw [blk_cell h1]; rfl⟩
def ptrsV (l : List Nat) : List Value := l.map (fun (k : Nat) => Value.pointer (some ⟨k, 0, none⟩))
theorem ptrsV_len (l : List Nat) : (ptrsV l).length = l.length := by simp [ptrsV]
theorem ptrsV_snoc (l : List Nat) (v : Nat) : ptrsV (l ++ [v]) = ptrsV l ++ [.pointer (some ⟨v, 0, none⟩)] := by simp [ptrsV]
def wkCells (nv : Value) (fuel : Nat) (st : ESt) : Array Value := #[nv, .int .i64 fuel, .int .i64 st.steps, .int .i64 st.cells, .bool (decide (st.e ≠ 0))]
structure WkIn (w0 w : World) (yb : Nat) (vals : List Vl) (ps : List Nat) (fuel : Nat) (st : ESt) (nv : Value) : Prop where
 ob : ObIn w0 w yb (wkCells nv fuel st) 70 nv 26 (ptrsV ps)
 len : ps.length = vals.length
 v : ∀ (i : Nat) (v : Vl) (p : Nat), vals[i]? = some v → ps[i]? = some p → KVal w v p
theorem KVal.fr {w0 w w' : World} {yb : Nat} {cs : Array Value} {xs : List Value} {nv nv' : Value} {v : Vl} {p : Nat} (h : KVal w v p) (hm : ObIn w0 w yb cs 70 nv 26 xs) (hf : FrO w w' yb nv nv') : KVal w' v p :=
 h.keep (fun k arr hk => hm.other hf (by decide) (by decide) hk)
theorem WkIn.grow {w0 w w' : World} {yb : Nat} {vals : List Vl} {ps : List Nat} {fuel : Nat} {st : ESt} {nv : Value} (h : WkIn w0 w yb vals ps fuel st nv) (hb : Below w.heap.size w w') : WkIn w0 w' yb vals ps fuel st nv :=
 ⟨h.ob.grow hb, h.len, fun i v p h1 h2 => (h.v i v p h1 h2).below hb⟩
theorem WkIn.set {w0 w : World} {yb : Nat} {vals : List Vl} {ps : List Nat} {fuel : Nat} {st st' : ESt} {nv : Value} (h : WkIn w0 w yb vals ps fuel st nv) (o : Nat) (x : Value) (hx : (wkCells nv fuel st).setIfInBounds o x = wkCells nv fuel st') : WkIn w0 (w.setCell ⟨yb, o, none⟩ x) yb vals ps fuel st' nv :=
 ⟨h.ob.set o x hx, h.len, fun i v p h1 h2 => (h.v i v p h1 h2).fr h.ob (FrO.set1 w yb nv o x)⟩
set_option maxRecDepth 100000 in
set_option maxHeartbeats 1000000 in
theorem ktold_any : ∀ (v : Vl) (T : Ty) (p : Nat) (w : World), v.has T → T.size ≤ 63 → KVal w v p → (∀ W, Below w.heap.size w W → ItoaOk W) →
  Calls Tryz.prog 9 #[.pointer (some ⟨p, 0, none⟩)] w fun e w' => e = .returned (.string (bs v.txt)) ∧ Below w.heap.size w w'
 | .n k, T, p, w, hv, _, hk, hit => by
  have hk9 : k ≤ 9999 := by
   cases T with
   | n => exact hv
   | p _ _ _ => exact hv.elim
  have hk' : w.heap[p]? = some (.cells (kvV k (.pointer none) (.pointer none)) 29 (0, 0)) := hk
  have hp := blk_lt hk'
  have x0 : w.cell? ⟨p, 0, none⟩ = some (.int .i64 k) := by rw [blk_cell hk']; rfl
  have x1 : w.cell? ⟨p, 1, none⟩ = some (.pointer none) := by rw [blk_cell hk']; rfl
  have HI : Hid _ := hit w (Below.refl _ _) k w hk9 (Below.refl _ _)
  simp only [Vl.txt]
  clear hk hk' hit hv
  go_enter Tryz.func9, Tryz.ntmps9
  go_wp2_with fail
  refine Calls.mono HI.out ?_
  rintro _ w2 ⟨rfl, hb⟩
  go_wp2
  go_ret
  exact ⟨rfl, hb⟩
 | .p a b, T, p, w, hv, hT, hk, hit => by
  obtain ⟨r, A, B, rfl, ha, hb⟩ : ∃ r A B, T = .p r A B ∧ a.has A ∧ b.has B := by
   cases T with
   | n => exact hv.elim
   | p r A B => exact ⟨r, A, B, rfl, hv.1, hv.2⟩
  simp only [Ty.size] at hT
  obtain ⟨pa, pb, h1, h2, h3⟩ := hk
  have hp := blk_lt h1
  have x1 : w.cell? ⟨p, 1, none⟩ = some (.pointer (some ⟨pa, 0, none⟩)) := by rw [blk_cell h1]; rfl
  have x2 : w.cell? ⟨p, 2, none⟩ = some (.pointer (some ⟨pb, 0, none⟩)) := by rw [blk_cell h1]; rfl
  have HA : Hid _ := ktold_any a A pa w ha (by omega) h2 hit
  have HB : Hid _ := fun W hW => ktold_any b B pb W hb (by omega) (h3.below hW) (fun W' hW' => hit W' (hW.trans (hW'.mono hW.size)))
  have la := Vl.has_len ha
  have lb := Vl.has_len hb
  have z1 : (ByteArray.mk #[91]).size = 1 := rfl
  have z2 : (ByteArray.mk #[32]).size = 1 := rfl
  have z3 : (ByteArray.mk #[93]).size = 1 := rfl
  have zA : (bs a.txt).size ≤ 1000 := by rw [bs_size]; omega
  have zB : (bs b.txt).size ≤ 1000 := by rw [bs_size]; omega
  have zC : (ByteArray.mk #[91] ++ bs a.txt).size ≤ 1001 := by rw [ByteArray.size_append]; omega
  have zD : (ByteArray.mk #[91] ++ bs a.txt ++ ByteArray.mk #[32]).size ≤ 1002 := by rw [ByteArray.size_append]; omega
  have zE : (ByteArray.mk #[91] ++ bs a.txt ++ ByteArray.mk #[32] ++ bs b.txt).size ≤ 2002 := by rw [ByteArray.size_append]; omega
  have hfin : ByteArray.mk #[91] ++ bs a.txt ++ ByteArray.mk #[32] ++ bs b.txt ++ ByteArray.mk #[93] = bs (Vl.txt (.p a b)) := by
   rw [show ByteArray.mk #[91] = bs [91] from rfl, show ByteArray.mk #[32] = bs [32] from rfl, show ByteArray.mk #[93] = bs [93] from rfl, bs_app, bs_app, bs_app, bs_app]
   simp [Vl.txt]
  have HFIN : Hid _ := hfin
  clear hfin h1 h2 h3 hit hv ha hb la lb
  go_enter Tryz.func9, Tryz.ntmps9
  go_wp2_with fail
  refine Calls.mono HA.out ?_
  rintro _ w2 ⟨rfl, hb2⟩
  have y2 : w2.cell? ⟨p, 2, none⟩ = some (.pointer (some ⟨pb, 0, none⟩)) := (hb2.cell (p := ⟨p, 2, none⟩) hp).trans x2
  have hp2 : p < w2.heap.size := by have := hb2.size; omega
  have HB2 : Hid _ := hb2
  clear hb2 HA
  go_wp2_with fail
  refine Calls.mono (HB.out w2 HB2.out) ?_
  rintro _ w3 ⟨rfl, hb3⟩
  have HB3 : Hid _ := HB2.out.trans (hb3.mono HB2.out.size)
  clear hb3 HB
  go_wp2
  go_ret
  exact ⟨by rw [← HFIN.out]; rfl, HB3.out⟩
end Go.Proofs.YtpicaknklgccoabGreatDoor
namespace Go.Proofs.YtpicaknklgccoabGreatDoor
open Go.Lib (decDigits)
theorem fin_end {id p : Nat} {x : Ty × TSt} {T : Ty} {A : Nat} (h0 : x.2.e = 0) (hb : x.1.bare = T) (hs : T.size ≤ 63) (ha : x.2.at_ = A) : (fin id p x).2.e = 0 ∧ (fin id p x).1.bare = T ∧ T.size ≤ 63 ∧ (fin id p x).2.at_ = A := by
 have hsz : x.1.size ≤ 63 := by rw [← bare_sizeE, hb]; exact hs
 unfold fin
 have : ¬ (x.2.e = 0 ∧ 63 < x.1.size) := by omega
 simp only [if_neg this]
 exact ⟨h0, hb, hs, ha⟩
theorem bare_pair {T A B : Ty} {r : Nat} (h : T.bare = .p r A B) : ∃ q u v, T = .p q u v ∧ u.bare = A ∧ v.bare = B := by
 cases T with
 | n => simp [Ty.bare] at h
 | p q u v => simp only [Ty.bare, Ty.p.injEq] at h; exact ⟨q, u, v, rfl, h.2.1, h.2.2⟩
theorem bare_num {T : Ty} (h : T.bare = .n) : T = .n := by cases T with
 | n => rfl
 | p q u v => simp [Ty.bare] at h
theorem WT.find {G : TEnv} {e : PT} {T : Ty} (h : WT G e T) : ∀ (cls : List Nat) (id site : Nat) (env : TEnv) (st : TSt), bareE env = G → (∀ x ∈ env, x.2.size ≤ 63) → st.e = 0 →
  (tyFind cls e id site env st).2.e = 0 ∧ (tyFind cls e id site env st).1.bare = T ∧ T.size ≤ 63 ∧ (tyFind cls e id site env st).2.at_ = st.at_ := by
 induction h with
 | num => intro cls id site env st _ _ h0; simp only [tyFind]; exact fin_end h0 rfl (by simp [Ty.size]) rfl
 | name h =>
  intro cls id site env st hG hs h0
  simp only [tyFind]
  rw [← hG, look_bare] at h
  cases hl : look env _ with
  | none => rw [hl] at h; simp at h
  | some U =>
   rw [hl] at h
   simp only [Option.map_some, Option.some.injEq] at h
   have hU : U.size ≤ 63 := by
    unfold look at hl
    cases hf : env.reverse.find? (fun x => x.1 == _) with
    | none => rw [hf] at hl; simp at hl
    | some z =>
     rw [hf] at hl
     simp only [Option.map_some, Option.some.injEq] at hl
     have := List.mem_of_find?_eq_some hf
     rw [← hl]
     exact hs z (List.mem_reverse.1 this)
   exact fin_end h0 h (by rw [← h, bare_sizeE]; exact hU) rfl
 | let_ ha hb iha ihb =>
  intro cls id site env st hG hs h0
  simp only [tyFind, if_true, tyLet]
  obtain ⟨a1, a2, a3, a4⟩ := iha cls (id + 1) site env st hG hs h0
  rename_i nm _ a b A B
  obtain ⟨b1, b2, b3, b4⟩ := ihb cls (id + 1 + a.cnt) (site + a.prs) (env ++ [(nm, (tyFind cls a (id + 1) site env st).1)]) (tyFind cls a (id + 1) site env st).2 (by rw [bareE_snoc, hG, a2]) (by
   intro x hx
   rcases List.mem_append.1 hx with hx | hx
   ·exact hs x hx
   ·simp only [List.mem_singleton] at hx; subst hx; rw [← bare_sizeE, a2]; exact a3) a1
  exact fin_end b1 b2 b3 (b4.trans a4)
 | pair ha hb hsz iha ihb =>
  intro cls id site env st hG hs h0
  simp only [tyFind, if_true, tyKids, if_neg (show Kw.pair ≠ .let_ by decide), if_neg (show Kw.pair ≠ .loop by decide)]
  rename_i a b A B
  obtain ⟨a1, a2, a3, a4⟩ := iha cls (id + 1) (site + 1) env st hG hs h0
  obtain ⟨b1, b2, b3, b4⟩ := ihb cls (id + 1 + a.cnt) (site + 1 + a.prs) env _ hG hs a1
  rw [if_neg (by rw [b1]; simp)]
  simp only [madeT]
  exact fin_end b1 (by simp only [Ty.bare, a2, b2]) hsz (b4.trans a4)
 | fst ha iha =>
  intro cls id site env st hG hs h0
  simp only [tyFind, tyKids, if_neg (show Kw.fst ≠ .let_ by decide), if_neg (show Kw.fst ≠ .loop by decide), if_neg (show Kw.fst ≠ .pair by decide), Nat.add_zero]
  obtain ⟨a1, a2, a3, a4⟩ := iha cls (id + 1) site env st hG hs h0
  rw [if_neg (by rw [a1]; simp)]
  obtain ⟨q, u, v, e, hu, hv⟩ := bare_pair a2
  rw [e]
  simp only [madeT]
  simp only [Ty.size] at a3
  exact fin_end a1 hu (by omega) a4
 | snd ha iha =>
  intro cls id site env st hG hs h0
  simp only [tyFind, tyKids, if_neg (show Kw.snd ≠ .let_ by decide), if_neg (show Kw.snd ≠ .loop by decide), if_neg (show Kw.snd ≠ .pair by decide), Nat.add_zero]
  obtain ⟨a1, a2, a3, a4⟩ := iha cls (id + 1) site env st hG hs h0
  rw [if_neg (by rw [a1]; simp)]
  obtain ⟨q, u, v, e, hu, hv⟩ := bare_pair a2
  rw [e]
  simp only [madeT]
  simp only [Ty.size] at a3
  exact fin_end a1 hv (by omega) a4
 | if_ ha hb hc iha ihb ihc =>
  intro cls id site env st hG hs h0
  simp only [tyFind, tyKids, if_neg (show Kw.if_ ≠ .let_ by decide), if_neg (show Kw.if_ ≠ .loop by decide), if_neg (show Kw.if_ ≠ .pair by decide), Nat.add_zero]
  rename_i a b c T
  obtain ⟨a1, a2, a3, a4⟩ := iha cls (id + 1) site env st hG hs h0
  obtain ⟨b1, b2, b3, b4⟩ := ihb cls (id + 1 + a.cnt) (site + a.prs) env _ hG hs a1
  obtain ⟨c1, c2, c3, c4⟩ := ihc cls (id + 1 + a.cnt + b.cnt) (site + a.prs + b.prs) env _ hG hs b1
  rw [if_neg (by rw [c1]; simp)]
  simp only [madeT]
  rw [if_pos ⟨bare_num a2, by rw [b2, c2]⟩]
  exact fin_end c1 b2 b3 (c4.trans (b4.trans a4))
 | two hk ha hb iha ihb =>
  intro cls id site env st hG hs h0
  rename_i k _ _ a b
  have hk' : k ≠ .let_ ∧ k ≠ .loop ∧ k ≠ .pair := by rcases hk with rfl | rfl | rfl <;> decide
  simp only [tyFind, tyKids, if_neg hk'.1, if_neg hk'.2.1, if_neg hk'.2.2, Nat.add_zero]
  obtain ⟨a1, a2, a3, a4⟩ := iha cls (id + 1) site env st hG hs h0
  obtain ⟨b1, b2, b3, b4⟩ := ihb cls (id + 1 + a.cnt) (site + a.prs) env _ hG hs a1
  rw [if_neg (by rw [b1]; simp)]
  have hm : ∀ (ps : Nat) (A B : Ty) (s : TSt), A = .n → B = .n → madeT cls k ps site [A, B] s = (.n, s) := by
   rintro ps _ _ s rfl rfl
   rcases hk with rfl | rfl | rfl <;> simp [madeT]
  rw [hm _ _ _ _ (bare_num a2) (bare_num b2)]
  exact fin_end b1 rfl (by simp [Ty.size]) (b4.trans a4)
 | loop ha hb hc iha ihb ihc =>
  intro cls id site env st hG hs h0
  simp only [tyFind, tyLoop, if_true, if_neg (show Kw.loop ≠ .let_ by decide)]
  rename_i nm _ a b c T
  obtain ⟨a1, a2, a3, a4⟩ := iha cls (id + 1) site env st hG hs h0
  obtain ⟨b1, b2, b3, b4⟩ := ihb cls (id + 1 + a.cnt) (site + a.prs) env _ hG hs a1
  obtain ⟨c1, c2, c3, c4⟩ := ihc cls (id + 1 + a.cnt + b.cnt) (site + a.prs + b.prs) (env ++ [(nm, (tyFind cls b (id + 1 + a.cnt) (site + a.prs) env (tyFind cls a (id + 1) site env st).2).1)]) _ (by rw [bareE_snoc, hG, b2]) (by
   intro x hx
   rcases List.mem_append.1 hx with hx | hx
   ·exact hs x hx
   ·simp only [List.mem_singleton] at hx; subst hx; rw [← bare_sizeE, b2]; exact b3) b1
  rw [if_neg (by rw [c1]; simp)]
  simp only [madeT]
  rw [if_pos ⟨bare_num a2, by rw [b2, c2]⟩]
  exact fin_end c1 b2 b3 (c4.trans (b4.trans a4))
 | new ha iha =>
  intro cls id site env st hG hs h0
  simp only [tyFind, tyKids, if_neg (show Kw.new ≠ .let_ by decide), if_neg (show Kw.new ≠ .loop by decide), if_neg (show Kw.new ≠ .pair by decide), Nat.add_zero]
  obtain ⟨a1, a2, a3, a4⟩ := iha cls (id + 1) site env st hG hs h0
  rw [if_neg (by rw [a1]; simp)]
  simp only [madeT]
  exact fin_end a1 a2 a3 a4
theorem chk_ok {e : PT} {T : Ty} (h : WT [] e T) (hp : e.prs ≤ 100) : chkAns e = (0, 0) := by
 unfold chkAns
 have hf := h.find (List.range e.prs) 0 0 [] (st0 e) rfl (by simp) rfl
 rw [if_neg (by omega), hf.1, hf.2.2.2]
 rfl
mutual
theorem np_prs : ∀ e : PT, e.np.prs = e.prs
 | .num _ _ => rfl
 | .name _ _ => rfl
 | .node _ _ _ _ kids => by simp only [PT.np, PT.prs, npL_prs kids]
theorem npL_prs : ∀ l : List PT, prsL (npL l) = prsL l
 | [] => rfl
 | t :: r => by simp only [npL, prsL, np_prs t, npL_prs r]
end
mutual
theorem np_ev (fuel : Nat) : ∀ (e : PT) (env : VEnv) (st : ESt), ev fuel e.np env st = ev fuel e env st
 | .num _ _, _, _ => rfl
 | .name _ _, _, _ => rfl
 | .node _ k nm rg kids, env, st => by
  simp only [PT.np, ev]
  congr 1
  funext st
  rw [np_evLet fuel nm kids, np_evIf fuel kids, np_evLoop fuel nm kids, np_evKids fuel kids]
theorem np_evKids (fuel : Nat) : ∀ (l : List PT) (env : VEnv) (st : ESt), evKids fuel (npL l) env st = evKids fuel l env st
 | [], _, _ => rfl
 | t :: r, env, st => by simp only [npL, evKids, np_ev fuel t, np_evKids fuel r]
theorem np_evLet (fuel : Nat) (nm : List UInt8) : ∀ (l : List PT) (env : VEnv) (st : ESt), evLet fuel nm (npL l) env st = evLet fuel nm l env st
 | [], _, _ => rfl
 | [_], _, _ => rfl
 | [a, b], env, st => by simp only [npL, evLet, np_ev fuel a, np_ev fuel b]
 | _ :: _ :: _ :: _, _, _ => rfl
theorem np_evIf (fuel : Nat) : ∀ (l : List PT) (env : VEnv) (st : ESt), evIf fuel (npL l) env st = evIf fuel l env st
 | [], _, _ => rfl
 | [_], _, _ => rfl
 | [_, _], _, _ => rfl
 | [a, b, c], env, st => by simp only [npL, evIf, np_ev fuel a, np_ev fuel b, np_ev fuel c]
 | _ :: _ :: _ :: _ :: _, _, _ => rfl
theorem np_evLoop (fuel : Nat) (nm : List UInt8) : ∀ (l : List PT) (env : VEnv) (st : ESt), evLoop fuel nm (npL l) env st = evLoop fuel nm l env st
 | [], _, _ => rfl
 | [_], _, _ => rfl
 | [_, _], _, _ => rfl
 | [a, b, c], env, st => by simp only [npL, evLoop, np_ev fuel a, np_ev fuel b, np_ev fuel c]
 | _ :: _ :: _ :: _ :: _, _, _ => rfl
end
theorem ev_congr {fuel p : Nat} {k : Kw} {nm rg rg' : List UInt8} {kids kids' : List PT} (h1 : evLet fuel nm kids = evLet fuel nm kids') (h2 : evIf fuel kids = evIf fuel kids') (h3 : evLoop fuel nm kids = evLoop fuel nm kids') (h4 : evKids fuel kids = evKids fuel kids') : ev fuel (.node p k nm rg kids) = ev fuel (.node p k nm rg' kids') := by
 funext env st
 simp only [ev]
 rw [h1, h2, h3, h4]
mutual
theorem np_WT : ∀ (e : PT) {G : TEnv} {T : Ty}, WT G e.np T → WT G e T
 | .num _ _, _, _, h => by cases h; exact .num
 | .name _ _, _, _, h => by cases h with | name h => exact .name h
 | .node p k nm rg kids, G, T, h => by
  match kids with
  | [] => simp only [PT.np, npL] at h; cases h
  | [a] =>
   simp only [PT.np, npL] at h
   cases h with
   | fst h => exact .fst (np_WT a h)
   | snd h => exact .snd (np_WT a h)
   | new h => exact .new (np_WT a h)
  | [a, b] =>
   simp only [PT.np, npL] at h
   cases h with
   | let_ h1 h2 => exact .let_ (np_WT a h1) (np_WT b h2)
   | pair h1 h2 h3 => exact .pair (np_WT a h1) (np_WT b h2) h3
   | two hk h1 h2 => exact .two hk (np_WT a h1) (np_WT b h2)
  | [a, b, c] =>
   simp only [PT.np, npL] at h
   cases h with
   | if_ h1 h2 h3 => exact .if_ (np_WT a h1) (np_WT b h2) (np_WT c h3)
   | loop h1 h2 h3 => exact .loop (np_WT a h1) (np_WT b h2) (np_WT c h3)
  | _ :: _ :: _ :: _ :: _ => simp only [PT.np, npL] at h; cases h
end
end Go.Proofs.YtpicaknklgccoabGreatDoor
