import Derived.Test.YtpicaknklgccoaaGreatDoorX31
namespace Go.Proofs.YtpicaknklgccoaaGreatDoor
theorem LiveR.step {m : MM} {n : Nat} {T : Ty} {v : MV} (h : LiveR m T v) : LiveR { m with steps := n } T v :=
 LiveR.on (m := m) (m' := { m with steps := n }) ⟨[], by simp⟩ (SameR.of rfl) h
theorem EnvL'.step {m : MM} {sc : Sc} {G : TEnv} {base n : Nat} (h : EnvL' m sc G base) : EnvL' { m with steps := n } sc G base := fun s U hl => by
 obtain ⟨i, v, h1, h2, h3, h4⟩ := h s U hl
 exact ⟨i, v, h1, h2, h3, h4.step⟩
set_option maxHeartbeats 2000000 in
theorem mW_live (fuel : Nat) {G : TEnv} {t : PT} {T : Ty} (h : WTR G t T) : ∀ (sc : Sc) (base : Nat) (m : MM), EnvL' m sc G base → base + t.cnt ≤ m.named.length → m.fault = 0 → 0 < m.regs.length → LvO m (mW fuel t sc base m) base t.cnt T := by
 induction h with
 | num h =>
  intro sc base m he hl hf hr
  simp only [mW]
  exact begun_lv hf ⟨Ext.refl _ _ _, SameR.refl _, Or.inr ⟨hf, by simp only [LiveR]; exact ⟨trivial, h.1, h.2⟩⟩⟩
 | name hlk =>
  intro sc base m he hl hf hr
  simp only [mW]
  refine begun_lv hf ⟨Ext.refl _ _ _, SameR.refl _, Or.inr ⟨hf, ?_⟩⟩
  obtain ⟨i, v, h1, h2, h3, h4⟩ := he _ _ hlk
  have hil := (List.getElem?_eq_some_iff.1 h3).1
  unfold MM.look
  simp only [h1]
  rw [if_neg (by omega), Int.toNat_natCast, List.getD_eq_getElem?_getD, h3]
  exact h4.step
 | @let_ G p nm rg a b A B ha hb iha ihb =>
  intro sc base m he hl hf hr
  simp only [PT.cnt, cntL, Nat.add_zero] at hl ⊢
  simp only [mW, mLet, if_true, reduceCtorEq, if_false]
  refine begun_lv hf ?_
  have h1 := iha sc base { m with steps := m.steps + 1 } he.step (by simp only; omega) hf hr
  generalize mW fuel a sc base { m with steps := m.steps + 1 } = x at h1 ⊢
  have hca := cnt_pos' a
  have hxl : x.2.named.length = m.named.length := h1.ext.len
  rw [show (((base + a.cnt : Nat) : Int) - 1) = ((base + a.cnt - 1 : Nat) : Int) from by omega]
  have hne := name_ext x.2 (base + a.cnt - 1) x.1 base (1 + (a.cnt + b.cnt)) (by omega)
  have hE1 := Ext.trans (b := base) (c := 1 + (a.cnt + b.cnt)) h1.ext hne (by omega) (by omega)
  have hS1 := h1.same.trans (SameR.of (name_rl x.2 (base + a.cnt - 1 : Nat) x.1))
  have h2 : LvO (x.2.name ((base + a.cnt - 1 : Nat) : Int) x.1) (mW fuel b (sc ++ [(nm, ((base + a.cnt - 1 : Nat) : Int))]) (base + a.cnt) (x.2.name ((base + a.cnt - 1 : Nat) : Int) x.1)) (base + a.cnt) b.cnt B := by
   rcases h1.ok with h12 | ⟨h0, hv⟩
   ·exact LvO.bad b _ _ (by rw [(name_fault _ _ _).1]; exact h12) B
   ·have hx := he.step.on h1.ext h1.same (Nat.le_refl _)
    have hsn := hx.snoc (nm := nm) (j := base + a.cnt - 1) (by omega) (by omega) hv
    rw [show base + a.cnt - 1 + 1 = base + a.cnt from by omega] at hsn
    exact ihb _ _ _ hsn (by rw [hne.len, hxl]; omega) (by rw [(name_fault _ _ _).1]; exact h0) (by rw [name_rl, h1.same.len]; exact hr)
  exact ⟨Ext.trans (b := base) (c := 1 + (a.cnt + b.cnt)) hE1 h2.ext (by omega) (by omega), hS1.trans h2.same, h2.ok⟩
 | @pair G p nm rg a b A B r hrg ha hb iha ihb =>
  intro sc base m he hl hf hr
  simp only [PT.cnt, cntL, Nat.add_zero] at hl ⊢
  simp only [mW, mOps, if_true, reduceCtorEq, if_false]
  refine begun_lv hf ?_
  have he1 : EnvL' { m with steps := m.steps + 1 } sc G base := he.step
  have h1 := iha sc base { m with steps := m.steps + 1 } he1 (by simp only; omega) hf hr
  generalize mW fuel a sc base { m with steps := m.steps + 1 } = x at h1 ⊢
  have hxl : x.2.named.length = m.named.length := h1.ext.len
  have h2 : LvO x.2 (mW fuel b sc (base + a.cnt) x.2) (base + a.cnt) b.cnt B := by
   rcases h1.ok with h12 | ⟨h0, _⟩
   ·exact LvO.bad b _ _ h12 B
   ·exact ihb sc (base + a.cnt) x.2 ((he1.on h1.ext h1.same (Nat.le_refl _)).up (by omega)) (by omega) h0 (by rw [h1.same.len]; exact hr)
  have hfk : x.2.fault ≠ 0 → (mW fuel b sc (base + a.cnt) x.2).2.fault = x.2.fault := mW_fk fuel b sc (base + a.cnt) x.2
  generalize mW fuel b sc (base + a.cnt) x.2 = y at h2 hfk ⊢
  have hE := Ext.trans (b := base) (c := 1 + (a.cnt + b.cnt)) h1.ext h2.ext (by omega) (by omega)
  have hS := h1.same.trans h2.same
  have hce := cell_ext y.2 (valueL rg) x.1 y.1 base (1 + (a.cnt + b.cnt))
  have hcs : SameR y.2 (y.2.newCell (valueL rg) x.1 y.1).2 := by
   unfold SameR MM.newCell
   cases hg : y.2.regs[y.2.home (valueL rg)]? with
   | none => rfl
   | some g =>
    simp only [List.map_set]
    have hlt := (List.getElem?_eq_some_iff.1 hg).1
    have hge := (List.getElem?_eq_some_iff.1 hg).2
    rw [show rkey { g with cells := g.cells + 1 } = (y.2.regs.map rkey)[y.2.home (valueL rg)]'(by simpa using hlt) by simp [rkey, hge]]
    exact List.set_getElem_self _
  refine ⟨Ext.trans (b := base) (c := 1 + (a.cnt + b.cnt)) hE hce (by omega) (by omega), hS.trans hcs, ?_⟩
  rw [newCell_fault]
  rcases h2.ok with h12 | ⟨h0, hv⟩
  ·exact Or.inl h12
  ·rcases h1.ok with g12 | ⟨g0, gv⟩
   ·rw [hfk (by rw [g12]; decide), g12] at h0; cases h0
   ·refine Or.inr ⟨h0, ?_⟩
    rw [hrg]
    exact (cell_lv (by rw [hS.len]; exact hr) (gv.on h2.ext.cells h2.same) hv).2
 | @fst G p nm rg a r A B ha iha =>
  intro sc base m he hl hf hr
  simp only [PT.cnt, cntL, Nat.add_zero] at hl ⊢
  simp only [mW, mOps, if_true, reduceCtorEq, if_false]
  refine begun_lv hf ?_
  have he1 : EnvL' { m with steps := m.steps + 1 } sc G base := he.step
  have h1 := iha sc base { m with steps := m.steps + 1 } he1 (by simp only; omega) hf hr
  generalize mW fuel a sc base { m with steps := m.steps + 1 } = x at h1 ⊢
  rcases h1.ok with h12 | ⟨h0, hv⟩
  ·rw [use_fk _ _ (by rw [h12]; decide)]
   exact ⟨h1.ext.widen (by omega), h1.same, Or.inl h12⟩
  ·obtain ⟨u1, u2, _⟩ := use_lv hv
   rw [u1]
   exact ⟨h1.ext.widen (by omega), h1.same, Or.inr ⟨h0, u2⟩⟩
 | @snd G p nm rg a r A B ha iha =>
  intro sc base m he hl hf hr
  simp only [PT.cnt, cntL, Nat.add_zero] at hl ⊢
  simp only [mW, mOps, reduceCtorEq, if_false]
  refine begun_lv hf ?_
  have he1 : EnvL' { m with steps := m.steps + 1 } sc G base := he.step
  have h1 := iha sc base { m with steps := m.steps + 1 } he1 (by simp only; omega) hf hr
  generalize mW fuel a sc base { m with steps := m.steps + 1 } = x at h1 ⊢
  rcases h1.ok with h12 | ⟨h0, hv⟩
  ·rw [use_fk _ _ (by rw [h12]; decide)]
   exact ⟨h1.ext.widen (by omega), h1.same, Or.inl h12⟩
  ·obtain ⟨u1, _, u3⟩ := use_lv hv
   rw [u1]
   exact ⟨h1.ext.widen (by omega), h1.same, Or.inr ⟨h0, u3⟩⟩
 | @if_ G p nm rg a b c T ha hb hc iha ihb ihc =>
  intro sc base m he hl hf hr
  simp only [PT.cnt, cntL, Nat.add_zero] at hl ⊢
  simp only [mW, mIf, if_true, reduceCtorEq, if_false]
  refine begun_lv hf ?_
  have he1 : EnvL' { m with steps := m.steps + 1 } sc G base := he.step
  have h1 := iha sc base { m with steps := m.steps + 1 } he1 (by simp only; omega) hf hr
  generalize mW fuel a sc base { m with steps := m.steps + 1 } = x at h1 ⊢
  have hxl : x.2.named.length = m.named.length := h1.ext.len
  have hx := he1.on h1.ext h1.same (Nat.le_refl _)
  split
  ·have h2 : LvO x.2 (mW fuel b sc (base + a.cnt) x.2) (base + a.cnt) b.cnt T := by
    rcases h1.ok with h12 | ⟨h0, _⟩
    ·exact LvO.bad b _ _ h12 T
    ·exact ihb sc (base + a.cnt) x.2 (hx.up (by omega)) (by omega) h0 (by rw [h1.same.len]; exact hr)
   exact ⟨Ext.trans (b := base) (c := 1 + (a.cnt + (b.cnt + c.cnt))) h1.ext h2.ext (by omega) (by omega), h1.same.trans h2.same, h2.ok⟩
  ·have h2 : LvO x.2 (mW fuel c sc (base + a.cnt + b.cnt) x.2) (base + a.cnt + b.cnt) c.cnt T := by
    rcases h1.ok with h12 | ⟨h0, _⟩
    ·exact LvO.bad c _ _ h12 T
    ·exact ihc sc (base + a.cnt + b.cnt) x.2 (hx.up (by omega)) (by omega) h0 (by rw [h1.same.len]; exact hr)
   exact ⟨Ext.trans (b := base) (c := 1 + (a.cnt + (b.cnt + c.cnt))) h1.ext h2.ext (by omega) (by omega), h1.same.trans h2.same, h2.ok⟩
 | @two G p k nm rg a b hkk ha hb iha ihb =>
  intro sc base m he hl hf hr
  simp only [PT.cnt, cntL, Nat.add_zero] at hl ⊢
  have e : mW fuel (.node p k nm rg [a, b]) sc base m = mBegun fuel m (fun m => (⟨false, mArith k (mW fuel a sc base m).1.n (mW fuel b sc (base + a.cnt) (mW fuel a sc base m).2).1.n⟩, (mW fuel b sc (base + a.cnt) (mW fuel a sc base m).2).2)) := by
   rcases hkk with rfl | rfl | rfl <;> simp only [mW, mOps, reduceCtorEq, if_false]
  rw [e]
  refine begun_lv hf ?_
  have he1 : EnvL' { m with steps := m.steps + 1 } sc G base := he.step
  have h1 := iha sc base { m with steps := m.steps + 1 } he1 (by simp only; omega) hf hr
  generalize mW fuel a sc base { m with steps := m.steps + 1 } = x at h1 ⊢
  have hxl : x.2.named.length = m.named.length := h1.ext.len
  have h2 : LvO x.2 (mW fuel b sc (base + a.cnt) x.2) (base + a.cnt) b.cnt .n := by
   rcases h1.ok with h12 | ⟨h0, _⟩
   ·exact LvO.bad b _ _ h12 .n
   ·exact ihb sc (base + a.cnt) x.2 ((he1.on h1.ext h1.same (Nat.le_refl _)).up (by omega)) (by omega) h0 (by rw [h1.same.len]; exact hr)
  have hfk : x.2.fault ≠ 0 → (mW fuel b sc (base + a.cnt) x.2).2.fault = x.2.fault := mW_fk fuel b sc (base + a.cnt) x.2
  generalize mW fuel b sc (base + a.cnt) x.2 = y at h2 hfk ⊢
  refine ⟨Ext.trans (b := base) (c := 1 + (a.cnt + b.cnt)) h1.ext h2.ext (by omega) (by omega), h1.same.trans h2.same, ?_⟩
  rcases h2.ok with h12 | ⟨h0, hv⟩
  ·exact Or.inl h12
  ·rcases h1.ok with g12 | ⟨g0, gv⟩
   ·rw [hfk (by rw [g12]; decide), g12] at h0; cases h0
   ·refine Or.inr ⟨h0, ?_⟩
    simp only [LiveR] at gv hv ⊢
    refine ⟨trivial, ?_⟩
    rcases hkk with rfl | rfl | rfl
    ·simp only [mArith, if_true]
     rw [Int.tmod_eq_emod_of_nonneg (by omega)]; omega
    ·simp only [mArith, if_true, reduceCtorEq, if_false]
     rw [Int.tmod_eq_emod_of_nonneg (by omega)]; omega
    ·simp only [mArith, reduceCtorEq, if_false]
     split <;> omega
 | @loop G p nm rg a b c T ha hb hc iha ihb ihc =>
  intro sc base m he hl hf hr
  simp only [PT.cnt, cntL, Nat.add_zero] at hl ⊢
  simp only [mW, mLoop, if_true, reduceCtorEq, if_false]
  refine begun_lv hf ?_
  have he1 : EnvL' { m with steps := m.steps + 1 } sc G base := he.step
  have h1 := iha sc base { m with steps := m.steps + 1 } he1 (by simp only; omega) hf hr
  generalize mW fuel a sc base { m with steps := m.steps + 1 } = x at h1 ⊢
  have hxl : x.2.named.length = m.named.length := h1.ext.len
  have hx := he1.on h1.ext h1.same (Nat.le_refl _)
  have h2 : LvO x.2 (mW fuel b sc (base + a.cnt) x.2) (base + a.cnt) b.cnt T := by
   rcases h1.ok with h12 | ⟨h0, _⟩
   ·exact LvO.bad b _ _ h12 T
   ·exact ihb sc (base + a.cnt) x.2 (hx.up (by omega)) (by omega) h0 (by rw [h1.same.len]; exact hr)
  generalize mW fuel b sc (base + a.cnt) x.2 = y at h2 ⊢
  have hyl : y.2.named.length = m.named.length := h2.ext.len.trans hxl
  have hy := (hx.up (show base ≤ base + a.cnt by omega)).on h2.ext h2.same (Nat.le_refl _)
  have hy0 := hx.on h2.ext h2.same (show base ≤ base + a.cnt by omega)
  have hcb := cnt_pos' b
  have hS := h1.same.trans h2.same
  have hE := Ext.trans (b := base) (c := 1 + (a.cnt + (b.cnt + c.cnt))) h1.ext h2.ext (by omega) (by omega)
  rw [show (((base + a.cnt + b.cnt : Nat) : Int) - 1) = ((base + a.cnt + b.cnt - 1 : Nat) : Int) from by omega]
  rcases h2.ok with h12 | ⟨h0, hv⟩
  ·rw [mTurns_fk _ _ _ _ _ (by rw [h12]; decide)]
   exact ⟨hE, hS, Or.inl h12⟩
  ·have h3 := turns_lv (T := T) (j := base + a.cnt + b.cnt - 1) (B := base) (C := 1 + (a.cnt + (b.cnt + c.cnt))) (g := fun m => mW fuel c (sc ++ [(nm, ((base + a.cnt + b.cnt - 1 : Nat) : Int))]) (base + a.cnt + b.cnt) m) (P := fun m' => EnvL' m' sc G base ∧ m'.named.length = m.named.length ∧ 0 < m'.regs.length) (by omega) (fun m' v hP hf' hv' => by
    have hsn := EnvL'.snoc (nm := nm) (j := base + a.cnt + b.cnt - 1) (hP.1.up (show base ≤ base + a.cnt + b.cnt - 1 by omega)) (Nat.le_refl _) (by omega) hv'
    rw [show base + a.cnt + b.cnt - 1 + 1 = base + a.cnt + b.cnt from by omega] at hsn
    have hne := name_ext m' (base + a.cnt + b.cnt - 1) v (base + a.cnt + b.cnt - 1) 1 (by omega)
    have hns : SameR m' (m'.name ((base + a.cnt + b.cnt - 1 : Nat) : Int) v) := SameR.of (name_rl m' _ v)
    have h4 := ihc _ (base + a.cnt + b.cnt) _ hsn (by rw [hne.len]; omega) (by rw [(name_fault _ _ _).1]; exact hf') (by rw [name_rl]; exact hP.2.2)
    refine ⟨⟨h4.ext.widen (by omega), h4.same, h4.ok⟩, (hP.1.on hne hns (by omega)).on h4.ext h4.same (by omega), h4.ext.len.trans (hne.len.trans hP.2.1), ?_⟩
    rw [h4.same.len, name_rl]; exact hP.2.2) x.1.n.toNat y.2 y.1 ⟨hy0, hyl, by rw [hS.len]; exact hr⟩ h0 hv
   exact ⟨Ext.trans (b := base) (c := 1 + (a.cnt + (b.cnt + c.cnt))) hE h3.ext (by omega) (by omega), hS.trans h3.same, h3.ok⟩
 | @new G p nm rg a T ha hm iha =>
  intro sc base m he hl hf hr
  simp only [PT.cnt, cntL, Nat.add_zero] at hl ⊢
  simp only [mW, mNew, if_true]
  have hoe : Ext m (m.opn (valueL rg)) base (1 + a.cnt) := Ext.same (m := m) (m' := m.opn (valueL rg)) rfl rfl _ _
  have heo : EnvL' (m.opn (valueL rg)) sc G base := by
   intro s U hlk
   obtain ⟨i, v, h1, h2, h3, h4⟩ := he s U hlk
   exact ⟨i, v, h1, h2, h3, h4.opn _⟩
  have h1 := iha sc base (m.opn (valueL rg)) heo (by simp only [MM.opn]; omega) hf (by simp [MM.opn])
  generalize mW fuel a sc base (m.opn (valueL rg)) = x at h1 ⊢
  have hE := Ext.trans (b := base) (c := 1 + a.cnt) hoe h1.ext (by omega) (by omega)
  refine ⟨Ext.trans (b := base) (c := 1 + a.cnt) hE (fin_ext _ base (1 + a.cnt)) (by omega) (by omega), h1.same.new, ?_⟩
  rw [(fin_fault x.2).1]
  rcases h1.ok with h12 | ⟨h0, hv⟩
  ·exact Or.inl h12
  ·exact Or.inr ⟨h0, hv.fin hr h1.same hm⟩
end Go.Proofs.YtpicaknklgccoaaGreatDoor
namespace Go.Proofs.YtpicaknklgccoaaGreatDoor
open Go.Lib (decDigits)
structure Lay2 (regs news : List Int) (ns : List NR) (T2 : List Ty) : Prop where
 ty : ∀ i n, ns[i]? = some n → knownT T2 (i : Nat) = tyR T2 (setR n (rgV regs i))
 pr : LyT regs ns
 one : ∀ (i : Nat) n, ns[i]? = some n → n.form = 7 ∨ n.form = 11 → knownT T2 n.p1 = knownT T2 n.p2
 nw : ∀ r i : Nat, news[r]? = some (i : Int) → (knownT T2 i).has r = false
def EnvM (T2 : List Ty) (G GR : TEnv) (sc : Sc) : Prop := ∀ s U, look G s = some U → ∃ i : Nat, findS sc s = (i : Int) ∧ look GR s = some (knownT T2 i) ∧ (knownT T2 i).bare = U
theorem EnvM.snoc {T2 : List Ty} {G GR : TEnv} {sc : Sc} {nm : List UInt8} {U : Ty} {i : Nat} (h : EnvM T2 G GR sc) (hu : (knownT T2 i).bare = U) (z : Int) (hz : z = (i : Int)) : EnvM T2 (G ++ [(nm, U)]) (GR ++ [(nm, knownT T2 i)]) (sc ++ [(nm, z)]) := fun s V hs => by
 subst hz
 rw [look_snoc'] at hs
 rw [findS_snocO, look_snoc']
 by_cases e : nm = s
 ·rw [if_pos e] at hs
  rw [if_pos e, if_pos e]
  simp only [Option.some.injEq] at hs
  subst hs
  exact ⟨i, rfl, rfl, hu⟩
 ·rw [if_neg e] at hs
  rw [if_neg e, if_neg e]
  exact h s V hs
theorem valueH (r : Nat) : valueL (35 :: decDigits r) = (r : Int) := by
 have : valueL (35 :: decDigits r) = valueL (decDigits r) := by unfold valueL; rw [List.foldl_cons]; rfl
 rw [this, value_dec]
theorem wrap_wtr {GR : TEnv} {t : PT} {V : Ty} (i : Int) (h : WTR GR t V) : ∀ (l : List Int) (r : Nat), (∀ j, l[j]? = some i → V.has ((r + j : Nat) : Int) = false) → WTR GR (wrapN l r i t) V
 | [], _, _ => h
 | a :: l, r, hh => by
  have ih := wrap_wtr i h l (r + 1) (fun j hj => by rw [show r + 1 + j = r + (j + 1) by omega]; exact hh (j + 1) (by simpa using hj))
  simp only [wrapN]
  split
  ·rename_i e
   refine .new ih ?_
   rw [valueH]
   exact hh 0 (by simp [e])
  ·exact ih
theorem at_root {ns pre ks post : List NR} {n : NR} (h : ns = pre ++ ((ks ++ [n]) ++ post)) : ns[pre.length + ks.length]? = some n := by
 rw [h]
 exact at_mid pre _ post ks.length n (by rw [List.getElem?_append_right (Nat.le_refl _), Nat.sub_self]; rfl)
theorem Lay2.nw0 {regs news : List Int} {ns : List NR} {T2 : List Ty} (H : Lay2 regs news ns T2) (i : Nat) : ∀ j, news[j]? = some (i : Int) → (knownT T2 i).has ((0 + j : Nat) : Int) = false := fun j hj => by rw [Nat.zero_add]; exact H.nw j i hj
theorem idx_cnt (b c : Nat) : (((b + (1 + c) : Nat) : Int) - 1) = ((b + c : Nat) : Int) := by omega
theorem idx_pos (b : Nat) (t : PT) : ∃ i : Nat, (((b + t.cnt : Nat) : Int) - 1) = (i : Int) ∧ i = b + t.cnt - 1 := ⟨b + t.cnt - 1, by have := cnt_pos' t; omega, rfl⟩
theorem lay_wtr {regs news : List Int} {ns : List NR} {T2 : List Ty} (H : Lay2 regs news ns T2) {G : TEnv} {e : PT} {U : Ty} (h : WT G e U) : NoNew e → e.tame → ∀ (GR : TEnv) (sc : Sc) (b : Nat) (pre ms post : List NR), NA sc e b ms → ns = pre ++ (ms ++ post) → pre.length = b → EnvM T2 G GR sc →
  WTR GR (e.lay regs news b) (knownT T2 (((b + e.cnt : Nat) : Int) - 1)) ∧ (knownT T2 (((b + e.cnt : Nat) : Int) - 1)).bare = U := by
 induction h with
 | @num G p s =>
  intro _ ht GR sc b pre ms post hna hns hb hE
  simp only [NA] at hna
  subst hna
  simp only [PT.tame] at ht
  have hn := at_root (ks := []) hns
  rw [hb] at hn
  have hty := H.ty _ _ hn
  have hV : knownT T2 (((b + (PT.num p s).cnt : Nat) : Int) - 1) = .n := by
   rw [show (((b + (PT.num p s).cnt : Nat) : Int) - 1) = ((b + ([] : List NR).length : Nat) : Int) from by simp only [PT.cnt, List.length_nil]; omega, hty]
   simp [tyR, setR]
  rw [hV]
  refine ⟨?_, rfl⟩
  have hnw := H.nw0 b
  have hb2 : (((b + (PT.num p s).cnt : Nat) : Int) - 1) = (b : Int) := by simp only [PT.cnt]; omega
  rw [hb2] at hV
  rw [hV] at hnw
  unfold PT.lay
  rw [hb2]
  refine wrap_wtr _ (.num ?_) news 0 hnw
  rw [value_dec]; omega
 | @name G p s T hs =>
  intro _ ht GR sc b pre ms post hna hns hb hE
  simp only [NA] at hna
  subst hna
  have hn := at_root (ks := []) hns
  rw [hb] at hn
  have hty := H.ty _ _ hn
  obtain ⟨i, h1, h2, h3⟩ := hE _ _ hs
  have hb2 : (((b + (PT.name p s).cnt : Nat) : Int) - 1) = (b : Int) := by simp only [PT.cnt]; omega
  have hV : knownT T2 (b : Int) = knownT T2 (i : Int) := by
   rw [show (b : Int) = ((b + ([] : List NR).length : Nat) : Int) by simp, hty]
   simp [tyR, setR, h1]
  have hnw := H.nw0 b
  rw [hb2, hV]
  rw [hV] at hnw
  refine ⟨?_, h3⟩
  unfold PT.lay
  rw [hb2]
  exact wrap_wtr _ (.name h2) news 0 hnw
 | @let_ G p nm rg a b UA UB ha hb iha ihb =>
  intro hn ht GR sc bs pre ms post hna hns hbs hE
  cases hn with
  | node _ hn =>
  simp only [PT.tame, tameL] at ht
  simp only [NA, bodK, NAs, Bool.false_eq_true, if_false, if_true] at hna
  obtain ⟨ks, beh, ⟨a1, c1, hn1, ⟨a2, c2, hn2, ⟨_, rfl⟩, rfl⟩, rfl⟩, rfl⟩ := hna
  rw [List.append_nil] at hns
  have la := NA.len hn1
  have lb := NA.len hn2
  have hroot := at_root hns
  rw [hbs, List.length_append, la, lb] at hroot
  have hty := H.ty _ _ hroot
  obtain ⟨hwa, hba⟩ := iha (hn _ (by simp)) ht.2.1 GR sc bs pre a1 (a2 ++ ([_] ++ post)) hn1 (by rw [hns]; simp only [List.append_assoc]; rfl) hbs hE
  obtain ⟨ia, hia, hia2⟩ := idx_pos bs a
  rw [hia] at hwa hba
  obtain ⟨hwb, hbb⟩ := ihb (hn _ (by simp)) ht.2.2.1 (GR ++ [(nm, knownT T2 ia)]) _ (bs + a.cnt) (pre ++ a1) a2 ([_] ++ post) hn2 (by rw [hns]; simp only [List.append_assoc]; rfl) (by rw [List.length_append, hbs, la]) (hE.snoc hba _ (by omega))
  have hV : knownT T2 ((bs + (a.cnt + b.cnt) : Nat) : Int) = knownT T2 (((bs + a.cnt + b.cnt : Nat) : Int) - 1) := by
   rw [hty]
   simp only [tyR, setR, fk_let, partsL, List.getD_cons_succ, List.getD_cons_zero]
   simp
  have hnw := H.nw0 (bs + (a.cnt + b.cnt))
  simp only [PT.lay, PT.cnt, cntL, Nat.add_zero, idx_cnt, PT.lay0]
  rw [hV] at hnw ⊢
  exact ⟨wrap_wtr _ (.let_ hwa hwb) news 0 hnw, hbb⟩
 | @pair G p nm rg a b UA UB ha hb hsz iha ihb =>
  intro hn ht GR sc bs pre ms post hna hns hbs hE
  cases hn with
  | node _ hn =>
  simp only [PT.tame, tameL] at ht
  simp only [NA, bodK, NAs, Bool.false_eq_true, if_false] at hna
  obtain ⟨ks, beh, ⟨a1, c1, hn1, ⟨a2, c2, hn2, ⟨_, rfl⟩, rfl⟩, rfl⟩, rfl⟩ := hna
  rw [List.append_nil] at hns
  have la := NA.len hn1
  have lb := NA.len hn2
  have hroot := at_root hns
  rw [hbs, List.length_append, la, lb] at hroot
  have hty := H.ty _ _ hroot
  have hpr := (H.pr _ _ hroot).1 rfl
  obtain ⟨hwa, hba⟩ := iha (hn _ (by simp)) ht.2.1 GR sc bs pre a1 (a2 ++ ([_] ++ post)) hn1 (by rw [hns]; simp only [List.append_assoc]; rfl) hbs hE
  obtain ⟨hwb, hbb⟩ := ihb (hn _ (by simp)) ht.2.2.1 GR sc (bs + a.cnt) (pre ++ a1) a2 ([_] ++ post) hn2 (by rw [hns]; simp only [List.append_assoc]; rfl) (by rw [List.length_append, hbs, la]) hE
  have hV : knownT T2 ((bs + (a.cnt + b.cnt) : Nat) : Int) = .p (rgV regs (bs + (a.cnt + b.cnt))).toNat (knownT T2 (((bs + a.cnt : Nat) : Int) - 1)) (knownT T2 (((bs + a.cnt + b.cnt : Nat) : Int) - 1)) := by
   rw [hty]
   simp only [tyR, setR, fk_pair, partsL, List.getD_cons_succ, List.getD_cons_zero]
   simp
  have hnw := H.nw0 (bs + (a.cnt + b.cnt))
  simp only [PT.lay, PT.cnt, cntL, Nat.add_zero, idx_cnt, PT.lay0]
  rw [hV] at hnw ⊢
  refine ⟨wrap_wtr _ (.pair ?_ hwa hwb) news 0 hnw, by simp only [Ty.bare, hba, hbb]⟩
  unfold rgW
  rw [if_neg (by omega), valueH]
 | @fst G p nm rg a UA UB ha iha =>
  intro hn ht GR sc bs pre ms post hna hns hbs hE
  cases hn with
  | node _ hn =>
  simp only [PT.tame, tameL] at ht
  simp only [NA, bodK, NAs, Bool.false_eq_true, if_false] at hna
  obtain ⟨ks, beh, ⟨a1, c1, hn1, ⟨_, rfl⟩, rfl⟩, rfl⟩ := hna
  rw [List.append_nil] at hns
  have la := NA.len hn1
  have hroot := at_root hns
  rw [hbs, la] at hroot
  have hty := H.ty _ _ hroot
  obtain ⟨hwa, hba⟩ := iha (hn _ (by simp)) ht.2.1 GR sc bs pre a1 ([_] ++ post) hn1 (by rw [hns]; simp only [List.append_assoc]; rfl) hbs hE
  have hV : knownT T2 ((bs + a.cnt : Nat) : Int) = fstT (knownT T2 (((bs + a.cnt : Nat) : Int) - 1)) := by
   rw [hty]
   simp only [tyR, setR, fk_fst, partsL, List.getD_cons_succ, List.getD_cons_zero]
   simp
  obtain ⟨r, u, v, hp, hu, hv⟩ := bare_pair hba
  rw [hp] at hwa hV
  have hnw := H.nw0 (bs + a.cnt)
  simp only [PT.lay, PT.cnt, cntL, Nat.add_zero, idx_cnt, PT.lay0]
  rw [hV] at hnw ⊢
  exact ⟨wrap_wtr _ (.fst hwa) news 0 hnw, hu⟩
 | @snd G p nm rg a UA UB ha iha =>
  intro hn ht GR sc bs pre ms post hna hns hbs hE
  cases hn with
  | node _ hn =>
  simp only [PT.tame, tameL] at ht
  simp only [NA, bodK, NAs, Bool.false_eq_true, if_false] at hna
  obtain ⟨ks, beh, ⟨a1, c1, hn1, ⟨_, rfl⟩, rfl⟩, rfl⟩ := hna
  rw [List.append_nil] at hns
  have la := NA.len hn1
  have hroot := at_root hns
  rw [hbs, la] at hroot
  have hty := H.ty _ _ hroot
  obtain ⟨hwa, hba⟩ := iha (hn _ (by simp)) ht.2.1 GR sc bs pre a1 ([_] ++ post) hn1 (by rw [hns]; simp only [List.append_assoc]; rfl) hbs hE
  have hV : knownT T2 ((bs + a.cnt : Nat) : Int) = sndT (knownT T2 (((bs + a.cnt : Nat) : Int) - 1)) := by
   rw [hty]
   simp only [tyR, setR, fk_snd, partsL, List.getD_cons_succ, List.getD_cons_zero]
   simp
  obtain ⟨r, u, v, hp, hu, hv⟩ := bare_pair hba
  rw [hp] at hwa hV
  have hnw := H.nw0 (bs + a.cnt)
  simp only [PT.lay, PT.cnt, cntL, Nat.add_zero, idx_cnt, PT.lay0]
  rw [hV] at hnw ⊢
  exact ⟨wrap_wtr _ (.snd hwa) news 0 hnw, hv⟩
 | @if_ G p nm rg a b c U ha hb hc iha ihb ihc =>
  intro hn ht GR sc bs pre ms post hna hns hbs hE
  cases hn with
  | node _ hn =>
  simp only [PT.tame, tameL] at ht
  simp only [NA, bodK, NAs, Bool.false_eq_true, if_false] at hna
  obtain ⟨ks, beh, ⟨a1, c1, hn1, ⟨a2, c2, hn2, ⟨a3, c3, hn3, ⟨_, rfl⟩, rfl⟩, rfl⟩, rfl⟩, rfl⟩ := hna
  rw [List.append_nil] at hns
  have la := NA.len hn1
  have lb := NA.len hn2
  have lc := NA.len hn3
  have hroot := at_root hns
  rw [hbs, List.length_append, List.length_append, la, lb, lc] at hroot
  have hty := H.ty _ _ hroot
  have hone := H.one _ _ hroot (Or.inl rfl)
  simp only [partsL, List.getD_cons_succ, List.getD_cons_zero] at hone
  obtain ⟨hwa, hba⟩ := iha (hn _ (by simp)) ht.2.1 GR sc bs pre a1 (a2 ++ (a3 ++ ([_] ++ post))) hn1 (by rw [hns]; simp only [List.append_assoc]; rfl) hbs hE
  obtain ⟨hwb, hbb⟩ := ihb (hn _ (by simp)) ht.2.2.1 GR sc (bs + a.cnt) (pre ++ a1) a2 (a3 ++ ([_] ++ post)) hn2 (by rw [hns]; simp only [List.append_assoc]; rfl) (by rw [List.length_append, hbs, la]) hE
  obtain ⟨hwc, hbc⟩ := ihc (hn _ (by simp)) ht.2.2.2.1 GR sc (bs + a.cnt + b.cnt) (pre ++ a1 ++ a2) a3 ([_] ++ post) hn3 (by rw [hns]; simp only [List.append_assoc]; rfl) (by rw [List.length_append, List.length_append, hbs, la, lb]) hE
  have hV : knownT T2 ((bs + (a.cnt + (b.cnt + c.cnt)) : Nat) : Int) = knownT T2 (((bs + a.cnt + b.cnt : Nat) : Int) - 1) := by
   rw [hty]
   simp only [tyR, setR, fk_if, partsL, List.getD_cons_succ, List.getD_cons_zero]
   simp
  rw [bare_num hba] at hwa
  rw [← hone] at hwc
  have hnw := H.nw0 (bs + (a.cnt + (b.cnt + c.cnt)))
  simp only [PT.lay, PT.cnt, cntL, Nat.add_zero, idx_cnt, PT.lay0]
  rw [hV] at hnw ⊢
  exact ⟨wrap_wtr _ (.if_ hwa hwb hwc) news 0 hnw, hbb⟩
 | @two G p k nm rg a b hkk ha hb iha ihb =>
  intro hn ht GR sc bs pre ms post hna hns hbs hE
  have hkb : bodK k = [false, false] := by rcases hkk with rfl | rfl | rfl <;> rfl
  have hkf : formK k = 8 ∨ formK k = 9 ∨ formK k = 10 := by rcases hkk with rfl | rfl | rfl <;> decide
  cases hn with
  | node _ hn =>
  simp only [PT.tame, tameL] at ht
  simp only [NA, hkb, NAs, Bool.false_eq_true, if_false] at hna
  obtain ⟨ks, beh, ⟨a1, c1, hn1, ⟨a2, c2, hn2, ⟨_, rfl⟩, rfl⟩, rfl⟩, rfl⟩ := hna
  rw [List.append_nil] at hns
  have la := NA.len hn1
  have lb := NA.len hn2
  have hroot := at_root hns
  rw [hbs, List.length_append, la, lb] at hroot
  have hty := H.ty _ _ hroot
  obtain ⟨hwa, hba⟩ := iha (hn _ (by simp)) ht.2.1 GR sc bs pre a1 (a2 ++ ([_] ++ post)) hn1 (by rw [hns]; simp only [List.append_assoc]; rfl) hbs hE
  obtain ⟨hwb, hbb⟩ := ihb (hn _ (by simp)) ht.2.2.1 GR sc (bs + a.cnt) (pre ++ a1) a2 ([_] ++ post) hn2 (by rw [hns]; simp only [List.append_assoc]; rfl) (by rw [List.length_append, hbs, la]) hE
  have hV : knownT T2 ((bs + (a.cnt + b.cnt) : Nat) : Int) = .n := by
   rw [hty]
   simp only [tyR, setR]
   rcases hkf with h | h | h <;> simp [h]
  rw [bare_num hba] at hwa
  rw [bare_num hbb] at hwb
  have hnw := H.nw0 (bs + (a.cnt + b.cnt))
  simp only [PT.lay, PT.cnt, cntL, Nat.add_zero, idx_cnt, PT.lay0]
  rw [hV] at hnw ⊢
  exact ⟨wrap_wtr _ (.two hkk hwa hwb) news 0 hnw, rfl⟩
 | @loop G p nm rg a b c U ha hb hc iha ihb ihc =>
  intro hn ht GR sc bs pre ms post hna hns hbs hE
  cases hn with
  | node _ hn =>
  simp only [PT.tame, tameL] at ht
  simp only [NA, bodK, NAs, Bool.false_eq_true, if_false, if_true] at hna
  obtain ⟨ks, beh, ⟨a1, c1, hn1, ⟨a2, c2, hn2, ⟨a3, c3, hn3, ⟨_, rfl⟩, rfl⟩, rfl⟩, rfl⟩, rfl⟩ := hna
  rw [List.append_nil] at hns
  have la := NA.len hn1
  have lb := NA.len hn2
  have lc := NA.len hn3
  have hroot := at_root hns
  rw [hbs, List.length_append, List.length_append, la, lb, lc] at hroot
  have hty := H.ty _ _ hroot
  have hone := H.one _ _ hroot (Or.inr rfl)
  simp only [partsL, List.getD_cons_succ, List.getD_cons_zero] at hone
  obtain ⟨hwa, hba⟩ := iha (hn _ (by simp)) ht.2.1 GR sc bs pre a1 (a2 ++ (a3 ++ ([_] ++ post))) hn1 (by rw [hns]; simp only [List.append_assoc]; rfl) hbs hE
  obtain ⟨hwb, hbb⟩ := ihb (hn _ (by simp)) ht.2.2.1 GR sc (bs + a.cnt) (pre ++ a1) a2 (a3 ++ ([_] ++ post)) hn2 (by rw [hns]; simp only [List.append_assoc]; rfl) (by rw [List.length_append, hbs, la]) hE
  obtain ⟨ib, hib, hib2⟩ := idx_pos (bs + a.cnt) b
  rw [hib] at hwb hbb hone
  obtain ⟨hwc, hbc⟩ := ihc (hn _ (by simp)) ht.2.2.2.1 (GR ++ [(nm, knownT T2 ib)]) _ (bs + a.cnt + b.cnt) (pre ++ a1 ++ a2) a3 ([_] ++ post) hn3 (by rw [hns]; simp only [List.append_assoc]; rfl) (by rw [List.length_append, List.length_append, hbs, la, lb]) (hE.snoc hbb _ (by omega))
  have hV : knownT T2 ((bs + (a.cnt + (b.cnt + c.cnt)) : Nat) : Int) = knownT T2 (ib : Int) := by
   rw [hty, ← hib]
   simp only [tyR, setR, fk_loop, partsL, List.getD_cons_succ, List.getD_cons_zero]
   simp
  rw [bare_num hba] at hwa
  rw [← hone] at hwc
  have hnw := H.nw0 (bs + (a.cnt + (b.cnt + c.cnt)))
  simp only [PT.lay, PT.cnt, cntL, Nat.add_zero, idx_cnt, PT.lay0]
  rw [hV] at hnw ⊢
  exact ⟨wrap_wtr _ (.loop hwa hwb hwc) news 0 hnw, hbb⟩
 | new _ _ =>
  intro hn
  cases hn with
  | node hk _ => exact absurd rfl hk
end Go.Proofs.YtpicaknklgccoaaGreatDoor
namespace Go.Proofs.YtpicaknklgccoaaGreatDoor
theorem knownT_pre {T X : List Ty} {p : Int} (h : p < T.length) : knownT (T ++ X) p = knownT T p := by
 unfold knownT
 split
 ·rw [List.getElem?_append_left (by omega)]
 ·rfl
theorem run_pre : ∀ (ns : List NR) (T : List Ty), ∃ X, tyRun T ns = T ++ X ∧ X.length = ns.length
 | [], T => ⟨[], by simp [tyRun], rfl⟩
 | n :: r, T => by
  obtain ⟨X, h1, h2⟩ := run_pre r (T ++ [tyR T n])
  exact ⟨tyR T n :: X, by simp only [tyRun, h1, List.append_assoc, List.singleton_append], by simp [h2]⟩
def BackN (k : Nat) (n : NR) : Prop := n.p0 < k ∧ n.p1 < k ∧ n.p2 < k ∧ n.source < k
theorem tyR_pre {T X : List Ty} {n : NR} (h : BackN T.length n) : tyR (T ++ X) n = tyR T n := by
 unfold tyR
 rw [knownT_pre h.1, knownT_pre h.2.1, knownT_pre h.2.2.2]
theorem run_fix : ∀ (ns : List NR) (T : List Ty), (∀ (i : Nat) n, ns[i]? = some n → BackN (T.length + i) n) → ∀ (i : Nat) n, ns[i]? = some n → knownT (tyRun T ns) ((T.length + i : Nat) : Int) = tyR (tyRun T ns) n
 | [], _, _, i, n, h => by simp at h
 | m :: r, T, hb, i, n, h => by
  simp only [tyRun]
  cases i with
  | zero =>
   simp only [List.getElem?_cons_zero, Option.some.injEq] at h
   subst h
   obtain ⟨X, h1, _⟩ := run_pre r (T ++ [tyR T m])
   have hbm : BackN T.length m := by simpa using hb 0 m (by simp)
   rw [h1, List.append_assoc, tyR_pre hbm]
   unfold knownT
   rw [if_pos (by omega), Int.toNat_natCast, Nat.add_zero, List.getElem?_append_right (Nat.le_refl _), Nat.sub_self]; rfl
  | succ j =>
   have := run_fix r (T ++ [tyR T m]) (fun k x hx => by have := hb (k + 1) x (by simpa using hx); rw [List.length_append, List.length_singleton]; rwa [show T.length + 1 + k = T.length + (k + 1) by omega]) j n (by simpa using h)
   rw [List.length_append, List.length_singleton, show T.length + 1 + j = T.length + (j + 1) by omega] at this
   exact this
theorem alike_rec : ∀ (ns : List NR) (T : List Ty), (∀ (i : Nat) n, ns[i]? = some n → BackN (T.length + i) n) → (∀ (i : Nat) n, ns[i]? = some n → n.form = 7 ∨ n.form = 11 → (knownT (tyRun T ns) n.p1).bare = (knownT (tyRun T ns) n.p2).bare) → AlikeT T ns
 | [], _, _, _ => trivial
 | m :: r, T, hb, ha => by
  obtain ⟨X, h1, _⟩ := run_pre r (T ++ [tyR T m])
  have hbm : BackN T.length m := by simpa using hb 0 m (by simp)
  simp only [AlikeT]
  refine ⟨fun hf => ?_, alike_rec r _ (fun k x hx => ?_) (fun k x hx => ?_)⟩
  ·have := ha 0 m (by simp) hf
   simp only [tyRun] at this
   rw [h1, List.append_assoc, knownT_pre hbm.2.1, knownT_pre hbm.2.2.1] at this
   rw [knownT_pre hbm.2.1, knownT_pre hbm.2.2.1]; exact this
  ·have := hb (k + 1) x (by simpa using hx)
   rw [List.length_append, List.length_singleton, show T.length + 1 + k = T.length + (k + 1) by omega]; exact this
  ·have := ha (k + 1) x (by simpa using hx)
   simp only [tyRun] at this; exact this
theorem one_rec (c : Nat → Nat) : ∀ (ns : List NR) (T : List Ty), (∀ (i : Nat) n, ns[i]? = some n → BackN (T.length + i) n) → OneT c T ns → ∀ (i : Nat) n, ns[i]? = some n → n.form = 7 ∨ n.form = 11 → mapT c (knownT (tyRun T ns) n.p1) = mapT c (knownT (tyRun T ns) n.p2)
 | [], _, _, _, i, n, h => by simp at h
 | m :: r, T, hb, ho, i, n, h => by
  obtain ⟨X, h1, _⟩ := run_pre r (T ++ [tyR T m])
  have hbm : BackN T.length m := by simpa using hb 0 m (by simp)
  simp only [OneT] at ho
  simp only [tyRun]
  cases i with
  | zero =>
   simp only [List.getElem?_cons_zero, Option.some.injEq] at h
   subst h
   intro hf
   have := ho.1 hf
   rw [knownT_pre hbm.2.1, knownT_pre hbm.2.2.1] at this
   rw [h1, List.append_assoc, knownT_pre hbm.2.1, knownT_pre hbm.2.2.1]; exact this
  | succ j =>
   exact one_rec c r _ (fun k x hx => by have := hb (k + 1) x (by simpa using hx); rw [List.length_append, List.length_singleton, show T.length + 1 + k = T.length + (k + 1) by omega]; exact this) ho.2 j n (by simpa using h)
theorem sz_rec : ∀ (ns : List NR) (T : List Ty), (∀ (i : Nat) n, ns[i]? = some n → BackN (T.length + i) n) → (∀ (i : Nat) n, ns[i]? = some n → n.form = 4 → (Ty.p 0 (knownT (tyRun T ns) n.p0) (knownT (tyRun T ns) n.p1)).size ≤ 63) → SzOk T ns
 | [], _, _, _ => trivial
 | m :: r, T, hb, ha => by
  obtain ⟨X, h1, _⟩ := run_pre r (T ++ [tyR T m])
  have hbm : BackN T.length m := by simpa using hb 0 m (by simp)
  simp only [SzOk]
  refine ⟨fun hf => ?_, sz_rec r _ (fun k x hx => ?_) (fun k x hx => ?_)⟩
  ·have := ha 0 m (by simp) hf
   simp only [tyRun] at this
   rw [h1, List.append_assoc, knownT_pre hbm.1, knownT_pre hbm.2.1] at this
   exact this
  ·have := hb (k + 1) x (by simpa using hx)
   rw [List.length_append, List.length_singleton, show T.length + 1 + k = T.length + (k + 1) by omega]; exact this
  ·have := ha (k + 1) x (by simpa using hx)
   simp only [tyRun] at this; exact this
def EnvB (T : List Ty) (G : TEnv) (sc : Sc) : Prop := ∀ s U, look G s = some U → ∃ i : Nat, findS sc s = (i : Int) ∧ (knownT T i).bare = U
theorem EnvB.snoc {T : List Ty} {G : TEnv} {sc : Sc} {nm : List UInt8} {U : Ty} {z : Int} (h : EnvB T G sc) (hz : 0 ≤ z) (hu : (knownT T z).bare = U) : EnvB T (G ++ [(nm, U)]) (sc ++ [(nm, z)]) := fun s V hs => by
 rw [look_snoc'] at hs
 rw [findS_snocO]
 by_cases e : nm = s
 ·rw [if_pos e] at hs ⊢
  simp only [Option.some.injEq] at hs
  subst hs
  exact ⟨z.toNat, by omega, by rw [Int.toNat_of_nonneg hz]; exact hu⟩
 ·rw [if_neg e] at hs ⊢
  exact h s V hs
def AlkO (T : List Ty) (ns : List NR) (lo hi : Nat) : Prop := ∀ (i : Nat) n, lo ≤ i → i < hi → ns[i]? = some n → (n.form = 7 ∨ n.form = 11 → (knownT T n.p1).bare = (knownT T n.p2).bare) ∧ (n.form = 4 → (Ty.p 0 (knownT T n.p0) (knownT T n.p1)).size ≤ 63)
theorem AlkO.join {T : List Ty} {ns : List NR} {a b c : Nat} (h : AlkO T ns a b) (g : AlkO T ns b c) : AlkO T ns a c := fun i n h1 h2 hn => by
 by_cases e : i < b
 ·exact h i n h1 e hn
 ·exact g i n (by omega) h2 hn
theorem AlkO.root {T : List Ty} {ns : List NR} {k : Nat} {n : NR} (hn : ns[k]? = some n) (h1 : n.form = 7 ∨ n.form = 11 → (knownT T n.p1).bare = (knownT T n.p2).bare) (h2 : n.form = 4 → (Ty.p 0 (knownT T n.p0) (knownT T n.p1)).size ≤ 63) : AlkO T ns k (k + 1) := fun i m a b hm => by
 have : i = k := by omega
 subst this
 rw [hn] at hm
 simp only [Option.some.injEq] at hm
 subst hm
 exact ⟨h1, h2⟩
theorem idx_nn (b : Nat) (t : PT) : (0 : Int) ≤ ((b + t.cnt : Nat) : Int) - 1 := by have := cnt_pos' t; omega
theorem wt_alike {ns : List NR} {T : List Ty} {ρ : Nat → Int} (H : ∀ i n, ns[i]? = some n → knownT T (i : Nat) = tyR T (setR n (ρ i))) {G : TEnv} {e : PT} {U : Ty} (h : WT G e U) : NoNew e → ∀ (sc : Sc) (b : Nat) (pre ms post : List NR), NA sc e b ms → ns = pre ++ (ms ++ post) → pre.length = b → EnvB T G sc →
  (knownT T (((b + e.cnt : Nat) : Int) - 1)).bare = U ∧ AlkO T ns b (b + e.cnt) := by
 induction h with
 | @num G p s =>
  intro _ sc b pre ms post hna hns hb hE
  simp only [NA] at hna
  subst hna
  have hn := at_root (ks := []) hns
  rw [hb] at hn
  have hty := H _ _ hn
  simp only [List.length_nil, Nat.add_zero] at hn hty
  simp only [PT.cnt, show (((b + 1 : Nat) : Int) - 1) = (b : Int) by omega]
  rw [hty]
  exact ⟨by simp [tyR, setR, Ty.bare], AlkO.root hn (by simp) (by simp)⟩
 | @name G p s U hs =>
  intro _ sc b pre ms post hna hns hb hE
  simp only [NA] at hna
  subst hna
  have hn := at_root (ks := []) hns
  rw [hb] at hn
  have hty := H _ _ hn
  simp only [List.length_nil, Nat.add_zero] at hn hty
  obtain ⟨i, h1, h2⟩ := hE _ _ hs
  simp only [PT.cnt, show (((b + 1 : Nat) : Int) - 1) = (b : Int) by omega]
  rw [hty]
  exact ⟨by simp [tyR, setR, h1, h2], AlkO.root hn (by simp) (by simp)⟩
 | @let_ G p nm rg a b UA UB ha hb iha ihb =>
  intro hn sc bs pre ms post hna hns hbs hE
  cases hn with
  | node _ hn =>
  simp only [NA, bodK, NAs, Bool.false_eq_true, if_false, if_true] at hna
  obtain ⟨ks, beh, ⟨a1, c1, hn1, ⟨a2, c2, hn2, ⟨_, rfl⟩, rfl⟩, rfl⟩, rfl⟩ := hna
  rw [List.append_nil] at hns
  have la := NA.len hn1
  have lb := NA.len hn2
  have hroot := at_root hns
  rw [hbs, List.length_append, la, lb] at hroot
  have hty := H _ _ hroot
  obtain ⟨hba, oa⟩ := iha (hn _ (by simp)) sc bs pre a1 (a2 ++ ([_] ++ post)) hn1 (by rw [hns]; simp only [List.append_assoc]; rfl) hbs hE
  obtain ⟨hbb, ob⟩ := ihb (hn _ (by simp)) _ (bs + a.cnt) (pre ++ a1) a2 ([_] ++ post) hn2 (by rw [hns]; simp only [List.append_assoc]; rfl) (by rw [List.length_append, hbs, la]) (hE.snoc (idx_nn bs a) hba)
  simp only [PT.cnt, cntL, Nat.add_zero, idx_cnt]
  refine ⟨?_, ?_⟩
  ·rw [hty]
   simp only [tyR, setR, fk_let, partsL, List.getD_cons_succ, List.getD_cons_zero]
   simpa using hbb
  ·have := (oa.join ob).join (AlkO.root (by rw [Nat.add_assoc]; exact hroot) (by simp [fk_let]) (by simp [fk_let]))
   rwa [show bs + a.cnt + b.cnt + 1 = bs + (1 + (a.cnt + b.cnt)) by omega] at this
 | @pair G p nm rg a b UA UB ha hb hsz iha ihb =>
  intro hn sc bs pre ms post hna hns hbs hE
  cases hn with
  | node _ hn =>
  simp only [NA, bodK, NAs, Bool.false_eq_true, if_false] at hna
  obtain ⟨ks, beh, ⟨a1, c1, hn1, ⟨a2, c2, hn2, ⟨_, rfl⟩, rfl⟩, rfl⟩, rfl⟩ := hna
  rw [List.append_nil] at hns
  have la := NA.len hn1
  have lb := NA.len hn2
  have hroot := at_root hns
  rw [hbs, List.length_append, la, lb] at hroot
  have hty := H _ _ hroot
  obtain ⟨hba, oa⟩ := iha (hn _ (by simp)) sc bs pre a1 (a2 ++ ([_] ++ post)) hn1 (by rw [hns]; simp only [List.append_assoc]; rfl) hbs hE
  obtain ⟨hbb, ob⟩ := ihb (hn _ (by simp)) sc (bs + a.cnt) (pre ++ a1) a2 ([_] ++ post) hn2 (by rw [hns]; simp only [List.append_assoc]; rfl) (by rw [List.length_append, hbs, la]) hE
  simp only [PT.cnt, cntL, Nat.add_zero, idx_cnt]
  refine ⟨?_, ?_⟩
  ·rw [hty]
   simp only [tyR, setR, fk_pair, partsL, List.getD_cons_succ, List.getD_cons_zero]
   simp only [Nat.reduceEqDiff, if_false, if_true, Ty.bare, hba, hbb]
  ·have hs2 : (Ty.p 0 (knownT T (((bs + a.cnt : Nat) : Int) - 1)) (knownT T (((bs + a.cnt + b.cnt : Nat) : Int) - 1))).size ≤ 63 := by
    rw [← bare_sizeE]
    simp only [Ty.bare, hba, hbb]
    exact hsz
   have := (oa.join ob).join (AlkO.root (by rw [Nat.add_assoc]; exact hroot) (by simp [fk_pair]) (fun _ => by simpa only [partsL, List.getD_cons_succ, List.getD_cons_zero] using hs2))
   rwa [show bs + a.cnt + b.cnt + 1 = bs + (1 + (a.cnt + b.cnt)) by omega] at this
 | @fst G p nm rg a UA UB ha iha =>
  intro hn sc bs pre ms post hna hns hbs hE
  cases hn with
  | node _ hn =>
  simp only [NA, bodK, NAs, Bool.false_eq_true, if_false] at hna
  obtain ⟨ks, beh, ⟨a1, c1, hn1, ⟨_, rfl⟩, rfl⟩, rfl⟩ := hna
  rw [List.append_nil] at hns
  have la := NA.len hn1
  have hroot := at_root hns
  rw [hbs, la] at hroot
  have hty := H _ _ hroot
  obtain ⟨hba, oa⟩ := iha (hn _ (by simp)) sc bs pre a1 ([_] ++ post) hn1 (by rw [hns]; simp only [List.append_assoc]; rfl) hbs hE
  simp only [PT.cnt, cntL, Nat.add_zero, idx_cnt]
  obtain ⟨r, u, v, hp, hu, hv⟩ := bare_pair hba
  refine ⟨?_, ?_⟩
  ·rw [hty]
   simp only [tyR, setR, fk_fst, partsL, List.getD_cons_succ, List.getD_cons_zero]
   simp only [Nat.reduceEqDiff, if_false, if_true]
   rw [hp]; exact hu
  ·have := oa.join (AlkO.root hroot (by simp [fk_fst]) (by simp [fk_fst]))
   rwa [show bs + a.cnt + 1 = bs + (1 + a.cnt) by omega] at this
 | @snd G p nm rg a UA UB ha iha =>
  intro hn sc bs pre ms post hna hns hbs hE
  cases hn with
  | node _ hn =>
  simp only [NA, bodK, NAs, Bool.false_eq_true, if_false] at hna
  obtain ⟨ks, beh, ⟨a1, c1, hn1, ⟨_, rfl⟩, rfl⟩, rfl⟩ := hna
  rw [List.append_nil] at hns
  have la := NA.len hn1
  have hroot := at_root hns
  rw [hbs, la] at hroot
  have hty := H _ _ hroot
  obtain ⟨hba, oa⟩ := iha (hn _ (by simp)) sc bs pre a1 ([_] ++ post) hn1 (by rw [hns]; simp only [List.append_assoc]; rfl) hbs hE
  simp only [PT.cnt, cntL, Nat.add_zero, idx_cnt]
  obtain ⟨r, u, v, hp, hu, hv⟩ := bare_pair hba
  refine ⟨?_, ?_⟩
  ·rw [hty]
   simp only [tyR, setR, fk_snd, partsL, List.getD_cons_succ, List.getD_cons_zero]
   simp only [Nat.reduceEqDiff, if_false, if_true]
   rw [hp]; exact hv
  ·have := oa.join (AlkO.root hroot (by simp [fk_snd]) (by simp [fk_snd]))
   rwa [show bs + a.cnt + 1 = bs + (1 + a.cnt) by omega] at this
 | @if_ G p nm rg a b c U ha hb hc iha ihb ihc =>
  intro hn sc bs pre ms post hna hns hbs hE
  cases hn with
  | node _ hn =>
  simp only [NA, bodK, NAs, Bool.false_eq_true, if_false] at hna
  obtain ⟨ks, beh, ⟨a1, c1, hn1, ⟨a2, c2, hn2, ⟨a3, c3, hn3, ⟨_, rfl⟩, rfl⟩, rfl⟩, rfl⟩, rfl⟩ := hna
  rw [List.append_nil] at hns
  have la := NA.len hn1
  have lb := NA.len hn2
  have lc := NA.len hn3
  have hroot := at_root hns
  rw [hbs, List.length_append, List.length_append, la, lb, lc] at hroot
  have hty := H _ _ hroot
  obtain ⟨hba, oa⟩ := iha (hn _ (by simp)) sc bs pre a1 (a2 ++ (a3 ++ ([_] ++ post))) hn1 (by rw [hns]; simp only [List.append_assoc]; rfl) hbs hE
  obtain ⟨hbb, ob⟩ := ihb (hn _ (by simp)) sc (bs + a.cnt) (pre ++ a1) a2 (a3 ++ ([_] ++ post)) hn2 (by rw [hns]; simp only [List.append_assoc]; rfl) (by rw [List.length_append, hbs, la]) hE
  obtain ⟨hbc, oc⟩ := ihc (hn _ (by simp)) sc (bs + a.cnt + b.cnt) (pre ++ a1 ++ a2) a3 ([_] ++ post) hn3 (by rw [hns]; simp only [List.append_assoc]; rfl) (by rw [List.length_append, List.length_append, hbs, la, lb]) hE
  simp only [PT.cnt, cntL, Nat.add_zero, idx_cnt]
  refine ⟨?_, ?_⟩
  ·rw [hty]
   simp only [tyR, setR, fk_if, partsL, List.getD_cons_succ, List.getD_cons_zero]
   simpa using hbb
  ·have := ((oa.join ob).join oc).join (AlkO.root (by rw [Nat.add_assoc, Nat.add_assoc]; exact hroot) (fun _ => by simp only [partsL, List.getD_cons_succ, List.getD_cons_zero]; rw [hbb, hbc]) (by simp [fk_if]))
   rwa [show bs + a.cnt + b.cnt + c.cnt + 1 = bs + (1 + (a.cnt + (b.cnt + c.cnt))) by omega] at this
 | @two G p k nm rg a b hkk ha hb iha ihb =>
  intro hn sc bs pre ms post hna hns hbs hE
  have hkb : bodK k = [false, false] := by rcases hkk with rfl | rfl | rfl <;> rfl
  have hkf : formK k = 8 ∨ formK k = 9 ∨ formK k = 10 := by rcases hkk with rfl | rfl | rfl <;> decide
  cases hn with
  | node _ hn =>
  simp only [NA, hkb, NAs, Bool.false_eq_true, if_false] at hna
  obtain ⟨ks, beh, ⟨a1, c1, hn1, ⟨a2, c2, hn2, ⟨_, rfl⟩, rfl⟩, rfl⟩, rfl⟩ := hna
  rw [List.append_nil] at hns
  have la := NA.len hn1
  have lb := NA.len hn2
  have hroot := at_root hns
  rw [hbs, List.length_append, la, lb] at hroot
  have hty := H _ _ hroot
  obtain ⟨hba, oa⟩ := iha (hn _ (by simp)) sc bs pre a1 (a2 ++ ([_] ++ post)) hn1 (by rw [hns]; simp only [List.append_assoc]; rfl) hbs hE
  obtain ⟨hbb, ob⟩ := ihb (hn _ (by simp)) sc (bs + a.cnt) (pre ++ a1) a2 ([_] ++ post) hn2 (by rw [hns]; simp only [List.append_assoc]; rfl) (by rw [List.length_append, hbs, la]) hE
  simp only [PT.cnt, cntL, Nat.add_zero, idx_cnt]
  refine ⟨?_, ?_⟩
  ·rw [hty]
   simp only [tyR, setR]
   rcases hkf with h | h | h <;> simp [h, Ty.bare]
  ·have := (oa.join ob).join (AlkO.root (by rw [Nat.add_assoc]; exact hroot) (fun h => by simp only at h; omega) (fun h => by simp only at h; omega))
   rwa [show bs + a.cnt + b.cnt + 1 = bs + (1 + (a.cnt + b.cnt)) by omega] at this
 | @loop G p nm rg a b c U ha hb hc iha ihb ihc =>
  intro hn sc bs pre ms post hna hns hbs hE
  cases hn with
  | node _ hn =>
  simp only [NA, bodK, NAs, Bool.false_eq_true, if_false, if_true] at hna
  obtain ⟨ks, beh, ⟨a1, c1, hn1, ⟨a2, c2, hn2, ⟨a3, c3, hn3, ⟨_, rfl⟩, rfl⟩, rfl⟩, rfl⟩, rfl⟩ := hna
  rw [List.append_nil] at hns
  have la := NA.len hn1
  have lb := NA.len hn2
  have lc := NA.len hn3
  have hroot := at_root hns
  rw [hbs, List.length_append, List.length_append, la, lb, lc] at hroot
  have hty := H _ _ hroot
  obtain ⟨hba, oa⟩ := iha (hn _ (by simp)) sc bs pre a1 (a2 ++ (a3 ++ ([_] ++ post))) hn1 (by rw [hns]; simp only [List.append_assoc]; rfl) hbs hE
  obtain ⟨hbb, ob⟩ := ihb (hn _ (by simp)) sc (bs + a.cnt) (pre ++ a1) a2 (a3 ++ ([_] ++ post)) hn2 (by rw [hns]; simp only [List.append_assoc]; rfl) (by rw [List.length_append, hbs, la]) hE
  obtain ⟨hbc, oc⟩ := ihc (hn _ (by simp)) _ (bs + a.cnt + b.cnt) (pre ++ a1 ++ a2) a3 ([_] ++ post) hn3 (by rw [hns]; simp only [List.append_assoc]; rfl) (by rw [List.length_append, List.length_append, hbs, la, lb]) (hE.snoc (idx_nn (bs + a.cnt) b) hbb)
  simp only [PT.cnt, cntL, Nat.add_zero, idx_cnt]
  refine ⟨?_, ?_⟩
  ·rw [hty]
   simp only [tyR, setR, fk_loop, partsL, List.getD_cons_succ, List.getD_cons_zero]
   simpa using hbb
  ·have := ((oa.join ob).join oc).join (AlkO.root (by rw [Nat.add_assoc, Nat.add_assoc]; exact hroot) (fun _ => by simp only [partsL, List.getD_cons_succ, List.getD_cons_zero]; rw [hbb, hbc]) (by simp [fk_loop]))
   rwa [show bs + a.cnt + b.cnt + c.cnt + 1 = bs + (1 + (a.cnt + (b.cnt + c.cnt))) by omega] at this
 | new _ _ =>
  intro hn
  cases hn with
  | node hk _ => exact absurd rfl hk
end Go.Proofs.YtpicaknklgccoaaGreatDoor
