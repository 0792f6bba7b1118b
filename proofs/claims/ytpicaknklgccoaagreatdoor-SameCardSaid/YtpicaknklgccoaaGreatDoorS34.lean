import Derived.Test.YtpicaknklgccoaaGreatDoorS33
set_option maxHeartbeats 2000000
namespace Go.Proofs.YtpicaknklgccoaaGreatDoor
theorem bW.step {m : MM} {n : Nat} {T : Ty} {v : MV} (h : bW m T v) : bW { m with steps := n } T v :=
 bW.on (m := m) (m' := { m with steps := n }) ⟨[], by simp⟩ (bO.of rfl) h
theorem fY.step {m : MM} {sc : Sc} {G : aQ} {base n : Nat} (h : fY m sc G base) : fY { m with steps := n } sc G base := fun s U hl => by
 obtain ⟨i, v, h1, h2, h3, h4⟩ := h s U hl
 exact ⟨i, v, h1, h2, h3, h4.step⟩
theorem Gx (fuel : Nat) {G : aQ} {t : PT} {T : Ty} (h : mU G t T) : ∀ (sc : Sc) (base : Nat) (m : MM), fY m sc G base -> base + t.cnt <= m.named.length -> m.fault = 0 -> 0 < m.regs.length -> zt m (mW fuel t sc base m) base t.cnt T := by
 induction h with
 | num h =>
  intro sc base m he hl hf hr
  simp only [mW]
  exact iE hf ⟨Ext.refl _ _ _, bO.refl _, Or.inr ⟨hf, by simp only [bW]; exact ⟨trivial, h.1, h.2⟩⟩⟩
 | name hlk =>
  intro sc base m he hl hf hr
  simp only [mW]
  refine iE hf ⟨Ext.refl _ _ _, bO.refl _, Or.inr ⟨hf, ?_⟩⟩
  obtain ⟨i, v, h1, h2, h3, h4⟩ := he _ _ hlk
  have lP := (List.getElem?_eq_some_iff.1 h3).1
  unfold MM.look
  simp only [h1]
  rw [if_neg (by omega), Int.toNat_natCast, List.getD_eq_getElem?_getD, h3]
  exact h4.step
 | @bb G p nm rg a b A B ha hb bI dG =>
  intro sc base m he hl hf hr
  simp only [PT.cnt, aB, Nat.add_zero] at hl ⊢
  simp only [mW, Ah, if_true, reduceCtorEq, if_false]
  refine iE hf ?_
  have h1 := bI sc base { m with steps := m.steps + 1 } he.step (by simp only; omega) hf hr
  generalize mW fuel a sc base { m with steps := m.steps + 1 } = x at h1 ⊢
  have Wa := dI a
  have hxl : x.2.named.length = m.named.length := h1.ext.len
  rw [show (((base + a.cnt : Nat) : Int) - 1) = ((base + a.cnt - 1 : Nat) : Int) from by omega]
  have hne := fE x.2 (base + a.cnt - 1) x.1 base (1 + (a.cnt + b.cnt)) (by omega)
  have Yb := Ext.trans (b := base) (c := 1 + (a.cnt + b.cnt)) h1.ext hne (by omega) (by omega)
  have BC := h1.same.trans (bO.of (j5 x.2 (base + a.cnt - 1 : Nat) x.1))
  have h2 : zt (x.2.name ((base + a.cnt - 1 : Nat) : Int) x.1) (mW fuel b (sc ++ [(nm, ((base + a.cnt - 1 : Nat) : Int))]) (base + a.cnt) (x.2.name ((base + a.cnt - 1 : Nat) : Int) x.1)) (base + a.cnt) b.cnt B := by
   rcases h1.ok with h12 | ⟨h0, hv⟩
   ·exact zt.bad b _ _ (by rw [(jc _ _ _).1]; exact h12) B
   ·have hx := he.step.on h1.ext h1.same (Nat.le_refl _)
    have iF := hx.snoc (nm := nm) (j := base + a.cnt - 1) (by omega) (by omega) hv
    rw [show base + a.cnt - 1 + 1 = base + a.cnt from by omega] at iF
    exact dG _ _ _ iF (by rw [hne.len, hxl]; omega) (by rw [(jc _ _ _).1]; exact h0) (by rw [j5, h1.same.len]; exact hr)
  exact ⟨Ext.trans (b := base) (c := 1 + (a.cnt + b.cnt)) Yb h2.ext (by omega) (by omega), BC.trans h2.same, h2.ok⟩
 | @pair G p nm rg a b A B r hrg ha hb bI dG =>
  intro sc base m he hl hf hr
  simp only [PT.cnt, aB, Nat.add_zero] at hl ⊢
  simp only [mW, iK, if_true, reduceCtorEq, if_false]
  refine iE hf ?_
  have BK : fY { m with steps := m.steps + 1 } sc G base := he.step
  have h1 := bI sc base { m with steps := m.steps + 1 } BK (by simp only; omega) hf hr
  generalize mW fuel a sc base { m with steps := m.steps + 1 } = x at h1 ⊢
  have hxl : x.2.named.length = m.named.length := h1.ext.len
  have h2 : zt x.2 (mW fuel b sc (base + a.cnt) x.2) (base + a.cnt) b.cnt B := by
   rcases h1.ok with h12 | ⟨h0, _⟩
   ·exact zt.bad b _ _ h12 B
   ·exact dG sc (base + a.cnt) x.2 ((BK.on h1.ext h1.same (Nat.le_refl _)).up (by omega)) (by omega) h0 (by rw [h1.same.len]; exact hr)
  have WY : x.2.fault ≠ 0 -> (mW fuel b sc (base + a.cnt) x.2).2.fault = x.2.fault := C2 fuel b sc (base + a.cnt) x.2
  generalize mW fuel b sc (base + a.cnt) x.2 = y at h2 WY ⊢
  have hE := Ext.trans (b := base) (c := 1 + (a.cnt + b.cnt)) h1.ext h2.ext (by omega) (by omega)
  have hS := h1.same.trans h2.same
  have hce := rO y.2 (au rg) x.1 y.1 base (1 + (a.cnt + b.cnt))
  have hcs : bO y.2 (y.2.aZ (au rg) x.1 y.1).2 := by
   unfold bO MM.aZ
   cases hg : y.2.regs[y.2.home (au rg)]? with
   | none => rfl
   | some g =>
    simp only [List.map_set]
    have hlt := (List.getElem?_eq_some_iff.1 hg).1
    have hge := (List.getElem?_eq_some_iff.1 hg).2
    rw [show AQ { g with cells := g.cells + 1 } = (y.2.regs.map AQ)[y.2.home (au rg)]'(by simpa using hlt) by simp [AQ, hge]]
    exact List.set_getElem_self _
  refine ⟨Ext.trans (b := base) (c := 1 + (a.cnt + b.cnt)) hE hce (by omega) (by omega), hS.trans hcs, ?_⟩
  rw [gq]
  rcases h2.ok with h12 | ⟨h0, hv⟩
  ·exact Or.inl h12
  ·rcases h1.ok with g12 | ⟨g0, gv⟩
   ·rw [WY (by rw [g12]; decide), g12] at h0; cases h0
   ·refine Or.inr ⟨h0, ?_⟩
    rw [hrg]
    exact (Pt (by rw [hS.len]; exact hr) (gv.on h2.ext.cells h2.same) hv).2
 | @fst G p nm rg a r A B ha bI =>
  intro sc base m he hl hf hr
  simp only [PT.cnt, aB, Nat.add_zero] at hl ⊢
  simp only [mW, iK, if_true, reduceCtorEq, if_false]
  refine iE hf ?_
  have BK : fY { m with steps := m.steps + 1 } sc G base := he.step
  have h1 := bI sc base { m with steps := m.steps + 1 } BK (by simp only; omega) hf hr
  generalize mW fuel a sc base { m with steps := m.steps + 1 } = x at h1 ⊢
  rcases h1.ok with h12 | ⟨h0, hv⟩
  ·rw [s8 _ _ (by rw [h12]; decide)]
   exact ⟨h1.ext.widen (by omega), h1.same, Or.inl h12⟩
  ·obtain ⟨u1, u2, _⟩ := E7 hv
   rw [u1]
   exact ⟨h1.ext.widen (by omega), h1.same, Or.inr ⟨h0, u2⟩⟩
 | @snd G p nm rg a r A B ha bI =>
  intro sc base m he hl hf hr
  simp only [PT.cnt, aB, Nat.add_zero] at hl ⊢
  simp only [mW, iK, reduceCtorEq, if_false]
  refine iE hf ?_
  have BK : fY { m with steps := m.steps + 1 } sc G base := he.step
  have h1 := bI sc base { m with steps := m.steps + 1 } BK (by simp only; omega) hf hr
  generalize mW fuel a sc base { m with steps := m.steps + 1 } = x at h1 ⊢
  rcases h1.ok with h12 | ⟨h0, hv⟩
  ·rw [s8 _ _ (by rw [h12]; decide)]
   exact ⟨h1.ext.widen (by omega), h1.same, Or.inl h12⟩
  ·obtain ⟨u1, _, u3⟩ := E7 hv
   rw [u1]
   exact ⟨h1.ext.widen (by omega), h1.same, Or.inr ⟨h0, u3⟩⟩
 | @fH G p nm rg a b c T ha hb hc bI dG nY =>
  intro sc base m he hl hf hr
  simp only [PT.cnt, aB, Nat.add_zero] at hl ⊢
  simp only [mW, Om, if_true, reduceCtorEq, if_false]
  refine iE hf ?_
  have BK : fY { m with steps := m.steps + 1 } sc G base := he.step
  have h1 := bI sc base { m with steps := m.steps + 1 } BK (by simp only; omega) hf hr
  generalize mW fuel a sc base { m with steps := m.steps + 1 } = x at h1 ⊢
  have hxl : x.2.named.length = m.named.length := h1.ext.len
  have hx := BK.on h1.ext h1.same (Nat.le_refl _)
  split
  ·have h2 : zt x.2 (mW fuel b sc (base + a.cnt) x.2) (base + a.cnt) b.cnt T := by
    rcases h1.ok with h12 | ⟨h0, _⟩
    ·exact zt.bad b _ _ h12 T
    ·exact dG sc (base + a.cnt) x.2 (hx.up (by omega)) (by omega) h0 (by rw [h1.same.len]; exact hr)
   exact ⟨Ext.trans (b := base) (c := 1 + (a.cnt + (b.cnt + c.cnt))) h1.ext h2.ext (by omega) (by omega), h1.same.trans h2.same, h2.ok⟩
  ·have h2 : zt x.2 (mW fuel c sc (base + a.cnt + b.cnt) x.2) (base + a.cnt + b.cnt) c.cnt T := by
    rcases h1.ok with h12 | ⟨h0, _⟩
    ·exact zt.bad c _ _ h12 T
    ·exact nY sc (base + a.cnt + b.cnt) x.2 (hx.up (by omega)) (by omega) h0 (by rw [h1.same.len]; exact hr)
   exact ⟨Ext.trans (b := base) (c := 1 + (a.cnt + (b.cnt + c.cnt))) h1.ext h2.ext (by omega) (by omega), h1.same.trans h2.same, h2.ok⟩
 | @two G p k nm rg a b hkk ha hb bI dG =>
  intro sc base m he hl hf hr
  simp only [PT.cnt, aB, Nat.add_zero] at hl ⊢
  have e : mW fuel (.node p k nm rg [a, b]) sc base m = bn fuel m (fun m => (⟨false, ij k (mW fuel a sc base m).1.n (mW fuel b sc (base + a.cnt) (mW fuel a sc base m).2).1.n⟩, (mW fuel b sc (base + a.cnt) (mW fuel a sc base m).2).2)) := by
   rcases hkk with rfl | rfl | rfl <;> simp only [mW, iK, reduceCtorEq, if_false]
  rw [e]
  refine iE hf ?_
  have BK : fY { m with steps := m.steps + 1 } sc G base := he.step
  have h1 := bI sc base { m with steps := m.steps + 1 } BK (by simp only; omega) hf hr
  generalize mW fuel a sc base { m with steps := m.steps + 1 } = x at h1 ⊢
  have hxl : x.2.named.length = m.named.length := h1.ext.len
  have h2 : zt x.2 (mW fuel b sc (base + a.cnt) x.2) (base + a.cnt) b.cnt .n := by
   rcases h1.ok with h12 | ⟨h0, _⟩
   ·exact zt.bad b _ _ h12 .n
   ·exact dG sc (base + a.cnt) x.2 ((BK.on h1.ext h1.same (Nat.le_refl _)).up (by omega)) (by omega) h0 (by rw [h1.same.len]; exact hr)
  have WY : x.2.fault ≠ 0 -> (mW fuel b sc (base + a.cnt) x.2).2.fault = x.2.fault := C2 fuel b sc (base + a.cnt) x.2
  generalize mW fuel b sc (base + a.cnt) x.2 = y at h2 WY ⊢
  refine ⟨Ext.trans (b := base) (c := 1 + (a.cnt + b.cnt)) h1.ext h2.ext (by omega) (by omega), h1.same.trans h2.same, ?_⟩
  rcases h2.ok with h12 | ⟨h0, hv⟩
  ·exact Or.inl h12
  ·rcases h1.ok with g12 | ⟨g0, gv⟩
   ·rw [WY (by rw [g12]; decide), g12] at h0; cases h0
   ·refine Or.inr ⟨h0, ?_⟩
    simp only [bW] at gv hv ⊢
    refine ⟨trivial, ?_⟩
    rcases hkk with rfl | rfl | rfl
    ·simp only [ij, if_true]
     rw [Int.tmod_eq_emod_of_nonneg (by omega)]; omega
    ·simp only [ij, if_true, reduceCtorEq, if_false]
     rw [Int.tmod_eq_emod_of_nonneg (by omega)]; omega
    ·simp only [ij, reduceCtorEq, if_false]
     split <;> omega
 | @loop G p nm rg a b c T ha hb hc bI dG nY =>
  intro sc base m he hl hf hr
  simp only [PT.cnt, aB, Nat.add_zero] at hl ⊢
  simp only [mW, rF, if_true, reduceCtorEq, if_false]
  refine iE hf ?_
  have BK : fY { m with steps := m.steps + 1 } sc G base := he.step
  have h1 := bI sc base { m with steps := m.steps + 1 } BK (by simp only; omega) hf hr
  generalize mW fuel a sc base { m with steps := m.steps + 1 } = x at h1 ⊢
  have hxl : x.2.named.length = m.named.length := h1.ext.len
  have hx := BK.on h1.ext h1.same (Nat.le_refl _)
  have h2 : zt x.2 (mW fuel b sc (base + a.cnt) x.2) (base + a.cnt) b.cnt T := by
   rcases h1.ok with h12 | ⟨h0, _⟩
   ·exact zt.bad b _ _ h12 T
   ·exact dG sc (base + a.cnt) x.2 (hx.up (by omega)) (by omega) h0 (by rw [h1.same.len]; exact hr)
  generalize mW fuel b sc (base + a.cnt) x.2 = y at h2 ⊢
  have nj : y.2.named.length = m.named.length := h2.ext.len.trans hxl
  have hy := (hx.up (show base <= base + a.cnt by omega)).on h2.ext h2.same (Nat.le_refl _)
  have hy0 := hx.on h2.ext h2.same (show base <= base + a.cnt by omega)
  have uD := dI b
  have hS := h1.same.trans h2.same
  have hE := Ext.trans (b := base) (c := 1 + (a.cnt + (b.cnt + c.cnt))) h1.ext h2.ext (by omega) (by omega)
  rw [show (((base + a.cnt + b.cnt : Nat) : Int) - 1) = ((base + a.cnt + b.cnt - 1 : Nat) : Int) from by omega]
  rcases h2.ok with h12 | ⟨h0, hv⟩
  ·rw [zw _ _ _ _ _ (by rw [h12]; decide)]
   exact ⟨hE, hS, Or.inl h12⟩
  ·have h3 := C9 (T := T) (j := base + a.cnt + b.cnt - 1) (B := base) (C := 1 + (a.cnt + (b.cnt + c.cnt))) (g := fun m => mW fuel c (sc ++ [(nm, ((base + a.cnt + b.cnt - 1 : Nat) : Int))]) (base + a.cnt + b.cnt) m) (P := fun m' => fY m' sc G base /\ m'.named.length = m.named.length /\ 0 < m'.regs.length) (by omega) (fun m' v hP hf' hv' => by
    have iF := fY.snoc (nm := nm) (j := base + a.cnt + b.cnt - 1) (hP.1.up (show base <= base + a.cnt + b.cnt - 1 by omega)) (Nat.le_refl _) (by omega) hv'
    rw [show base + a.cnt + b.cnt - 1 + 1 = base + a.cnt + b.cnt from by omega] at iF
    have hne := fE m' (base + a.cnt + b.cnt - 1) v (base + a.cnt + b.cnt - 1) 1 (by omega)
    have hns : bO m' (m'.name ((base + a.cnt + b.cnt - 1 : Nat) : Int) v) := bO.of (j5 m' _ v)
    have h4 := nY _ (base + a.cnt + b.cnt) _ iF (by rw [hne.len]; omega) (by rw [(jc _ _ _).1]; exact hf') (by rw [j5]; exact hP.2.2)
    refine ⟨⟨h4.ext.widen (by omega), h4.same, h4.ok⟩, (hP.1.on hne hns (by omega)).on h4.ext h4.same (by omega), h4.ext.len.trans (hne.len.trans hP.2.1), ?_⟩
    rw [h4.same.len, j5]; exact hP.2.2) x.1.n.toNat y.2 y.1 ⟨hy0, nj, by rw [hS.len]; exact hr⟩ h0 hv
   exact ⟨Ext.trans (b := base) (c := 1 + (a.cnt + (b.cnt + c.cnt))) hE h3.ext (by omega) (by omega), hS.trans h3.same, h3.ok⟩
 | @new G p nm rg a T ha hm bI =>
  intro sc base m he hl hf hr
  simp only [PT.cnt, aB, Nat.add_zero] at hl ⊢
  simp only [mW, vX, if_true]
  have hoe : Ext m (m.opn (au rg)) base (1 + a.cnt) := Ext.same (m := m) (m' := m.opn (au rg)) rfl rfl _ _
  have heo : fY (m.opn (au rg)) sc G base := by
   intro s U hlk
   obtain ⟨i, v, h1, h2, h3, h4⟩ := he s U hlk
   exact ⟨i, v, h1, h2, h3, h4.opn _⟩
  have h1 := bI sc base (m.opn (au rg)) heo (by simp only [MM.opn]; omega) hf (by simp [MM.opn])
  generalize mW fuel a sc base (m.opn (au rg)) = x at h1 ⊢
  have hE := Ext.trans (b := base) (c := 1 + a.cnt) hoe h1.ext (by omega) (by omega)
  refine ⟨Ext.trans (b := base) (c := 1 + a.cnt) hE (Aq _ base (1 + a.cnt)) (by omega) (by omega), h1.same.new, ?_⟩
  rw [(oT x.2).1]
  rcases h1.ok with h12 | ⟨h0, hv⟩
  ·exact Or.inl h12
  ·exact Or.inr ⟨h0, hv.fin hr h1.same hm⟩
open Go.Lib (decDigits)
structure Da (regs news : List Int) (ns : List NR) (T2 : List Ty) : Prop where
 ty : ∀ i n, ns[i]? = some n -> ai T2 (i : Nat) = cH T2 (fC n (jJ regs i))
 pr : Np regs ns
 one : ∀ (i : Nat) n, ns[i]? = some n -> n.form = 7 \/ n.form = 11 -> ai T2 n.p1 = ai T2 n.p2
 nw : ∀ r i : Nat, news[r]? = some (i : Int) -> (ai T2 i).has r = false
def Pu (T2 : List Ty) (G GR : aQ) (sc : Sc) : Prop := ∀ s U, look G s = some U -> ∃ i : Nat, bL sc s = (i : Int) /\ look GR s = some (ai T2 i) /\ (ai T2 i).bare = U
theorem Pu.snoc {T2 : List Ty} {G GR : aQ} {sc : Sc} {nm : List UInt8} {U : Ty} {i : Nat} (h : Pu T2 G GR sc) (hu : (ai T2 i).bare = U) (z : Int) (hz : z = (i : Int)) : Pu T2 (G ++ [(nm, U)]) (GR ++ [(nm, ai T2 i)]) (sc ++ [(nm, z)]) := fun s V hs => by
 subst hz
 rw [kS] at hs
 rw [lD, kS]
 by_cases e : nm = s
 ·rw [if_pos e] at hs
  rw [if_pos e, if_pos e]
  simp only [Option.some.injEq] at hs
  subst hs
  exact ⟨i, rfl, rfl, hu⟩
 ·rw [if_neg e] at hs
  rw [if_neg e, if_neg e]
  exact h s V hs
theorem xp (r : Nat) : au (35 :: decDigits r) = (r : Int) := by
 have : au (35 :: decDigits r) = au (decDigits r) := by unfold au; rw [List.foldl_cons]; rfl
 rw [this, kq]
theorem gr {GR : aQ} {t : PT} {V : Ty} (i : Int) (h : mU GR t V) : ∀ (l : List Int) (r : Nat), (∀ j, l[j]? = some i -> V.has ((r + j : Nat) : Int) = false) -> mU GR (eU l r i t) V
 | [], _, _ => h
 | a :: l, r, hh => by
  have ih := gr i h l (r + 1) (fun j hj => by rw [show r + 1 + j = r + (j + 1) by omega]; exact hh (j + 1) (by simpa using hj))
  simp only [eU]
  split
  ·rename_i e
   refine .new ih ?_
   rw [xp]
   exact hh 0 (by simp [e])
  ·exact ih
theorem at_root {ns pre ks post : List NR} {n : NR} (h : ns = pre ++ ((ks ++ [n]) ++ post)) : ns[pre.length + ks.length]? = some n := by
 rw [h]
 exact Ab pre _ post ks.length n (by rw [List.getElem?_append_right (Nat.le_refl _), Nat.sub_self]; rfl)
theorem Da.Pv {regs news : List Int} {ns : List NR} {T2 : List Ty} (H : Da regs news ns T2) (i : Nat) : ∀ j, news[j]? = some (i : Int) -> (ai T2 i).has ((0 + j : Nat) : Int) = false := fun j hj => by rw [Nat.zero_add]; exact H.nw j i hj
theorem eJ (b c : Nat) : (((b + (1 + c) : Nat) : Int) - 1) = ((b + c : Nat) : Int) := by omega
theorem Gy (b : Nat) (t : PT) : ∃ i : Nat, (((b + t.cnt : Nat) : Int) - 1) = (i : Int) /\ i = b + t.cnt - 1 := ⟨b + t.cnt - 1, by have := dI t; omega, rfl⟩
theorem Pw {regs news : List Int} {ns : List NR} {T2 : List Ty} (H : Da regs news ns T2) {G : aQ} {e : PT} {U : Ty} (h : WT G e U) : cJ e -> e.bN -> ∀ (GR : aQ) (sc : Sc) (b : Nat) (pre ms post : List NR), NA sc e b ms -> ns = pre ++ (ms ++ post) -> pre.length = b -> Pu T2 G GR sc ->
  mU GR (e.lay regs news b) (ai T2 (((b + e.cnt : Nat) : Int) - 1)) /\ (ai T2 (((b + e.cnt : Nat) : Int) - 1)).bare = U := by
 induction h with
 | @num G p s =>
  intro _ ht GR sc b pre ms post bq hns hb hE
  simp only [NA] at bq
  subst bq
  simp only [PT.bN] at ht
  have hn := at_root (ks := []) hns
  rw [hb] at hn
  have hty := H.ty _ _ hn
  have hV : ai T2 (((b + (PT.num p s).cnt : Nat) : Int) - 1) = .n := by
   rw [show (((b + (PT.num p s).cnt : Nat) : Int) - 1) = ((b + ([] : List NR).length : Nat) : Int) from by simp only [PT.cnt, List.length_nil]; omega, hty]
   simp [cH, fC]
  rw [hV]
  refine ⟨?_, rfl⟩
  have ke := H.Pv b
  have hb2 : (((b + (PT.num p s).cnt : Nat) : Int) - 1) = (b : Int) := by simp only [PT.cnt]; omega
  rw [hb2] at hV
  rw [hV] at ke
  unfold PT.lay
  rw [hb2]
  refine gr _ (.num ?_) news 0 ke
  rw [kq]; omega
 | @name G p s T hs =>
  intro _ ht GR sc b pre ms post bq hns hb hE
  simp only [NA] at bq
  subst bq
  have hn := at_root (ks := []) hns
  rw [hb] at hn
  have hty := H.ty _ _ hn
  obtain ⟨i, h1, h2, h3⟩ := hE _ _ hs
  have hb2 : (((b + (PT.name p s).cnt : Nat) : Int) - 1) = (b : Int) := by simp only [PT.cnt]; omega
  have hV : ai T2 (b : Int) = ai T2 (i : Int) := by
   rw [show (b : Int) = ((b + ([] : List NR).length : Nat) : Int) by simp, hty]
   simp [cH, fC, h1]
  have ke := H.Pv b
  rw [hb2, hV]
  rw [hV] at ke
  refine ⟨?_, h3⟩
  unfold PT.lay
  rw [hb2]
  exact gr _ (.name h2) news 0 ke
 | @bb G p nm rg a b UA UB ha hb bI dG =>
  intro hn ht GR sc bs pre ms post bq hns hbs hE
  cases hn with
  | node _ hn =>
  simp only [PT.bN, bG] at ht
  simp only [NA, bX, cR, Bool.false_eq_true, if_false, if_true] at bq
  obtain ⟨ks, aO, ⟨a1, c1, eC, ⟨a2, c2, lL, ⟨_, rfl⟩, rfl⟩, rfl⟩, rfl⟩ := bq
  rw [List.append_nil] at hns
  have la := NA.len eC
  have lb := NA.len lL
  have hroot := at_root hns
  rw [hbs, List.length_append, la, lb] at hroot
  have hty := H.ty _ _ hroot
  obtain ⟨AR, ub⟩ := bI (hn _ (by simp)) ht.2.1 GR sc bs pre a1 (a2 ++ ([_] ++ post)) eC (by rw [hns]; simp only [List.append_assoc]; rfl) hbs hE
  obtain ⟨ia, hia, aaV⟩ := Gy bs a
  rw [hia] at AR ub
  obtain ⟨DB, qO⟩ := dG (hn _ (by simp)) ht.2.2.1 (GR ++ [(nm, ai T2 ia)]) _ (bs + a.cnt) (pre ++ a1) a2 ([_] ++ post) lL (by rw [hns]; simp only [List.append_assoc]; rfl) (by rw [List.length_append, hbs, la]) (hE.snoc ub _ (by omega))
  have hV : ai T2 ((bs + (a.cnt + b.cnt) : Nat) : Int) = ai T2 (((bs + a.cnt + b.cnt : Nat) : Int) - 1) := by
   rw [hty]
   simp only [cH, fC, qC, ay, List.getD_cons_succ, List.getD_cons_zero]
   simp
  have ke := H.Pv (bs + (a.cnt + b.cnt))
  simp only [PT.lay, PT.cnt, aB, Nat.add_zero, eJ, PT.fF]
  rw [hV] at ke ⊢
  exact ⟨gr _ (.bb AR DB) news 0 ke, qO⟩
 | @pair G p nm rg a b UA UB ha hb hsz bI dG =>
  intro hn ht GR sc bs pre ms post bq hns hbs hE
  cases hn with
  | node _ hn =>
  simp only [PT.bN, bG] at ht
  simp only [NA, bX, cR, Bool.false_eq_true, if_false] at bq
  obtain ⟨ks, aO, ⟨a1, c1, eC, ⟨a2, c2, lL, ⟨_, rfl⟩, rfl⟩, rfl⟩, rfl⟩ := bq
  rw [List.append_nil] at hns
  have la := NA.len eC
  have lb := NA.len lL
  have hroot := at_root hns
  rw [hbs, List.length_append, la, lb] at hroot
  have hty := H.ty _ _ hroot
  have jm := (H.pr _ _ hroot).1 rfl
  obtain ⟨AR, ub⟩ := bI (hn _ (by simp)) ht.2.1 GR sc bs pre a1 (a2 ++ ([_] ++ post)) eC (by rw [hns]; simp only [List.append_assoc]; rfl) hbs hE
  obtain ⟨DB, qO⟩ := dG (hn _ (by simp)) ht.2.2.1 GR sc (bs + a.cnt) (pre ++ a1) a2 ([_] ++ post) lL (by rw [hns]; simp only [List.append_assoc]; rfl) (by rw [List.length_append, hbs, la]) hE
  have hV : ai T2 ((bs + (a.cnt + b.cnt) : Nat) : Int) = .p (jJ regs (bs + (a.cnt + b.cnt))).toNat (ai T2 (((bs + a.cnt : Nat) : Int) - 1)) (ai T2 (((bs + a.cnt + b.cnt : Nat) : Int) - 1)) := by
   rw [hty]
   simp only [cH, fC, mH, ay, List.getD_cons_succ, List.getD_cons_zero]
   simp
  have ke := H.Pv (bs + (a.cnt + b.cnt))
  simp only [PT.lay, PT.cnt, aB, Nat.add_zero, eJ, PT.fF]
  rw [hV] at ke ⊢
  refine ⟨gr _ (.pair ?_ AR DB) news 0 ke, by simp only [Ty.bare, ub, qO]⟩
  unfold QP
  rw [if_neg (by omega), xp]
 | @fst G p nm rg a UA UB ha bI =>
  intro hn ht GR sc bs pre ms post bq hns hbs hE
  cases hn with
  | node _ hn =>
  simp only [PT.bN, bG] at ht
  simp only [NA, bX, cR, Bool.false_eq_true, if_false] at bq
  obtain ⟨ks, aO, ⟨a1, c1, eC, ⟨_, rfl⟩, rfl⟩, rfl⟩ := bq
  rw [List.append_nil] at hns
  have la := NA.len eC
  have hroot := at_root hns
  rw [hbs, la] at hroot
  have hty := H.ty _ _ hroot
  obtain ⟨AR, ub⟩ := bI (hn _ (by simp)) ht.2.1 GR sc bs pre a1 ([_] ++ post) eC (by rw [hns]; simp only [List.append_assoc]; rfl) hbs hE
  have hV : ai T2 ((bs + a.cnt : Nat) : Int) = Bv (ai T2 (((bs + a.cnt : Nat) : Int) - 1)) := by
   rw [hty]
   simp only [cH, fC, qD, ay, List.getD_cons_succ, List.getD_cons_zero]
   simp
  obtain ⟨r, u, v, hp, hu, hv⟩ := kx ub
  rw [hp] at AR hV
  have ke := H.Pv (bs + a.cnt)
  simp only [PT.lay, PT.cnt, aB, Nat.add_zero, eJ, PT.fF]
  rw [hV] at ke ⊢
  exact ⟨gr _ (.fst AR) news 0 ke, hu⟩
 | @snd G p nm rg a UA UB ha bI =>
  intro hn ht GR sc bs pre ms post bq hns hbs hE
  cases hn with
  | node _ hn =>
  simp only [PT.bN, bG] at ht
  simp only [NA, bX, cR, Bool.false_eq_true, if_false] at bq
  obtain ⟨ks, aO, ⟨a1, c1, eC, ⟨_, rfl⟩, rfl⟩, rfl⟩ := bq
  rw [List.append_nil] at hns
  have la := NA.len eC
  have hroot := at_root hns
  rw [hbs, la] at hroot
  have hty := H.ty _ _ hroot
  obtain ⟨AR, ub⟩ := bI (hn _ (by simp)) ht.2.1 GR sc bs pre a1 ([_] ++ post) eC (by rw [hns]; simp only [List.append_assoc]; rfl) hbs hE
  have hV : ai T2 ((bs + a.cnt : Nat) : Int) = Bw (ai T2 (((bs + a.cnt : Nat) : Int) - 1)) := by
   rw [hty]
   simp only [cH, fC, qE, ay, List.getD_cons_succ, List.getD_cons_zero]
   simp
  obtain ⟨r, u, v, hp, hu, hv⟩ := kx ub
  rw [hp] at AR hV
  have ke := H.Pv (bs + a.cnt)
  simp only [PT.lay, PT.cnt, aB, Nat.add_zero, eJ, PT.fF]
  rw [hV] at ke ⊢
  exact ⟨gr _ (.snd AR) news 0 ke, hv⟩
 | @fH G p nm rg a b c U ha hb hc bI dG nY =>
  intro hn ht GR sc bs pre ms post bq hns hbs hE
  cases hn with
  | node _ hn =>
  simp only [PT.bN, bG] at ht
  simp only [NA, bX, cR, Bool.false_eq_true, if_false] at bq
  obtain ⟨ks, aO, ⟨a1, c1, eC, ⟨a2, c2, lL, ⟨a3, c3, E8, ⟨_, rfl⟩, rfl⟩, rfl⟩, rfl⟩, rfl⟩ := bq
  rw [List.append_nil] at hns
  have la := NA.len eC
  have lb := NA.len lL
  have lc := NA.len E8
  have hroot := at_root hns
  rw [hbs, List.length_append, List.length_append, la, lb, lc] at hroot
  have hty := H.ty _ _ hroot
  have hone := H.one _ _ hroot (Or.inl rfl)
  simp only [ay, List.getD_cons_succ, List.getD_cons_zero] at hone
  obtain ⟨AR, ub⟩ := bI (hn _ (by simp)) ht.2.1 GR sc bs pre a1 (a2 ++ (a3 ++ ([_] ++ post))) eC (by rw [hns]; simp only [List.append_assoc]; rfl) hbs hE
  obtain ⟨DB, qO⟩ := dG (hn _ (by simp)) ht.2.2.1 GR sc (bs + a.cnt) (pre ++ a1) a2 (a3 ++ ([_] ++ post)) lL (by rw [hns]; simp only [List.append_assoc]; rfl) (by rw [List.length_append, hbs, la]) hE
  obtain ⟨hwc, hbc⟩ := nY (hn _ (by simp)) ht.2.2.2.1 GR sc (bs + a.cnt + b.cnt) (pre ++ a1 ++ a2) a3 ([_] ++ post) E8 (by rw [hns]; simp only [List.append_assoc]; rfl) (by rw [List.length_append, List.length_append, hbs, la, lb]) hE
  have hV : ai T2 ((bs + (a.cnt + (b.cnt + c.cnt)) : Nat) : Int) = ai T2 (((bs + a.cnt + b.cnt : Nat) : Int) - 1) := by
   rw [hty]
   simp only [cH, fC, tX, ay, List.getD_cons_succ, List.getD_cons_zero]
   simp
  rw [jA ub] at AR
  rw [<- hone] at hwc
  have ke := H.Pv (bs + (a.cnt + (b.cnt + c.cnt)))
  simp only [PT.lay, PT.cnt, aB, Nat.add_zero, eJ, PT.fF]
  rw [hV] at ke ⊢
  exact ⟨gr _ (.fH AR DB hwc) news 0 ke, qO⟩
 | @two G p k nm rg a b hkk ha hb bI dG =>
  intro hn ht GR sc bs pre ms post bq hns hbs hE
  have hkb : bX k = [false, false] := by rcases hkk with rfl | rfl | rfl <;> rfl
  have DZ : aU k = 8 \/ aU k = 9 \/ aU k = 10 := by rcases hkk with rfl | rfl | rfl <;> decide
  cases hn with
  | node _ hn =>
  simp only [PT.bN, bG] at ht
  simp only [NA, hkb, cR, Bool.false_eq_true, if_false] at bq
  obtain ⟨ks, aO, ⟨a1, c1, eC, ⟨a2, c2, lL, ⟨_, rfl⟩, rfl⟩, rfl⟩, rfl⟩ := bq
  rw [List.append_nil] at hns
  have la := NA.len eC
  have lb := NA.len lL
  have hroot := at_root hns
  rw [hbs, List.length_append, la, lb] at hroot
  have hty := H.ty _ _ hroot
  obtain ⟨AR, ub⟩ := bI (hn _ (by simp)) ht.2.1 GR sc bs pre a1 (a2 ++ ([_] ++ post)) eC (by rw [hns]; simp only [List.append_assoc]; rfl) hbs hE
  obtain ⟨DB, qO⟩ := dG (hn _ (by simp)) ht.2.2.1 GR sc (bs + a.cnt) (pre ++ a1) a2 ([_] ++ post) lL (by rw [hns]; simp only [List.append_assoc]; rfl) (by rw [List.length_append, hbs, la]) hE
  have hV : ai T2 ((bs + (a.cnt + b.cnt) : Nat) : Int) = .n := by
   rw [hty]
   simp only [cH, fC]
   rcases DZ with h | h | h <;> simp [h]
  rw [jA ub] at AR
  rw [jA qO] at DB
  have ke := H.Pv (bs + (a.cnt + b.cnt))
  simp only [PT.lay, PT.cnt, aB, Nat.add_zero, eJ, PT.fF]
  rw [hV] at ke ⊢
  exact ⟨gr _ (.two hkk AR DB) news 0 ke, rfl⟩
 | @loop G p nm rg a b c U ha hb hc bI dG nY =>
  intro hn ht GR sc bs pre ms post bq hns hbs hE
  cases hn with
  | node _ hn =>
  simp only [PT.bN, bG] at ht
  simp only [NA, bX, cR, Bool.false_eq_true, if_false, if_true] at bq
  obtain ⟨ks, aO, ⟨a1, c1, eC, ⟨a2, c2, lL, ⟨a3, c3, E8, ⟨_, rfl⟩, rfl⟩, rfl⟩, rfl⟩, rfl⟩ := bq
  rw [List.append_nil] at hns
  have la := NA.len eC
  have lb := NA.len lL
  have lc := NA.len E8
  have hroot := at_root hns
  rw [hbs, List.length_append, List.length_append, la, lb, lc] at hroot
  have hty := H.ty _ _ hroot
  have hone := H.one _ _ hroot (Or.inr rfl)
  simp only [ay, List.getD_cons_succ, List.getD_cons_zero] at hone
  obtain ⟨AR, ub⟩ := bI (hn _ (by simp)) ht.2.1 GR sc bs pre a1 (a2 ++ (a3 ++ ([_] ++ post))) eC (by rw [hns]; simp only [List.append_assoc]; rfl) hbs hE
  obtain ⟨DB, qO⟩ := dG (hn _ (by simp)) ht.2.2.1 GR sc (bs + a.cnt) (pre ++ a1) a2 (a3 ++ ([_] ++ post)) lL (by rw [hns]; simp only [List.append_assoc]; rfl) (by rw [List.length_append, hbs, la]) hE
  obtain ⟨ib, hib, aaW⟩ := Gy (bs + a.cnt) b
  rw [hib] at DB qO hone
  obtain ⟨hwc, hbc⟩ := nY (hn _ (by simp)) ht.2.2.2.1 (GR ++ [(nm, ai T2 ib)]) _ (bs + a.cnt + b.cnt) (pre ++ a1 ++ a2) a3 ([_] ++ post) E8 (by rw [hns]; simp only [List.append_assoc]; rfl) (by rw [List.length_append, List.length_append, hbs, la, lb]) (hE.snoc qO _ (by omega))
  have hV : ai T2 ((bs + (a.cnt + (b.cnt + c.cnt)) : Nat) : Int) = ai T2 (ib : Int) := by
   rw [hty, <- hib]
   simp only [cH, fC, lA, ay, List.getD_cons_succ, List.getD_cons_zero]
   simp
  rw [jA ub] at AR
  rw [<- hone] at hwc
  have ke := H.Pv (bs + (a.cnt + (b.cnt + c.cnt)))
  simp only [PT.lay, PT.cnt, aB, Nat.add_zero, eJ, PT.fF]
  rw [hV] at ke ⊢
  exact ⟨gr _ (.loop AR DB hwc) news 0 ke, qO⟩
 | new _ _ =>
  intro hn
  cases hn with
  | node hk _ => exact absurd rfl hk
theorem cE {T X : List Ty} {p : Int} (h : p < T.length) : ai (T ++ X) p = ai T p := by
 unfold ai
 split
 ·rw [List.getElem?_append_left (by omega)]
 ·rfl
theorem r8 : ∀ (ns : List NR) (T : List Ty), ∃ X, bz T ns = T ++ X /\ X.length = ns.length
 | [], T => ⟨[], by simp [bz], rfl⟩
 | n :: r, T => by
  obtain ⟨X, h1, h2⟩ := r8 r (T ++ [cH T n])
  exact ⟨cH T n :: X, by simp only [bz, h1, List.append_assoc, List.singleton_append], by simp [h2]⟩
def lE (k : Nat) (n : NR) : Prop := n.p0 < k /\ n.p1 < k /\ n.p2 < k /\ n.source < k
theorem Px {T X : List Ty} {n : NR} (h : lE T.length n) : cH (T ++ X) n = cH T n := by
 unfold cH
 rw [cE h.1, cE h.2.1, cE h.2.2.2]
theorem AU : ∀ (ns : List NR) (T : List Ty), (∀ (i : Nat) n, ns[i]? = some n -> lE (T.length + i) n) -> ∀ (i : Nat) n, ns[i]? = some n -> ai (bz T ns) ((T.length + i : Nat) : Int) = cH (bz T ns) n
 | [], _, _, i, n, h => by simp at h
 | m :: r, T, hb, i, n, h => by
  simp only [bz]
  cases i with
  | zero =>
   simp only [List.getElem?_cons_zero, Option.some.injEq] at h
   subst h
   obtain ⟨X, h1, _⟩ := r8 r (T ++ [cH T m])
   have Gz : lE T.length m := by simpa using hb 0 m (by simp)
   rw [h1, List.append_assoc, Px Gz]
   unfold ai
   rw [if_pos (by omega), Int.toNat_natCast, Nat.add_zero, List.getElem?_append_right (Nat.le_refl _), Nat.sub_self]; rfl
  | succ j =>
   have := AU r (T ++ [cH T m]) (fun k x hx => by have := hb (k + 1) x (by simpa using hx); rw [List.length_append, List.length_singleton]; rwa [show T.length + 1 + k = T.length + (k + 1) by omega]) j n (by simpa using h)
   rw [List.length_append, List.length_singleton, show T.length + 1 + j = T.length + (j + 1) by omega] at this
   exact this
theorem zx : ∀ (ns : List NR) (T : List Ty), (∀ (i : Nat) n, ns[i]? = some n -> lE (T.length + i) n) -> (∀ (i : Nat) n, ns[i]? = some n -> n.form = 7 \/ n.form = 11 -> (ai (bz T ns) n.p1).bare = (ai (bz T ns) n.p2).bare) -> sF T ns
 | [], _, _, _ => trivial
 | m :: r, T, hb, ha => by
  obtain ⟨X, h1, _⟩ := r8 r (T ++ [cH T m])
  have Gz : lE T.length m := by simpa using hb 0 m (by simp)
  simp only [sF]
  refine ⟨fun hf => ?_, zx r _ (fun k x hx => ?_) (fun k x hx => ?_)⟩
  ·have := ha 0 m (by simp) hf
   simp only [bz] at this
   rw [h1, List.append_assoc, cE Gz.2.1, cE Gz.2.2.1] at this
   rw [cE Gz.2.1, cE Gz.2.2.1]; exact this
  ·have := hb (k + 1) x (by simpa using hx)
   rw [List.length_append, List.length_singleton, show T.length + 1 + k = T.length + (k + 1) by omega]; exact this
  ·have := ha (k + 1) x (by simpa using hx)
   simp only [bz] at this; exact this
theorem GA (c : Nat -> Nat) : ∀ (ns : List NR) (T : List Ty), (∀ (i : Nat) n, ns[i]? = some n -> lE (T.length + i) n) -> J5 c T ns -> ∀ (i : Nat) n, ns[i]? = some n -> n.form = 7 \/ n.form = 11 -> gZ c (ai (bz T ns) n.p1) = gZ c (ai (bz T ns) n.p2)
 | [], _, _, _, i, n, h => by simp at h
 | m :: r, T, hb, ho, i, n, h => by
  obtain ⟨X, h1, _⟩ := r8 r (T ++ [cH T m])
  have Gz : lE T.length m := by simpa using hb 0 m (by simp)
  simp only [J5] at ho
  simp only [bz]
  cases i with
  | zero =>
   simp only [List.getElem?_cons_zero, Option.some.injEq] at h
   subst h
   intro hf
   have := ho.1 hf
   rw [cE Gz.2.1, cE Gz.2.2.1] at this
   rw [h1, List.append_assoc, cE Gz.2.1, cE Gz.2.2.1]; exact this
  | succ j =>
   exact GA c r _ (fun k x hx => by have := hb (k + 1) x (by simpa using hx); rw [List.length_append, List.length_singleton, show T.length + 1 + k = T.length + (k + 1) by omega]; exact this) ho.2 j n (by simpa using h)
theorem E9 : ∀ (ns : List NR) (T : List Ty), (∀ (i : Nat) n, ns[i]? = some n -> lE (T.length + i) n) -> (∀ (i : Nat) n, ns[i]? = some n -> n.form = 4 -> (Ty.p 0 (ai (bz T ns) n.p0) (ai (bz T ns) n.p1)).size <= 63) -> iY T ns
 | [], _, _, _ => trivial
 | m :: r, T, hb, ha => by
  obtain ⟨X, h1, _⟩ := r8 r (T ++ [cH T m])
  have Gz : lE T.length m := by simpa using hb 0 m (by simp)
  simp only [iY]
  refine ⟨fun hf => ?_, E9 r _ (fun k x hx => ?_) (fun k x hx => ?_)⟩
  ·have := ha 0 m (by simp) hf
   simp only [bz] at this
   rw [h1, List.append_assoc, cE Gz.1, cE Gz.2.1] at this
   exact this
  ·have := hb (k + 1) x (by simpa using hx)
   rw [List.length_append, List.length_singleton, show T.length + 1 + k = T.length + (k + 1) by omega]; exact this
  ·have := ha (k + 1) x (by simpa using hx)
   simp only [bz] at this; exact this
def Py (T : List Ty) (G : aQ) (sc : Sc) : Prop := ∀ s U, look G s = some U -> ∃ i : Nat, bL sc s = (i : Int) /\ (ai T i).bare = U
theorem Py.snoc {T : List Ty} {G : aQ} {sc : Sc} {nm : List UInt8} {U : Ty} {z : Int} (h : Py T G sc) (hz : 0 <= z) (hu : (ai T z).bare = U) : Py T (G ++ [(nm, U)]) (sc ++ [(nm, z)]) := fun s V hs => by
 rw [kS] at hs
 rw [lD]
 by_cases e : nm = s
 ·rw [if_pos e] at hs ⊢
  simp only [Option.some.injEq] at hs
  subst hs
  exact ⟨z.toNat, by omega, by rw [Int.toNat_of_nonneg hz]; exact hu⟩
 ·rw [if_neg e] at hs ⊢
  exact h s V hs
def o8 (T : List Ty) (ns : List NR) (lo hi : Nat) : Prop := ∀ (i : Nat) n, lo <= i -> i < hi -> ns[i]? = some n -> (n.form = 7 \/ n.form = 11 -> (ai T n.p1).bare = (ai T n.p2).bare) /\ (n.form = 4 -> (Ty.p 0 (ai T n.p0) (ai T n.p1)).size <= 63)
theorem o8.join {T : List Ty} {ns : List NR} {a b c : Nat} (h : o8 T ns a b) (g : o8 T ns b c) : o8 T ns a c := fun i n h1 h2 hn => by
 by_cases e : i < b
 ·exact h i n h1 e hn
 ·exact g i n (by omega) h2 hn
theorem o8.root {T : List Ty} {ns : List NR} {k : Nat} {n : NR} (hn : ns[k]? = some n) (h1 : n.form = 7 \/ n.form = 11 -> (ai T n.p1).bare = (ai T n.p2).bare) (h2 : n.form = 4 -> (Ty.p 0 (ai T n.p0) (ai T n.p1)).size <= 63) : o8 T ns k (k + 1) := fun i m a b hm => by
 have : i = k := by omega
 subst this
 rw [hn] at hm
 simp only [Option.some.injEq] at hm
 subst hm
 exact ⟨h1, h2⟩
theorem Mc (b : Nat) (t : PT) : (0 : Int) <= ((b + t.cnt : Nat) : Int) - 1 := by have := dI t; omega
theorem Db {ns : List NR} {T : List Ty} {ρ : Nat -> Int} (H : ∀ i n, ns[i]? = some n -> ai T (i : Nat) = cH T (fC n (ρ i))) {G : aQ} {e : PT} {U : Ty} (h : WT G e U) : cJ e -> ∀ (sc : Sc) (b : Nat) (pre ms post : List NR), NA sc e b ms -> ns = pre ++ (ms ++ post) -> pre.length = b -> Py T G sc ->
  (ai T (((b + e.cnt : Nat) : Int) - 1)).bare = U /\ o8 T ns b (b + e.cnt) := by
 induction h with
 | @num G p s =>
  intro _ sc b pre ms post bq hns hb hE
  simp only [NA] at bq
  subst bq
  have hn := at_root (ks := []) hns
  rw [hb] at hn
  have hty := H _ _ hn
  simp only [List.length_nil, Nat.add_zero] at hn hty
  simp only [PT.cnt, show (((b + 1 : Nat) : Int) - 1) = (b : Int) by omega]
  rw [hty]
  exact ⟨by simp [cH, fC, Ty.bare], o8.root hn (by simp) (by simp)⟩
 | @name G p s U hs =>
  intro _ sc b pre ms post bq hns hb hE
  simp only [NA] at bq
  subst bq
  have hn := at_root (ks := []) hns
  rw [hb] at hn
  have hty := H _ _ hn
  simp only [List.length_nil, Nat.add_zero] at hn hty
  obtain ⟨i, h1, h2⟩ := hE _ _ hs
  simp only [PT.cnt, show (((b + 1 : Nat) : Int) - 1) = (b : Int) by omega]
  rw [hty]
  exact ⟨by simp [cH, fC, h1, h2], o8.root hn (by simp) (by simp)⟩
 | @bb G p nm rg a b UA UB ha hb bI dG =>
  intro hn sc bs pre ms post bq hns hbs hE
  cases hn with
  | node _ hn =>
  simp only [NA, bX, cR, Bool.false_eq_true, if_false, if_true] at bq
  obtain ⟨ks, aO, ⟨a1, c1, eC, ⟨a2, c2, lL, ⟨_, rfl⟩, rfl⟩, rfl⟩, rfl⟩ := bq
  rw [List.append_nil] at hns
  have la := NA.len eC
  have lb := NA.len lL
  have hroot := at_root hns
  rw [hbs, List.length_append, la, lb] at hroot
  have hty := H _ _ hroot
  obtain ⟨ub, oa⟩ := bI (hn _ (by simp)) sc bs pre a1 (a2 ++ ([_] ++ post)) eC (by rw [hns]; simp only [List.append_assoc]; rfl) hbs hE
  obtain ⟨qO, ob⟩ := dG (hn _ (by simp)) _ (bs + a.cnt) (pre ++ a1) a2 ([_] ++ post) lL (by rw [hns]; simp only [List.append_assoc]; rfl) (by rw [List.length_append, hbs, la]) (hE.snoc (Mc bs a) ub)
  simp only [PT.cnt, aB, Nat.add_zero, eJ]
  refine ⟨?_, ?_⟩
  ·rw [hty]
   simp only [cH, fC, qC, ay, List.getD_cons_succ, List.getD_cons_zero]
   simpa using qO
  ·have := (oa.join ob).join (o8.root (by rw [Nat.add_assoc]; exact hroot) (by simp [qC]) (by simp [qC]))
   rwa [show bs + a.cnt + b.cnt + 1 = bs + (1 + (a.cnt + b.cnt)) by omega] at this
 | @pair G p nm rg a b UA UB ha hb hsz bI dG =>
  intro hn sc bs pre ms post bq hns hbs hE
  cases hn with
  | node _ hn =>
  simp only [NA, bX, cR, Bool.false_eq_true, if_false] at bq
  obtain ⟨ks, aO, ⟨a1, c1, eC, ⟨a2, c2, lL, ⟨_, rfl⟩, rfl⟩, rfl⟩, rfl⟩ := bq
  rw [List.append_nil] at hns
  have la := NA.len eC
  have lb := NA.len lL
  have hroot := at_root hns
  rw [hbs, List.length_append, la, lb] at hroot
  have hty := H _ _ hroot
  obtain ⟨ub, oa⟩ := bI (hn _ (by simp)) sc bs pre a1 (a2 ++ ([_] ++ post)) eC (by rw [hns]; simp only [List.append_assoc]; rfl) hbs hE
  obtain ⟨qO, ob⟩ := dG (hn _ (by simp)) sc (bs + a.cnt) (pre ++ a1) a2 ([_] ++ post) lL (by rw [hns]; simp only [List.append_assoc]; rfl) (by rw [List.length_append, hbs, la]) hE
  simp only [PT.cnt, aB, Nat.add_zero, eJ]
  refine ⟨?_, ?_⟩
  ·rw [hty]
   simp only [cH, fC, mH, ay, List.getD_cons_succ, List.getD_cons_zero]
   simp only [Nat.reduceEqDiff, if_false, if_true, Ty.bare, ub, qO]
  ·have hs2 : (Ty.p 0 (ai T (((bs + a.cnt : Nat) : Int) - 1)) (ai T (((bs + a.cnt + b.cnt : Nat) : Int) - 1))).size <= 63 := by
    rw [<- eE]
    simp only [Ty.bare, ub, qO]
    exact hsz
   have := (oa.join ob).join (o8.root (by rw [Nat.add_assoc]; exact hroot) (by simp [mH]) (fun _ => by simpa only [ay, List.getD_cons_succ, List.getD_cons_zero] using hs2))
   rwa [show bs + a.cnt + b.cnt + 1 = bs + (1 + (a.cnt + b.cnt)) by omega] at this
 | @fst G p nm rg a UA UB ha bI =>
  intro hn sc bs pre ms post bq hns hbs hE
  cases hn with
  | node _ hn =>
  simp only [NA, bX, cR, Bool.false_eq_true, if_false] at bq
  obtain ⟨ks, aO, ⟨a1, c1, eC, ⟨_, rfl⟩, rfl⟩, rfl⟩ := bq
  rw [List.append_nil] at hns
  have la := NA.len eC
  have hroot := at_root hns
  rw [hbs, la] at hroot
  have hty := H _ _ hroot
  obtain ⟨ub, oa⟩ := bI (hn _ (by simp)) sc bs pre a1 ([_] ++ post) eC (by rw [hns]; simp only [List.append_assoc]; rfl) hbs hE
  simp only [PT.cnt, aB, Nat.add_zero, eJ]
  obtain ⟨r, u, v, hp, hu, hv⟩ := kx ub
  refine ⟨?_, ?_⟩
  ·rw [hty]
   simp only [cH, fC, qD, ay, List.getD_cons_succ, List.getD_cons_zero]
   simp only [Nat.reduceEqDiff, if_false, if_true]
   rw [hp]; exact hu
  ·have := oa.join (o8.root hroot (by simp [qD]) (by simp [qD]))
   rwa [show bs + a.cnt + 1 = bs + (1 + a.cnt) by omega] at this
 | @snd G p nm rg a UA UB ha bI =>
  intro hn sc bs pre ms post bq hns hbs hE
  cases hn with
  | node _ hn =>
  simp only [NA, bX, cR, Bool.false_eq_true, if_false] at bq
  obtain ⟨ks, aO, ⟨a1, c1, eC, ⟨_, rfl⟩, rfl⟩, rfl⟩ := bq
  rw [List.append_nil] at hns
  have la := NA.len eC
  have hroot := at_root hns
  rw [hbs, la] at hroot
  have hty := H _ _ hroot
  obtain ⟨ub, oa⟩ := bI (hn _ (by simp)) sc bs pre a1 ([_] ++ post) eC (by rw [hns]; simp only [List.append_assoc]; rfl) hbs hE
  simp only [PT.cnt, aB, Nat.add_zero, eJ]
  obtain ⟨r, u, v, hp, hu, hv⟩ := kx ub
  refine ⟨?_, ?_⟩
  ·rw [hty]
   simp only [cH, fC, qE, ay, List.getD_cons_succ, List.getD_cons_zero]
   simp only [Nat.reduceEqDiff, if_false, if_true]
   rw [hp]; exact hv
  ·have := oa.join (o8.root hroot (by simp [qE]) (by simp [qE]))
   rwa [show bs + a.cnt + 1 = bs + (1 + a.cnt) by omega] at this
 | @fH G p nm rg a b c U ha hb hc bI dG nY =>
  intro hn sc bs pre ms post bq hns hbs hE
  cases hn with
  | node _ hn =>
  simp only [NA, bX, cR, Bool.false_eq_true, if_false] at bq
  obtain ⟨ks, aO, ⟨a1, c1, eC, ⟨a2, c2, lL, ⟨a3, c3, E8, ⟨_, rfl⟩, rfl⟩, rfl⟩, rfl⟩, rfl⟩ := bq
  rw [List.append_nil] at hns
  have la := NA.len eC
  have lb := NA.len lL
  have lc := NA.len E8
  have hroot := at_root hns
  rw [hbs, List.length_append, List.length_append, la, lb, lc] at hroot
  have hty := H _ _ hroot
  obtain ⟨ub, oa⟩ := bI (hn _ (by simp)) sc bs pre a1 (a2 ++ (a3 ++ ([_] ++ post))) eC (by rw [hns]; simp only [List.append_assoc]; rfl) hbs hE
  obtain ⟨qO, ob⟩ := dG (hn _ (by simp)) sc (bs + a.cnt) (pre ++ a1) a2 (a3 ++ ([_] ++ post)) lL (by rw [hns]; simp only [List.append_assoc]; rfl) (by rw [List.length_append, hbs, la]) hE
  obtain ⟨hbc, oc⟩ := nY (hn _ (by simp)) sc (bs + a.cnt + b.cnt) (pre ++ a1 ++ a2) a3 ([_] ++ post) E8 (by rw [hns]; simp only [List.append_assoc]; rfl) (by rw [List.length_append, List.length_append, hbs, la, lb]) hE
  simp only [PT.cnt, aB, Nat.add_zero, eJ]
  refine ⟨?_, ?_⟩
  ·rw [hty]
   simp only [cH, fC, tX, ay, List.getD_cons_succ, List.getD_cons_zero]
   simpa using qO
  ·have := ((oa.join ob).join oc).join (o8.root (by rw [Nat.add_assoc, Nat.add_assoc]; exact hroot) (fun _ => by simp only [ay, List.getD_cons_succ, List.getD_cons_zero]; rw [qO, hbc]) (by simp [tX]))
   rwa [show bs + a.cnt + b.cnt + c.cnt + 1 = bs + (1 + (a.cnt + (b.cnt + c.cnt))) by omega] at this
 | @two G p k nm rg a b hkk ha hb bI dG =>
  intro hn sc bs pre ms post bq hns hbs hE
  have hkb : bX k = [false, false] := by rcases hkk with rfl | rfl | rfl <;> rfl
  have DZ : aU k = 8 \/ aU k = 9 \/ aU k = 10 := by rcases hkk with rfl | rfl | rfl <;> decide
  cases hn with
  | node _ hn =>
  simp only [NA, hkb, cR, Bool.false_eq_true, if_false] at bq
  obtain ⟨ks, aO, ⟨a1, c1, eC, ⟨a2, c2, lL, ⟨_, rfl⟩, rfl⟩, rfl⟩, rfl⟩ := bq
  rw [List.append_nil] at hns
  have la := NA.len eC
  have lb := NA.len lL
  have hroot := at_root hns
  rw [hbs, List.length_append, la, lb] at hroot
  have hty := H _ _ hroot
  obtain ⟨ub, oa⟩ := bI (hn _ (by simp)) sc bs pre a1 (a2 ++ ([_] ++ post)) eC (by rw [hns]; simp only [List.append_assoc]; rfl) hbs hE
  obtain ⟨qO, ob⟩ := dG (hn _ (by simp)) sc (bs + a.cnt) (pre ++ a1) a2 ([_] ++ post) lL (by rw [hns]; simp only [List.append_assoc]; rfl) (by rw [List.length_append, hbs, la]) hE
  simp only [PT.cnt, aB, Nat.add_zero, eJ]
  refine ⟨?_, ?_⟩
  ·rw [hty]
   simp only [cH, fC]
   rcases DZ with h | h | h <;> simp [h, Ty.bare]
  ·have := (oa.join ob).join (o8.root (by rw [Nat.add_assoc]; exact hroot) (fun h => by simp only at h; omega) (fun h => by simp only at h; omega))
   rwa [show bs + a.cnt + b.cnt + 1 = bs + (1 + (a.cnt + b.cnt)) by omega] at this
 | @loop G p nm rg a b c U ha hb hc bI dG nY =>
  intro hn sc bs pre ms post bq hns hbs hE
  cases hn with
  | node _ hn =>
  simp only [NA, bX, cR, Bool.false_eq_true, if_false, if_true] at bq
  obtain ⟨ks, aO, ⟨a1, c1, eC, ⟨a2, c2, lL, ⟨a3, c3, E8, ⟨_, rfl⟩, rfl⟩, rfl⟩, rfl⟩, rfl⟩ := bq
  rw [List.append_nil] at hns
  have la := NA.len eC
  have lb := NA.len lL
  have lc := NA.len E8
  have hroot := at_root hns
  rw [hbs, List.length_append, List.length_append, la, lb, lc] at hroot
  have hty := H _ _ hroot
  obtain ⟨ub, oa⟩ := bI (hn _ (by simp)) sc bs pre a1 (a2 ++ (a3 ++ ([_] ++ post))) eC (by rw [hns]; simp only [List.append_assoc]; rfl) hbs hE
  obtain ⟨qO, ob⟩ := dG (hn _ (by simp)) sc (bs + a.cnt) (pre ++ a1) a2 (a3 ++ ([_] ++ post)) lL (by rw [hns]; simp only [List.append_assoc]; rfl) (by rw [List.length_append, hbs, la]) hE
  obtain ⟨hbc, oc⟩ := nY (hn _ (by simp)) _ (bs + a.cnt + b.cnt) (pre ++ a1 ++ a2) a3 ([_] ++ post) E8 (by rw [hns]; simp only [List.append_assoc]; rfl) (by rw [List.length_append, List.length_append, hbs, la, lb]) (hE.snoc (Mc (bs + a.cnt) b) qO)
  simp only [PT.cnt, aB, Nat.add_zero, eJ]
  refine ⟨?_, ?_⟩
  ·rw [hty]
   simp only [cH, fC, lA, ay, List.getD_cons_succ, List.getD_cons_zero]
   simpa using qO
  ·have := ((oa.join ob).join oc).join (o8.root (by rw [Nat.add_assoc, Nat.add_assoc]; exact hroot) (fun _ => by simp only [ay, List.getD_cons_succ, List.getD_cons_zero]; rw [qO, hbc]) (by simp [lA]))
   rwa [show bs + a.cnt + b.cnt + c.cnt + 1 = bs + (1 + (a.cnt + (b.cnt + c.cnt))) by omega] at this
 | new _ _ =>
  intro hn
  cases hn with
  | node hk _ => exact absurd rfl hk
end Go.Proofs.YtpicaknklgccoaaGreatDoor
