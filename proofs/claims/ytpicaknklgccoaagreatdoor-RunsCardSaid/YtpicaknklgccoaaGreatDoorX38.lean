import Derived.Test.YtpicaknklgccoaaGreatDoorX18
import Derived.Test.YtpicaknklgccoaaGreatDoorX35
import Derived.Test.YtpicaknklgccoaaGreatDoorX37
import Derived.Test.YtpicaknklgccoaaGreatDoorX36
namespace Go.Proofs.YtpicaknklgccoaaGreatDoor
def RBad (st : RS) (m : MM) : Prop := st.e ≠ 0 ∧ m.fault = st.e
def RSimOut (fuel : Nat) (sp : List (Nat × Nat)) (y : RV × RS) (x : MV × MM) (T : Ty) : Prop := (∃ sp', sp <+: sp' ∧ RSm fuel sp' y.2 x.2 ∧ RRep x.2.cells sp' y.1 x.1 ∧ y.1.has T) ∨ RBad y.2 x.2
def RER (named : List MV) (cells : List MC) (sp : List (Nat × Nat)) (sc : Sc) (env : REnv) (G : TEnv) (base : Nat) : Prop := ∀ s T, look G s = some T → ∃ (i : Nat) (v : MV), findS sc s = (i : Int) ∧ i < base ∧ named[i]? = some v ∧ RRep cells sp (rlook env s) v ∧ (rlook env s).has T
theorem RER.ef {named : List MV} {cells : List MC} {sp : List (Nat × Nat)} {sc : Sc} {env : REnv} {G : TEnv} {base : Nat} (h : RER named cells sp sc env G base) : EF named cells sc G base := by
 intro s T hl
 obtain ⟨i, v, h1, h2, h3, h4, h5⟩ := h s T hl
 exact ⟨i, v, h1, h2, h3, h4.fits h5⟩
theorem RER.on {m m' : MM} {sp sp' : List (Nat × Nat)} {sc : Sc} {env : REnv} {G : TEnv} {base b c : Nat} (h : RER m.named m.cells sp sc env G base) (he : Ext m m' b c) (hb : base ≤ b) (hs : sp <+: sp') : RER m'.named m'.cells sp' sc env G base := by
 intro s T hl
 obtain ⟨i, v, h1, h2, h3, h4, h5⟩ := h s T hl
 exact ⟨i, v, h1, h2, (he.named i (Or.inl (by omega))).trans h3, h4.mono he.pre hs, h5⟩
theorem RER.up {named : List MV} {cells : List MC} {sp : List (Nat × Nat)} {sc : Sc} {env : REnv} {G : TEnv} {base b : Nat} (h : RER named cells sp sc env G base) (hb : base ≤ b) : RER named cells sp sc env G b := by
 intro s T hl
 obtain ⟨i, v, h1, h2, h3, h4, h5⟩ := h s T hl
 exact ⟨i, v, h1, by omega, h3, h4, h5⟩
theorem RER.snoc {m : MM} {sp : List (Nat × Nat)} {sc : Sc} {env : REnv} {G : TEnv} {base j : Nat} {nm : List UInt8} {T : Ty} {x : RV} {v : MV} (h : RER m.named m.cells sp sc env G base) (hj : base ≤ j) (hl : j < m.named.length) (hv : RRep m.cells sp x v) (hx : x.has T) : RER (m.name (j : Int) v).named (m.name (j : Int) v).cells sp (sc ++ [(nm, (j : Int))]) ((nm, x) :: env) (G ++ [(nm, T)]) (j + 1) := by
 have he := name_ext m j v j 1 (by omega)
 intro s T' hlk
 rw [look_snocF] at hlk
 rw [findS_snoc]
 simp only [rlook]
 by_cases hs : nm = s
 ·rw [if_pos hs] at hlk ⊢
  rw [if_pos hs]
  cases hlk
  exact ⟨j, v, rfl, by omega, name_at m j v hl, hv.mono he.pre (List.prefix_refl _), hx⟩
 ·rw [if_neg hs] at hlk ⊢
  rw [if_neg hs]
  obtain ⟨i, u, h1, h2, h3, h4, h5⟩ := h s T' hlk
  exact ⟨i, u, h1, by omega, (he.named i (Or.inl (by omega))).trans h3, h4.mono he.pre (List.prefix_refl _), h5⟩
mutual
theorem mW_stay (fuel : Nat) : ∀ (t : PT) (sc : Sc) (base : Nat) (m : MM), m.fault ≠ 0 → (mW fuel t sc base m).2.fault = m.fault
 | .num _ _, sc, base, m, h => by simp only [mW]; rw [begun_keep fuel m _ h]
 | .name _ _, sc, base, m, h => by simp only [mW]; rw [begun_keep fuel m _ h]
 | .node _ k nm rg kids, sc, base, m, h => by
  simp only [mW]
  split
  ·exact mNew_stay fuel _ kids sc base m h
  ·rw [begun_keep fuel m _ h]
theorem mNew_stay (fuel : Nat) (rg : Int) : ∀ (ts : List PT) (sc : Sc) (base : Nat) (m : MM), m.fault ≠ 0 → (mNew fuel rg ts sc base m).2.fault = m.fault
 | [a], sc, base, m, h => by
  simp only [mNew]
  have h1 := mW_stay fuel a sc base (m.opn rg) h
  have h2 : ∀ x : MM, x.fin.fault = x.fault := fun x => by unfold MM.fin; split <;> rfl
  rw [h2]; exact h1
 | [], _, _, _, _ => by simp only [mNew]
 | _ :: _ :: _, _, _, _, _ => by simp only [mNew]
end
theorem rTurns_keep (f : RV → RS → RV × RS) (k : Nat) (v : RV) (st : RS) (h : st.e ≠ 0) : (rTurns f k v st).2 = st := by
 cases k with
 | zero => rfl
 | succ k => simp only [rTurns]; rw [if_pos h]
theorem used_bad (st : RS) (v : RV) (h : st.e ≠ 0) : st.used v = st := by
 unfold RS.used
 split
 ·rfl
 ·rw [if_neg (fun hc => h hc.1)]
theorem rbad_on {fuel : Nat} {sp : List (Nat × Nat)} {t : PT} (sc : Sc) (base : Nat) (env : REnv) {st : RS} {m : MM} (h : RBad st m) (T : Ty) : RSimOut fuel sp (rW fuel t env st) (mW fuel t sc base m) T := by
 rw [rW_bad fuel t env st h.1]
 have hm : m.fault ≠ 0 := by rw [h.2]; exact h.1
 exact Or.inr ⟨h.1, by rw [mW_stay fuel t sc base m hm]; exact h.2⟩
theorem RSimOut.le {fuel : Nat} {sp sp' : List (Nat × Nat)} {y : RV × RS} {x : MV × MM} {T : Ty} (hs : sp <+: sp') (h : RSimOut fuel sp' y x T) : RSimOut fuel sp y x T := by
 rcases h with ⟨s, h1, h2⟩ | h
 ·exact Or.inl ⟨s, hs.trans h1, h2⟩
 ·exact Or.inr h
theorem rbegun_sim {fuel : Nat} {sp : List (Nat × Nat)} {st : RS} {m : MM} {f : RS → RV × RS} {g : MM → MV × MM} {T : Ty} (h : RSm fuel sp st m) (hk : RSm fuel sp { st with steps := st.steps + 1 } { m with steps := m.steps + 1 } → RSimOut fuel sp (f { st with steps := st.steps + 1 }) (g { m with steps := m.steps + 1 }) T) : RSimOut fuel sp (rBegun fuel st f) (mBegun fuel m g) T := by
 unfold rBegun mBegun
 have hs := h.s
 have hle := h.le
 rw [if_neg (fun hn => hn h.e)]
 by_cases hq : st.steps = fuel
 ·rw [if_pos hq]
  have hq' : fuel ≤ m.steps := by omega
  simp only [if_pos hq']
  have e : m.stop 12 = { m with fault := 12 } := by unfold MM.stop; rw [if_pos h.f]
  rw [e]
  exact Or.inr ⟨by simp, rfl⟩
 ·rw [if_neg hq]
  have hq' : ¬ fuel ≤ m.steps := by omega
  simp only [if_neg hq']
  rw [if_neg (fun hn => hn h.f)]
  exact hk ⟨h.e, h.f, by simp only; omega, by simp only; omega, h.c, h.n, h.r0, h.rl, h.r, h.w, h.al, h.dd, h.rd, h.ro, h.so, h.l, h.mo⟩
theorem rturns_sim {fuel : Nat} {T : Ty} {j : Nat} {f : RV → RS → RV × RS} {g : MM → MV × MM} {P : List (Nat × Nat) → MM → Prop} (hstep : ∀ sp st m x v, P sp m → RSm fuel sp st m → RRep m.cells sp x v → x.has T → RSimOut fuel sp (f x st) (g (m.name (j : Int) v)) T ∧ ∀ sp', sp <+: sp' → P sp' (g (m.name (j : Int) v)).2) : ∀ (k : Nat) (sp : List (Nat × Nat)) (st : RS) (m : MM) (x : RV) (v : MV), P sp m → RSm fuel sp st m → RRep m.cells sp x v → x.has T → RSimOut fuel sp (rTurns f k x st) (mTurns (j : Int) g k v m) T
 | 0, sp, st, m, x, v, _, hs, hr, ht => Or.inl ⟨sp, List.prefix_refl _, hs, hr, ht⟩
 | k + 1, sp, st, m, x, v, hP, hs, hr, ht => by
  simp only [rTurns, mTurns]
  rw [if_neg (fun hn => hn hs.e), if_neg (fun hn => hn hs.f)]
  obtain ⟨h1, h2⟩ := hstep sp st m x v hP hs hr ht
  rcases h1 with ⟨sp', h0, a, b, c⟩ | hB
  ·exact (rturns_sim hstep k sp' _ _ _ _ (h2 sp' h0) a b c).le h0
  ·refine Or.inr ?_
   rw [rTurns_keep _ _ _ _ hB.1, mTurns_keep _ _ _ _ _ (by rw [hB.2]; exact hB.1)]
   exact hB
set_option maxHeartbeats 2000000 in
theorem mW_rW (fuel : Nat) {G : TEnv} {t : PT} {T : Ty} (h : WT G t T) : ∀ (sc : Sc) (base : Nat) (m : MM) (env : REnv) (st : RS) (sp : List (Nat × Nat)), t.rgd → RER m.named m.cells sp sc env G base → base + t.cnt ≤ m.named.length → RSm fuel sp st m → RSimOut fuel sp (rW fuel t env st) (mW fuel t sc base m) T := by
 induction h with
 | num =>
  intro sc base m env st sp hr he hl hs
  simp only [PT.rgd] at hr
  simp only [rW, mW]
  exact rbegun_sim hs (fun hs => Or.inl ⟨sp, List.prefix_refl _, hs, by simp only [RRep, true_and], by simp only [RV.has]; exact hr⟩)
 | name hlk =>
  intro sc base m env st sp hr he hl hs
  simp only [rW, mW]
  refine rbegun_sim hs (fun hs => Or.inl ⟨sp, List.prefix_refl _, hs, ?_⟩)
  obtain ⟨i, v, h1, h2, h3, h4, h5⟩ := he _ _ hlk
  have hil := (List.getElem?_eq_some_iff.1 h3).1
  unfold MM.look
  simp only [h1]
  rw [if_neg (by omega), Int.toNat_natCast, List.getD_eq_getElem?_getD, h3]
  exact ⟨h4, h5⟩
 | @let_ G p nm rg a b A B ha hb iha ihb =>
  intro sc base m env st sp hr he hl hs
  simp only [PT.rgd, rgdL] at hr
  simp only [PT.cnt, cntL, Nat.add_zero] at hl
  simp only [rW, rLet, mW, mLet, if_true, reduceCtorEq, if_false]
  refine rbegun_sim hs (fun hs => ?_)
  have hf := mW_fits fuel ha sc base { m with steps := m.steps + 1 } hr.2.1 he.ef (by simp only; omega)
  have h1 := iha sc base { m with steps := m.steps + 1 } env { st with steps := st.steps + 1 } sp hr.2.1 he (by simp only; omega) hs
  generalize mW fuel a sc base { m with steps := m.steps + 1 } = x at hf h1 ⊢
  generalize rW fuel a env { st with steps := st.steps + 1 } = y at h1 ⊢
  have hca := cnt_pos' a
  have hxl : x.2.named.length = m.named.length := hf.1.len
  rw [show (((base + a.cnt : Nat) : Int) - 1) = ((base + a.cnt - 1 : Nat) : Int) from by omega]
  rcases h1 with ⟨sp', h0, h1, h2, h3⟩ | hB
  ·have hx := RER.on (m := { m with steps := m.steps + 1 }) he hf.1 (Nat.le_refl _) h0
   have hsn := hx.snoc (nm := nm) (j := base + a.cnt - 1) (by omega) (by omega) h2 h3
   rw [show base + a.cnt - 1 + 1 = base + a.cnt from by omega] at hsn
   have hne := name_ext x.2 (base + a.cnt - 1) x.1 base a.cnt (by omega)
   exact (ihb _ (base + a.cnt) _ _ _ sp' hr.2.2.1 hsn (by rw [hne.len, hxl]; omega) (h1.name _ _)).le h0
  ·exact rbad_on _ _ _ ⟨hB.1, by rw [(name_fault _ _ _).1]; exact hB.2⟩ _
 | @pair G p nm rg a b A B ha hb hsz iha ihb =>
  intro sc base m env st sp hr he hl hs
  simp only [PT.rgd, rgdL] at hr
  simp only [PT.cnt, cntL, Nat.add_zero] at hl
  simp only [rW, rOps, mW, mOps, if_true, reduceCtorEq, if_false]
  refine rbegun_sim hs (fun hs => ?_)
  have hf := mW_fits fuel ha sc base { m with steps := m.steps + 1 } hr.2.1 he.ef (by simp only; omega)
  have h1 := iha sc base { m with steps := m.steps + 1 } env { st with steps := st.steps + 1 } sp hr.2.1 he (by simp only; omega) hs
  generalize mW fuel a sc base { m with steps := m.steps + 1 } = x at hf h1 ⊢
  generalize rW fuel a env { st with steps := st.steps + 1 } = y at h1 ⊢
  have hxl : x.2.named.length = m.named.length := hf.1.len
  have nf : ∀ (m : MM) k v u, (m.newCell k v u).2.fault = m.fault := fun m k v u => by unfold MM.newCell; split <;> rfl
  rcases h1 with ⟨sp', h0, h1, h2, h3⟩ | hB
  ·have hx := (RER.on (m := { m with steps := m.steps + 1 }) he hf.1 (Nat.le_refl _) h0).up (show base ≤ base + a.cnt by omega)
   have hg := mW_fits fuel hb sc (base + a.cnt) x.2 hr.2.2.1 hx.ef (by omega)
   have k1 := ihb sc (base + a.cnt) x.2 env y.2 sp' hr.2.2.1 hx (by omega) h1
   generalize mW fuel b sc (base + a.cnt) x.2 = x' at hg k1 ⊢
   generalize rW fuel b env y.2 = y' at k1 ⊢
   rcases k1 with ⟨sp2, k0, k1, k2, k3⟩ | hB
   ·rw [if_neg (fun hn => hn k1.e)]
    obtain ⟨sp3, c0, c1, c2⟩ := pair_placed k1 (valueL rg) (h2.mono hg.1.pre k0) k2
    exact Or.inl ⟨sp3, h0.trans (k0.trans c0), c1, c2, by simp only [rPair, RV.has]; exact ⟨h3, k3⟩⟩
   ·rw [if_pos hB.1]
    exact Or.inr ⟨hB.1, by rw [nf]; exact hB.2⟩
  ·rw [rW_bad fuel b env y.2 hB.1]
   simp only
   rw [if_pos hB.1]
   exact Or.inr ⟨hB.1, by rw [nf, mW_stay _ _ _ _ _ (by rw [hB.2]; exact hB.1)]; exact hB.2⟩
 | @fst G p nm rg a A B ha iha =>
  intro sc base m env st sp hr he hl hs
  simp only [PT.rgd, rgdL] at hr
  simp only [PT.cnt, cntL, Nat.add_zero] at hl
  simp only [rW, rOps, mW, mOps, if_true, reduceCtorEq, if_false]
  refine rbegun_sim hs (fun hs => ?_)
  have h1 := iha sc base { m with steps := m.steps + 1 } env { st with steps := st.steps + 1 } sp hr.2.1 he (by simp only; omega) hs
  generalize mW fuel a sc base { m with steps := m.steps + 1 } = x at h1 ⊢
  generalize rW fuel a env { st with steps := st.steps + 1 } = y at h1 ⊢
  rcases h1 with ⟨sp', h0, h1, h2, h3⟩ | hB
  ·obtain ⟨u, w, hh, hy, hu, hw⟩ := rhas_pair h3
   rw [hy] at h2
   obtain ⟨u1, u2, u3⟩ := use_placed h1 h2
   rw [hy]
   rcases u3 with ⟨u3, u4⟩ | ⟨u3, u4⟩
   ·rw [u3, u4, if_neg (fun hn => hn h1.e)]
    exact Or.inl ⟨sp', h0, h1, u1, hu⟩
   ·rw [if_pos (by rw [u3]; decide)]
    exact Or.inr ⟨by simp only [u3]; decide, by simp only [u3]; exact u4⟩
  ·have hx : x.2.fault ≠ 0 := by rw [hB.2]; exact hB.1
   rw [used_bad _ _ hB.1, if_pos hB.1]
   refine Or.inr ⟨hB.1, ?_⟩
   have : (x.2.use x.1).2.fault = x.2.fault := by
    unfold MM.use; split
    ·rfl
    ·simp only; split
     ·rfl
     ·rw [stop_keep _ _ hx]
   rw [this]; exact hB.2
 | @snd G p nm rg a A B ha iha =>
  intro sc base m env st sp hr he hl hs
  simp only [PT.rgd, rgdL] at hr
  simp only [PT.cnt, cntL, Nat.add_zero] at hl
  simp only [rW, rOps, mW, mOps, reduceCtorEq, if_false]
  refine rbegun_sim hs (fun hs => ?_)
  have h1 := iha sc base { m with steps := m.steps + 1 } env { st with steps := st.steps + 1 } sp hr.2.1 he (by simp only; omega) hs
  generalize mW fuel a sc base { m with steps := m.steps + 1 } = x at h1 ⊢
  generalize rW fuel a env { st with steps := st.steps + 1 } = y at h1 ⊢
  rcases h1 with ⟨sp', h0, h1, h2, h3⟩ | hB
  ·obtain ⟨u, w, hh, hy, hu, hw⟩ := rhas_pair h3
   rw [hy] at h2
   obtain ⟨u1, u2, u3⟩ := use_placed h1 h2
   rw [hy]
   rcases u3 with ⟨u3, u4⟩ | ⟨u3, u4⟩
   ·rw [u3, u4, if_neg (fun hn => hn h1.e)]
    exact Or.inl ⟨sp', h0, h1, u2, hw⟩
   ·rw [if_pos (by rw [u3]; decide)]
    exact Or.inr ⟨by simp only [u3]; decide, by simp only [u3]; exact u4⟩
  ·have hx : x.2.fault ≠ 0 := by rw [hB.2]; exact hB.1
   rw [used_bad _ _ hB.1, if_pos hB.1]
   refine Or.inr ⟨hB.1, ?_⟩
   have : (x.2.use x.1).2.fault = x.2.fault := by
    unfold MM.use; split
    ·rfl
    ·simp only; split
     ·rfl
     ·rw [stop_keep _ _ hx]
   rw [this]; exact hB.2
 | @if_ G p nm rg a b c T ha hb hc iha ihb ihc =>
  intro sc base m env st sp hr he hl hs
  simp only [PT.rgd, rgdL] at hr
  simp only [PT.cnt, cntL, Nat.add_zero] at hl
  simp only [rW, rIf, mW, mIf, if_true, reduceCtorEq, if_false]
  refine rbegun_sim hs (fun hs => ?_)
  have hf := mW_fits fuel ha sc base { m with steps := m.steps + 1 } hr.2.1 he.ef (by simp only; omega)
  have h1 := iha sc base { m with steps := m.steps + 1 } env { st with steps := st.steps + 1 } sp hr.2.1 he (by simp only; omega) hs
  generalize mW fuel a sc base { m with steps := m.steps + 1 } = x at hf h1 ⊢
  generalize rW fuel a env { st with steps := st.steps + 1 } = y at h1 ⊢
  have hxl : x.2.named.length = m.named.length := hf.1.len
  rcases h1 with ⟨sp', h0, h1, h2, h3⟩ | hB
  ·have hx := RER.on (m := { m with steps := m.steps + 1 }) he hf.1 (Nat.le_refl _) h0
   obtain ⟨k, hk, _⟩ := rhas_num h3
   rw [hk] at h2 ⊢
   simp only [RRep] at h2
   have hn : x.1.n = (RV.n k).num := h2.2
   rw [hn]
   by_cases hz : (RV.n k).num ≠ 0
   ·rw [if_pos hz, if_pos hz]
    exact (ihb sc (base + a.cnt) x.2 env _ sp' hr.2.2.1 (hx.up (by omega)) (by omega) h1).le h0
   ·rw [if_neg hz, if_neg hz]
    exact (ihc sc (base + a.cnt + b.cnt) x.2 env _ sp' hr.2.2.2.1 (hx.up (by omega)) (by omega) h1).le h0
  ·have e1 : (if y.1.num ≠ 0 then rW fuel b env y.2 else rW fuel c env y.2) = (.n 0, y.2) := by split <;> exact rW_bad fuel _ env y.2 hB.1
   have e2 : (if x.1.n ≠ 0 then mW fuel b sc (base + a.cnt) x.2 else mW fuel c sc (base + a.cnt + b.cnt) x.2).2.fault = x.2.fault := by
    split
    ·exact mW_stay fuel b _ _ _ (by rw [hB.2]; exact hB.1)
    ·exact mW_stay fuel c _ _ _ (by rw [hB.2]; exact hB.1)
   rw [e1]
   exact Or.inr ⟨hB.1, by rw [e2]; exact hB.2⟩
 | @two G p k nm rg a b hkk ha hb iha ihb =>
  intro sc base m env st sp hr he hl hs
  simp only [PT.rgd, rgdL] at hr
  simp only [PT.cnt, cntL, Nat.add_zero] at hl
  have e : mW fuel (.node p k nm rg [a, b]) sc base m = mBegun fuel m (fun m => (⟨false, mArith k (mW fuel a sc base m).1.n (mW fuel b sc (base + a.cnt) (mW fuel a sc base m).2).1.n⟩, (mW fuel b sc (base + a.cnt) (mW fuel a sc base m).2).2)) := by
   rcases hkk with rfl | rfl | rfl <;> simp only [mW, mOps, reduceCtorEq, if_false]
  have e' : rW fuel (.node p k nm rg [a, b]) env st = rBegun fuel st (fun st => if (rW fuel b env (rW fuel a env st).2).2.e ≠ 0 then (.n 0, (rW fuel b env (rW fuel a env st).2).2) else (.n (rArith k (rW fuel a env st).1.num (rW fuel b env (rW fuel a env st).2).1.num), (rW fuel b env (rW fuel a env st).2).2)) := by
   rcases hkk with rfl | rfl | rfl <;> simp only [rW, rOps, reduceCtorEq, if_false]
  rw [e, e']
  refine rbegun_sim hs (fun hs => ?_)
  have hf := mW_fits fuel ha sc base { m with steps := m.steps + 1 } hr.2.1 he.ef (by simp only; omega)
  have h1 := iha sc base { m with steps := m.steps + 1 } env { st with steps := st.steps + 1 } sp hr.2.1 he (by simp only; omega) hs
  generalize mW fuel a sc base { m with steps := m.steps + 1 } = x at hf h1 ⊢
  generalize rW fuel a env { st with steps := st.steps + 1 } = y at h1 ⊢
  have hxl : x.2.named.length = m.named.length := hf.1.len
  rcases h1 with ⟨sp', h0, h1, h2, h3⟩ | hB
  ·have hx := (RER.on (m := { m with steps := m.steps + 1 }) he hf.1 (Nat.le_refl _) h0).up (show base ≤ base + a.cnt by omega)
   have k1 := ihb sc (base + a.cnt) x.2 env y.2 sp' hr.2.2.1 hx (by omega) h1
   generalize mW fuel b sc (base + a.cnt) x.2 = x' at k1 ⊢
   generalize rW fuel b env y.2 = y' at k1 ⊢
   rcases k1 with ⟨sp2, k0, k1, k2, k3⟩ | hB
   ·rw [if_neg (fun hn => hn k1.e)]
    obtain ⟨i, hi, hi2⟩ := rhas_num h3
    obtain ⟨j, hj, hj2⟩ := rhas_num k3
    rw [hi] at h2 ⊢
    rw [hj] at k2 ⊢
    simp only [RRep] at h2 k2
    refine Or.inl ⟨sp2, h0.trans k0, k1, ?_, by simp only [RV.has, RV.num]; exact rArith_has k i j hi2 hj2⟩
    simp only [RRep, RV.num, true_and]
    rw [h2.2, k2.2]; rfl
   ·rw [if_pos hB.1]
    exact Or.inr hB
  ·rw [rW_bad fuel b env y.2 hB.1]
   simp only
   rw [if_pos hB.1]
   exact Or.inr ⟨hB.1, by rw [mW_stay _ _ _ _ _ (by rw [hB.2]; exact hB.1)]; exact hB.2⟩
 | @loop G p nm rg a b c T ha hb hc iha ihb ihc =>
  intro sc base m env st sp hr he hl hs
  simp only [PT.rgd, rgdL] at hr
  simp only [PT.cnt, cntL, Nat.add_zero] at hl
  simp only [rW, rLoop, mW, mLoop, if_true, reduceCtorEq, if_false]
  refine rbegun_sim hs (fun hs => ?_)
  have hf := mW_fits fuel ha sc base { m with steps := m.steps + 1 } hr.2.1 he.ef (by simp only; omega)
  have h1 := iha sc base { m with steps := m.steps + 1 } env { st with steps := st.steps + 1 } sp hr.2.1 he (by simp only; omega) hs
  generalize mW fuel a sc base { m with steps := m.steps + 1 } = x at hf h1 ⊢
  generalize rW fuel a env { st with steps := st.steps + 1 } = y at h1 ⊢
  have hxl : x.2.named.length = m.named.length := hf.1.len
  rcases h1 with ⟨sp', h0, h1, h2, h3⟩ | hB
  ·have hx := RER.on (m := { m with steps := m.steps + 1 }) he hf.1 (Nat.le_refl _) h0
   have hg := mW_fits fuel hb sc (base + a.cnt) x.2 hr.2.2.1 (hx.up (by omega)).ef (by omega)
   have k1 := ihb sc (base + a.cnt) x.2 env y.2 sp' hr.2.2.1 (hx.up (by omega)) (by omega) h1
   generalize mW fuel b sc (base + a.cnt) x.2 = x' at hg k1 ⊢
   generalize rW fuel b env y.2 = y' at k1 ⊢
   have hxl' : x'.2.named.length = m.named.length := hg.1.len.trans hxl
   have hcb := cnt_pos' b
   rw [show (((base + a.cnt + b.cnt : Nat) : Int) - 1) = ((base + a.cnt + b.cnt - 1 : Nat) : Int) from by omega]
   rcases k1 with ⟨sp2, k0, k1, k2, k3⟩ | hB
   ·have hnum : x.1.n.toNat = y.1.num.toNat := by
     obtain ⟨k, hk, _⟩ := rhas_num h3
     rw [hk] at h2 ⊢
     simp only [RRep] at h2
     simp only [RV.num]; rw [h2.2]
    rw [hnum]
    refine (rturns_sim (P := fun sp m' => RER m'.named m'.cells sp sc env G base ∧ m'.named.length = m.named.length) (fun sp3 st' m' v u hP hs' hr' ht' => ?_) _ sp2 _ _ _ _ ⟨hx.on hg.1 (by omega) k0, hxl'⟩ k1 k2 k3).le (h0.trans k0)
    have hsn := RER.snoc (nm := nm) (j := base + a.cnt + b.cnt - 1) (RER.up hP.1 (show base ≤ base + a.cnt + b.cnt - 1 by omega)) (Nat.le_refl _) (by omega) hr' ht'
    rw [show base + a.cnt + b.cnt - 1 + 1 = base + a.cnt + b.cnt from by omega] at hsn
    have hne := name_ext m' (base + a.cnt + b.cnt - 1) u (base + a.cnt + b.cnt - 1) 1 (by omega)
    have hg' := mW_fits fuel hc _ (base + a.cnt + b.cnt) _ hr.2.2.2.1 hsn.ef (by rw [hne.len]; omega)
    refine ⟨ihc _ (base + a.cnt + b.cnt) _ _ _ sp3 hr.2.2.2.1 hsn (by rw [hne.len]; omega) (hs'.name _ _), fun sp4 h4 => ⟨RER.on (hP.1.on hne (by omega) (List.prefix_refl _)) hg'.1 (by omega) h4, hg'.1.len.trans (hne.len.trans hP.2)⟩⟩
   ·refine Or.inr ?_
    rw [rTurns_keep _ _ _ _ hB.1, mTurns_keep _ _ _ _ _ (by rw [hB.2]; exact hB.1)]
    exact hB
  ·have hx : x.2.fault ≠ 0 := by rw [hB.2]; exact hB.1
   have hst := mW_stay fuel b sc (base + a.cnt) x.2 hx
   rw [rW_bad fuel b env y.2 hB.1]
   refine Or.inr ?_
   rw [rTurns_keep _ _ _ _ hB.1, mTurns_keep _ _ _ _ _ (by rw [hst]; exact hx)]
   exact ⟨hB.1, by rw [hst]; exact hB.2⟩
 | @new G p nm rg a T ha iha =>
  intro sc base m env st sp hr he hl hs
  simp only [PT.rgd, rgdL] at hr
  simp only [PT.cnt, cntL, Nat.add_zero] at hl
  simp only [rW, rNew, mW, mNew, if_true]
  rw [if_neg (fun hn => hn hs.e)]
  have ho := opened_placed hs (valueL rg)
  have hpre : sp <+: sp ++ [(st.opn.length + 1, m.opened)] := List.prefix_append _ _
  have he1 : RER (m.opn (valueL rg)).named (m.opn (valueL rg)).cells (sp ++ [(st.opn.length + 1, m.opened)]) sc env G base := RER.on (m := m) (m' := m.opn (valueL rg)) he (Ext.same (m := m) (m' := m.opn (valueL rg)) rfl rfl base 0) (Nat.le_refl _) hpre
  have h1 := iha sc base (m.opn (valueL rg)) env (st.opened (valueL rg)) _ hr.2.1 he1 (by show base + a.cnt ≤ m.named.length; omega) ho
  have hk := rW_keeps fuel a env (st.opened (valueL rg))
  generalize mW fuel a sc base (m.opn (valueL rg)) = x at h1 ⊢
  generalize rW fuel a env (st.opened (valueL rg)) = y at h1 hk ⊢
  rcases h1 with ⟨sp', h0, h1, h2, h3⟩ | hB
  ·have hsh := shut_placed (l := st.opn) (i := st.ops.length) h1 (by rw [hk.opn]; rfl)
   refine Or.inl ⟨sp', hpre.trans h0, hsh, ?_, h3⟩
   have : x.2.fin.cells = x.2.cells := by unfold MM.fin; split <;> rfl
   rw [this]; exact h2
  ·refine Or.inr ⟨hB.1, ?_⟩
   have : x.2.fin.fault = x.2.fault := by unfold MM.fin; split <;> rfl
   rw [this]; exact hB.2
end Go.Proofs.YtpicaknklgccoaaGreatDoor
namespace Go.Proofs.YtpicaknklgccoaaGreatDoor
open Go.RowKit
theorem wants_noreg (k : Kw) : Wt.region ∉ wantsK k false := by cases k <;> decide
mutual
theorem PE.plain : ∀ {l : List Tk} {e : PT} {r : List Tk}, PE false l e r → (∀ t ∈ l, TkTame t) → (e.rgd ∧ NoNew e) ∧ ∀ t ∈ r, TkTame t
 | _, _, _, .num (t := t) h, ha => ⟨⟨by simp only [PT.rgd]; exact (ha t (by simp)).1 h, .num⟩, fun x hx => ha x (by simp [hx])⟩
 | _, _, _, .name (t := t) h, ha => ⟨⟨by simp [PT.rgd], .name⟩, fun x hx => ha x (by simp [hx])⟩
 | _, _, _, .node (k := k) _ _ h3 h4, ha => by
  have h := PW.plain h4 (wants_noreg k) (fun x hx => ha x (by simp [hx]))
  refine ⟨⟨by simp only [PT.rgd]; exact ⟨by rw [h.1]; decide, h.2.1⟩, .node (fun e => by subst e; exact h3 rfl) h.2.2.1⟩, h.2.2.2⟩
theorem PW.plain : ∀ {ws : List Wt} {l : List Tk} {nm rg : List UInt8} {kids : List PT} {r : List Tk}, PW false ws l nm rg kids r → Wt.region ∉ ws → (∀ t ∈ l, TkTame t) → rg = [] ∧ rgdL kids ∧ (∀ x ∈ kids, NoNew x) ∧ ∀ t ∈ r, TkTame t
 | _, _, _, _, _, _, .nil, _, ha => ⟨rfl, by simp [rgdL], by simp, ha⟩
 | _, _, _, _, _, _, .close _ h1, hn, ha => PW.plain h1 (fun h => hn (by simp [h])) (fun x hx => ha x (by simp [hx]))
 | _, _, _, _, _, _, .name _ h1, hn, ha => PW.plain h1 (fun h => hn (by simp [h])) (fun x hx => ha x (by simp [hx]))
 | _, _, _, _, _, _, .region _ h1, hn, ha => absurd (by simp) hn
 | _, _, _, _, _, _, .e h0 h1, hn, ha => by
  have a := PE.plain h0 ha
  have b := PW.plain h1 (fun h => hn (by simp [h])) a.2
  refine ⟨b.1, by simp only [rgdL]; exact ⟨a.1.1, b.2.1⟩, ?_, b.2.2.2⟩
  intro x hx
  rcases List.mem_cons.1 hx with rfl | hx
  ·exact a.1.2
  ·exact b.2.2.1 x hx
end
theorem chk_WT {e : PT} (hw : e.wf) (h : (chkAns e).1 = 0) : ∃ T, WT [] e T ∧ T.size ≤ 63 := by
 unfold chkAns at h
 split at h
 ·simp at h
 ·have := tyFind_WT (List.range e.prs) e 0 0 [] (st0 e) hw h
  exact ⟨_, this.2.2, by rw [bare_sizeE]; exact this.2.1⟩
theorem RRep.rep {cells : List MC} {sp : List (Nat × Nat)} : ∀ {v : RV} {T : Ty} {mv : MV}, RRep cells sp v mv → v.has T → Rep cells v.vl mv ∧ v.vl.size = T.size
 | .n k, .n, mv, h, ht => by simp only [RRep] at h; simp only [RV.has] at ht; simp only [Rep, RV.vl, Vl.size, Ty.size, and_true]; exact ⟨h.1, by omega, by omega⟩
 | .p a b hh, .p _ A B, mv, h, ht => by
  simp only [RRep] at h
  simp only [RV.has] at ht
  obtain ⟨hc, i, c, hv, hi, _, ha, hb⟩ := h
  have h1 := ha.rep ht.1
  have h2 := hb.rep ht.2
  simp only [Rep, RV.vl, Vl.size, Ty.size]
  exact ⟨⟨hc, i, c, hv, hi, h1.1, h2.1⟩, by rw [h1.2, h2.2]⟩
 | .n _, .p _ _ _, _, _, ht => by simp [RV.has] at ht
 | .p _ _ _, .n, _, _, ht => by simp [RV.has] at ht
theorem text_placed {fuel : Nat} {sp : List (Nat × Nat)} {st : RS} {m : MM} (hs : RSm fuel sp st m) : ∀ (v : RV) (mv : MV), RRep m.cells sp v mv → (mText v.vl mv m = m ∧ rTold v st = (v.vl.txt, st)) ∨ ((mText v.vl mv m).fault = 13 ∧ (rTold v st).2.e = 13)
 | .n k, mv, h => Or.inl ⟨rfl, by simp only [rTold, RV.vl, Vl.txt]⟩
 | .p a b hh, mv, h => by
  obtain ⟨u1, u2, u3⟩ := use_placed hs h
  simp only [RV.vl, mText]
  unfold rTold
  rcases u3 with ⟨u3, u4⟩ | ⟨u3, u4⟩
  ·rw [u3, u4, if_neg (fun hn => hn hs.e)]
   rcases text_placed hs a _ u1 with ⟨a1, a2⟩ | ⟨a1, a2⟩
   ·rw [a1, a2]
    rcases text_placed hs b _ u2 with ⟨b1, b2⟩ | ⟨b1, b2⟩
    ·rw [b1, b2]; exact Or.inl ⟨rfl, by simp only [Vl.txt]⟩
    ·exact Or.inr ⟨b1, b2⟩
   ·have hne : (mText a.vl (m.use mv).1.a m).fault ≠ 0 := by rw [a1]; decide
    rw [text_keep b.vl _ _ hne]
    refine Or.inr ⟨a1, ?_⟩
    simp only
    rcases rTold_or b (rTold a st).2 with h1 | h1
    ·rw [h1]; exact a2
    ·rw [h1]
  ·rw [if_pos (by rw [u3]; decide)]
   have hne : (m.use mv).2.fault ≠ 0 := by rw [u4]; decide
   rw [text_keep a.vl _ _ hne, text_keep b.vl _ _ hne]
   exact Or.inr ⟨u4, u3⟩
theorem run_placed (fuel k : Nat) {t : PT} {T : Ty} (hwt : WT [] t T) (hT : T.size ≤ 63) (hr : t.rgd) (hk : t.cnt ≤ k) :
  ∃ X, Rep (mW fuel t [] 0 ((m0 k).opn (-1))).2.cells X (mW fuel t [] 0 ((m0 k).opn (-1))).1 ∧ X.size ≤ 63 ∧
   runV (mText X (mW fuel t [] 0 ((m0 k).opn (-1))).1 (mW fuel t [] 0 ((m0 k).opn (-1))).2) X = runRV (rEnd (rW fuel t [] rs0)) ∧ (mText X (mW fuel t [] 0 ((m0 k).opn (-1))).1 (mW fuel t [] 0 ((m0 k).opn (-1))).2).fault = (rEnd (rW fuel t [] rs0)).2.e := by
 have hlen : ((m0 k).opn (-1)).named.length = k := by simp [m0, MM.opn]
 have her : RER ((m0 k).opn (-1)).named ((m0 k).opn (-1)).cells [] [] [] [] 0 := fun s T h => by simp [look] at h
 have hs0 : RSm fuel [] rs0 ((m0 k).opn (-1)) := by
  have hreg : ∀ (q : Nat) (r : MR), ((m0 k).opn (-1)).regs[q]? = some r → q = 0 ∧ r = ⟨-1, 0, 0⟩ := by
   intro q r h
   have h' : ([⟨-1, 0, 0⟩] : List MR)[q]? = some r := h
   rw [List.getElem?_singleton] at h'
   split at h'
   ·rename_i hq; cases h'; exact ⟨hq, rfl⟩
   ·cases h'
  refine ⟨rfl, rfl, rfl, Nat.zero_le _, rfl, rfl, ⟨0, rfl⟩, rfl, fun j h hj => by simp [rs0] at hj, fun h hh => by simp [rs0] at hh, fun h o ho => by simp [rs0] at ho, fun h o x ho => by simp [rs0] at ho, ?_, ?_, fun h x hx => by simp at hx, rfl, rfl⟩
  ·intro q q' r r' h1 h2 _
   rw [(hreg q r h1).1, (hreg q' r' h2).1]
  ·intro q r h1
   rw [(hreg q r h1).2]; exact Nat.zero_lt_one
 have hf := mW_fits fuel hwt [] 0 ((m0 k).opn (-1)) hr her.ef (by rw [hlen]; omega)
 have hsim := mW_rW fuel hwt [] 0 ((m0 k).opn (-1)) [] rs0 [] hr her (by rw [hlen]; omega) hs0
 generalize mW fuel t [] 0 ((m0 k).opn (-1)) = x at hf hsim ⊢
 generalize rW fuel t [] rs0 = y at hsim ⊢
 rcases hsim with ⟨sp, _, h1, h2, h3⟩ | hB
 ·have hrep := h2.rep h3
  have hend : rEnd y = rTold y.1 y.2 := by unfold rEnd; rw [if_pos h1.e]
  refine ⟨y.1.vl, hrep.1, by rw [hrep.2]; exact hT, ?_⟩
  rw [hend]
  rcases text_placed h1 y.1 x.1 h2 with ⟨a1, a2⟩ | ⟨a1, a2⟩
  ·rw [a1, a2]
   refine ⟨?_, by rw [h1.f, h1.e]⟩
   unfold runV runRV
   simp only
   rw [if_neg (fun h => h h1.f), if_neg (fun h => h h1.e), h1.s, h1.c, h1.l, h1.mo]
  ·refine ⟨?_, by rw [a1, a2]⟩
   unfold runV runRV
   rw [if_pos (by rw [a1]; decide), if_pos (by rw [a2]; decide)]
 ·obtain ⟨X, hX, hXs⟩ := fits_rp hf.2
  have hne : x.2.fault ≠ 0 := by rw [hB.2]; exact hB.1
  have hend : rEnd y = ([], y.2) := by unfold rEnd; rw [if_neg hB.1]
  refine ⟨X, hX, by omega, ?_, ?_⟩
  ·rw [text_keep X x.1 x.2 hne, hend]
   unfold runV runRV
   rw [if_pos hne, if_pos hB.1]
  ·rw [text_keep X x.1 x.2 hne, hend, hB.2]
theorem runRV_agg (x : List UInt8 × RS) : ∃ S a b c d, runRV x = .agg #[.string S, .int .i64 a, .int .i64 b, .int .i64 c, .int .i64 d] := by
 unfold runRV; split
 ·exact ⟨_, _, _, _, _, rfl⟩
 ·exact ⟨_, _, _, _, _, rfl⟩
mutual
theorem rgd_of : ∀ t : PT, t.tame → t.rg3 → t.rgd
 | .num _ _, h, _ => by simp only [PT.tame] at h; simp only [PT.rgd]; exact h
 | .name _ _, _, _ => by simp [PT.rgd]
 | .node _ _ _ _ kids, h, h3 => by
  simp only [PT.tame] at h
  simp only [PT.rg3] at h3
  simp only [PT.rgd]
  exact ⟨by omega, rgdL_of kids h.2 h3.2⟩
theorem rgdL_of : ∀ ts : List PT, tameL ts → rg3L ts → rgdL ts
 | [], _, _ => by simp [rgdL]
 | t :: r, h, h3 => by
  simp only [tameL] at h
  simp only [rg3L] at h3
  simp only [rgdL]
  exact ⟨rgd_of t h.1 h3.1, rgdL_of r h.2 h3.2⟩
end
theorem leaseRun_tree (s : ByteArray) (w : World) (hs : s.size ≤ 9000) (htab : Lib.TabIs Tryz.prog w "internal/strconv.uint64pow10" .u64 Lib.pow10Tab) (e : PT) (hp : PE true (tokens s.data.toList) e []) (hc : (chkAns e).1 = 0) (fuel : Nat) (hf : fuel ≤ 20000) :
  Calls Tryz.prog 18 #[.string s, .int .i64 fuel] w fun v w' => v = .returned (.tuple #[runRV (rEnd (rW fuel e [] rs0)), .int .i64 (rEnd (rW fuel e [] rs0)).2.e]) ∧ Below w.heap.size w w' := by
 have hwf := hp.wf
 have hrg := rgd_of e (hp.tame (tokens_tame _)).1 (hp.rg3 (tokens_rg _)).1
 have hcnt := Study_len hp
 obtain ⟨T, hwt, hT⟩ := chk_WT hwf hc
 obtain ⟨S, a, b, c, d, hV⟩ := runRV_agg (rEnd (rW fuel e [] rs0))
 rw [hV]
 refine leaseRun_ok s fuel w e (chkAns e).2 S a b c d _ (fun w => ?_) (fun w' x1 n1 c1 x2 n2 c2 ns hb hTr hna => ?_)
 ·have := readPlaced_full s w hs e hp
  rw [hc] at this
  exact this
 ·have hnl := hna.len
  refine run_ok w' x1 n1 c1 x2 n2 c2 fuel hf S a b c d _ (fun w'' hb'' => ?_)
  obtain ⟨X, hX, hXs, hrv, hfl⟩ := run_placed fuel ns.length hwt hT hrg (by omega)
  have := Run_any x1 n1 c1 x2 n2 c2 fuel ns (opn e 0) hf (by omega) w'' (hTr.below hb'') (Lib.tabBelow_of_tabIs htab w'' (hb.trans (hb''.mono hb.size))) e hna.showsM0 hwf hrg hnl.symm _ rfl X hX hXs
  rw [hrv, hfl, hV] at this
  exact this
theorem leaseRun_arg (s : ByteArray) (w : World) (hs : s.size ≤ 9000) (e : PT) (hp : PE true (tokens s.data.toList) e []) (hc : (chkAns e).1 = 0) (fuel : Int) (hf : fuel < 0 ∨ 20000 < fuel) :
  Calls Tryz.prog 18 #[.string s, .int .i64 fuel] w fun v w' => v = .returned (.tuple #[.agg #[.string ⟨#[]⟩, .int .i64 0, .int .i64 0, .int .i64 0, .int .i64 0], .int .i64 11]) ∧ Below w.heap.size w w' := by
 refine leaseRun_ok s fuel w e (chkAns e).2 ⟨#[]⟩ 0 0 0 0 11 (fun w => ?_) (fun w' x1 n1 c1 x2 n2 c2 ns _ _ _ => run_arg w' x1 n1 c1 x2 n2 c2 fuel hf)
 have := readPlaced_full s w hs e hp
 rw [hc] at this
 exact this
theorem cls_ans (e : PT) (hm : e.prs ≤ 100) : (tyFind (clsOf e) e 0 0 [] (st0 e)).2.e = (chkAns e).1 ∧ (tyFind (clsOf e) e 0 0 [] (st0 e)).2.at_ = (chkAns e).2 := by
 have h := (tyFind_cls (clsOf e) (List.range e.prs) e 0 0 0 0 [] [] (st0 e) (st0 e) rfl ⟨rfl, rfl⟩).2
 unfold chkAns
 rw [if_neg (by omega)]
 exact h
set_option maxRecDepth 100000 in
set_option maxHeartbeats 2000000 in
theorem Runs_of (s : ByteArray) (fuel : Int) (w : World) (S : ByteArray) (a b c d x : Int) (h1 : Calls Tryz.prog 18 #[.string s, .int .i64 fuel] w fun v w' => v = .returned (.tuple #[.agg #[.string S, .int .i64 a, .int .i64 b, .int .i64 c, .int .i64 d], .int .i64 x]) ∧ Below w.heap.size w w')
  (h2 : ∀ w', Below w.heap.size w w' → Calls Tryz.prog 19 #[.string s, .int .i64 fuel] w' fun v w'' => v = .returned (.tuple #[.agg #[.string S, .int .i64 a, .int .i64 b, .int .i64 c, .int .i64 d], .int .i64 x]) ∧ Below w'.heap.size w' w'') :
  Calls Tryz.prog 5 #[.string s, .int .i64 fuel] w fun v w' => v = .returned (.bool true) ∧ Below w.heap.size w w' := by
 have HH : Hid _ := h2
 clear h2
 have hsame : ∀ w, Calls Tryz.prog 15 #[.agg #[.string S, .int .i64 a, .int .i64 b, .int .i64 c, .int .i64 d], .agg #[.string S, .int .i64 a, .int .i64 b, .int .i64 c, .int .i64 d]] w fun v w' => v = .returned (.bool true) ∧ Below w.heap.size w w' := by
  intro w
  have q0 : (S.toList == S.toList) = true := by simp
  have q1 : (a == a) = true := by simp
  have q2 : (b == b) = true := by simp
  have q3 : (c == c) = true := by simp
  have q4 : (d == d) = true := by simp
  go_enter Tryz.func15, Tryz.ntmps15
  go_wp2
  go_ret
  exact ⟨rfl, ((Below.refl _ w).alloc (Nat.le_refl _) _).alloc (by simp) _⟩
 have hnum : ∀ w, Calls Tryz.prog 14 #[.int .i64 x] w fun v w' => v = .returned (.int .i64 x) ∧ w' = w := by
  intro w
  go_enter Tryz.func14, Tryz.ntmps14
  go_wp2
  go_ret
  exact ⟨rfl, rfl⟩
 have e1 : (x == x) = true := by simp
 go_enter Tryz.func5, Tryz.ntmps5
 go_wp2_with fail
 refine h1.mono ?_
 rintro _ w1 ⟨rfl, hb1⟩
 have hb1a := hb1.alloc hb1.size (.cells #[.string S, .int .i64 a, .int .i64 b, .int .i64 c, .int .i64 d] 23)
 have HB1 : Hid _ := hb1a
 have hh := HH.out _ hb1a
 clear hb1 h1 hb1a HH
 go_wp2_with fail
 refine Calls.mono hh ?_
 rintro _ w2 ⟨rfl, hb2⟩
 have hq : w2.heap[w1.heap.size]? = some (.cells #[.string S, .int .i64 a, .int .i64 b, .int .i64 c, .int .i64 d] 23) := by rw [hb2.block _ (by simp)]; exact blk_new _ _
 obtain ⟨s0, s1, s2, s3, s4⟩ := res_cells hq
 have hql := blk_lt hq
 have hb2a := (HB1.out.trans (hb2.mono HB1.out.size)).alloc (HB1.out.trans (hb2.mono HB1.out.size)).size (.cells #[.string S, .int .i64 a, .int .i64 b, .int .i64 c, .int .i64 d] 23)
 have HB2 : Hid _ := hb2a
 clear hb2 HB1 hh hq hb2a
 go_wp2_with fail
 refine (hnum _).mono ?_
 rintro _ _ ⟨rfl, rfl⟩
 go_wp2_with fail
 refine (hsame _).mono ?_
 rintro _ w3 ⟨rfl, hb3⟩
 have HB3 : Hid _ := HB2.out.trans (hb3.mono HB2.out.size)
 clear hb3 HB2
 go_wp2
 go_ret
 exact ⟨rfl, HB3.out⟩
theorem Runs_any (s : ByteArray) (fuel : Int) (w : World) (hm : s.size ≤ maxLen) (htab : Lib.TabIs Tryz.prog w "internal/strconv.uint64pow10" .u64 Lib.pow10Tab) : Calls Tryz.prog 5 #[.string s, .int .i64 fuel] w fun v w' => v = .returned (.bool true) ∧ Below w.heap.size w w' := by
 by_cases hs : 9000 < s.size
 ·exact Runs_of s fuel w ⟨#[]⟩ 0 0 0 0 1 (leaseRun_bad s fuel w 1 0 (by omega) (fun w => (readPlaced_bad s w 1 0 (by omega) (fun w => parsePlaced_long s w hs hm)).mono fun _ _ ⟨h, hb⟩ => ⟨_, _, _, _, _, _, h, hb⟩)) (fun w _ => refRun_bad s fuel w 1 (by omega) (fun w _ => (StudyP_long s w hs hm).mono fun _ _ ⟨h, hb⟩ => ⟨_, _, _, h, hb⟩))
 ·cases hf : formOf true s.data.toList with
  | some q => exact Runs_of s fuel w ⟨#[]⟩ 0 0 0 0 2 (leaseRun_bad s fuel w 2 q (by omega) (fun w => (readPlaced_bad s w 2 q (by omega) (fun w => parsePlaced_form s w (by omega) q hf)).mono fun _ _ ⟨h, hb⟩ => ⟨_, _, _, _, _, _, h, hb⟩)) (fun w _ => refRun_bad s fuel w 2 (by omega) (fun w _ => (StudyP_form s w (by omega) q hf).mono fun _ _ ⟨h, hb⟩ => ⟨_, _, _, h, hb⟩))
  | none =>
   obtain ⟨e, hp⟩ := form_none hf
   have hit : ∀ w', Below w.heap.size w w' → ItoaOk w' := fun w' hb => itoa_ok w' (Lib.tabBelow_of_tabIs htab w' hb)
   by_cases hc : (chkAns e).1 = 0
   ·have hprs : e.prs ≤ 100 := by
     unfold chkAns at hc
     split at hc
     ·simp at hc
     ·omega
    have hst : ∀ w1, Below w.heap.size w w1 → ∀ w2, Below w1.heap.size w1 w2 → Calls Tryz.prog 33 #[.string s, .bool true] w2 fun v w' => ∃ b q y, v = .returned (.tuple #[ptr b, .pointer q, .int .i64 0, .int .i64 y]) ∧ Below w2.heap.size w2 w' ∧ IsT w' (fun k => k < w'.heap.size) e 0 0 b := by
     intro w1 hb1 w2 hb2
     have h0 : (tyFind (clsOf e) e 0 0 [] (st0 e)).2.e = 0 := (cls_ans e hprs).1.trans hc
     refine (StudyP_ok s w2 (by omega) e hp hf hprs (fun w' hb => hit w' ((hb1.trans (hb2.mono hb1.size)).trans (hb.mono (Nat.le_trans hb1.size hb2.size))))).mono fun _ _ ⟨b, yb, h, hb, hT, _⟩ => ⟨b, some ⟨yb, 0, none⟩, ((tyFind (clsOf e) e 0 0 [] (st0 e)).2.at_ : Int), ?_, hb, hT⟩
     rw [h, h0]; rfl
    by_cases hfu : fuel < 0 ∨ 20000 < fuel
    ·exact Runs_of s fuel w ⟨#[]⟩ 0 0 0 0 11 (leaseRun_arg s w (by omega) e hp hc fuel hfu) (fun w1 hb1 => refRun_arg s fuel w1 hfu (fun w2 hb2 => (hst w1 hb1 w2 hb2).mono fun _ _ ⟨b, q, y, h, hb, _⟩ => ⟨_, q, y, h, hb⟩))
    ·obtain ⟨n, rfl⟩ : ∃ n : Nat, fuel = n := ⟨fuel.toNat, by omega⟩
     have hn : n ≤ 20000 := by omega
     obtain ⟨T, hwt, hT⟩ := chk_WT hp.wf hc
     have hta := (hp.tame (tokens_tame _)).1
     have hcnt := Study_len hp
     obtain ⟨S, a, b, c, d, hV⟩ := runRV_agg (rEnd (rW n e [] rs0))
     have l1 := leaseRun_tree s w (by omega) htab e hp hc n hn
     rw [hV] at l1
     refine Runs_of s n w S a b c d _ l1 (fun w' hb' => ?_)
     have l2 := refRun_ok s n w' hn e (fun w2 hb2 => hst w' hb' w2 hb2) (fun w1 pb => pwork_any pb n hwt hta hp.wf) (fun w1 hb1 => hit w1 (hb'.trans (hb1.mono hb'.size))) hp.wf (by omega) T hT _ rfl (fun h0 => ((rW_res n hwt [] rs0 hta (fun _ s U h => by simp [look] at h)).1 h0).2)
     rw [hV] at l2
     exact l2
   ·have hx : (chkAns e).1 ≠ 0 := hc
    refine Runs_of s fuel w ⟨#[]⟩ 0 0 0 0 (chkAns e).1 (leaseRun_bad s fuel w (chkAns e).1 (chkAns e).2 hx (fun w => (readPlaced_full s w (by omega) e hp).mono fun _ _ ⟨x1, n1, c1, x2, n2, c2, _, h, hb, _⟩ => ⟨x1, n1, c1, x2, n2, c2, h, hb⟩)) (fun w1 hb1 => refRun_bad s fuel w1 (chkAns e).1 hx (fun w2 hb2 => ?_))
    by_cases hm : 100 < e.prs
    ·have h3 : (chkAns e).1 = 3 := by unfold chkAns; rw [if_pos hm]
     rw [h3]
     exact (StudyP_many s w2 (by omega) e hp hf hm).mono fun _ _ ⟨q, h, _, hb⟩ => ⟨_, _, _, h, hb⟩
    ·rw [← (cls_ans e (by omega)).1]
     exact (StudyP_ok s w2 (by omega) e hp hf (by omega) (fun w' hb => hit w' ((hb1.trans (hb2.mono hb1.size)).trans (hb.mono (Nat.le_trans hb1.size hb2.size))))).mono fun _ _ ⟨b, yb, h, hb, _⟩ => ⟨some ⟨b, 0, none⟩, some ⟨yb, 0, none⟩, _, h, hb⟩
end Go.Proofs.YtpicaknklgccoaaGreatDoor
