import Derived.Test.YtpicaknklgccoaaGreatDoorX25
namespace Go.Proofs.YtpicaknklgccoaaGreatDoor
theorem turns_keep (f : Vl → ESt → Vl × ESt) (k : Nat) (v : Vl) (st : ESt) (h : st.e ≠ 0) : (turns f k v st).2 = st := by
 cases k with
 | zero => rfl
 | succ k => simp only [turns]; rw [if_pos h]
theorem mTurns_keep (i : Int) (f : MM → MV × MM) (k : Nat) (v : MV) (m : MM) (h : m.fault ≠ 0) : (mTurns i f k v m).2 = m := by
 cases k with
 | zero => rfl
 | succ k => simp only [mTurns]; rw [if_pos h]
theorem NoNew.kids {p : Nat} {k : Kw} {nm rg : List UInt8} {kids : List PT} (h : NoNew (.node p k nm rg kids)) : k ≠ .new ∧ ∀ x ∈ kids, NoNew x := by
 cases h with
 | node hk h => exact ⟨hk, h⟩
theorem Both.name {st : ESt} {m : MM} (h : Both st m) (i : Int) (v : MV) : Both st (m.name i v) := ⟨h.1, by rw [(name_fault m i v).1]; exact h.2⟩
theorem use_plain {fuel : Nat} {st : ESt} {m : MM} {a b : Vl} {v : MV} (hs : Sm fuel st m) (h : Rep m.cells (.p a b) v) : (m.use v).2 = m ∧ Rep m.cells a (m.use v).1.a ∧ Rep m.cells b (m.use v).1.b := by
 simp only [Rep] at h
 obtain ⟨hc, i, c, hv, hi, ha, hb⟩ := h
 have hil := (List.getElem?_eq_some_iff.1 hi).1
 have hcm := hs.h c (List.mem_of_getElem? hi)
 have e2 : m.cells.getD v.n.toNat c0 = c := by rw [hv, Int.toNat_natCast, List.getD_eq_getElem?_getD, hi]; rfl
 have hlv : m.isLive c = true := by unfold MM.isLive; rw [hcm.1, hs.r]; simp [hcm.2]
 have e : m.use v = (c, m) := by
  unfold MM.use
  rw [if_neg (by rw [hc, hv]; simp; omega), e2, if_pos hlv]
 rw [e]; exact ⟨rfl, ha, hb⟩
theorem cell_plain {fuel : Nat} {st : ESt} {m : MM} {a b : Vl} {v u : MV} {k : Int} (hs : Sm fuel st m) (ha : Rep m.cells a v) (hb : Rep m.cells b u) : Sm fuel { st with cells := st.cells + 1 } (m.newCell k v u).2 ∧ Rep (m.newCell k v u).2.cells (.p a b) (m.newCell k v u).1 := by
 have hh : m.home k = 0 := by unfold MM.home; rw [hs.r]; rfl
 have hr : m.regs[m.home k]? = some ⟨-1, 0, st.cells⟩ := by rw [hh, hs.r]; rfl
 have hl := hs.l; have ho := hs.o; have hc := hs.c
 have e : m.newCell k v u = (⟨true, m.cells.length⟩, { m with regs := m.regs.set 0 ⟨-1, 0, st.cells + 1⟩, cells := m.cells ++ [⟨v, u, 0, 0⟩], live := m.live + 1, most := m.live + 1 }) := by
  unfold MM.newCell; rw [hr, hh]
  simp only
  rw [if_pos (by omega)]
 rw [e]
 refine ⟨⟨hs.e, hs.f, hs.s, hs.le, by simp [hc], by simp [hs.r], by simp only; omega, by simp only; omega, ?_⟩, ?_⟩
 ·intro c hcm
  simp only [List.mem_append, List.mem_singleton] at hcm
  rcases hcm with hcm | rfl
  ·exact hs.h c hcm
  ·exact ⟨rfl, rfl⟩
 ·simp only [Rep]
  exact ⟨trivial, m.cells.length, ⟨v, u, 0, 0⟩, rfl, by simp, ha.mono, hb.mono⟩
set_option maxHeartbeats 2000000 in
theorem mW_ev (fuel : Nat) {G : TEnv} {t : PT} {T : Ty} (h : WT G t T) : NoNew t → ∀ (sc : Sc) (base : Nat) (m : MM) (env : VEnv) (st : ESt), t.rgd → ER m.named m.cells sc env G base → base + t.cnt ≤ m.named.length → Sm fuel st m → SimOut fuel (ev fuel t env st) (mW fuel t sc base m) T := by
 induction h with
 | num =>
  intro hn sc base m env st hr he hl hs
  simp only [PT.rgd] at hr
  simp only [ev, mW]
  exact begun_sim hs (fun hs => Or.inl ⟨hs, by simp only [Rep, true_and]; omega, by simp only [Vl.has]; omega⟩)
 | name hlk =>
  intro hn sc base m env st hr he hl hs
  simp only [ev, mW]
  refine begun_sim hs (fun hs => Or.inl ⟨hs, ?_⟩)
  obtain ⟨i, v, h1, h2, h3, h4, h5⟩ := he _ _ hlk
  have hil := (List.getElem?_eq_some_iff.1 h3).1
  unfold MM.look
  simp only [h1]
  rw [if_neg (by omega), Int.toNat_natCast, List.getD_eq_getElem?_getD, h3]
  exact ⟨h4, h5⟩
 | @let_ G p nm rg a b A B ha hb iha ihb =>
  intro hn sc base m env st hr he hl hs
  have hk := hn.kids.2
  simp only [PT.rgd, rgdL] at hr
  simp only [PT.cnt, cntL, Nat.add_zero] at hl
  simp only [ev, evLet, mW, mLet, if_true, reduceCtorEq, if_false]
  refine begun_sim hs (fun hs => ?_)
  have hf := mW_fits fuel ha sc base { m with steps := m.steps + 1 } hr.2.1 he.ef (by simp only; omega)
  have h1 := iha (hk a (by simp)) sc base { m with steps := m.steps + 1 } env { st with steps := st.steps + 1 } hr.2.1 he (by simp only; omega) hs
  generalize mW fuel a sc base { m with steps := m.steps + 1 } = x at hf h1 ⊢
  generalize ev fuel a env { st with steps := st.steps + 1 } = y at h1 ⊢
  have hca := cnt_pos' a
  have hxl : x.2.named.length = m.named.length := hf.1.len
  rw [show (((base + a.cnt : Nat) : Int) - 1) = ((base + a.cnt - 1 : Nat) : Int) from by omega]
  rcases h1 with ⟨h1, h2, h3⟩ | hB
  ·have hx := ER.on (m := { m with steps := m.steps + 1 }) he hf.1 (Nat.le_refl _)
   have hsn := hx.snoc (nm := nm) (j := base + a.cnt - 1) (by omega) (by omega) h2 h3
   rw [show base + a.cnt - 1 + 1 = base + a.cnt from by omega] at hsn
   have hne := name_ext x.2 (base + a.cnt - 1) x.1 base a.cnt (by omega)
   exact ihb (hk b (by simp)) _ (base + a.cnt) _ _ _ hr.2.2.1 hsn (by rw [hne.len, hxl]; omega) (h1.name _ _)
  ·exact both_keep (hk b (by simp)) _ _ _ (hB.name _ _) _
 | @pair G p nm rg a b A B ha hb hsz iha ihb =>
  intro hn sc base m env st hr he hl hs
  have hk := hn.kids.2
  simp only [PT.rgd, rgdL] at hr
  simp only [PT.cnt, cntL, Nat.add_zero] at hl
  have e' : ev fuel (.node p .pair nm rg [a, b]) env st = begun fuel st (fun st => if (ev fuel b env (ev fuel a env st).2).2.e ≠ 0 then (.n 0, (ev fuel b env (ev fuel a env st).2).2) else madeV .pair [(ev fuel a env st).1, (ev fuel b env (ev fuel a env st).2).1] (ev fuel b env (ev fuel a env st).2).2) := by
   simp only [ev, evKids, reduceCtorEq, if_false]; rfl
  rw [e']
  simp only [mW, mOps, if_true, reduceCtorEq, if_false]
  refine begun_sim hs (fun hs => ?_)
  have hf := mW_fits fuel ha sc base { m with steps := m.steps + 1 } hr.2.1 he.ef (by simp only; omega)
  have h1 := iha (hk a (by simp)) sc base { m with steps := m.steps + 1 } env { st with steps := st.steps + 1 } hr.2.1 he (by simp only; omega) hs
  generalize mW fuel a sc base { m with steps := m.steps + 1 } = x at hf h1 ⊢
  generalize ev fuel a env { st with steps := st.steps + 1 } = y at h1 ⊢
  have hxl : x.2.named.length = m.named.length := hf.1.len
  rcases h1 with ⟨h1, h2, h3⟩ | hB
  ·have hx := (ER.on (m := { m with steps := m.steps + 1 }) he hf.1 (Nat.le_refl _)).up (show base ≤ base + a.cnt by omega)
   have hg := mW_fits fuel hb sc (base + a.cnt) x.2 hr.2.2.1 hx.ef (by omega)
   have k1 := ihb (hk b (by simp)) sc (base + a.cnt) x.2 env y.2 hr.2.2.1 hx (by omega) h1
   generalize mW fuel b sc (base + a.cnt) x.2 = x' at hg k1 ⊢
   generalize ev fuel b env y.2 = y' at k1 ⊢
   rcases k1 with ⟨k1, k2, k3⟩ | hB
   ·rw [if_neg (fun hn => hn k1.e)]
    simp only [madeV]
    have hc := cell_plain (k := valueL rg) k1 (h2.on hg.1) k2
    exact Or.inl ⟨hc.1, hc.2, by simp only [Vl.has]; exact ⟨h3, k3⟩⟩
   ·rw [if_pos (by rw [hB.1]; decide)]
    refine Or.inr ⟨hB.1, ?_⟩
    have : ∀ (m : MM) k v u, (m.newCell k v u).2.fault = m.fault := fun m k v u => by unfold MM.newCell; split <;> rfl
    rw [this]; exact hB.2
  ·rw [ev_keep fuel b env y.2 (by rw [hB.1]; decide), mW_keep fuel b (hk b (by simp)) _ _ _ (by rw [hB.2]; decide)]
   simp only
   rw [if_pos (by rw [hB.1]; decide)]
   refine Or.inr ⟨hB.1, ?_⟩
   have : ∀ (m : MM) k v u, (m.newCell k v u).2.fault = m.fault := fun m k v u => by unfold MM.newCell; split <;> rfl
   rw [this]; exact hB.2
 | @fst G p nm rg a A B ha iha =>
  intro hn sc base m env st hr he hl hs
  have hk := hn.kids.2
  simp only [PT.rgd, rgdL] at hr
  simp only [PT.cnt, cntL, Nat.add_zero] at hl
  have e' : ev fuel (.node p .fst nm rg [a]) env st = begun fuel st (fun st => if (ev fuel a env st).2.e ≠ 0 then (.n 0, (ev fuel a env st).2) else madeV .fst [(ev fuel a env st).1] (ev fuel a env st).2) := by
   simp only [ev, evKids, reduceCtorEq, if_false]; rfl
  rw [e']
  simp only [mW, mOps, if_true, reduceCtorEq, if_false]
  refine begun_sim hs (fun hs => ?_)
  have h1 := iha (hk a (by simp)) sc base { m with steps := m.steps + 1 } env { st with steps := st.steps + 1 } hr.2.1 he (by simp only; omega) hs
  generalize mW fuel a sc base { m with steps := m.steps + 1 } = x at h1 ⊢
  generalize ev fuel a env { st with steps := st.steps + 1 } = y at h1 ⊢
  rcases h1 with ⟨h1, h2, h3⟩ | hB
  ·rw [if_neg (fun hn => hn h1.e)]
   obtain ⟨y1, y2⟩ := y
   cases y1 with
   | n k => simp [Vl.has] at h3
   | p u v =>
    simp only [Vl.has] at h3
    have hu := use_plain h1 h2
    simp only [madeV, Vl.fst]
    rw [hu.1]
    exact Or.inl ⟨h1, hu.2.1, h3.1⟩
  ·rw [if_pos (by rw [hB.1]; decide)]
   refine Or.inr ⟨hB.1, ?_⟩
   have : (x.2.use x.1).2.fault = x.2.fault := by
    unfold MM.use; split
    ·rfl
    ·simp only; split
     ·rfl
     ·rw [stop_keep _ _ (by rw [hB.2]; decide)]
   rw [this]; exact hB.2
 | @snd G p nm rg a A B ha iha =>
  intro hn sc base m env st hr he hl hs
  have hk := hn.kids.2
  simp only [PT.rgd, rgdL] at hr
  simp only [PT.cnt, cntL, Nat.add_zero] at hl
  have e' : ev fuel (.node p .snd nm rg [a]) env st = begun fuel st (fun st => if (ev fuel a env st).2.e ≠ 0 then (.n 0, (ev fuel a env st).2) else madeV .snd [(ev fuel a env st).1] (ev fuel a env st).2) := by
   simp only [ev, evKids, reduceCtorEq, if_false]; rfl
  rw [e']
  simp only [mW, mOps, reduceCtorEq, if_false]
  refine begun_sim hs (fun hs => ?_)
  have h1 := iha (hk a (by simp)) sc base { m with steps := m.steps + 1 } env { st with steps := st.steps + 1 } hr.2.1 he (by simp only; omega) hs
  generalize mW fuel a sc base { m with steps := m.steps + 1 } = x at h1 ⊢
  generalize ev fuel a env { st with steps := st.steps + 1 } = y at h1 ⊢
  rcases h1 with ⟨h1, h2, h3⟩ | hB
  ·rw [if_neg (fun hn => hn h1.e)]
   obtain ⟨y1, y2⟩ := y
   cases y1 with
   | n k => simp [Vl.has] at h3
   | p u v =>
    simp only [Vl.has] at h3
    have hu := use_plain h1 h2
    simp only [madeV, Vl.snd]
    rw [hu.1]
    exact Or.inl ⟨h1, hu.2.2, h3.2⟩
  ·rw [if_pos (by rw [hB.1]; decide)]
   refine Or.inr ⟨hB.1, ?_⟩
   have : (x.2.use x.1).2.fault = x.2.fault := by
    unfold MM.use; split
    ·rfl
    ·simp only; split
     ·rfl
     ·rw [stop_keep _ _ (by rw [hB.2]; decide)]
   rw [this]; exact hB.2
 | @if_ G p nm rg a b c T ha hb hc iha ihb ihc =>
  intro hn sc base m env st hr he hl hs
  have hk := hn.kids.2
  simp only [PT.rgd, rgdL] at hr
  simp only [PT.cnt, cntL, Nat.add_zero] at hl
  simp only [ev, evIf, mW, mIf, if_true, reduceCtorEq, if_false]
  refine begun_sim hs (fun hs => ?_)
  have hf := mW_fits fuel ha sc base { m with steps := m.steps + 1 } hr.2.1 he.ef (by simp only; omega)
  have h1 := iha (hk a (by simp)) sc base { m with steps := m.steps + 1 } env { st with steps := st.steps + 1 } hr.2.1 he (by simp only; omega) hs
  generalize mW fuel a sc base { m with steps := m.steps + 1 } = x at hf h1 ⊢
  generalize ev fuel a env { st with steps := st.steps + 1 } = y at h1 ⊢
  have hxl : x.2.named.length = m.named.length := hf.1.len
  rcases h1 with ⟨h1, h2, h3⟩ | hB
  ·have hx := ER.on (m := { m with steps := m.steps + 1 }) he hf.1 (Nat.le_refl _)
   obtain ⟨y1, y2⟩ := y
   cases y1 with
   | p u v => simp [Vl.has] at h3
   | n k =>
    simp only [Rep] at h2
    split
    ·rename_i hz
     simp only [Vl.num] at hz
     rw [if_pos (show x.1.n ≠ 0 by omega)]
     exact ihb (hk b (by simp)) sc (base + a.cnt) x.2 env _ hr.2.2.1 (hx.up (by omega)) (by omega) h1
    ·rename_i hz
     simp only [Vl.num, ne_eq, Decidable.not_not] at hz
     rw [if_neg (show ¬ x.1.n ≠ 0 by omega)]
     exact ihc (hk c (by simp)) sc (base + a.cnt + b.cnt) x.2 env _ hr.2.2.2.1 (hx.up (by omega)) (by omega) h1
  ·have e1 : (if y.1.num ≠ 0 then ev fuel b env y.2 else ev fuel c env y.2) = (.n 0, y.2) := by split <;> exact ev_keep fuel _ env y.2 (by rw [hB.1]; decide)
   have e2 : (if x.1.n ≠ 0 then mW fuel b sc (base + a.cnt) x.2 else mW fuel c sc (base + a.cnt + b.cnt) x.2) = (v0, x.2) := by
    split
    ·exact mW_keep fuel b (hk b (by simp)) _ _ _ (by rw [hB.2]; decide)
    ·exact mW_keep fuel c (hk c (by simp)) _ _ _ (by rw [hB.2]; decide)
   rw [e1, e2]
   exact Or.inr hB
 | @two G p k nm rg a b hkk ha hb iha ihb =>
  intro hn sc base m env st hr he hl hs
  have hk := hn.kids.2
  simp only [PT.rgd, rgdL] at hr
  simp only [PT.cnt, cntL, Nat.add_zero] at hl
  have e : mW fuel (.node p k nm rg [a, b]) sc base m = mBegun fuel m (fun m => (⟨false, mArith k (mW fuel a sc base m).1.n (mW fuel b sc (base + a.cnt) (mW fuel a sc base m).2).1.n⟩, (mW fuel b sc (base + a.cnt) (mW fuel a sc base m).2).2)) := by
   rcases hkk with rfl | rfl | rfl <;> simp only [mW, mOps, reduceCtorEq, if_false]
  have e' : ev fuel (.node p k nm rg [a, b]) env st = begun fuel st (fun st => if (ev fuel b env (ev fuel a env st).2).2.e ≠ 0 then (.n 0, (ev fuel b env (ev fuel a env st).2).2) else madeV k [(ev fuel a env st).1, (ev fuel b env (ev fuel a env st).2).1] (ev fuel b env (ev fuel a env st).2).2) := by
   rcases hkk with rfl | rfl | rfl <;> (simp only [ev, evKids, reduceCtorEq, if_false]; rfl)
  rw [e, e']
  refine begun_sim hs (fun hs => ?_)
  have hf := mW_fits fuel ha sc base { m with steps := m.steps + 1 } hr.2.1 he.ef (by simp only; omega)
  have h1 := iha (hk a (by simp)) sc base { m with steps := m.steps + 1 } env { st with steps := st.steps + 1 } hr.2.1 he (by simp only; omega) hs
  generalize mW fuel a sc base { m with steps := m.steps + 1 } = x at hf h1 ⊢
  generalize ev fuel a env { st with steps := st.steps + 1 } = y at h1 ⊢
  have hxl : x.2.named.length = m.named.length := hf.1.len
  rcases h1 with ⟨h1, h2, h3⟩ | hB
  ·have hx := (ER.on (m := { m with steps := m.steps + 1 }) he hf.1 (Nat.le_refl _)).up (show base ≤ base + a.cnt by omega)
   have k1 := ihb (hk b (by simp)) sc (base + a.cnt) x.2 env y.2 hr.2.2.1 hx (by omega) h1
   generalize mW fuel b sc (base + a.cnt) x.2 = x' at k1 ⊢
   generalize ev fuel b env y.2 = y' at k1 ⊢
   rcases k1 with ⟨k1, k2, k3⟩ | hB
   ·rw [if_neg (fun hn => hn k1.e)]
    obtain ⟨y1, y2⟩ := y
    obtain ⟨z1, z2⟩ := y'
    cases y1 with
    | p u v => simp [Vl.has] at h3
    | n i =>
     cases z1 with
     | p u v => simp [Vl.has] at k3
     | n j =>
      simp only [Rep] at h2 k2
      refine Or.inl ?_
      rcases hkk with rfl | rfl | rfl
      ·simp only [madeV, Vl.num, mArith, if_true]
       refine ⟨k1, ?_, by simp only [Vl.has]; omega⟩
       simp only [Rep, true_and]
       rw [Int.tmod_eq_emod_of_nonneg (by omega)]
       omega
      ·simp only [madeV, Vl.num, mArith, if_true, reduceCtorEq, if_false]
       refine ⟨k1, ?_, by simp only [Vl.has]; omega⟩
       simp only [Rep, true_and]
       rw [Int.tmod_eq_emod_of_nonneg (by omega)]
       omega
      ·simp only [madeV, mArith, reduceCtorEq, if_false]
       by_cases hlt : i < j
       ·have hq : x.1.n < x'.1.n := by omega
        exact ⟨k1, by simp [Rep, Vl.num, hlt, hq], by simp [Vl.has, Vl.num, hlt]⟩
       ·have hq : ¬ x.1.n < x'.1.n := by omega
        exact ⟨k1, by simp [Rep, Vl.num, hlt, hq], by simp [Vl.has, Vl.num, hlt]⟩
   ·rw [if_pos (by rw [hB.1]; decide)]
    exact Or.inr hB
  ·rw [ev_keep fuel b env y.2 (by rw [hB.1]; decide), mW_keep fuel b (hk b (by simp)) _ _ _ (by rw [hB.2]; decide)]
   simp only
   rw [if_pos (by rw [hB.1]; decide)]
   exact Or.inr hB
 | @loop G p nm rg a b c T ha hb hc iha ihb ihc =>
  intro hn sc base m env st hr he hl hs
  have hk := hn.kids.2
  simp only [PT.rgd, rgdL] at hr
  simp only [PT.cnt, cntL, Nat.add_zero] at hl
  simp only [ev, evLoop, mW, mLoop, if_true, reduceCtorEq, if_false]
  refine begun_sim hs (fun hs => ?_)
  have hf := mW_fits fuel ha sc base { m with steps := m.steps + 1 } hr.2.1 he.ef (by simp only; omega)
  have h1 := iha (hk a (by simp)) sc base { m with steps := m.steps + 1 } env { st with steps := st.steps + 1 } hr.2.1 he (by simp only; omega) hs
  generalize mW fuel a sc base { m with steps := m.steps + 1 } = x at hf h1 ⊢
  generalize ev fuel a env { st with steps := st.steps + 1 } = y at h1 ⊢
  have hxl : x.2.named.length = m.named.length := hf.1.len
  rcases h1 with ⟨h1, h2, h3⟩ | hB
  ·have hx := ER.on (m := { m with steps := m.steps + 1 }) he hf.1 (Nat.le_refl _)
   have hg := mW_fits fuel hb sc (base + a.cnt) x.2 hr.2.2.1 (hx.up (by omega)).ef (by omega)
   have k1 := ihb (hk b (by simp)) sc (base + a.cnt) x.2 env y.2 hr.2.2.1 (hx.up (by omega)) (by omega) h1
   generalize mW fuel b sc (base + a.cnt) x.2 = x' at hg k1 ⊢
   generalize ev fuel b env y.2 = y' at k1 ⊢
   have hxl' : x'.2.named.length = m.named.length := hg.1.len.trans hxl
   have hcb := cnt_pos' b
   rw [show (((base + a.cnt + b.cnt : Nat) : Int) - 1) = ((base + a.cnt + b.cnt - 1 : Nat) : Int) from by omega]
   rcases k1 with ⟨k1, k2, k3⟩ | hB
   ·have hnum : x.1.n.toNat = y.1.num := by
     obtain ⟨y1, y2⟩ := y
     cases y1 with
     | p u v => simp [Vl.has] at h3
     | n k => simp only [Rep] at h2; simp only [Vl.num]; omega
    rw [hnum]
    refine turns_sim (P := fun m' => ER m'.named m'.cells sc env G base ∧ m'.named.length = m.named.length) (fun st' m' v u hP hs' hr' ht' => ?_) _ _ _ _ _ ⟨hx.on hg.1 (by omega), hxl'⟩ k1 k2 k3
    have hsn := ER.snoc (nm := nm) (j := base + a.cnt + b.cnt - 1) (ER.up hP.1 (show base ≤ base + a.cnt + b.cnt - 1 by omega)) (Nat.le_refl _) (by omega) hr' ht'
    rw [show base + a.cnt + b.cnt - 1 + 1 = base + a.cnt + b.cnt from by omega] at hsn
    have hne := name_ext m' (base + a.cnt + b.cnt - 1) u (base + a.cnt + b.cnt - 1) 1 (by omega)
    have hg' := mW_fits fuel hc _ (base + a.cnt + b.cnt) _ hr.2.2.2.1 hsn.ef (by rw [hne.len]; omega)
    refine ⟨ihc (hk c (by simp)) _ (base + a.cnt + b.cnt) _ _ _ hr.2.2.2.1 hsn (by rw [hne.len]; omega) (hs'.name _ _), ER.on (hP.1.on hne (by omega)) hg'.1 (by omega), hg'.1.len.trans (hne.len.trans hP.2)⟩
   ·have e1 := turns_keep (fun v st => ev fuel c (env ++ [(nm, v)]) st) y.1.num y'.1 y'.2 (by rw [hB.1]; decide)
    have e2 := mTurns_keep (((base + a.cnt + b.cnt - 1 : Nat) : Int)) (fun m => mW fuel c (sc ++ [(nm, ((base + a.cnt + b.cnt - 1 : Nat) : Int))]) (base + a.cnt + b.cnt) m) x.1.n.toNat x'.1 x'.2 (by rw [hB.2]; decide)
    exact Or.inr ⟨by rw [e1]; exact hB.1, by rw [e2]; exact hB.2⟩
  ·rw [ev_keep fuel b env y.2 (by rw [hB.1]; decide), mW_keep fuel b (hk b (by simp)) _ _ _ (by rw [hB.2]; decide)]
   have e1 := turns_keep (fun v st => ev fuel c (env ++ [(nm, v)]) st) y.1.num (.n 0) y.2 (by rw [hB.1]; decide)
   have e2 := mTurns_keep ((((base + a.cnt + b.cnt : Nat) : Int) - 1)) (fun m => mW fuel c (sc ++ [(nm, (((base + a.cnt + b.cnt : Nat) : Int) - 1))]) (base + a.cnt + b.cnt) m) x.1.n.toNat v0 x.2 (by rw [hB.2]; decide)
   exact Or.inr ⟨by rw [e1]; exact hB.1, by rw [e2]; exact hB.2⟩
 | new _ _ =>
  intro hn
  exact absurd rfl hn.kids.1
open Go.RowKit
theorem text_plain {fuel : Nat} {st : ESt} {m : MM} (hs : Sm fuel st m) : ∀ (X : Vl) (v : MV), Rep m.cells X v → mText X v m = m
 | .n _, _, _ => rfl
 | .p a b, v, h => by
  have hu := use_plain hs h
  simp only [mText]
  rw [hu.1, text_plain hs a _ hu.2.1, text_plain hs b _ hu.2.2]
theorem use_keep (m : MM) (v : MV) (h : m.fault ≠ 0) : (m.use v).2 = m := by
 unfold MM.use; split
 ·rfl
 ·simp only; split
  ·rfl
  ·exact stop_keep m 13 h
theorem text_keep : ∀ (X : Vl) (v : MV) (m : MM), m.fault ≠ 0 → mText X v m = m
 | .n _, _, _, _ => rfl
 | .p a b, v, m, h => by
  simp only [mText]
  rw [use_keep m v h, text_keep a _ m h, text_keep b _ m h]
theorem rep_size {cells : List MC} : ∀ {X : Vl} {T : Ty}, X.has T → X.size = T.size
 | .n _, .n, _ => rfl
 | .p a b, .p _ A B, h => by
  simp only [Vl.has] at h
  simp only [Vl.size, Ty.size]
  rw [rep_size (cells := cells) h.1, rep_size (cells := cells) h.2]
 | .n _, .p _ _ _, h => by simp [Vl.has] at h
 | .p _ _, .n, h => by simp [Vl.has] at h
def evalV (y : Vl × ESt) : Value := if y.2.e ≠ 0 then .agg #[.string ⟨#[]⟩, .int .i64 0, .int .i64 0, .int .i64 0, .int .i64 0] else .agg #[.string (bs y.1.txt), .int .i64 y.2.steps, .int .i64 y.2.cells, .int .i64 y.2.cells, .int .i64 y.2.cells]
theorem run_plain (fuel k : Nat) {t : PT} {T : Ty} (hwt : WT [] t T) (hT : T.size ≤ 63) (hn : NoNew t) (hr : t.rgd) (hk : t.cnt ≤ k) :
  ∃ X, Rep (mW fuel t [] 0 ((m0 k).opn (-1))).2.cells X (mW fuel t [] 0 ((m0 k).opn (-1))).1 ∧ X.size ≤ 63 ∧
   runV (mText X (mW fuel t [] 0 ((m0 k).opn (-1))).1 (mW fuel t [] 0 ((m0 k).opn (-1))).2) X = evalV (ev fuel t [] ⟨0, 0, 0⟩) ∧ (mText X (mW fuel t [] 0 ((m0 k).opn (-1))).1 (mW fuel t [] 0 ((m0 k).opn (-1))).2).fault = (ev fuel t [] ⟨0, 0, 0⟩).2.e := by
 have hlen : ((m0 k).opn (-1)).named.length = k := by simp [m0, MM.opn]
 have her : ER ((m0 k).opn (-1)).named ((m0 k).opn (-1)).cells [] [] [] 0 := fun s T h => by simp [look] at h
 have hs0 : Sm fuel ⟨0, 0, 0⟩ ((m0 k).opn (-1)) := ⟨rfl, rfl, rfl, Nat.zero_le _, rfl, rfl, rfl, rfl, fun c hc => by simp [m0, MM.opn] at hc⟩
 have hf := mW_fits fuel hwt [] 0 ((m0 k).opn (-1)) hr her.ef (by rw [hlen]; omega)
 have hsim := mW_ev fuel hwt hn [] 0 ((m0 k).opn (-1)) [] ⟨0, 0, 0⟩ hr her (by rw [hlen]; omega) hs0
 generalize mW fuel t [] 0 ((m0 k).opn (-1)) = x at hf hsim ⊢
 generalize ev fuel t [] ⟨0, 0, 0⟩ = y at hsim ⊢
 rcases hsim with ⟨h1, h2, h3⟩ | hB
 ·refine ⟨y.1, h2, by rw [rep_size (cells := x.2.cells) h3]; exact hT, ?_, ?_⟩
  ·rw [text_plain h1 y.1 x.1 h2]
   unfold runV evalV
   rw [if_neg (fun h => h h1.f), if_neg (fun h => h h1.e), h1.s, h1.c, h1.o, h1.l]
  ·rw [text_plain h1 y.1 x.1 h2, h1.f, h1.e]
 ·obtain ⟨X, hX, hXs⟩ := fits_rp hf.2
  have hne : x.2.fault ≠ 0 := by rw [hB.2]; decide
  refine ⟨X, hX, by omega, ?_, ?_⟩
  ·rw [text_keep X x.1 x.2 hne]
   unfold runV evalV
   rw [if_pos hne, if_pos (by rw [hB.1]; decide)]
  ·rw [text_keep X x.1 x.2 hne, hB.1, hB.2]
theorem own_neH {w : World} {base : Nat} {e : TypeId} {size : Nat} {v : Value} {n : Nat} {xs : List Value} (h : w.ownsRow base e size v n xs) {b : Nat} {arr : Array Value} {t : TypeId} {fr : Nat × Nat} (hb : w.heap[b]? = some (.cells arr t fr)) (ht : t ≠ e) : ∀ k, v.ownBlock = some k → k ≠ b := by
 intro k hk hkb
 rcases h.2 with ⟨h1, _⟩ | ⟨g, cap, cur, h1, _, hh, _⟩
 ·rw [h1] at hk; simp [Value.ownBlock] at hk
 ·rw [h1] at hk
  simp [Value.ownBlock] at hk
  rw [hk, hkb, hb] at hh
  simp only [Option.some.injEq, Obj.cells.injEq] at hh
  exact ht hh.2.1
set_option maxRecDepth 100000 in
set_option maxHeartbeats 4000000 in
theorem readPlain_pg (s : ByteArray) (w : World) (hs : s.size ≤ 3000) (e : PT) (hp : PE false (tokens s.data.toList) e []) : Calls Tryz.prog 31 #[.string s] w fun v w' => ∃ x1 n1 c1 x2 n2 c2 ns, v = .returned (.tuple #[treeV (.slice x1 n1 c1) (.slice x2 n2 c2), .int .i64 (chkAns e).1, .int .i64 (chkAns e).2]) ∧ Below w.heap.size w w' ∧ TreeIn w' (.slice x1 n1 c1) (.slice x2 n2 c2) ns (opn e 0) ∧ NA [] e 0 ns ∧ (pProg false s.size (tokens s.data.toList)).nodes = ns := by
 obtain ⟨ns, hna, hpg⟩ := prog_yes (len := s.size) hp
 have hcnt := Study_len hp
 have hnl := hna.len
 have hpp := fun w => ParsePlain_any s w (by omega)
 have hpr := fun (w : World) (nv ov : Value) (h : TreeIn w nv ov ns (opn e 0)) => Program_any w nv ov ns (opn e 0) h (op_ok hna) (by omega) (hna.small (fun _ h => by simp at h) (by omega)) (fun j n hj => by have := hna.back j n hj; simpa using this)
 rw [prog_ans hna] at hpr
 have HPG : Hid _ := hpg
 have HPR : Hid _ := hpr
 have hnd : (pProg false s.size (tokens s.data.toList)).nodes = ns := by rw [hpg]
 have HNA : Hid _ := And.intro hna hnd
 clear hp hna hpg hpr hnl hnd
 generalize chkAns e = ans at *
 go_enter Tryz.func31, Tryz.ntmps31
 go_wp2_with fail
 refine (hpp _).mono ?_
 rintro v w1 ⟨hb, hv⟩
 have hr := kept1 hb
 have hlt := blk_lt hr
 have HB : Hid _ := below1 hb
 have HR : Hid _ := hr
 rcases hv with ⟨q', hq', _⟩ | ⟨_, nv, ov, rfl, hT⟩
 ·rw [HPG.out] at hq'; cases hq'
 ·rw [HPG.out] at hT
  simp only at hT
  obtain ⟨x1, c1, e1⟩ := slice_any hT.nd
  obtain ⟨x2, c2, e2⟩ := slice_any hT.op
  have HNN : Hid _ := own_neH hT.nd hr (by decide)
  have HNO : Hid _ := own_neH hT.op hr (by decide)
  have hT1 := hT.below ((Below.refl _ w1).alloc (Nat.le_refl _) (.cells #[nv, ov] 59))
  have hpr := HPR.out (w1.alloc (.cells #[nv, ov] 59)) nv ov (hT.below ((Below.refl _ w1).alloc (Nat.le_refl _) _))
  subst e1
  subst e2
  unfold treeV at hpr
  unfold treeV
  clear hT hb hr hpp
  go_wp2_with fail
  refine hpr.mono ?_
  rintro _ w2 ⟨rfl, hb2⟩
  have HT2 : Hid _ := hT1.below hb2
  have hk := kept1 hb2
  have k0 : w2.cell? ⟨w1.heap.size, 0, none⟩ = some (.slice x1 ns.length c1) := by rw [blk_cell hk]; rfl
  have k1 : w2.cell? ⟨w1.heap.size, 1, none⟩ = some (.slice x2 (opn e 0).length c2) := by rw [blk_cell hk]; rfl
  have hr2 : w2.heap[w.heap.size]? = some (.cells #[.slice none 0 0, .slice none 0 0] 59 (0, 0)) := by
   rw [hb2.block _ (by simp; omega)]; exact blk_alloc _ HR.out
  have r0 : w2.cell? ⟨w.heap.size, 0, none⟩ = some (.slice none 0 0) := by rw [blk_cell hr2]; rfl
  have r1 : w2.cell? ⟨w.heap.size, 1, none⟩ = some (.slice none 0 0) := by rw [blk_cell hr2]; rfl
  have f0 := blk_free hr2 0
  have f1 := blk_free hr2 1
  have hB2 : Below w.heap.size w w2 := HB.out.trans ((below1 hb2).mono HB.out.size)
  have HB2 : Hid _ := hB2
  have hne : w.heap.size ≠ w1.heap.size := by omega
  clear hk hr2 hb2 hB2 hpr
  go_wp2
  refine bodyPost_ret (v := .tuple #[.agg #[.slice x1 ns.length c1, .slice x2 (opn e 0).length c2], .int .i64 ans.1, .int .i64 ans.2]) (by simp [results, Tryz.results31, go_sem, r0, r1]) rfl ⟨x1, ns.length, c1, x2, (opn e 0).length, c2, ns, rfl, ?_, ⟨owns_blk HT2.out.nd (fun k hk => by rw [blk_other _ _ (by simpa using HNN.out k hk), blk_other _ _ (by simpa using HNN.out k hk)]), owns_blk HT2.out.op (fun k hk => by rw [blk_other _ _ (by simpa using HNO.out k hk), blk_other _ _ (by simpa using HNO.out k hk)])⟩, HNA.out⟩
  exact (HB2.out.setCell (p := ⟨w.heap.size, 0, none⟩) (Nat.le_refl _) _).setCell (p := ⟨w.heap.size, 1, none⟩) (Nat.le_refl _) _
theorem readPlain_full (s : ByteArray) (w : World) (hs : s.size ≤ 3000) (e : PT) (hp : PE false (tokens s.data.toList) e []) : Calls Tryz.prog 31 #[.string s] w fun v w' => ∃ x1 n1 c1 x2 n2 c2 ns, v = .returned (.tuple #[treeV (.slice x1 n1 c1) (.slice x2 n2 c2), .int .i64 (chkAns e).1, .int .i64 (chkAns e).2]) ∧ Below w.heap.size w w' ∧ TreeIn w' (.slice x1 n1 c1) (.slice x2 n2 c2) ns (opn e 0) ∧ NA [] e 0 ns :=
 (readPlain_pg s w hs e hp).mono fun _ _ ⟨x1, n1, c1, x2, n2, c2, ns, h1, h2, h3, h4, _⟩ => ⟨x1, n1, c1, x2, n2, c2, ns, h1, h2, h3, h4⟩
def posOf (len : Nat) : List Tk → Nat
 | [] => len
 | t :: _ => t.at_
theorem posOf_cons (len : Nat) (t : Tk) (r : List Tk) : posOf len (t :: r) = t.at_ := rfl
theorem posOf_nil (len : Nat) : posOf len [] = len := rfl
def TkOk (len : Nat) : List Tk → Prop
 | [] => True
 | t :: r => 0 < t.s.length ∧ t.at_ + t.s.length ≤ posOf len r ∧ TkOk len r
theorem toks_okU (len : Nat) : ∀ (f p : Nat) (l : List UInt8), p + l.length = len → TkOk len (toks f p l) ∧ p ≤ posOf len (toks f p l)
 | 0, p, l, h => by simp only [toks, TkOk, posOf_nil, true_and]; omega
 | f + 1, p, [], h => by simp only [toks, TkOk, posOf_nil, true_and]; simp at h; omega
 | f + 1, p, c :: r, h => by
  simp only [List.length_cons] at h
  simp only [toks]
  split
  ·have := toks_okU len f (p + 1) r (by omega)
   exact ⟨this.1, by omega⟩
  ·have hp := tokenOf_pos (c :: r)
   have hl := tokenOf_le (c :: r) (by simp)
   simp only [List.length_cons] at hl
   have := toks_okU len f (p + (tokenOf (c :: r)).1) ((c :: r).drop (tokenOf (c :: r)).1) (by simp only [List.length_drop, List.length_cons]; omega)
   simp only [TkOk, posOf_cons, List.length_take, List.length_cons]
   exact ⟨⟨by omega, by omega, this.1⟩, Nat.le_refl _⟩
theorem tokens_okU (l : List UInt8) : TkOk l.length (tokens l) := (toks_okU l.length l.length 0 l (by omega)).1
mutual
def PosN : PT → List NR → Nat → Nat → Prop
 | .num p _, ns, lo, hi => ∃ n, ns = [n] ∧ n.at_ = p ∧ lo ≤ p ∧ p < n.beh ∧ n.beh ≤ hi
 | .name p _, ns, lo, hi => ∃ n, ns = [n] ∧ n.at_ = p ∧ lo ≤ p ∧ p < n.beh ∧ n.beh ≤ hi
 | .node p _ _ _ kids, ns, lo, hi => ∃ ks n, ns = ks ++ [n] ∧ n.at_ = p ∧ lo ≤ p ∧ PosNs kids ks (p + 1) n.beh ∧ p < n.beh ∧ n.beh ≤ hi
def PosNs : List PT → List NR → Nat → Nat → Prop
 | [], ns, lo, hi => ns = [] ∧ lo ≤ hi
 | t :: r, ns, lo, hi => ∃ a c mid, ns = a ++ c ∧ PosN t a lo mid ∧ PosNs r c mid hi
end
theorem PosN.lo {t : PT} {ns : List NR} {lo lo' hi : Nat} (h : PosN t ns lo hi) (hl : lo' ≤ lo) : PosN t ns lo' hi := by
 cases t with
 | num p s => simp only [PosN] at h ⊢; obtain ⟨n, h1, h2, h3, h4⟩ := h; exact ⟨n, h1, h2, by omega, h4⟩
 | name p s => simp only [PosN] at h ⊢; obtain ⟨n, h1, h2, h3, h4⟩ := h; exact ⟨n, h1, h2, by omega, h4⟩
 | node p k nm rg kids => simp only [PosN] at h ⊢; obtain ⟨ks, n, h1, h2, h3, h4⟩ := h; exact ⟨ks, n, h1, h2, by omega, h4⟩
theorem PosNs.lo {ts : List PT} {ns : List NR} {lo lo' hi : Nat} (h : PosNs ts ns lo hi) (hl : lo' ≤ lo) : PosNs ts ns lo' hi := by
 cases ts with
 | nil => simp only [PosNs] at h ⊢; exact ⟨h.1, by omega⟩
 | cons t r => simp only [PosNs] at h ⊢; obtain ⟨a, c, mid, h1, h2, h3⟩ := h; exact ⟨a, c, mid, h1, h2.lo hl, h3⟩
theorem PosNs.hi : ∀ {ts : List PT} {ns : List NR} {lo hi hi' : Nat}, PosNs ts ns lo hi → hi ≤ hi' → PosNs ts ns lo hi'
 | [], _, _, _, _, h, hl => by simp only [PosNs] at h ⊢; exact ⟨h.1, by omega⟩
 | t :: r, _, _, _, _, h, hl => by simp only [PosNs] at h ⊢; obtain ⟨a, c, mid, h1, h2, h3⟩ := h; exact ⟨a, c, mid, h1, h2, h3.hi hl⟩
theorem PosN.lt {t : PT} {ns : List NR} {lo hi : Nat} (h : PosN t ns lo hi) : lo < hi := by
 cases t with
 | num p s => simp only [PosN] at h; obtain ⟨n, h1, h2, h3, h4⟩ := h; omega
 | name p s => simp only [PosN] at h; obtain ⟨n, h1, h2, h3, h4⟩ := h; omega
 | node p k nm rg kids => simp only [PosN] at h; obtain ⟨ks, n, h1, h2, h3, h4⟩ := h; omega
theorem PosNs.le : ∀ {ts : List PT} {ns : List NR} {lo hi : Nat}, PosNs ts ns lo hi → lo ≤ hi
 | [], _, _, _, h => by simp only [PosNs] at h; exact h.2
 | t :: r, _, _, _, h => by simp only [PosNs] at h; obtain ⟨a, c, mid, h1, h2, h3⟩ := h; have := h2.lt; have := h3.le; omega
def YesP (placed : Bool) (len : Nat) (pE : PS → Int × PS) (m : Nat) : Prop := ∀ (l : List Tk) (e : PT) (r : List Tk), PE placed l e r → l.length ≤ m → TkOk len l → ∀ st : PS, st.l = l → st.fl = none →
 ∃ ns, (pE st).2.nodes = st.nodes ++ ns ∧ PosN e ns (posOf len l) (posOf len r)
theorem body_pos {placed : Bool} {len : Nat} {pE : PS → Int × PS} {m : Nat} (hY : YesP placed len pE m) (w : List UInt8) (src : Int) {l : List Tk} {e : PT} {r : List Tk} (h : PE placed l e r) (hm : l.length ≤ m) (ht : TkOk len l) (st : PS) (hl : st.l = l) (hf : st.fl = none) :
  ∃ ns, (pBody pE w src st).2.nodes = st.nodes ++ ns ∧ PosN e ns (posOf len l) (posOf len r) := hY l e r h hm ht { st with scope := st.scope ++ [(w, src)] } hl hf
mutual
theorem PE.tkok {placed : Bool} {len : Nat} : ∀ {l : List Tk} {e : PT} {r : List Tk}, PE placed l e r → TkOk len l → TkOk len r ∧ posOf len l ≤ posOf len r
 | _, _, _, .num _, h => by simp only [TkOk] at h; exact ⟨h.2.2, by simp only [posOf_cons]; omega⟩
 | _, _, _, .name _, h => by simp only [TkOk] at h; exact ⟨h.2.2, by simp only [posOf_cons]; omega⟩
 | _, _, _, .node _ _ _ h4, h => by
  simp only [TkOk] at h
  have := PW.tkok h4 h.2.2.2.2
  have h1 := h.2.1
  simp only [posOf_cons] at h1 ⊢
  exact ⟨this.1, by omega⟩
theorem PW.tkok {placed : Bool} {len : Nat} : ∀ {ws : List Wt} {l : List Tk} {nm rg : List UInt8} {kids : List PT} {r : List Tk}, PW placed ws l nm rg kids r → TkOk len l → TkOk len r ∧ posOf len l ≤ posOf len r
 | _, _, _, _, _, _, .nil, h => ⟨h, Nat.le_refl _⟩
 | _, _, _, _, _, _, .close _ h1, h => by simp only [TkOk] at h; have := PW.tkok h1 h.2.2; simp only [posOf_cons]; exact ⟨this.1, by omega⟩
 | _, _, _, _, _, _, .name _ h1, h => by simp only [TkOk] at h; have := PW.tkok h1 h.2.2; simp only [posOf_cons]; exact ⟨this.1, by omega⟩
 | _, _, _, _, _, _, .region _ h1, h => by simp only [TkOk] at h; have := PW.tkok h1 h.2.2; simp only [posOf_cons]; exact ⟨this.1, by omega⟩
 | _, _, _, _, _, _, .e h0 h1, h => by have a := PE.tkok h0 h; have b := PW.tkok h1 a.1; exact ⟨b.1, by omega⟩
end
theorem ins_pos {placed : Bool} (len : Nat) {pE : PS → Int × PS} {m : Nat} (hY : YesE placed pE m) (hP : YesP placed len pE m) : ∀ (is : List Ins) (l : List Tk) (nm rg : List UInt8) (kids : List PT) (r : List Tk), PW placed (is.map Ins.wt ++ [.close]) l nm rg kids r →
  l.length ≤ m → TkOk len l → ∀ (st : PS) (fs : FS), st.l = l → st.fl = none →
  ∃ t ns, (pIns len pE is fs st).2.l = t :: r ∧ (pIns len pE is fs st).2.nodes = st.nodes ++ ns ∧ PosNs kids ns (posOf len l) t.at_ ∧ 0 < t.s.length ∧ t.at_ + t.s.length ≤ posOf len r := by
 intro is
 induction is with
 | nil =>
  intro l nm rg kids r h hm ht st fs hl hf
  simp only [List.map_nil, List.nil_append] at h
  cases h with
  | close hc h1 =>
   cases h1
   simp only [TkOk] at ht
   refine ⟨_, [], by simp only [pIns]; exact hl, by simp only [pIns, List.append_nil], ?_, ht.1, ht.2.1⟩
   simp only [PosNs, posOf_cons, true_and]; exact Nat.le_refl _
 | cons i is ih =>
  intro l nm rg kids r h hm ht st fs hl hf
  cases i with
  | name =>
   simp only [List.map_cons, Ins.wt, List.cons_append] at h
   cases h with
   | name hc h1 =>
    rename_i t r1 nm1
    simp only [List.length_cons] at hm
    simp only [TkOk] at ht
    have hk : (tk1 len st.l).kind = 4 := by rw [hl]; exact (kindN_nam _).2 hc
    have hex : st.expect len 4 = { st with l := r1 } := by
     unfold PS.expect; rw [if_neg (by simp [hk])]; simp [PS.tail, hl]
    obtain ⟨t', ns, h2, h3, h4, h5⟩ := ih r1 nm1 rg kids r h1 (by omega) ht.2.2 { st with l := r1 } { fs with word := (tk1 len st.l).word } rfl hf
    refine ⟨t', ns, ?_, ?_, h4.lo (by simp only [posOf_cons]; omega), h5⟩
    ·simp only [pIns]; rw [hex]; exact h2
    ·simp only [pIns]; rw [hex]; exact h3
  | region =>
   simp only [List.map_cons, Ins.wt, List.cons_append] at h
   cases h with
   | region hc h1 =>
    rename_i t r1 rg1
    simp only [List.length_cons] at hm
    simp only [TkOk] at ht
    have hk : (tk1 len st.l).kind = 6 := by rw [hl]; exact (kindN_reg _).2 hc
    have hex : st.expect len 6 = { st with l := r1 } := by
     unfold PS.expect; rw [if_neg (by simp [hk])]; simp [PS.tail, hl]
    obtain ⟨t', ns, h2, h3, h4, h5⟩ := ih r1 nm rg1 kids r h1 (by omega) ht.2.2 { st with l := r1 } { fs with region := (tk1 len st.l).num } rfl hf
    refine ⟨t', ns, ?_, ?_, h4.lo (by simp only [posOf_cons]; omega), h5⟩
    ·simp only [pIns]; rw [hex]; exact h2
    ·simp only [pIns]; rw [hex]; exact h3
  | e =>
   simp only [List.map_cons, Ins.wt, List.cons_append] at h
   cases h with
   | e he h1 =>
    rename_i e r1 kids1
    have hlt := he.len
    have htk := he.tkok ht
    obtain ⟨ns1, hn1, hp1⟩ := hY l e r1 he hm st hl hf
    obtain ⟨ns0, hq0, hpos⟩ := hP l e r1 he hm ht st hl hf
    obtain ⟨t', ns, h2, h3, h4, h5⟩ := ih r1 nm rg kids1 r h1 (by omega) htk.1 (pE st).2 { fs with parts := fs.parts ++ [(pE st).1] } (by rw [hp1]) (by rw [hp1]; exact hf)
    refine ⟨t', ns0 ++ ns, ?_, ?_, ?_, h5⟩
    ·simp only [pIns]; exact h2
    ·simp only [pIns]; rw [h3, hq0, List.append_assoc]
    ·simp only [PosNs]; exact ⟨ns0, ns, _, rfl, hpos, h4⟩
  | body =>
   simp only [List.map_cons, Ins.wt, List.cons_append] at h
   cases h with
   | e he h1 =>
    rename_i e r1 kids1
    have hlt := he.len
    have htk := he.tkok ht
    obtain ⟨ns1, hn1, hp1⟩ := body_yes hY fs.word (fs.parts.getLastD (-1)) he hm st hl hf
    obtain ⟨ns0, hq0, hpos⟩ := body_pos hP fs.word (fs.parts.getLastD (-1)) he hm ht st hl hf
    obtain ⟨t', ns, h2, h3, h4, h5⟩ := ih r1 nm rg kids1 r h1 (by omega) htk.1 (pBody pE fs.word (fs.parts.getLastD (-1)) st).2 { fs with parts := fs.parts ++ [(pBody pE fs.word (fs.parts.getLastD (-1)) st).1] } (by rw [hp1]) (by rw [hp1]; exact hf)
    refine ⟨t', ns0 ++ ns, ?_, ?_, ?_, h5⟩
    ·simp only [pIns]; exact h2
    ·simp only [pIns]; rw [h3, hq0, List.append_assoc]
    ·simp only [PosNs]; exact ⟨ns0, ns, _, rfl, hpos, h4⟩
theorem expr_pos (placed : Bool) (len : Nat) : ∀ n : Nat, YesP placed len (pExpr placed len n) n := by
 intro n
 induction n with
 | zero =>
  intro l e r h hm
  obtain ⟨t, r', he, _⟩ := h.suffix
  rw [he] at hm; simp at hm
 | succ m ih =>
  intro l e r h hm ht st hl hf
  cases h with
  | num hc =>
   rename_i t
   simp only [TkOk] at ht
   obtain ⟨ns, hn, hp⟩ := (expr_all placed len (m + 1)).1 _ _ _ (PE.num hc) hm st hl hf
   simp only [NA] at hn
   subst hn
   refine ⟨_, by rw [hp], ⟨_, rfl, rfl, Nat.le_refl _, ?_⟩⟩
   simp only; exact ⟨by omega, ht.2.1⟩
  | name hc =>
   rename_i t
   simp only [TkOk] at ht
   obtain ⟨ns, hn, hp⟩ := (expr_all placed len (m + 1)).1 _ _ _ (PE.name hc) hm st hl hf
   simp only [NA] at hn
   subst hn
   refine ⟨_, by rw [hp], ⟨_, rfl, rfl, Nat.le_refl _, ?_⟩⟩
   simp only; exact ⟨by omega, ht.2.1⟩
  | node hc hk hw h4 =>
   rename_i t u k r0 nm rg kids
   have hkf : ¬ (formN (kindN u.c) = 0 ∨ (formN (kindN u.c) = 12 ∧ placed = false)) := by
    rw [form_wants, hk]; exact hw
   rw [insK_wants k placed hw] at h4
   simp only [List.length_cons] at hm
   simp only [TkOk] at ht
   obtain ⟨c, ns, h1, h2, h3, h5, h6⟩ := ins_pos len (expr_all placed len m).1 ih (insK k placed) r0 nm rg kids r h4 (by omega) ht.2.2.2.2 { st with opened := st.opened ++ [-1], l := r0 } ⟨[], [], 0⟩ rfl hf
   obtain ⟨c', ns', h1', _, h3'⟩ := ins_yes len (expr_all placed len m).1 (insK k placed) r0 nm rg kids r h4 (insK_wf k placed) (by omega)
     { st with opened := st.opened ++ [-1], l := r0 } ⟨[], [], 0⟩ nm rfl hf (fun e => absurd e (insK_head k placed)) (by
      split
      ·rfl
      ·rename_i hn
       have : Wt.name ∉ (insK k placed).map Ins.wt ++ [.close] := by
        intro hh
        rcases List.mem_append.1 hh with hh | hh
        ·obtain ⟨i, hi, e⟩ := List.mem_map.1 hh
         cases i with
         | name => exact hn (by simpa using hi)
         | _ => cases e
        ·simp at hh
       exact (PW.noname h4 this).symm)
   have hcc : c = c' := by rw [h3'] at h1; simp only at h1; cases h1; rfl
   subst hcc
   have h21 := ht.2.1
   simp only [posOf_cons] at h21
   have h22 := ht.2.2.2.1
   refine ⟨ns ++ [{ NR.filled ⟨formK k, t.at_, t.at_ + t.s.length, 0, [], 0, -1, -1, -1, -1⟩ (pIns len (pExpr placed len m) (insK k placed) ⟨[], [], 0⟩ { st with opened := st.opened ++ [-1], l := r0 }).1 with beh := c.at_ + c.s.length }], ?_, ⟨ns, _, rfl, rfl, Nat.le_refl _, ?_, ?_, h6⟩⟩
   ·show (pSeat (pAny len (pBracket placed len (pExpr placed len m))) st).2.nodes = _
    unfold pSeat
    rw [any_open len _ { st with opened := st.opened ++ [-1] } hl hc]
    unfold pBracket
    have htk : tk1 len (u :: r0) = tnOf u := rfl
    simp only [htk]
    rw [if_neg (by simpa [tnOf] using hkf)]
    have hform : formN (tnOf u).kind = formK k := by simp [tnOf, hk, formK]
    rw [hform, pFill_ins placed len _ k hw]
    simp only [PS.tail, List.tail_cons]
    have hkc : (tk1 len (c :: r)).kind = 3 := (kindN_cls _).2 h1'
    simp only [PS.expect, h1, hkc]
    rw [if_neg (by simp)]
    simp only [PS.tail, PS.add, h2, List.append_assoc]
    rfl
   ·exact (h3.lo (by omega)).hi (by show c.at_ ≤ c.at_ + c.s.length; omega)
   ·have hlo : posOf len r0 ≤ c.at_ := h3.le
    show t.at_ < c.at_ + c.s.length
    omega
theorem fail_nodes (a : Nat) (st : PS) : (st.fail a).nodes = st.nodes := by unfold PS.fail; split <;> rfl
theorem expect_nodes (len k : Nat) (st : PS) : (st.expect len k).nodes = st.nodes := by
 unfold PS.expect
 split
 ·rw [fail_nodes]; rfl
 ·rfl
theorem prog_pos {placed : Bool} {len : Nat} {l : List Tk} {e : PT} (h : PE placed l e []) (ht : TkOk len l) : PosN e (pProg placed len l).nodes (posOf len l) len := by
 obtain ⟨ns, h1, h2⟩ := expr_pos placed len l.length l e [] h (Nat.le_refl _) ht (ps0 l) rfl rfl
 unfold pProg
 rw [expect_nodes, h1]
 exact h2
set_option maxRecDepth 100000 in
set_option maxHeartbeats 8000000 in
theorem pProgram_any (w : World) (x1 : Option Addr) (n1 c1 : Nat) (x2 : Option Addr) (n2 c2 : Nat) (ns : List NR) (op : List Int) (hT : TreeIn w (.slice x1 n1 c1) (.slice x2 n2 c2) ns op) (ho : OpOk ns op) (hl : ns.length ≤ 9000) (hsm : ∀ n ∈ ns, n.small) (n0 : NR) (h0 : ns[ns.length - 1]? = some n0) (hB : n0.beh ≤ 9000) (hat : ∀ n ∈ ns, n.at_ < n0.beh) (hsz : SzOk [] (ns.map atR)) (E fs : List Nat) (hE : E = shE [] (List.range n0.beh) ns) (hfs : fs = firstsL E (opNs ns op))
  (ns2 : List NR) (h2 : ∀ (k : Nat) n r, ns[k]? = some n → (regsL E fs ns)[k]? = some r → ns2.drop k = setR n r :: ns2.drop (k + 1) ∧ (n.form = 4 → 0 ≤ r)) (h2l : ns2.length = ns.length) (hsz2 : SzOk [] ns2) :
  Calls Tryz.prog 35 #[treeV (.slice x1 n1 c1) (.slice x2 n2 c2)] w fun e w' => ∃ y1 m1 d1 y2 m2 d2, e = .returned (.agg #[.slice y1 m1 d1, .slice y2 m2 d2]) ∧ LyIn w' ⟨.slice y1 m1 d1, .slice y2 m2 d2, regsL E fs ns, newsL (tyRun [] ns2) ns n0 fs.length⟩ ∧ Below w.heap.size w w' := by
 have hrl : (regsL E fs ns).length = ns.length := by unfold regsL; rw [List.length_map]
 have hnl : (newsL (tyRun [] ns2) ns n0 fs.length).length = fs.length := by unfold newsL; rw [List.length_map, List.length_range]
 have hfl : fs.length ≤ 9000 := by have := firstsL_len E (opNs ns op); rw [opNs_len, ho.1] at this; rw [hfs]; omega
 have hre := fun (W : World) (hb : Below w.heap.size w W) => regionsOf_any W x1 n1 c1 x2 n2 c2 ns op (hT.below hb) ho hl hsm n0 h0 hB hat hsz E fs hE hfs
 have hne := fun (W : World) (hb : Below w.heap.size w W) (rv : Value) (hrv : W.ownsRow 0 3 1 rv (regsL E fs ns).length (intVs (regsL E fs ns))) => pnewsOf_any W x1 n1 c1 x2 n2 c2 ns op (hT.below hb) hl hsm n0 h0 rv (regsL E fs ns) hrv hrl fs.length hfl ns2 h2 h2l hsz2
 unfold treeV at hre hne
 unfold treeV
 have HRE : Hid _ := hre
 have HNE : Hid _ := hne
 have HRL : Hid _ := hrl
 have HNL : Hid _ := hnl
 generalize newsL (tyRun [] ns2) ns n0 fs.length = news at *
 generalize regsL E fs ns = regs at *
 generalize fs.length = cn at *
 generalize ns.length = m at *
 clear hre hne hrl hnl hT ho hsm h0 hat hsz hE hfs h2 h2l hsz2
 obtain ⟨WB, hWB⟩ : ∃ WB, WB = (w.alloc (.cells #[.slice x1 n1 c1, .slice x2 n2 c2] 59)).alloc (.cells #[.slice none 0 0, .slice none 0 0] 73) := ⟨_, rfl⟩
 have hBX : Below w.heap.size w WB := by rw [hWB]; exact belY_al (belY_al (Below.refl _ _) _) _
 have hk0 : WB.heap[w.heap.size]? = some (.cells #[.slice x1 n1 c1, .slice x2 n2 c2] 59 (0, 0)) := by
  have h2 := belY_al (Below.refl (w.alloc (.cells #[.slice x1 n1 c1, .slice x2 n2 c2] 59)).heap.size (w.alloc (.cells #[.slice x1 n1 c1, .slice x2 n2 c2] 59))) (.cells #[.slice none 0 0, .slice none 0 0] 73)
  rw [hWB, h2.block _ (by simp)]; exact blk_new _ _
 have hk1 : WB.heap[w.heap.size + 1]? = some (.cells #[.slice none 0 0, .slice none 0 0] 73 (0, 0)) := by
  have := blk_new (w.alloc (.cells #[.slice x1 n1 c1, .slice x2 n2 c2] 59)) (.cells #[.slice none 0 0, .slice none 0 0] 73 (0, 0))
  rw [hWB]; simpa using this
 have HBX : Hid _ := hBX
 have HK0 : Hid _ := hk0
 have HK1 : Hid _ := hk1
 have HWB : Hid _ := hWB
 have hWs : w.heap.size + 1 < WB.heap.size := blk_lt hk1
 clear hBX hk0 hk1 hWB
 go_enter Tryz.func35, Tryz.ntmps35
 go_wp2_with fail
 rw [← HWB.out]
 refine Calls.mono (HRE.out WB HBX.out) ?_
 rintro _ w1 ⟨rv, rfl, hr1, hb1⟩
 have hk := (hb1.block _ (blk_lt HK0.out)).trans HK0.out
 have a0 : w1.cell? ⟨w.heap.size, 0, none⟩ = some (.slice x1 n1 c1) := by rw [blk_cell hk]; rfl
 have a1 : w1.cell? ⟨w.heap.size, 1, none⟩ = some (.slice x2 n2 c2) := by rw [blk_cell hk]; rfl
 have al := blk_lt hk
 have hr1' : w1.ownsRow 0 3 1 rv regs.length (intVs regs) := by rw [HRL.out]; exact owns_base hr1 (fun _ _ => Nat.zero_le _)
 have hnc := HNE.out w1 (HBX.out.trans (hb1.mono HBX.out.size)) rv hr1'
 obtain ⟨y1, d1, hrv⟩ := slice_any hr1
 subst hrv
 have HR1 : Hid _ := hr1
 have HR1' : Hid _ := hr1'
 have HB1 : Hid _ := hb1
 clear hk hr1' hr1 hb1 HRE HNE
 go_wp2_with fail
 refine Calls.mono hnc ?_
 rintro _ w2 ⟨av, rfl, hr2, hb2⟩
 have HR2 : Hid _ := owns_below HR1'.out hb2
 have hB2 := HB1.out.trans (hb2.mono HB1.out.size)
 have hk2 := (hB2.block _ (blk_lt HK1.out)).trans HK1.out
 have r0 : w2.cell? ⟨w.heap.size + 1, 0, none⟩ = some (.slice none 0 0) := by rw [blk_cell hk2]; rfl
 have r1 : w2.cell? ⟨w.heap.size + 1, 1, none⟩ = some (.slice none 0 0) := by rw [blk_cell hk2]; rfl
 have f0 := blk_free hk2 0
 have f1 := blk_free hk2 1
 have rl := blk_lt hk2
 obtain ⟨y2, d2, hav⟩ := slice_any hr2
 subst hav
 have HN2 : Hid _ := hr2
 have HB2 : Hid _ := HBX.out.trans (hB2.mono HBX.out.size)
 have HK2 : Hid _ := hk2
 have hw12 := hb2.size
 have hW1 := HB1.out.size
 clear hb2 hr2 hB2 hk2 hnc a0 a1 al
 go_wp2
 obtain ⟨WF, hWF⟩ : ∃ WF, WF = (w2.setCell ⟨w.heap.size + 1, 0, none⟩ (.slice y1 m d1)).setCell ⟨w.heap.size + 1, 1, none⟩ (.slice y2 cn d2) := ⟨_, rfl⟩
 have hF : WF.heap[w.heap.size + 1]? = some (.cells #[.slice y1 m d1, .slice y2 cn d2] 73 (0, 0)) := by rw [hWF]; exact blk_set (blk_set HK2.out 0 _) 1 _
 have u0 : WF.cell? ⟨w.heap.size + 1, 0, none⟩ = some (.slice y1 m d1) := by rw [blk_cell hF]; rfl
 have u1 : WF.cell? ⟨w.heap.size + 1, 1, none⟩ = some (.slice y2 cn d2) := by rw [blk_cell hF]; rfl
 rw [← hWF]
 refine bodyPost_ret (v := .agg #[.slice y1 m d1, .slice y2 cn d2]) (by simp [results, Tryz.results35, go_sem, u0, u1]) rfl ⟨_, _, _, _, _, _, rfl, ⟨?_, ?_⟩, ?_⟩
 ·rw [hWF]
  refine owns_blk HR2.out (fun k hk => ?_)
  have h1 := (World.ownsRow.lt HR1.out k hk).1
  rw [blk_other _ _ (by simp only; omega), blk_other _ _ (by simp only; omega)]
 ·rw [hWF]
  have hn := owns_base HN2.out (base' := 0) (fun _ _ => Nat.zero_le _)
  simp only
  rw [HNL.out]
  refine owns_blk hn (fun k hk => ?_)
  have h1 := (World.ownsRow.lt HN2.out k hk).1
  rw [blk_other _ _ (by simp only; omega), blk_other _ _ (by simp only; omega)]
 ·rw [hWF]
  exact HB2.out.trans (bel_set (bel_set (Below.refl _ _) (by omega)) (by omega))
theorem fk_let : formK .let_ = 3 := by decide
theorem fk_pair : formK .pair = 4 := by decide
theorem fk_fst : formK .fst = 5 := by decide
theorem fk_snd : formK .snd = 6 := by decide
theorem fk_if : formK .if_ = 7 := by decide
theorem fk_loop : formK .loop = 11 := by decide
end Go.Proofs.YtpicaknklgccoaaGreatDoor
