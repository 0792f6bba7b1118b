import Derived.Test.YtpicaknklgccoaaGreatDoorX6
import Derived.Test.YtpicaknklgccoaaGreatDoorX24
import Derived.Test.YtpicaknklgccoaaGreatDoorX19
import Derived.Test.YtpicaknklgccoaaGreatDoorX1
import Derived.Test.YtpicaknklgccoaaGreatDoorX8
namespace Go.Proofs.YtpicaknklgccoaaGreatDoor
theorem turns_keep (f : Vl → ESt → Vl × ESt) (k : Nat) (v : Vl) (st : ESt) (h : st.e ≠ 0) : (turns f k v st).2 = st := by
 cases k with
 | zero => rfl
 | succ k => simp only [turns]; rw [if_pos h]
theorem mTurns_keep (i : Int) (f : MM → MV × MM) (k : Nat) (v : MV) (m : MM) (h : m.fault ≠ 0) : (mTurns i f k v m).2 = m := by
 cases k with
 | zero => rfl
 | succ k => simp only [mTurns]; rw [if_pos h]
theorem NoNew.kids {p : Nat} {k : Kw} {nm rg : List UInt8} {kids : List PT} (h : NoNew (.node p k nm rg kids)) : k ≠ .new ∧ ∀ x ∈ kids, NoNew x := by
 cases h with
 | node hk h => exact ⟨hk, h⟩
theorem Both.name {st : ESt} {m : MM} (h : Both st m) (i : Int) (v : MV) : Both st (m.name i v) := ⟨h.1, by rw [(name_fault m i v).1]; exact h.2⟩
theorem use_plain {fuel : Nat} {st : ESt} {m : MM} {a b : Vl} {v : MV} (hs : Sm fuel st m) (h : Rep m.cells (.p a b) v) : (m.use v).2 = m ∧ Rep m.cells a (m.use v).1.a ∧ Rep m.cells b (m.use v).1.b := by
 simp only [Rep] at h
 obtain ⟨hc, i, c, hv, hi, ha, hb⟩ := h
 have hil := (List.getElem?_eq_some_iff.1 hi).1
 have hcm := hs.h c (List.mem_of_getElem? hi)
 have e2 : m.cells.getD v.n.toNat c0 = c := by rw [hv, Int.toNat_natCast, List.getD_eq_getElem?_getD, hi]; rfl
 have hlv : m.isLive c = true := by unfold MM.isLive; rw [hcm.1, hs.r]; simp [hcm.2]
 have e : m.use v = (c, m) := by
  unfold MM.use
  rw [if_neg (by rw [hc, hv]; simp; omega), e2, if_pos hlv]
 rw [e]; exact ⟨rfl, ha, hb⟩
theorem cell_plain {fuel : Nat} {st : ESt} {m : MM} {a b : Vl} {v u : MV} {k : Int} (hs : Sm fuel st m) (ha : Rep m.cells a v) (hb : Rep m.cells b u) : Sm fuel { st with cells := st.cells + 1 } (m.newCell k v u).2 ∧ Rep (m.newCell k v u).2.cells (.p a b) (m.newCell k v u).1 := by
 have hh : m.home k = 0 := by unfold MM.home; rw [hs.r]; rfl
 have hr : m.regs[m.home k]? = some ⟨-1, 0, st.cells⟩ := by rw [hh, hs.r]; rfl
 have hl := hs.l; have ho := hs.o; have hc := hs.c
 have e : m.newCell k v u = (⟨true, m.cells.length⟩, { m with regs := m.regs.set 0 ⟨-1, 0, st.cells + 1⟩, cells := m.cells ++ [⟨v, u, 0, 0⟩], live := m.live + 1, most := m.live + 1 }) := by
  unfold MM.newCell; rw [hr, hh]
  simp only
  rw [if_pos (by omega)]
 rw [e]
 refine ⟨⟨hs.e, hs.f, hs.s, hs.le, by simp [hc], by simp [hs.r], by simp only; omega, by simp only; omega, ?_⟩, ?_⟩
 ·intro c hcm
  simp only [List.mem_append, List.mem_singleton] at hcm
  rcases hcm with hcm | rfl
  ·exact hs.h c hcm
  ·exact ⟨rfl, rfl⟩
 ·simp only [Rep]
  exact ⟨trivial, m.cells.length, ⟨v, u, 0, 0⟩, rfl, by simp, ha.mono, hb.mono⟩
set_option maxHeartbeats 2000000 in
theorem mW_ev (fuel : Nat) {G : TEnv} {t : PT} {T : Ty} (h : WT G t T) : NoNew t → ∀ (sc : Sc) (base : Nat) (m : MM) (env : VEnv) (st : ESt), t.rgd → ER m.named m.cells sc env G base → base + t.cnt ≤ m.named.length → Sm fuel st m → SimOut fuel (ev fuel t env st) (mW fuel t sc base m) T := by
 induction h with
 | num =>
  intro hn sc base m env st hr he hl hs
  simp only [PT.rgd] at hr
  simp only [ev, mW]
  exact begun_sim hs (fun hs => Or.inl ⟨hs, by simp only [Rep, true_and]; omega, by simp only [Vl.has]; omega⟩)
 | name hlk =>
  intro hn sc base m env st hr he hl hs
  simp only [ev, mW]
  refine begun_sim hs (fun hs => Or.inl ⟨hs, ?_⟩)
  obtain ⟨i, v, h1, h2, h3, h4, h5⟩ := he _ _ hlk
  have hil := (List.getElem?_eq_some_iff.1 h3).1
  unfold MM.look
  simp only [h1]
  rw [if_neg (by omega), Int.toNat_natCast, List.getD_eq_getElem?_getD, h3]
  exact ⟨h4, h5⟩
 | @let_ G p nm rg a b A B ha hb iha ihb =>
  intro hn sc base m env st hr he hl hs
  have hk := hn.kids.2
  simp only [PT.rgd, rgdL] at hr
  simp only [PT.cnt, cntL, Nat.add_zero] at hl
  simp only [ev, evLet, mW, mLet, if_true, reduceCtorEq, if_false]
  refine begun_sim hs (fun hs => ?_)
  have hf := mW_fits fuel ha sc base { m with steps := m.steps + 1 } hr.2.1 he.ef (by simp only; omega)
  have h1 := iha (hk a (by simp)) sc base { m with steps := m.steps + 1 } env { st with steps := st.steps + 1 } hr.2.1 he (by simp only; omega) hs
  generalize mW fuel a sc base { m with steps := m.steps + 1 } = x at hf h1 ⊢
  generalize ev fuel a env { st with steps := st.steps + 1 } = y at h1 ⊢
  have hca := cnt_pos' a
  have hxl : x.2.named.length = m.named.length := hf.1.len
  rw [show (((base + a.cnt : Nat) : Int) - 1) = ((base + a.cnt - 1 : Nat) : Int) from by omega]
  rcases h1 with ⟨h1, h2, h3⟩ | hB
  ·have hx := ER.on (m := { m with steps := m.steps + 1 }) he hf.1 (Nat.le_refl _)
   have hsn := hx.snoc (nm := nm) (j := base + a.cnt - 1) (by omega) (by omega) h2 h3
   rw [show base + a.cnt - 1 + 1 = base + a.cnt from by omega] at hsn
   have hne := name_ext x.2 (base + a.cnt - 1) x.1 base a.cnt (by omega)
   exact ihb (hk b (by simp)) _ (base + a.cnt) _ _ _ hr.2.2.1 hsn (by rw [hne.len, hxl]; omega) (h1.name _ _)
  ·exact both_keep (hk b (by simp)) _ _ _ (hB.name _ _) _
 | @pair G p nm rg a b A B ha hb hsz iha ihb =>
  intro hn sc base m env st hr he hl hs
  have hk := hn.kids.2
  simp only [PT.rgd, rgdL] at hr
  simp only [PT.cnt, cntL, Nat.add_zero] at hl
  have e' : ev fuel (.node p .pair nm rg [a, b]) env st = begun fuel st (fun st => if (ev fuel b env (ev fuel a env st).2).2.e ≠ 0 then (.n 0, (ev fuel b env (ev fuel a env st).2).2) else madeV .pair [(ev fuel a env st).1, (ev fuel b env (ev fuel a env st).2).1] (ev fuel b env (ev fuel a env st).2).2) := by
   simp only [ev, evKids, reduceCtorEq, if_false]; rfl
  rw [e']
  simp only [mW, mOps, if_true, reduceCtorEq, if_false]
  refine begun_sim hs (fun hs => ?_)
  have hf := mW_fits fuel ha sc base { m with steps := m.steps + 1 } hr.2.1 he.ef (by simp only; omega)
  have h1 := iha (hk a (by simp)) sc base { m with steps := m.steps + 1 } env { st with steps := st.steps + 1 } hr.2.1 he (by simp only; omega) hs
  generalize mW fuel a sc base { m with steps := m.steps + 1 } = x at hf h1 ⊢
  generalize ev fuel a env { st with steps := st.steps + 1 } = y at h1 ⊢
  have hxl : x.2.named.length = m.named.length := hf.1.len
  rcases h1 with ⟨h1, h2, h3⟩ | hB
  ·have hx := (ER.on (m := { m with steps := m.steps + 1 }) he hf.1 (Nat.le_refl _)).up (show base ≤ base + a.cnt by omega)
   have hg := mW_fits fuel hb sc (base + a.cnt) x.2 hr.2.2.1 hx.ef (by omega)
   have k1 := ihb (hk b (by simp)) sc (base + a.cnt) x.2 env y.2 hr.2.2.1 hx (by omega) h1
   generalize mW fuel b sc (base + a.cnt) x.2 = x' at hg k1 ⊢
   generalize ev fuel b env y.2 = y' at k1 ⊢
   rcases k1 with ⟨k1, k2, k3⟩ | hB
   ·rw [if_neg (fun hn => hn k1.e)]
    simp only [madeV]
    have hc := cell_plain (k := valueL rg) k1 (h2.on hg.1) k2
    exact Or.inl ⟨hc.1, hc.2, by simp only [Vl.has]; exact ⟨h3, k3⟩⟩
   ·rw [if_pos (by rw [hB.1]; decide)]
    refine Or.inr ⟨hB.1, ?_⟩
    have : ∀ (m : MM) k v u, (m.newCell k v u).2.fault = m.fault := fun m k v u => by unfold MM.newCell; split <;> rfl
    rw [this]; exact hB.2
  ·rw [ev_keep fuel b env y.2 (by rw [hB.1]; decide), mW_keep fuel b (hk b (by simp)) _ _ _ (by rw [hB.2]; decide)]
   simp only
   rw [if_pos (by rw [hB.1]; decide)]
   refine Or.inr ⟨hB.1, ?_⟩
   have : ∀ (m : MM) k v u, (m.newCell k v u).2.fault = m.fault := fun m k v u => by unfold MM.newCell; split <;> rfl
   rw [this]; exact hB.2
 | @fst G p nm rg a A B ha iha =>
  intro hn sc base m env st hr he hl hs
  have hk := hn.kids.2
  simp only [PT.rgd, rgdL] at hr
  simp only [PT.cnt, cntL, Nat.add_zero] at hl
  have e' : ev fuel (.node p .fst nm rg [a]) env st = begun fuel st (fun st => if (ev fuel a env st).2.e ≠ 0 then (.n 0, (ev fuel a env st).2) else madeV .fst [(ev fuel a env st).1] (ev fuel a env st).2) := by
   simp only [ev, evKids, reduceCtorEq, if_false]; rfl
  rw [e']
  simp only [mW, mOps, if_true, reduceCtorEq, if_false]
  refine begun_sim hs (fun hs => ?_)
  have h1 := iha (hk a (by simp)) sc base { m with steps := m.steps + 1 } env { st with steps := st.steps + 1 } hr.2.1 he (by simp only; omega) hs
  generalize mW fuel a sc base { m with steps := m.steps + 1 } = x at h1 ⊢
  generalize ev fuel a env { st with steps := st.steps + 1 } = y at h1 ⊢
  rcases h1 with ⟨h1, h2, h3⟩ | hB
  ·rw [if_neg (fun hn => hn h1.e)]
   obtain ⟨y1, y2⟩ := y
   cases y1 with
   | n k => simp [Vl.has] at h3
   | p u v =>
    simp only [Vl.has] at h3
    have hu := use_plain h1 h2
    simp only [madeV, Vl.fst]
    rw [hu.1]
    exact Or.inl ⟨h1, hu.2.1, h3.1⟩
  ·rw [if_pos (by rw [hB.1]; decide)]
   refine Or.inr ⟨hB.1, ?_⟩
   have : (x.2.use x.1).2.fault = x.2.fault := by
    unfold MM.use; split
    ·rfl
    ·simp only; split
     ·rfl
     ·rw [stop_keep _ _ (by rw [hB.2]; decide)]
   rw [this]; exact hB.2
 | @snd G p nm rg a A B ha iha =>
  intro hn sc base m env st hr he hl hs
  have hk := hn.kids.2
  simp only [PT.rgd, rgdL] at hr
  simp only [PT.cnt, cntL, Nat.add_zero] at hl
  have e' : ev fuel (.node p .snd nm rg [a]) env st = begun fuel st (fun st => if (ev fuel a env st).2.e ≠ 0 then (.n 0, (ev fuel a env st).2) else madeV .snd [(ev fuel a env st).1] (ev fuel a env st).2) := by
   simp only [ev, evKids, reduceCtorEq, if_false]; rfl
  rw [e']
  simp only [mW, mOps, reduceCtorEq, if_false]
  refine begun_sim hs (fun hs => ?_)
  have h1 := iha (hk a (by simp)) sc base { m with steps := m.steps + 1 } env { st with steps := st.steps + 1 } hr.2.1 he (by simp only; omega) hs
  generalize mW fuel a sc base { m with steps := m.steps + 1 } = x at h1 ⊢
  generalize ev fuel a env { st with steps := st.steps + 1 } = y at h1 ⊢
  rcases h1 with ⟨h1, h2, h3⟩ | hB
  ·rw [if_neg (fun hn => hn h1.e)]
   obtain ⟨y1, y2⟩ := y
   cases y1 with
   | n k => simp [Vl.has] at h3
   | p u v =>
    simp only [Vl.has] at h3
    have hu := use_plain h1 h2
    simp only [madeV, Vl.snd]
    rw [hu.1]
    exact Or.inl ⟨h1, hu.2.2, h3.2⟩
  ·rw [if_pos (by rw [hB.1]; decide)]
   refine Or.inr ⟨hB.1, ?_⟩
   have : (x.2.use x.1).2.fault = x.2.fault := by
    unfold MM.use; split
    ·rfl
    ·simp only; split
     ·rfl
     ·rw [stop_keep _ _ (by rw [hB.2]; decide)]
   rw [this]; exact hB.2
 | @if_ G p nm rg a b c T ha hb hc iha ihb ihc =>
  intro hn sc base m env st hr he hl hs
  have hk := hn.kids.2
  simp only [PT.rgd, rgdL] at hr
  simp only [PT.cnt, cntL, Nat.add_zero] at hl
  simp only [ev, evIf, mW, mIf, if_true, reduceCtorEq, if_false]
  refine begun_sim hs (fun hs => ?_)
  have hf := mW_fits fuel ha sc base { m with steps := m.steps + 1 } hr.2.1 he.ef (by simp only; omega)
  have h1 := iha (hk a (by simp)) sc base { m with steps := m.steps + 1 } env { st with steps := st.steps + 1 } hr.2.1 he (by simp only; omega) hs
  generalize mW fuel a sc base { m with steps := m.steps + 1 } = x at hf h1 ⊢
  generalize ev fuel a env { st with steps := st.steps + 1 } = y at h1 ⊢
  have hxl : x.2.named.length = m.named.length := hf.1.len
  rcases h1 with ⟨h1, h2, h3⟩ | hB
  ·have hx := ER.on (m := { m with steps := m.steps + 1 }) he hf.1 (Nat.le_refl _)
   obtain ⟨y1, y2⟩ := y
   cases y1 with
   | p u v => simp [Vl.has] at h3
   | n k =>
    simp only [Rep] at h2
    split
    ·rename_i hz
     simp only [Vl.num] at hz
     rw [if_pos (show x.1.n ≠ 0 by omega)]
     exact ihb (hk b (by simp)) sc (base + a.cnt) x.2 env _ hr.2.2.1 (hx.up (by omega)) (by omega) h1
    ·rename_i hz
     simp only [Vl.num, ne_eq, Decidable.not_not] at hz
     rw [if_neg (show ¬ x.1.n ≠ 0 by omega)]
     exact ihc (hk c (by simp)) sc (base + a.cnt + b.cnt) x.2 env _ hr.2.2.2.1 (hx.up (by omega)) (by omega) h1
  ·have e1 : (if y.1.num ≠ 0 then ev fuel b env y.2 else ev fuel c env y.2) = (.n 0, y.2) := by split <;> exact ev_keep fuel _ env y.2 (by rw [hB.1]; decide)
   have e2 : (if x.1.n ≠ 0 then mW fuel b sc (base + a.cnt) x.2 else mW fuel c sc (base + a.cnt + b.cnt) x.2) = (v0, x.2) := by
    split
    ·exact mW_keep fuel b (hk b (by simp)) _ _ _ (by rw [hB.2]; decide)
    ·exact mW_keep fuel c (hk c (by simp)) _ _ _ (by rw [hB.2]; decide)
   rw [e1, e2]
   exact Or.inr hB
 | @two G p k nm rg a b hkk ha hb iha ihb =>
  intro hn sc base m env st hr he hl hs
  have hk := hn.kids.2
  simp only [PT.rgd, rgdL] at hr
  simp only [PT.cnt, cntL, Nat.add_zero] at hl
  have e : mW fuel (.node p k nm rg [a, b]) sc base m = mBegun fuel m (fun m => (⟨false, mArith k (mW fuel a sc base m).1.n (mW fuel b sc (base + a.cnt) (mW fuel a sc base m).2).1.n⟩, (mW fuel b sc (base + a.cnt) (mW fuel a sc base m).2).2)) := by
   rcases hkk with rfl | rfl | rfl <;> simp only [mW, mOps, reduceCtorEq, if_false]
  have e' : ev fuel (.node p k nm rg [a, b]) env st = begun fuel st (fun st => if (ev fuel b env (ev fuel a env st).2).2.e ≠ 0 then (.n 0, (ev fuel b env (ev fuel a env st).2).2) else madeV k [(ev fuel a env st).1, (ev fuel b env (ev fuel a env st).2).1] (ev fuel b env (ev fuel a env st).2).2) := by
   rcases hkk with rfl | rfl | rfl <;> (simp only [ev, evKids, reduceCtorEq, if_false]; rfl)
  rw [e, e']
  refine begun_sim hs (fun hs => ?_)
  have hf := mW_fits fuel ha sc base { m with steps := m.steps + 1 } hr.2.1 he.ef (by simp only; omega)
  have h1 := iha (hk a (by simp)) sc base { m with steps := m.steps + 1 } env { st with steps := st.steps + 1 } hr.2.1 he (by simp only; omega) hs
  generalize mW fuel a sc base { m with steps := m.steps + 1 } = x at hf h1 ⊢
  generalize ev fuel a env { st with steps := st.steps + 1 } = y at h1 ⊢
  have hxl : x.2.named.length = m.named.length := hf.1.len
  rcases h1 with ⟨h1, h2, h3⟩ | hB
  ·have hx := (ER.on (m := { m with steps := m.steps + 1 }) he hf.1 (Nat.le_refl _)).up (show base ≤ base + a.cnt by omega)
   have k1 := ihb (hk b (by simp)) sc (base + a.cnt) x.2 env y.2 hr.2.2.1 hx (by omega) h1
   generalize mW fuel b sc (base + a.cnt) x.2 = x' at k1 ⊢
   generalize ev fuel b env y.2 = y' at k1 ⊢
   rcases k1 with ⟨k1, k2, k3⟩ | hB
   ·rw [if_neg (fun hn => hn k1.e)]
    obtain ⟨y1, y2⟩ := y
    obtain ⟨z1, z2⟩ := y'
    cases y1 with
    | p u v => simp [Vl.has] at h3
    | n i =>
     cases z1 with
     | p u v => simp [Vl.has] at k3
     | n j =>
      simp only [Rep] at h2 k2
      refine Or.inl ?_
      rcases hkk with rfl | rfl | rfl
      ·simp only [madeV, Vl.num, mArith, if_true]
       refine ⟨k1, ?_, by simp only [Vl.has]; omega⟩
       simp only [Rep, true_and]
       rw [Int.tmod_eq_emod_of_nonneg (by omega)]
       omega
      ·simp only [madeV, Vl.num, mArith, if_true, reduceCtorEq, if_false]
       refine ⟨k1, ?_, by simp only [Vl.has]; omega⟩
       simp only [Rep, true_and]
       rw [Int.tmod_eq_emod_of_nonneg (by omega)]
       omega
      ·simp only [madeV, mArith, reduceCtorEq, if_false]
       by_cases hlt : i < j
       ·have hq : x.1.n < x'.1.n := by omega
        exact ⟨k1, by simp [Rep, Vl.num, hlt, hq], by simp [Vl.has, Vl.num, hlt]⟩
       ·have hq : ¬ x.1.n < x'.1.n := by omega
        exact ⟨k1, by simp [Rep, Vl.num, hlt, hq], by simp [Vl.has, Vl.num, hlt]⟩
   ·rw [if_pos (by rw [hB.1]; decide)]
    exact Or.inr hB
  ·rw [ev_keep fuel b env y.2 (by rw [hB.1]; decide), mW_keep fuel b (hk b (by simp)) _ _ _ (by rw [hB.2]; decide)]
   simp only
   rw [if_pos (by rw [hB.1]; decide)]
   exact Or.inr hB
 | @loop G p nm rg a b c T ha hb hc iha ihb ihc =>
  intro hn sc base m env st hr he hl hs
  have hk := hn.kids.2
  simp only [PT.rgd, rgdL] at hr
  simp only [PT.cnt, cntL, Nat.add_zero] at hl
  simp only [ev, evLoop, mW, mLoop, if_true, reduceCtorEq, if_false]
  refine begun_sim hs (fun hs => ?_)
  have hf := mW_fits fuel ha sc base { m with steps := m.steps + 1 } hr.2.1 he.ef (by simp only; omega)
  have h1 := iha (hk a (by simp)) sc base { m with steps := m.steps + 1 } env { st with steps := st.steps + 1 } hr.2.1 he (by simp only; omega) hs
  generalize mW fuel a sc base { m with steps := m.steps + 1 } = x at hf h1 ⊢
  generalize ev fuel a env { st with steps := st.steps + 1 } = y at h1 ⊢
  have hxl : x.2.named.length = m.named.length := hf.1.len
  rcases h1 with ⟨h1, h2, h3⟩ | hB
  ·have hx := ER.on (m := { m with steps := m.steps + 1 }) he hf.1 (Nat.le_refl _)
   have hg := mW_fits fuel hb sc (base + a.cnt) x.2 hr.2.2.1 (hx.up (by omega)).ef (by omega)
   have k1 := ihb (hk b (by simp)) sc (base + a.cnt) x.2 env y.2 hr.2.2.1 (hx.up (by omega)) (by omega) h1
   generalize mW fuel b sc (base + a.cnt) x.2 = x' at hg k1 ⊢
   generalize ev fuel b env y.2 = y' at k1 ⊢
   have hxl' : x'.2.named.length = m.named.length := hg.1.len.trans hxl
   have hcb := cnt_pos' b
   rw [show (((base + a.cnt + b.cnt : Nat) : Int) - 1) = ((base + a.cnt + b.cnt - 1 : Nat) : Int) from by omega]
   rcases k1 with ⟨k1, k2, k3⟩ | hB
   ·have hnum : x.1.n.toNat = y.1.num := by
     obtain ⟨y1, y2⟩ := y
     cases y1 with
     | p u v => simp [Vl.has] at h3
     | n k => simp only [Rep] at h2; simp only [Vl.num]; omega
    rw [hnum]
    refine turns_sim (P := fun m' => ER m'.named m'.cells sc env G base ∧ m'.named.length = m.named.length) (fun st' m' v u hP hs' hr' ht' => ?_) _ _ _ _ _ ⟨hx.on hg.1 (by omega), hxl'⟩ k1 k2 k3
    have hsn := ER.snoc (nm := nm) (j := base + a.cnt + b.cnt - 1) (ER.up hP.1 (show base ≤ base + a.cnt + b.cnt - 1 by omega)) (Nat.le_refl _) (by omega) hr' ht'
    rw [show base + a.cnt + b.cnt - 1 + 1 = base + a.cnt + b.cnt from by omega] at hsn
    have hne := name_ext m' (base + a.cnt + b.cnt - 1) u (base + a.cnt + b.cnt - 1) 1 (by omega)
    have hg' := mW_fits fuel hc _ (base + a.cnt + b.cnt) _ hr.2.2.2.1 hsn.ef (by rw [hne.len]; omega)
    refine ⟨ihc (hk c (by simp)) _ (base + a.cnt + b.cnt) _ _ _ hr.2.2.2.1 hsn (by rw [hne.len]; omega) (hs'.name _ _), ER.on (hP.1.on hne (by omega)) hg'.1 (by omega), hg'.1.len.trans (hne.len.trans hP.2)⟩
   ·have e1 := turns_keep (fun v st => ev fuel c (env ++ [(nm, v)]) st) y.1.num y'.1 y'.2 (by rw [hB.1]; decide)
    have e2 := mTurns_keep (((base + a.cnt + b.cnt - 1 : Nat) : Int)) (fun m => mW fuel c (sc ++ [(nm, ((base + a.cnt + b.cnt - 1 : Nat) : Int))]) (base + a.cnt + b.cnt) m) x.1.n.toNat x'.1 x'.2 (by rw [hB.2]; decide)
    exact Or.inr ⟨by rw [e1]; exact hB.1, by rw [e2]; exact hB.2⟩
  ·rw [ev_keep fuel b env y.2 (by rw [hB.1]; decide), mW_keep fuel b (hk b (by simp)) _ _ _ (by rw [hB.2]; decide)]
   have e1 := turns_keep (fun v st => ev fuel c (env ++ [(nm, v)]) st) y.1.num (.n 0) y.2 (by rw [hB.1]; decide)
   have e2 := mTurns_keep ((((base + a.cnt + b.cnt : Nat) : Int) - 1)) (fun m => mW fuel c (sc ++ [(nm, (((base + a.cnt + b.cnt : Nat) : Int) - 1))]) (base + a.cnt + b.cnt) m) x.1.n.toNat v0 x.2 (by rw [hB.2]; decide)
   exact Or.inr ⟨by rw [e1]; exact hB.1, by rw [e2]; exact hB.2⟩
 | new _ _ =>
  intro hn
  exact absurd rfl hn.kids.1
end Go.Proofs.YtpicaknklgccoaaGreatDoor
namespace Go.Proofs.YtpicaknklgccoaaGreatDoor
open Go.RowKit
theorem text_plain {fuel : Nat} {st : ESt} {m : MM} (hs : Sm fuel st m) : ∀ (X : Vl) (v : MV), Rep m.cells X v → mText X v m = m
 | .n _, _, _ => rfl
 | .p a b, v, h => by
  have hu := use_plain hs h
  simp only [mText]
  rw [hu.1, text_plain hs a _ hu.2.1, text_plain hs b _ hu.2.2]
theorem use_keep (m : MM) (v : MV) (h : m.fault ≠ 0) : (m.use v).2 = m := by
 unfold MM.use; split
 ·rfl
 ·simp only; split
  ·rfl
  ·exact stop_keep m 13 h
theorem text_keep : ∀ (X : Vl) (v : MV) (m : MM), m.fault ≠ 0 → mText X v m = m
 | .n _, _, _, _ => rfl
 | .p a b, v, m, h => by
  simp only [mText]
  rw [use_keep m v h, text_keep a _ m h, text_keep b _ m h]
theorem rep_size {cells : List MC} : ∀ {X : Vl} {T : Ty}, X.has T → X.size = T.size
 | .n _, .n, _ => rfl
 | .p a b, .p _ A B, h => by
  simp only [Vl.has] at h
  simp only [Vl.size, Ty.size]
  rw [rep_size (cells := cells) h.1, rep_size (cells := cells) h.2]
 | .n _, .p _ _ _, h => by simp [Vl.has] at h
 | .p _ _, .n, h => by simp [Vl.has] at h
def evalV (y : Vl × ESt) : Value := if y.2.e ≠ 0 then .agg #[.string ⟨#[]⟩, .int .i64 0, .int .i64 0, .int .i64 0, .int .i64 0] else .agg #[.string (bs y.1.txt), .int .i64 y.2.steps, .int .i64 y.2.cells, .int .i64 y.2.cells, .int .i64 y.2.cells]
theorem run_plain (fuel k : Nat) {t : PT} {T : Ty} (hwt : WT [] t T) (hT : T.size ≤ 63) (hn : NoNew t) (hr : t.rgd) (hk : t.cnt ≤ k) :
  ∃ X, Rep (mW fuel t [] 0 ((m0 k).opn (-1))).2.cells X (mW fuel t [] 0 ((m0 k).opn (-1))).1 ∧ X.size ≤ 63 ∧
   runV (mText X (mW fuel t [] 0 ((m0 k).opn (-1))).1 (mW fuel t [] 0 ((m0 k).opn (-1))).2) X = evalV (ev fuel t [] ⟨0, 0, 0⟩) ∧ (mText X (mW fuel t [] 0 ((m0 k).opn (-1))).1 (mW fuel t [] 0 ((m0 k).opn (-1))).2).fault = (ev fuel t [] ⟨0, 0, 0⟩).2.e := by
 have hlen : ((m0 k).opn (-1)).named.length = k := by simp [m0, MM.opn]
 have her : ER ((m0 k).opn (-1)).named ((m0 k).opn (-1)).cells [] [] [] 0 := fun s T h => by simp [look] at h
 have hs0 : Sm fuel ⟨0, 0, 0⟩ ((m0 k).opn (-1)) := ⟨rfl, rfl, rfl, Nat.zero_le _, rfl, rfl, rfl, rfl, fun c hc => by simp [m0, MM.opn] at hc⟩
 have hf := mW_fits fuel hwt [] 0 ((m0 k).opn (-1)) hr her.ef (by rw [hlen]; omega)
 have hsim := mW_ev fuel hwt hn [] 0 ((m0 k).opn (-1)) [] ⟨0, 0, 0⟩ hr her (by rw [hlen]; omega) hs0
 generalize mW fuel t [] 0 ((m0 k).opn (-1)) = x at hf hsim ⊢
 generalize ev fuel t [] ⟨0, 0, 0⟩ = y at hsim ⊢
 rcases hsim with ⟨h1, h2, h3⟩ | hB
 ·refine ⟨y.1, h2, by rw [rep_size (cells := x.2.cells) h3]; exact hT, ?_, ?_⟩
  ·rw [text_plain h1 y.1 x.1 h2]
   unfold runV evalV
   rw [if_neg (fun h => h h1.f), if_neg (fun h => h h1.e), h1.s, h1.c, h1.o, h1.l]
  ·rw [text_plain h1 y.1 x.1 h2, h1.f, h1.e]
 ·obtain ⟨X, hX, hXs⟩ := fits_rp hf.2
  have hne : x.2.fault ≠ 0 := by rw [hB.2]; decide
  refine ⟨X, hX, by omega, ?_, ?_⟩
  ·rw [text_keep X x.1 x.2 hne]
   unfold runV evalV
   rw [if_pos hne, if_pos (by rw [hB.1]; decide)]
  ·rw [text_keep X x.1 x.2 hne, hB.1, hB.2]
theorem own_neH {w : World} {base : Nat} {e : TypeId} {size : Nat} {v : Value} {n : Nat} {xs : List Value} (h : w.ownsRow base e size v n xs) {b : Nat} {arr : Array Value} {t : TypeId} {fr : Nat × Nat} (hb : w.heap[b]? = some (.cells arr t fr)) (ht : t ≠ e) : ∀ k, v.ownBlock = some k → k ≠ b := by
 intro k hk hkb
 rcases h.2 with ⟨h1, _⟩ | ⟨g, cap, cur, h1, _, hh, _⟩
 ·rw [h1] at hk; simp [Value.ownBlock] at hk
 ·rw [h1] at hk
  simp [Value.ownBlock] at hk
  rw [hk, hkb, hb] at hh
  simp only [Option.some.injEq, Obj.cells.injEq] at hh
  exact ht hh.2.1
set_option maxRecDepth 100000 in
set_option maxHeartbeats 4000000 in
theorem readPlain_full (s : ByteArray) (w : World) (hs : s.size ≤ 3000) (e : PT) (hp : PE false (tokens s.data.toList) e []) : Calls Tryz.prog 31 #[.string s] w fun v w' => ∃ x1 n1 c1 x2 n2 c2 ns, v = .returned (.tuple #[treeV (.slice x1 n1 c1) (.slice x2 n2 c2), .int .i64 (chkAns e).1, .int .i64 (chkAns e).2]) ∧ Below w.heap.size w w' ∧ TreeIn w' (.slice x1 n1 c1) (.slice x2 n2 c2) ns (opn e 0) ∧ NA [] e 0 ns := by
 obtain ⟨ns, hna, hpg⟩ := prog_yes (len := s.size) hp
 have hcnt := Study_len hp
 have hnl := hna.len
 have hpp := fun w => ParsePlain_any s w (by omega)
 have hpr := fun (w : World) (nv ov : Value) (h : TreeIn w nv ov ns (opn e 0)) => Program_any w nv ov ns (opn e 0) h (op_ok hna) (by omega) (hna.small (fun _ h => by simp at h) (by omega)) (fun j n hj => by have := hna.back j n hj; simpa using this)
 rw [prog_ans hna] at hpr
 have HPG : Hid _ := hpg
 have HPR : Hid _ := hpr
 have HNA : Hid _ := hna
 clear hp hna hpg hpr hnl
 generalize chkAns e = ans at *
 go_enter Tryz.func31, Tryz.ntmps31
 go_wp2_with fail
 refine (hpp _).mono ?_
 rintro v w1 ⟨hb, hv⟩
 have hr := kept1 hb
 have hlt := blk_lt hr
 have HB : Hid _ := below1 hb
 have HR : Hid _ := hr
 rcases hv with ⟨q', hq', _⟩ | ⟨_, nv, ov, rfl, hT⟩
 ·rw [HPG.out] at hq'; cases hq'
 ·rw [HPG.out] at hT
  simp only at hT
  obtain ⟨x1, c1, e1⟩ := slice_any hT.nd
  obtain ⟨x2, c2, e2⟩ := slice_any hT.op
  have HNN : Hid _ := own_neH hT.nd hr (by decide)
  have HNO : Hid _ := own_neH hT.op hr (by decide)
  have hT1 := hT.below ((Below.refl _ w1).alloc (Nat.le_refl _) (.cells #[nv, ov] 59))
  have hpr := HPR.out (w1.alloc (.cells #[nv, ov] 59)) nv ov (hT.below ((Below.refl _ w1).alloc (Nat.le_refl _) _))
  subst e1
  subst e2
  unfold treeV at hpr
  unfold treeV
  clear hT hb hr hpp
  go_wp2_with fail
  refine hpr.mono ?_
  rintro _ w2 ⟨rfl, hb2⟩
  have HT2 : Hid _ := hT1.below hb2
  have hk := kept1 hb2
  have k0 : w2.cell? ⟨w1.heap.size, 0, none⟩ = some (.slice x1 ns.length c1) := by rw [blk_cell hk]; rfl
  have k1 : w2.cell? ⟨w1.heap.size, 1, none⟩ = some (.slice x2 (opn e 0).length c2) := by rw [blk_cell hk]; rfl
  have hr2 : w2.heap[w.heap.size]? = some (.cells #[.slice none 0 0, .slice none 0 0] 59 (0, 0)) := by
   rw [hb2.block _ (by simp; omega)]; exact blk_alloc _ HR.out
  have r0 : w2.cell? ⟨w.heap.size, 0, none⟩ = some (.slice none 0 0) := by rw [blk_cell hr2]; rfl
  have r1 : w2.cell? ⟨w.heap.size, 1, none⟩ = some (.slice none 0 0) := by rw [blk_cell hr2]; rfl
  have f0 := blk_free hr2 0
  have f1 := blk_free hr2 1
  have hB2 : Below w.heap.size w w2 := HB.out.trans ((below1 hb2).mono HB.out.size)
  have HB2 : Hid _ := hB2
  have hne : w.heap.size ≠ w1.heap.size := by omega
  clear hk hr2 hb2 hB2 hpr
  go_wp2
  refine bodyPost_ret (v := .tuple #[.agg #[.slice x1 ns.length c1, .slice x2 (opn e 0).length c2], .int .i64 ans.1, .int .i64 ans.2]) (by simp [results, Tryz.results31, go_sem, r0, r1]) rfl ⟨x1, ns.length, c1, x2, (opn e 0).length, c2, ns, rfl, ?_, ⟨owns_blk HT2.out.nd (fun k hk => by rw [blk_other _ _ (by simpa using HNN.out k hk), blk_other _ _ (by simpa using HNN.out k hk)]), owns_blk HT2.out.op (fun k hk => by rw [blk_other _ _ (by simpa using HNO.out k hk), blk_other _ _ (by simpa using HNO.out k hk)])⟩, HNA.out⟩
  exact (HB2.out.setCell (p := ⟨w.heap.size, 0, none⟩) (Nat.le_refl _) _).setCell (p := ⟨w.heap.size, 1, none⟩) (Nat.le_refl _) _
theorem res_cells {w : World} {q : Nat} {S : ByteArray} {a b c d : Int} (h : w.heap[q]? = some (.cells #[.string S, .int .i64 a, .int .i64 b, .int .i64 c, .int .i64 d] 23)) :
  w.cell? ⟨q, 0, none⟩ = some (.string S) ∧ w.cell? ⟨q, 1, none⟩ = some (.int .i64 a) ∧ w.cell? ⟨q, 2, none⟩ = some (.int .i64 b) ∧ w.cell? ⟨q, 3, none⟩ = some (.int .i64 c) ∧ w.cell? ⟨q, 4, none⟩ = some (.int .i64 d) := by
 refine ⟨?_, ?_, ?_, ?_, ?_⟩ <;> (rw [blk_cell h]; rfl)
set_option maxRecDepth 100000 in
set_option maxHeartbeats 4000000 in
theorem run_ok (w : World) (x1 : Option Addr) (n1 c1 : Nat) (x2 : Option Addr) (n2 c2 : Nat) (fuel : Nat) (hf : fuel ≤ 20000) (S : ByteArray) (a b c d E : Int)
  (hrun : ∀ w', Below w.heap.size w w' → Calls Tryz.prog 59 #[treeV (.slice x1 n1 c1) (.slice x2 n2 c2), .int .i64 fuel] w' fun e w'' => e = .returned (.tuple #[.agg #[.string S, .int .i64 a, .int .i64 b, .int .i64 c, .int .i64 d], .int .i64 E]) ∧ Below w'.heap.size w' w'') :
  Calls Tryz.prog 32 #[treeV (.slice x1 n1 c1) (.slice x2 n2 c2), .int .i64 fuel] w fun e w' => e = .returned (.tuple #[.agg #[.string S, .int .i64 a, .int .i64 b, .int .i64 c, .int .i64 d], .int .i64 E]) ∧ Below w.heap.size w w' := by
 have HR : Hid _ := hrun
 clear hrun
 unfold treeV at HR
 unfold treeV
 go_enter Tryz.func32, Tryz.ntmps32
 go_wp2_with fail
 refine Calls.mono (HR.out _ (below_al (below_al (Below.refl _ _) _) _)) ?_
 rintro _ w2 ⟨rfl, hb2⟩
 have hq : w2.heap[w.heap.size + 1]? = some (.cells #[.string ⟨#[]⟩, .int .i64 0, .int .i64 0, .int .i64 0, .int .i64 0] 23) := by
  rw [hb2.block _ (by simp)]
  have := blk_new (w.alloc (.cells #[.slice x1 n1 c1, .slice x2 n2 c2] 59)) (.cells #[.string ⟨#[]⟩, .int .i64 0, .int .i64 0, .int .i64 0, .int .i64 0] 23)
  simpa using this
 have hB : Below w.heap.size w w2 := (below_al (below_al (Below.refl _ w) (.cells #[.slice x1 n1 c1, .slice x2 n2 c2] 59)) (.cells #[.string ⟨#[]⟩, .int .i64 0, .int .i64 0, .int .i64 0, .int .i64 0] 23)).trans (hb2.mono (by simp; omega))
 have HB : Hid _ := hB
 have hle : w.heap.size ≤ w.heap.size + 1 := by omega
 have HLE : Hid _ := hle
 clear hb2 hB hle HR
 generalize w.heap.size + 1 = q at *
 go_wp2_with (refine st_row rfl 23 (.tmp 4) (.tmp 16) rfl q #[.string S, .int .i64 a, .int .i64 b, .int .i64 c, .int .i64 d] rfl rfl 23 _ hq Tryz.infoRes rfl (by simp [Value.oneCell']) ?_; intro W hW hWs hWo hW1 hW2 hW3)
 obtain ⟨s0, s1, s2, s3, s4⟩ := res_cells hW
 have HBN : Hid _ := below_new HB.out HLE.out hWs hWo hW1 hW2 hW3
 clear hW hWs hWo hW1 hW2 hW3 HB hq
 go_wp2
 refine bodyPost_ret (v := .tuple #[.agg #[.string S, .int .i64 a, .int .i64 b, .int .i64 c, .int .i64 d], .int .i64 E]) (by simp [results, Tryz.results32, go_sem, s0, s1, s2, s3, s4]) rfl ⟨rfl, HBN.out⟩
set_option maxRecDepth 100000 in
set_option maxHeartbeats 4000000 in
theorem leaseEval_ok (s : ByteArray) (fuel : Int) (w : World) (e : PT) (y : Nat) (S : ByteArray) (a b c d E : Int) (hrd : ∀ w, Calls Tryz.prog 31 #[.string s] w fun v w' => ∃ x1 n1 c1 x2 n2 c2 ns, v = .returned (.tuple #[treeV (.slice x1 n1 c1) (.slice x2 n2 c2), .int .i64 0, .int .i64 y]) ∧ Below w.heap.size w w' ∧ TreeIn w' (.slice x1 n1 c1) (.slice x2 n2 c2) ns (opn e 0) ∧ NA [] e 0 ns)
  (hrn : ∀ (w' : World) (x1 : Option Addr) (n1 c1 : Nat) (x2 : Option Addr) (n2 c2 : Nat) (ns : List NR), Below w.heap.size w w' → TreeIn w' (.slice x1 n1 c1) (.slice x2 n2 c2) ns (opn e 0) → NA [] e 0 ns → Calls Tryz.prog 32 #[treeV (.slice x1 n1 c1) (.slice x2 n2 c2), .int .i64 fuel] w' fun v w'' => v = .returned (.tuple #[.agg #[.string S, .int .i64 a, .int .i64 b, .int .i64 c, .int .i64 d], .int .i64 E]) ∧ Below w'.heap.size w' w'') :
  Calls Tryz.prog 12 #[.string s, .int .i64 fuel] w fun v w' => v = .returned (.tuple #[.agg #[.string S, .int .i64 a, .int .i64 b, .int .i64 c, .int .i64 d], .int .i64 E]) ∧ Below w.heap.size w w' := by
 unfold treeV at hrd hrn
 have HR : Hid _ := hrd
 have HN : Hid _ := hrn
 clear hrd hrn
 go_enter Tryz.func12, Tryz.ntmps12
 go_wp2_with fail
 refine (HR.out _).mono ?_
 rintro _ w1 ⟨x1, n1, c1, x2, n2, c2, ns, rfl, hb, hT, hna⟩
 have hq : w1.heap[w.heap.size]? = some (.cells #[.string ⟨#[]⟩, .int .i64 0, .int .i64 0, .int .i64 0, .int .i64 0] 23) := kept1 hb
 have hB := below1 hb
 obtain ⟨W2, hE2⟩ : ∃ W2, W2 = w1.alloc (.cells #[.slice x1 n1 c1, .slice x2 n2 c2] 59) := ⟨_, rfl⟩
 have hb2 : Below w1.heap.size w1 W2 := by rw [hE2]; exact below_al (Below.refl _ _) _
 have hrn2 := HN.out W2 x1 n1 c1 x2 n2 c2 ns (hB.trans (hb2.mono hB.size)) (hT.below hb2) hna
 have HRN : Hid _ := hrn2
 have HB2 : Hid _ := hB.trans (hb2.mono hB.size)
 have HQ2 : Hid (W2.heap[w.heap.size]? = some (.cells #[.string ⟨#[]⟩, .int .i64 0, .int .i64 0, .int .i64 0, .int .i64 0] 23)) := by
  show W2.heap[w.heap.size]? = _
  rw [hb2.block _ (blk_lt hq)]; exact hq
 clear hb hT hna hq hB hb2 hrn2 HR HN
 go_wp2_with fail
 rw [← hE2]
 refine Calls.mono HRN.out ?_
 rintro _ w3 ⟨rfl, hb3⟩
 have hq3 : w3.heap[w.heap.size]? = some (.cells #[.string ⟨#[]⟩, .int .i64 0, .int .i64 0, .int .i64 0, .int .i64 0] 23) := by rw [hb3.block _ (blk_lt HQ2.out)]; exact HQ2.out
 have HB3 : Hid _ := HB2.out.trans (hb3.mono HB2.out.size)
 clear hb3 HRN HB2 HQ2 hE2
 go_wp2_with (refine st_row rfl 23 (.tmp 4) (.tmp 22) rfl w.heap.size #[.string S, .int .i64 a, .int .i64 b, .int .i64 c, .int .i64 d] rfl rfl 23 _ hq3 Tryz.infoRes rfl (by simp [Value.oneCell']) ?_; intro W hW hWs hWo hW1 hW2 hW3)
 obtain ⟨s0, s1, s2, s3, s4⟩ := res_cells hW
 have HBN : Hid _ := below_new HB3.out (Nat.le_refl _) hWs hWo hW1 hW2 hW3
 clear hW hWs hWo hW1 hW2 hW3 HB3 hq3
 go_wp2
 refine bodyPost_ret (v := .tuple #[.agg #[.string S, .int .i64 a, .int .i64 b, .int .i64 c, .int .i64 d], .int .i64 E]) (by simp [results, Tryz.results12, go_sem, s0, s1, s2, s3, s4]) rfl ⟨rfl, HBN.out⟩
end Go.Proofs.YtpicaknklgccoaaGreatDoor
namespace Go.Proofs.YtpicaknklgccoaaGreatDoor
open Go.RowKit
open Go.Lib (decDigits)
theorem run_memT (lo hi : Int) : ∀ (l : List UInt8) (c : UInt8), c ∈ l.take (run lo hi l) → inB lo hi c = true
 | [], c, h => by simp at h
 | d :: r, c, h => by
  simp only [run] at h
  split at h
  ·rename_i hd
   rw [List.take_succ_cons, List.mem_cons] at h
   rcases h with h | h
   ·rw [h]; exact hd
   ·exact run_memT lo hi r c h
  ·simp at h
theorem dig_fold : ∀ (l : List UInt8) (a : Int), (∀ c ∈ l, inB 48 57 c = true) → 0 ≤ a →
  0 ≤ l.foldl (fun n c => if c = 35 then n else 10 * n + (c.toNat : Int) - 48) a ∧ l.foldl (fun n c => if c = 35 then n else 10 * n + (c.toNat : Int) - 48) a ≤ (a + 1) * ((10 ^ l.length : Nat) : Int) - 1
 | [], a, _, h => by simp; omega
 | c :: r, a, hd, h => by
  have hc := hd c (by simp)
  simp only [inB, Bool.and_eq_true, decide_eq_true_eq] at hc
  have h35 : c ≠ 35 := by intro e; subst e; simp at hc
  have ih := dig_fold r (10 * a + (c.toNat : Int) - 48) (fun x hx => hd x (by simp [hx])) (by omega)
  simp only [List.foldl_cons, if_neg h35, List.length_cons]
  refine ⟨ih.1, Int.le_trans ih.2 ?_⟩
  have e : ((10 ^ (r.length + 1) : Nat) : Int) = 10 * ((10 ^ r.length : Nat) : Int) := by rw [Nat.pow_succ]; omega
  rw [e]
  have hp : (0 : Int) ≤ ((10 ^ r.length : Nat) : Int) := Int.natCast_nonneg _
  have h2 : (10 * a + (c.toNat : Int) - 48 + 1) ≤ (a + 1) * 10 := by omega
  have h3 := Int.mul_le_mul_of_nonneg_right h2 hp
  rw [Int.mul_assoc] at h3
  omega
def TkTame (t : Tk) : Prop := (t.c = .num → 0 ≤ valueL t.s ∧ valueL t.s ≤ 9999) ∧ (t.c = .nam → t.s.length ≤ 9000)
theorem tok_tame (l : List UInt8) : ((tokenOf l).2 = .num → 0 ≤ valueL (l.take (tokenOf l).1) ∧ valueL (l.take (tokenOf l).1) ≤ 9999) ∧ ((tokenOf l).2 = .nam → (tokenOf l).1 ≤ 9000) := by
 unfold tokenOf
 split
 ·refine ⟨fun h => ?_, fun h => ?_⟩
  ·simp only [wordCl] at h
   split at h
   ·simp at h
   ·split at h <;> simp at h
  ·simp only [wordCl] at h
   split at h
   ·simp at h
   ·split at h
    ·simp only; omega
    ·simp at h
 ·split
  ·refine ⟨fun h => ?_, fun h => ?_⟩
   ·simp only at h
    split at h
    ·rename_i hn
     simp only [numeralB, Bool.and_eq_true, decide_eq_true_eq] at hn
     have hf := dig_fold (l.take (run 48 57 l)) 0 (fun c hc => run_memT 48 57 l c hc) (by omega)
     have hp : 10 ^ (l.take (run 48 57 l)).length ≤ 10 ^ 4 := Nat.pow_le_pow_right (by omega) hn.1.2
     unfold valueL
     simp only
     omega
    ·simp at h
   ·simp only at h
    split at h <;> simp at h
  ·split
   ·simp
   ·split
    ·refine ⟨fun h => ?_, fun h => ?_⟩ <;> (simp only at h; split at h <;> simp at h)
    ·refine ⟨fun h => ?_, fun _ => by simp⟩
     simp only at h
     split at h
     ·simp at h
     ·split at h <;> simp at h
theorem tokens_tame (l : List UInt8) : ∀ t ∈ tokens l, TkTame t := by
 intro t ht
 obtain ⟨l', _, hs, hc⟩ := toks_mem _ _ _ t ht
 have h := tok_tame l'
 unfold TkTame
 rw [hs, hc]
 exact ⟨h.1, fun e => by have := h.2 e; simp; omega⟩
mutual
theorem PE.tame {placed : Bool} : ∀ {l : List Tk} {e : PT} {r : List Tk}, PE placed l e r → (∀ t ∈ l, TkTame t) → e.tame ∧ ∀ t ∈ r, TkTame t
 | _, _, _, .num (t := t) h, ha => ⟨by simp only [PT.tame]; exact (ha t (by simp)).1 h, fun x hx => ha x (by simp [hx])⟩
 | _, _, _, .name (t := t) h, ha => ⟨by simp only [PT.tame]; exact (ha t (by simp)).2 h, fun x hx => ha x (by simp [hx])⟩
 | _, _, _, .node _ _ _ h4, ha => by
  have h := PW.tame h4 (fun x hx => ha x (by simp [hx]))
  exact ⟨by simp only [PT.tame]; exact ⟨h.1, h.2.1⟩, h.2.2⟩
theorem PW.tame {placed : Bool} : ∀ {ws : List Wt} {l : List Tk} {nm rg : List UInt8} {kids : List PT} {r : List Tk}, PW placed ws l nm rg kids r → (∀ t ∈ l, TkTame t) → nm.length ≤ 9000 ∧ tameL kids ∧ ∀ t ∈ r, TkTame t
 | _, _, _, _, _, _, .nil, ha => ⟨by simp, by simp [tameL], ha⟩
 | _, _, _, _, _, _, .close _ h1, ha => PW.tame h1 (fun x hx => ha x (by simp [hx]))
 | _, _, _, _, _, _, .name (t := t) h h1, ha => by
  have h' := PW.tame h1 (fun x hx => ha x (by simp [hx]))
  exact ⟨(ha t (by simp)).2 h, h'.2⟩
 | _, _, _, _, _, _, .region _ h1, ha => PW.tame h1 (fun x hx => ha x (by simp [hx]))
 | _, _, _, _, _, _, .e h0 h1, ha => by
  have a := PE.tame h0 ha
  have b := PW.tame h1 a.2
  exact ⟨b.1, by simp only [tameL]; exact ⟨a.1, b.2.1⟩, b.2.2⟩
end
end Go.Proofs.YtpicaknklgccoaaGreatDoor
namespace Go.Proofs.YtpicaknklgccoaaGreatDoor
open Go.RowKit
theorem wants_noreg (k : Kw) : Wt.region ∉ wantsK k false := by cases k <;> decide
mutual
theorem PE.plain : ∀ {l : List Tk} {e : PT} {r : List Tk}, PE false l e r → (∀ t ∈ l, TkTame t) → (e.rgd ∧ NoNew e) ∧ ∀ t ∈ r, TkTame t
 | _, _, _, .num (t := t) h, ha => ⟨⟨by simp only [PT.rgd]; exact (ha t (by simp)).1 h, .num⟩, fun x hx => ha x (by simp [hx])⟩
 | _, _, _, .name (t := t) h, ha => ⟨⟨by simp [PT.rgd], .name⟩, fun x hx => ha x (by simp [hx])⟩
 | _, _, _, .node (k := k) _ _ h3 h4, ha => by
  have h := PW.plain h4 (wants_noreg k) (fun x hx => ha x (by simp [hx]))
  refine ⟨⟨by simp only [PT.rgd]; exact ⟨by rw [h.1]; decide, h.2.1⟩, .node (fun e => by subst e; exact h3 rfl) h.2.2.1⟩, h.2.2.2⟩
theorem PW.plain : ∀ {ws : List Wt} {l : List Tk} {nm rg : List UInt8} {kids : List PT} {r : List Tk}, PW false ws l nm rg kids r → Wt.region ∉ ws → (∀ t ∈ l, TkTame t) → rg = [] ∧ rgdL kids ∧ (∀ x ∈ kids, NoNew x) ∧ ∀ t ∈ r, TkTame t
 | _, _, _, _, _, _, .nil, _, ha => ⟨rfl, by simp [rgdL], by simp, ha⟩
 | _, _, _, _, _, _, .close _ h1, hn, ha => PW.plain h1 (fun h => hn (by simp [h])) (fun x hx => ha x (by simp [hx]))
 | _, _, _, _, _, _, .name _ h1, hn, ha => PW.plain h1 (fun h => hn (by simp [h])) (fun x hx => ha x (by simp [hx]))
 | _, _, _, _, _, _, .region _ h1, hn, ha => absurd (by simp) hn
 | _, _, _, _, _, _, .e h0 h1, hn, ha => by
  have a := PE.plain h0 ha
  have b := PW.plain h1 (fun h => hn (by simp [h])) a.2
  refine ⟨b.1, by simp only [rgdL]; exact ⟨a.1.1, b.2.1⟩, ?_, b.2.2.2⟩
  intro x hx
  rcases List.mem_cons.1 hx with rfl | hx
  ·exact a.1.2
  ·exact b.2.2.1 x hx
end
theorem evalV_agg (y : Vl × ESt) : ∃ S a b c d, evalV y = .agg #[.string S, .int .i64 a, .int .i64 b, .int .i64 c, .int .i64 d] := by
 unfold evalV; split
 ·exact ⟨_, _, _, _, _, rfl⟩
 ·exact ⟨_, _, _, _, _, rfl⟩
theorem chk_WT {e : PT} (hw : e.wf) (h : (chkAns e).1 = 0) : ∃ T, WT [] e T ∧ T.size ≤ 63 := by
 unfold chkAns at h
 split at h
 ·simp at h
 ·have := tyFind_WT (List.range e.prs) e 0 0 [] (st0 e) hw h
  exact ⟨_, this.2.2, by rw [bare_sizeE]; exact this.2.1⟩
theorem leaseEval_tree (s : ByteArray) (w : World) (hs : s.size ≤ 3000) (htab : Lib.TabIs Tryz.prog w "internal/strconv.uint64pow10" .u64 Lib.pow10Tab) (e : PT) (hp : PE false (tokens s.data.toList) e []) (hc : (chkAns e).1 = 0) (fuel : Nat) (hf : fuel ≤ 20000) :
  Calls Tryz.prog 12 #[.string s, .int .i64 fuel] w fun v w' => v = .returned (.tuple #[evalV (ev fuel e [] ⟨0, 0, 0⟩), .int .i64 (ev fuel e [] ⟨0, 0, 0⟩).2.e]) ∧ Below w.heap.size w w' := by
 have hwf := hp.wf
 have hpl := (hp.plain (tokens_tame _)).1
 have hcnt := Study_len hp
 obtain ⟨T, hwt, hT⟩ := chk_WT hwf hc
 obtain ⟨S, a, b, c, d, hV⟩ := evalV_agg (ev fuel e [] ⟨0, 0, 0⟩)
 rw [hV]
 refine leaseEval_ok s fuel w e (chkAns e).2 S a b c d _ (fun w => ?_) (fun w' x1 n1 c1 x2 n2 c2 ns hb hTr hna => ?_)
 ·have := readPlain_full s w hs e hp
  rw [hc] at this
  exact this
 ·have hnl := hna.len
  refine run_ok w' x1 n1 c1 x2 n2 c2 fuel hf S a b c d _ (fun w'' hb'' => ?_)
  obtain ⟨X, hX, hXs, hrv, hfl⟩ := run_plain fuel ns.length hwt hT hpl.2 hpl.1 (by omega)
  have := Run_any x1 n1 c1 x2 n2 c2 fuel ns (opn e 0) hf (by omega) w'' (hTr.below hb'') (Lib.tabBelow_of_tabIs htab w'' (hb.trans (hb''.mono hb.size))) e hna.showsM0 hwf hpl.1 hnl.symm _ rfl X hX hXs
  rw [hrv, hfl, hV] at this
  exact this
end Go.Proofs.YtpicaknklgccoaaGreatDoor
namespace Go.Proofs.YtpicaknklgccoaaGreatDoor
open Go.RowKit
open Go.Lib (decDigits)
abbrev res0 : Obj := .cells #[.string ⟨#[]⟩, .int .i64 0, .int .i64 0, .int .i64 0, .int .i64 0] 23 (0, 0)
theorem below_setZ {B : Nat} {w W : World} (h : Below B w W) (p : Addr) (hp : B ≤ p.block) (x : Value) : Below B w (W.setCell p x) := h.setCell hp x
set_option maxRecDepth 100000 in
set_option maxHeartbeats 1000000 in
theorem worked_any (w : World) (x : KE) (t p fuel : Nat) (hfu : fuel ≤ 20000) (hT : KT [] x t) (hk : KIn w x p) (hit : ∀ W, Below w.heap.size w W → ItoaOk W) (R : Vl × ESt) (hR : R = ev fuel (x.pt []) [] ⟨0, 0, 0⟩) :
  Calls Tryz.prog 24 #[.pointer (some ⟨p, 0, none⟩), .int .i64 fuel] w fun e w' => e = .returned (.tuple #[evalV R, .bool (decide (R.2.e = 0))]) ∧ Below w.heap.size w w' := by
 have hb0 : Below w.heap.size w (w.alloc res0) := below_alZ (Below.refl _ _) _
 have hs0 : (w.alloc res0).heap.size = w.heap.size + 1 := by simp
 have hin : WkIn (w.alloc res0) ((w.alloc res0).alloc (.cells (wkCells (.slice none 0 0) fuel ⟨0, 0, 0⟩) 103 (0, 0))) (w.heap.size + 1) [] [] fuel ⟨0, 0, 0⟩ (.slice none 0 0) := by
  refine ⟨⟨below_alZ (Below.refl _ _) _, by omega, ?_, World.ownsRow_nil _ _ _ _, by simp [Value.ownBlock]⟩, rfl, fun i v p h => by simp at h⟩
  have := blk_new (w.alloc res0) (.cells (wkCells (.slice none 0 0) fuel ⟨0, 0, 0⟩) 103 (0, 0))
  rw [hs0] at this; exact this
 have hs : SOkZ fuel ⟨0, 0, 0⟩ := ⟨hfu, Nat.zero_le _, Nat.le_refl _⟩
 have henv : EnvHas (envV []) (envT []) := fun s T h => by simp [look, envT] at h
 have hgo := kgo_any (w0 := w.alloc res0) (w.heap.size + 1) fuel hT (by simp) p [] [] ⟨0, 0, 0⟩ _ _ (hk.below hb0) hin (fun _ => henv) rfl hs
 have hres := kev_res (fuel := fuel) hT (by simp) [] ⟨0, 0, 0⟩ (fun _ => henv)
 rw [show envV [] = ([] : VEnv) from rfl, ← hR] at hgo hres
 have HGO : Hid _ := hgo
 have HRES : Hid _ := hres
 have HIT : Hid _ := hit
 have HB0 : Hid _ := hb0
 have hcl := (hs.on (x.pt []) [])
 rw [← hR] at hcl
 have HQ0 : Hid ((w.alloc res0).heap[w.heap.size]? = some res0) := blk_new w res0
 clear hgo hin hs henv hres hit hb0 hk hR hT
 by_cases he : R.2.e = 0
 ·have hV : evalV R = .agg #[.string (bs R.1.txt), .int .i64 R.2.steps, .int .i64 R.2.cells, .int .i64 R.2.cells, .int .i64 R.2.cells] := by unfold evalV; rw [if_neg (fun h => h he)]
  rw [hV, show decide (R.2.e = 0) = true by simp [he]]
  have HE : Hid _ := he
  clear hV he
  go_enter Tryz.func24, Tryz.ntmps24
  go_wp2_with fail
  refine Calls.mono HGO.out ?_
  rintro _ w2 ⟨r, nv2, rfl, hfr, hin2, hkv⟩
  have hyl := blk_lt hin2.ob.y
  have y2 : w2.cell? ⟨w.heap.size + 1, 2, none⟩ = some (.int .i64 R.2.steps) := by rw [blk_cell hin2.ob.y]; rfl
  have y3 : w2.cell? ⟨w.heap.size + 1, 3, none⟩ = some (.int .i64 R.2.cells) := by rw [blk_cell hin2.ob.y]; rfl
  have y4 : w2.cell? ⟨w.heap.size + 1, 4, none⟩ = some (.bool false) := by rw [blk_cell hin2.ob.y]; simp [wkCells, HE.out]
  have hq : w2.heap[w.heap.size]? = some res0 := by rw [hin2.ob.b0.block _ (by omega)]; exact HQ0.out
  have HB2 : Hid (Below w.heap.size w w2) := HB0.out.trans (hin2.ob.b0.mono HB0.out.size)
  have HTL : Hid (∀ W, Below w2.heap.size w2 W → Calls Tryz.prog 52 #[.pointer (some ⟨r, 0, none⟩)] W fun e w' => e = .returned (.string (bs R.1.txt)) ∧ Below W.heap.size W w') := fun W hW => ktold_any R.1 (tyZ t) r W (HRES.out.1 HE.out).2 (by have := tyZ_size t; omega) (hkv.below hW) (fun W' hW' => HIT.out W' (HB2.out.trans ((hW.trans (hW'.mono hW.size)).mono HB2.out.size)))
  have hS : ∀ W, Below w2.heap.size w2 W → W.cell? ⟨w.heap.size + 1, 2, none⟩ = some (.int .i64 R.2.steps) ∧ W.cell? ⟨w.heap.size + 1, 3, none⟩ = some (.int .i64 R.2.cells) := fun W hW => ⟨(hW.cell (p := ⟨w.heap.size + 1, 2, none⟩) hyl).trans y2, (hW.cell (p := ⟨w.heap.size + 1, 3, none⟩) hyl).trans y3⟩
  have hS2 : ∀ W, Below w2.heap.size w2 W → W.cell? ⟨w.heap.size, 0, none⟩ = some (.string ⟨#[]⟩) ∧ W.cell? ⟨w.heap.size, 1, none⟩ = some (.int .i64 0) ∧ W.cell? ⟨w.heap.size, 2, none⟩ = some (.int .i64 0) ∧ W.cell? ⟨w.heap.size, 3, none⟩ = some (.int .i64 0) ∧ W.cell? ⟨w.heap.size, 4, none⟩ = some (.int .i64 0) ∧ W.frozen? ⟨w.heap.size, 0, none⟩ = false ∧ W.frozen? ⟨w.heap.size, 1, none⟩ = false ∧ W.frozen? ⟨w.heap.size, 2, none⟩ = false ∧ W.frozen? ⟨w.heap.size, 3, none⟩ = false ∧ W.frozen? ⟨w.heap.size, 4, none⟩ = false ∧ w.heap.size < W.heap.size ∧ w.heap.size + 1 < W.heap.size := fun W hW => by
   have hqW := (hW.block _ (blk_lt hq)).trans hq
   exact ⟨by rw [blk_cell hqW]; rfl, by rw [blk_cell hqW]; rfl, by rw [blk_cell hqW]; rfl, by rw [blk_cell hqW]; rfl, by rw [blk_cell hqW]; rfl, blk_free hqW 0, blk_free hqW 1, blk_free hqW 2, blk_free hqW 3, blk_free hqW 4, blk_lt hqW, by have := hW.size; omega⟩
  have hql := blk_lt hq
  have hYQ : w.heap.size + 1 ≠ w.heap.size := by omega
  have hQY : w.heap.size ≠ w.heap.size + 1 := by omega
  have HS : Hid _ := hS
  have HS2 : Hid _ := hS2
  have HQ : Hid _ := hq
  clear hfr hin2 hkv hq hS hS2 HGO HRES HIT HQ0 HB0 y2 y3
  generalize w.heap.size + 1 = Y at *
  generalize hQE : w.heap.size = Q at *
  have HQE : Hid _ := hQE
  clear hQE
  go_wp2_with fail
  have HSa : Hid (w2.cell? ⟨Y, 2, none⟩ = some (.int .i64 R.2.steps) ∧ w2.cell? ⟨Y, 3, none⟩ = some (.int .i64 R.2.cells)) := HS.out w2 (Below.refl _ _)
  have HSb : Hid (∀ m, (w2.drewN m).cell? ⟨Y, 2, none⟩ = some (.int .i64 R.2.steps) ∧ (w2.drewN m).cell? ⟨Y, 3, none⟩ = some (.int .i64 R.2.cells)) := fun m => HS.out _ (below_drewO w2 m)
  have HSc : Hid (w2.drew.cell? ⟨Y, 2, none⟩ = some (.int .i64 R.2.steps) ∧ w2.drew.cell? ⟨Y, 3, none⟩ = some (.int .i64 R.2.cells)) := HS.out w2.drew ⟨rfl, rfl, rfl, Nat.le_refl _, fun _ _ => rfl⟩
  go_region_held3 (fun W => W.cell? ⟨Y, 2, none⟩ = some (.int .i64 R.2.steps) ∧ W.cell? ⟨Y, 3, none⟩ = some (.int .i64 R.2.cells)) (first | with_reducible exact HSa.out | with_reducible exact HSb.out _ | with_reducible exact HSc.out | with_reducible exact ⟨t2, t3⟩ | go_keep) (first | (go_at_call 52; refine Calls.mono (HTL.out _ ?_) ?_; exact ⟨rfl, rfl, rfl, Nat.le_refl _, fun _ _ => rfl⟩; rintro e w3 ⟨rfl, hb3⟩; obtain ⟨t2, t3⟩ := HS.out w3 ⟨hb3.os, hb3.tape, hb3.output, hb3.size, fun k hk => hb3.block k hk⟩; obtain ⟨r0, r1, r2, r3, r4, g0, g1, g2, g3, g4, l1, l2⟩ := HS2.out w3 ⟨hb3.os, hb3.tape, hb3.output, hb3.size, fun k hk => hb3.block k hk⟩))
  all_goals
   have hq3 : w3.heap[Q]? = some res0 := (hb3.block Q hql).trans HQ.out
   have hB3 : Below Q w w3 := HB2.out.trans ((⟨hb3.os, hb3.tape, hb3.output, hb3.size, fun k hk => hb3.block k hk⟩ : Below w2.heap.size w2 w3).mono (by omega))
   obtain ⟨W7, hE7⟩ : ∃ W7, W7 = (((((w3.setCell ⟨Q, 0, none⟩ (.string (bs R.1.txt))).setCell ⟨Q, 1, none⟩ (.int .i64 R.2.steps)).setCell ⟨Q, 2, none⟩ (.int .i64 R.2.cells)).setCell ⟨Q, 3, none⟩ (.int .i64 R.2.cells)).setCell ⟨Q, 4, none⟩ (.int .i64 R.2.cells)) := ⟨_, rfl⟩
   have hN7 : W7.heap[Q]? = some (.cells #[.string (bs R.1.txt), .int .i64 R.2.steps, .int .i64 R.2.cells, .int .i64 R.2.cells, .int .i64 R.2.cells] 23 (0, 0)) := by
    rw [hE7]; exact (blk_set (blk_set (blk_set (blk_set (blk_set hq3 0 _) 1 _) 2 _) 3 _) 4 _).trans rfl
   have HB7 : Hid (Below Q w W7) := by
    show Below Q w W7
    rw [hE7]; exact below_setZ (below_setZ (below_setZ (below_setZ (below_setZ hB3 _ (Nat.le_refl _) _) _ (Nat.le_refl _) _) _ (Nat.le_refl _) _) _ (Nat.le_refl _) _) _ (Nat.le_refl _) _
   rw [← hE7]
   obtain ⟨s0, s1, s2, s3, s4⟩ := res_cells hN7
   clear hE7 hN7 hq3 hB3 hb3 t2 t3 r0 r1 r2 r3 r4 g0 g1 g2 g3 g4 l1 l2 y4
   go_wp2
   refine bodyPost_ret (v := .tuple #[.agg #[.string (bs R.1.txt), .int .i64 R.2.steps, .int .i64 R.2.cells, .int .i64 R.2.cells, .int .i64 R.2.cells], .bool true]) (by simp [results, Tryz.results24, go_sem, s0, s1, s2, s3, s4]) rfl ⟨rfl, by rw [HQE.out]; exact HB7.out⟩
 ·have hV : evalV R = .agg #[.string ⟨#[]⟩, .int .i64 0, .int .i64 0, .int .i64 0, .int .i64 0] := by unfold evalV; rw [if_pos he]
  rw [hV, show decide (R.2.e = 0) = false by simp [he]]
  have HE : Hid _ := he
  clear hV he
  go_enter Tryz.func24, Tryz.ntmps24
  go_wp2_with fail
  refine Calls.mono HGO.out ?_
  rintro _ w2 ⟨r, nv2, rfl, hfr, hin2, hkv⟩
  have hyl := blk_lt hin2.ob.y
  have y4 : w2.cell? ⟨w.heap.size + 1, 4, none⟩ = some (.bool true) := by
   have hne : decide (R.2.e ≠ 0) = true := decide_eq_true HE.out
   rw [blk_cell hin2.ob.y]
   show some (Value.bool (decide (R.2.e ≠ 0))) = _
   rw [hne]
  have hq : w2.heap[w.heap.size]? = some res0 := by rw [hin2.ob.b0.block _ (by omega)]; exact HQ0.out
  have HB2 : Hid (Below w.heap.size w w2) := HB0.out.trans (hin2.ob.b0.mono HB0.out.size)
  clear hfr hin2 hkv HGO HRES HIT HQ0 HB0
  go_wp2_with (refine st_row rfl 23 (.tmp 4) (.tmp 18) rfl w.heap.size #[.string ⟨#[]⟩, .int .i64 0, .int .i64 0, .int .i64 0, .int .i64 0] rfl rfl 23 _ hq Tryz.infoRes rfl (by simp [Value.oneCell']) ?_; intro W hW hWs hWo hW1 hW2 hW3)
  obtain ⟨s0, s1, s2, s3, s4⟩ := res_cells hW
  have HBN : Hid _ := below_new HB2.out (Nat.le_refl _) hWs hWo hW1 hW2 hW3
  clear hW hWs hWo hW1 hW2 hW3 HB2 hq
  go_wp2
  refine bodyPost_ret (v := .tuple #[.agg #[.string ⟨#[]⟩, .int .i64 0, .int .i64 0, .int .i64 0, .int .i64 0], .bool false]) (by simp [results, Tryz.results24, go_sem, s0, s1, s2, s3, s4]) rfl ⟨rfl, HBN.out⟩
end Go.Proofs.YtpicaknklgccoaaGreatDoor
namespace Go.Proofs.YtpicaknklgccoaaGreatDoor
open Go.RowKit
theorem leaseCheck_any (s : ByteArray) (w : World) (x y : Nat) (hrd : ∀ w, Calls Tryz.prog 31 #[.string s] w fun v w' => ∃ x1 n1 c1 x2 n2 c2, v = .returned (.tuple #[treeV (.slice x1 n1 c1) (.slice x2 n2 c2), .int .i64 x, .int .i64 y]) ∧ Below w.heap.size w w') :
  Calls Tryz.prog 25 #[.string s] w fun v w' => v = .returned (.tuple #[.int .i64 x, .int .i64 y]) ∧ Below w.heap.size w w' := by
 unfold treeV at hrd
 go_enter Tryz.func25, Tryz.ntmps25
 go_wp2_with fail
 refine (hrd _).mono ?_
 rintro _ w1 ⟨x1, n1, c1, x2, n2, c2, rfl, hb⟩
 have HB : Hid _ := hb
 clear hb hrd
 go_wp2
 refine bodyPost_ret (v := .tuple #[.int .i64 x, .int .i64 y]) (by simp [results, Tryz.results25, go_sem]) rfl ⟨rfl, HB.out.alloc HB.out.size _⟩
end Go.Proofs.YtpicaknklgccoaaGreatDoor
