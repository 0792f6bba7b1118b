import Derived.Test.YtpicaknklgccoabGreatDoorX19
import Derived.Test.YtpicaknklgccoabGreatDoorX27
import Derived.Test.YtpicaknklgccoabGreatDoorX13
import Derived.Test.YtpicaknklgccoabGreatDoorX1
import Derived.Test.YtpicaknklgccoabGreatDoorX21
import Derived.Test.YtpicaknklgccoabGreatDoorX15
namespace Go.Proofs.YtpicaknklgccoabGreatDoor
theorem turns_keep (f : Vl → ESt → Vl × ESt) (k : Nat) (v : Vl) (st : ESt) (h : st.e ≠ 0) : (turns f k v st).2 = st := by
 cases k with
 | zero => rfl
 | succ k => simp only [turns]; rw [if_pos h]
theorem mTurns_keep (i : Int) (f : MM → MV × MM) (k : Nat) (v : MV) (m : MM) (h : m.fault ≠ 0) : (mTurns i f k v m).2 = m := by
 cases k with
 | zero => rfl
 | succ k => simp only [mTurns]; rw [if_pos h]
theorem NoNew.kids {p : Nat} {k : Kw} {nm rg : List UInt8} {kids : List PT} (h : NoNew (.node p k nm rg kids)) : k ≠ .new ∧ ∀ x ∈ kids, NoNew x := by
 cases h with
 | node hk h => exact ⟨hk, h⟩
theorem Both.name {st : ESt} {m : MM} (h : Both st m) (i : Int) (v : MV) : Both st (m.name i v) := ⟨h.1, by rw [(name_fault m i v).1]; exact h.2⟩
theorem use_plain {fuel : Nat} {st : ESt} {m : MM} {a b : Vl} {v : MV} (hs : Sm fuel st m) (h : Rep m.cells (.p a b) v) : (m.use v).2 = m ∧ Rep m.cells a (m.use v).1.a ∧ Rep m.cells b (m.use v).1.b := by
 simp only [Rep] at h
 obtain ⟨hc, i, c, hv, hi, ha, hb⟩ := h
 have hil := (List.getElem?_eq_some_iff.1 hi).1
 have hcm := hs.h c (List.mem_of_getElem? hi)
 have e2 : m.cells.getD v.n.toNat c0 = c := by rw [hv, Int.toNat_natCast, List.getD_eq_getElem?_getD, hi]; rfl
 have hlv : m.isLive c = true := by unfold MM.isLive; rw [hcm.1, hs.r]; simp [hcm.2]
 have e : m.use v = (c, m) := by
  unfold MM.use
  rw [if_neg (by rw [hc, hv]; simp; omega), e2, if_pos hlv]
 rw [e]; exact ⟨rfl, ha, hb⟩
theorem cell_plain {fuel : Nat} {st : ESt} {m : MM} {a b : Vl} {v u : MV} {k : Int} (hs : Sm fuel st m) (ha : Rep m.cells a v) (hb : Rep m.cells b u) : Sm fuel { st with cells := st.cells + 1 } (m.newCell k v u).2 ∧ Rep (m.newCell k v u).2.cells (.p a b) (m.newCell k v u).1 := by
 have hh : m.home k = 0 := by unfold MM.home; rw [hs.r]; rfl
 have hr : m.regs[m.home k]? = some ⟨-1, 0, st.cells⟩ := by rw [hh, hs.r]; rfl
 have hl := hs.l; have ho := hs.o; have hc := hs.c
 have e : m.newCell k v u = (⟨true, m.cells.length⟩, { m with regs := m.regs.set 0 ⟨-1, 0, st.cells + 1⟩, cells := m.cells ++ [⟨v, u, 0, 0⟩], live := m.live + 1, most := m.live + 1 }) := by
  unfold MM.newCell; rw [hr, hh]
  simp only
  rw [if_pos (by omega)]
 rw [e]
 refine ⟨⟨hs.e, hs.f, hs.s, hs.le, by simp [hc], by simp [hs.r], by simp only; omega, by simp only; omega, ?_⟩, ?_⟩
 ·intro c hcm
  simp only [List.mem_append, List.mem_singleton] at hcm
  rcases hcm with hcm | rfl
  ·exact hs.h c hcm
  ·exact ⟨rfl, rfl⟩
 ·simp only [Rep]
  exact ⟨trivial, m.cells.length, ⟨v, u, 0, 0⟩, rfl, by simp, ha.mono, hb.mono⟩
set_option maxHeartbeats 2000000 in
theorem mW_ev (fuel : Nat) {G : TEnv} {t : PT} {T : Ty} (h : WT G t T) : NoNew t → ∀ (sc : Sc) (base : Nat) (m : MM) (env : VEnv) (st : ESt), t.rgd → ER m.named m.cells sc env G base → base + t.cnt ≤ m.named.length → Sm fuel st m → SimOut fuel (ev fuel t env st) (mW fuel t sc base m) T := by
 induction h with
 | num =>
  intro hn sc base m env st hr he hl hs
  simp only [PT.rgd] at hr
  simp only [ev, mW]
  exact begun_sim hs (fun hs => Or.inl ⟨hs, by simp only [Rep, true_and]; omega, by simp only [Vl.has]; omega⟩)
 | name hlk =>
  intro hn sc base m env st hr he hl hs
  simp only [ev, mW]
  refine begun_sim hs (fun hs => Or.inl ⟨hs, ?_⟩)
  obtain ⟨i, v, h1, h2, h3, h4, h5⟩ := he _ _ hlk
  have hil := (List.getElem?_eq_some_iff.1 h3).1
  unfold MM.look
  simp only [h1]
  rw [if_neg (by omega), Int.toNat_natCast, List.getD_eq_getElem?_getD, h3]
  exact ⟨h4, h5⟩
 | @let_ G p nm rg a b A B ha hb iha ihb =>
  intro hn sc base m env st hr he hl hs
  have hk := hn.kids.2
  simp only [PT.rgd, rgdL] at hr
  simp only [PT.cnt, cntL, Nat.add_zero] at hl
  simp only [ev, evLet, mW, mLet, if_true, reduceCtorEq, if_false]
  refine begun_sim hs (fun hs => ?_)
  have hf := mW_fits fuel ha sc base { m with steps := m.steps + 1 } hr.2.1 he.ef (by simp only; omega)
  have h1 := iha (hk a (by simp)) sc base { m with steps := m.steps + 1 } env { st with steps := st.steps + 1 } hr.2.1 he (by simp only; omega) hs
  generalize mW fuel a sc base { m with steps := m.steps + 1 } = x at hf h1 ⊢
  generalize ev fuel a env { st with steps := st.steps + 1 } = y at h1 ⊢
  have hca := cnt_pos' a
  have hxl : x.2.named.length = m.named.length := hf.1.len
  rw [show (((base + a.cnt : Nat) : Int) - 1) = ((base + a.cnt - 1 : Nat) : Int) from by omega]
  rcases h1 with ⟨h1, h2, h3⟩ | hB
  ·have hx := ER.on (m := { m with steps := m.steps + 1 }) he hf.1 (Nat.le_refl _)
   have hsn := hx.snoc (nm := nm) (j := base + a.cnt - 1) (by omega) (by omega) h2 h3
   rw [show base + a.cnt - 1 + 1 = base + a.cnt from by omega] at hsn
   have hne := name_ext x.2 (base + a.cnt - 1) x.1 base a.cnt (by omega)
   exact ihb (hk b (by simp)) _ (base + a.cnt) _ _ _ hr.2.2.1 hsn (by rw [hne.len, hxl]; omega) (h1.name _ _)
  ·exact both_keep (hk b (by simp)) _ _ _ (hB.name _ _) _
 | @pair G p nm rg a b A B ha hb hsz iha ihb =>
  intro hn sc base m env st hr he hl hs
  have hk := hn.kids.2
  simp only [PT.rgd, rgdL] at hr
  simp only [PT.cnt, cntL, Nat.add_zero] at hl
  have e' : ev fuel (.node p .pair nm rg [a, b]) env st = begun fuel st (fun st => if (ev fuel b env (ev fuel a env st).2).2.e ≠ 0 then (.n 0, (ev fuel b env (ev fuel a env st).2).2) else madeV .pair [(ev fuel a env st).1, (ev fuel b env (ev fuel a env st).2).1] (ev fuel b env (ev fuel a env st).2).2) := by
   simp only [ev, evKids, reduceCtorEq, if_false]; rfl
  rw [e']
  simp only [mW, mOps, if_true, reduceCtorEq, if_false]
  refine begun_sim hs (fun hs => ?_)
  have hf := mW_fits fuel ha sc base { m with steps := m.steps + 1 } hr.2.1 he.ef (by simp only; omega)
  have h1 := iha (hk a (by simp)) sc base { m with steps := m.steps + 1 } env { st with steps := st.steps + 1 } hr.2.1 he (by simp only; omega) hs
  generalize mW fuel a sc base { m with steps := m.steps + 1 } = x at hf h1 ⊢
  generalize ev fuel a env { st with steps := st.steps + 1 } = y at h1 ⊢
  have hxl : x.2.named.length = m.named.length := hf.1.len
  rcases h1 with ⟨h1, h2, h3⟩ | hB
  ·have hx := (ER.on (m := { m with steps := m.steps + 1 }) he hf.1 (Nat.le_refl _)).up (show base ≤ base + a.cnt by omega)
   have hg := mW_fits fuel hb sc (base + a.cnt) x.2 hr.2.2.1 hx.ef (by omega)
   have k1 := ihb (hk b (by simp)) sc (base + a.cnt) x.2 env y.2 hr.2.2.1 hx (by omega) h1
   generalize mW fuel b sc (base + a.cnt) x.2 = x' at hg k1 ⊢
   generalize ev fuel b env y.2 = y' at k1 ⊢
   rcases k1 with ⟨k1, k2, k3⟩ | hB
   ·rw [if_neg (fun hn => hn k1.e)]
    simp only [madeV]
    have hc := cell_plain (k := valueL rg) k1 (h2.on hg.1) k2
    exact Or.inl ⟨hc.1, hc.2, by simp only [Vl.has]; exact ⟨h3, k3⟩⟩
   ·rw [if_pos (by rw [hB.1]; decide)]
    refine Or.inr ⟨hB.1, ?_⟩
    have : ∀ (m : MM) k v u, (m.newCell k v u).2.fault = m.fault := fun m k v u => by unfold MM.newCell; split <;> rfl
    rw [this]; exact hB.2
  ·rw [ev_keep fuel b env y.2 (by rw [hB.1]; decide), mW_keep fuel b (hk b (by simp)) _ _ _ (by rw [hB.2]; decide)]
   simp only
   rw [if_pos (by rw [hB.1]; decide)]
   refine Or.inr ⟨hB.1, ?_⟩
   have : ∀ (m : MM) k v u, (m.newCell k v u).2.fault = m.fault := fun m k v u => by unfold MM.newCell; split <;> rfl
   rw [this]; exact hB.2
 | @fst G p nm rg a A B ha iha =>
  intro hn sc base m env st hr he hl hs
  have hk := hn.kids.2
  simp only [PT.rgd, rgdL] at hr
  simp only [PT.cnt, cntL, Nat.add_zero] at hl
  have e' : ev fuel (.node p .fst nm rg [a]) env st = begun fuel st (fun st => if (ev fuel a env st).2.e ≠ 0 then (.n 0, (ev fuel a env st).2) else madeV .fst [(ev fuel a env st).1] (ev fuel a env st).2) := by
   simp only [ev, evKids, reduceCtorEq, if_false]; rfl
  rw [e']
  simp only [mW, mOps, if_true, reduceCtorEq, if_false]
  refine begun_sim hs (fun hs => ?_)
  have h1 := iha (hk a (by simp)) sc base { m with steps := m.steps + 1 } env { st with steps := st.steps + 1 } hr.2.1 he (by simp only; omega) hs
  generalize mW fuel a sc base { m with steps := m.steps + 1 } = x at h1 ⊢
  generalize ev fuel a env { st with steps := st.steps + 1 } = y at h1 ⊢
  rcases h1 with ⟨h1, h2, h3⟩ | hB
  ·rw [if_neg (fun hn => hn h1.e)]
   obtain ⟨y1, y2⟩ := y
   cases y1 with
   | n k => simp [Vl.has] at h3
   | p u v =>
    simp only [Vl.has] at h3
    have hu := use_plain h1 h2
    simp only [madeV, Vl.fst]
    rw [hu.1]
    exact Or.inl ⟨h1, hu.2.1, h3.1⟩
  ·rw [if_pos (by rw [hB.1]; decide)]
   refine Or.inr ⟨hB.1, ?_⟩
   have : (x.2.use x.1).2.fault = x.2.fault := by
    unfold MM.use; split
    ·rfl
    ·simp only; split
     ·rfl
     ·rw [stop_keep _ _ (by rw [hB.2]; decide)]
   rw [this]; exact hB.2
 | @snd G p nm rg a A B ha iha =>
  intro hn sc base m env st hr he hl hs
  have hk := hn.kids.2
  simp only [PT.rgd, rgdL] at hr
  simp only [PT.cnt, cntL, Nat.add_zero] at hl
  have e' : ev fuel (.node p .snd nm rg [a]) env st = begun fuel st (fun st => if (ev fuel a env st).2.e ≠ 0 then (.n 0, (ev fuel a env st).2) else madeV .snd [(ev fuel a env st).1] (ev fuel a env st).2) := by
   simp only [ev, evKids, reduceCtorEq, if_false]; rfl
  rw [e']
  simp only [mW, mOps, reduceCtorEq, if_false]
  refine begun_sim hs (fun hs => ?_)
  have h1 := iha (hk a (by simp)) sc base { m with steps := m.steps + 1 } env { st with steps := st.steps + 1 } hr.2.1 he (by simp only; omega) hs
  generalize mW fuel a sc base { m with steps := m.steps + 1 } = x at h1 ⊢
  generalize ev fuel a env { st with steps := st.steps + 1 } = y at h1 ⊢
  rcases h1 with ⟨h1, h2, h3⟩ | hB
  ·rw [if_neg (fun hn => hn h1.e)]
   obtain ⟨y1, y2⟩ := y
   cases y1 with
   | n k => simp [Vl.has] at h3
   | p u v =>
    simp only [Vl.has] at h3
    have hu := use_plain h1 h2
    simp only [madeV, Vl.snd]
    rw [hu.1]
    exact Or.inl ⟨h1, hu.2.2, h3.2⟩
  ·rw [if_pos (by rw [hB.1]; decide)]
   refine Or.inr ⟨hB.1, ?_⟩
   have : (x.2.use x.1).2.fault = x.2.fault := by
    unfold MM.use; split
    ·rfl
    ·simp only; split
     ·rfl
     ·rw [stop_keep _ _ (by rw [hB.2]; decide)]
   rw [this]; exact hB.2
 | @if_ G p nm rg a b c T ha hb hc iha ihb ihc =>
  intro hn sc base m env st hr he hl hs
  have hk := hn.kids.2
  simp only [PT.rgd, rgdL] at hr
  simp only [PT.cnt, cntL, Nat.add_zero] at hl
  simp only [ev, evIf, mW, mIf, if_true, reduceCtorEq, if_false]
  refine begun_sim hs (fun hs => ?_)
  have hf := mW_fits fuel ha sc base { m with steps := m.steps + 1 } hr.2.1 he.ef (by simp only; omega)
  have h1 := iha (hk a (by simp)) sc base { m with steps := m.steps + 1 } env { st with steps := st.steps + 1 } hr.2.1 he (by simp only; omega) hs
  generalize mW fuel a sc base { m with steps := m.steps + 1 } = x at hf h1 ⊢
  generalize ev fuel a env { st with steps := st.steps + 1 } = y at h1 ⊢
  have hxl : x.2.named.length = m.named.length := hf.1.len
  rcases h1 with ⟨h1, h2, h3⟩ | hB
  ·have hx := ER.on (m := { m with steps := m.steps + 1 }) he hf.1 (Nat.le_refl _)
   obtain ⟨y1, y2⟩ := y
   cases y1 with
   | p u v => simp [Vl.has] at h3
   | n k =>
    simp only [Rep] at h2
    split
    ·rename_i hz
     simp only [Vl.num] at hz
     rw [if_pos (show x.1.n ≠ 0 by omega)]
     exact ihb (hk b (by simp)) sc (base + a.cnt) x.2 env _ hr.2.2.1 (hx.up (by omega)) (by omega) h1
    ·rename_i hz
     simp only [Vl.num, ne_eq, Decidable.not_not] at hz
     rw [if_neg (show ¬ x.1.n ≠ 0 by omega)]
     exact ihc (hk c (by simp)) sc (base + a.cnt + b.cnt) x.2 env _ hr.2.2.2.1 (hx.up (by omega)) (by omega) h1
  ·have e1 : (if y.1.num ≠ 0 then ev fuel b env y.2 else ev fuel c env y.2) = (.n 0, y.2) := by split <;> exact ev_keep fuel _ env y.2 (by rw [hB.1]; decide)
   have e2 : (if x.1.n ≠ 0 then mW fuel b sc (base + a.cnt) x.2 else mW fuel c sc (base + a.cnt + b.cnt) x.2) = (v0, x.2) := by
    split
    ·exact mW_keep fuel b (hk b (by simp)) _ _ _ (by rw [hB.2]; decide)
    ·exact mW_keep fuel c (hk c (by simp)) _ _ _ (by rw [hB.2]; decide)
   rw [e1, e2]
   exact Or.inr hB
 | @two G p k nm rg a b hkk ha hb iha ihb =>
  intro hn sc base m env st hr he hl hs
  have hk := hn.kids.2
  simp only [PT.rgd, rgdL] at hr
  simp only [PT.cnt, cntL, Nat.add_zero] at hl
  have e : mW fuel (.node p k nm rg [a, b]) sc base m = mBegun fuel m (fun m => (⟨false, mArith k (mW fuel a sc base m).1.n (mW fuel b sc (base + a.cnt) (mW fuel a sc base m).2).1.n⟩, (mW fuel b sc (base + a.cnt) (mW fuel a sc base m).2).2)) := by
   rcases hkk with rfl | rfl | rfl <;> simp only [mW, mOps, reduceCtorEq, if_false]
  have e' : ev fuel (.node p k nm rg [a, b]) env st = begun fuel st (fun st => if (ev fuel b env (ev fuel a env st).2).2.e ≠ 0 then (.n 0, (ev fuel b env (ev fuel a env st).2).2) else madeV k [(ev fuel a env st).1, (ev fuel b env (ev fuel a env st).2).1] (ev fuel b env (ev fuel a env st).2).2) := by
   rcases hkk with rfl | rfl | rfl <;> (simp only [ev, evKids, reduceCtorEq, if_false]; rfl)
  rw [e, e']
  refine begun_sim hs (fun hs => ?_)
  have hf := mW_fits fuel ha sc base { m with steps := m.steps + 1 } hr.2.1 he.ef (by simp only; omega)
  have h1 := iha (hk a (by simp)) sc base { m with steps := m.steps + 1 } env { st with steps := st.steps + 1 } hr.2.1 he (by simp only; omega) hs
  generalize mW fuel a sc base { m with steps := m.steps + 1 } = x at hf h1 ⊢
  generalize ev fuel a env { st with steps := st.steps + 1 } = y at h1 ⊢
  have hxl : x.2.named.length = m.named.length := hf.1.len
  rcases h1 with ⟨h1, h2, h3⟩ | hB
  ·have hx := (ER.on (m := { m with steps := m.steps + 1 }) he hf.1 (Nat.le_refl _)).up (show base ≤ base + a.cnt by omega)
   have k1 := ihb (hk b (by simp)) sc (base + a.cnt) x.2 env y.2 hr.2.2.1 hx (by omega) h1
   generalize mW fuel b sc (base + a.cnt) x.2 = x' at k1 ⊢
   generalize ev fuel b env y.2 = y' at k1 ⊢
   rcases k1 with ⟨k1, k2, k3⟩ | hB
   ·rw [if_neg (fun hn => hn k1.e)]
    obtain ⟨y1, y2⟩ := y
    obtain ⟨z1, z2⟩ := y'
    cases y1 with
    | p u v => simp [Vl.has] at h3
    | n i =>
     cases z1 with
     | p u v => simp [Vl.has] at k3
     | n j =>
      simp only [Rep] at h2 k2
      refine Or.inl ?_
      rcases hkk with rfl | rfl | rfl
      ·simp only [madeV, Vl.num, mArith, if_true]
       refine ⟨k1, ?_, by simp only [Vl.has]; omega⟩
       simp only [Rep, true_and]
       rw [Int.tmod_eq_emod_of_nonneg (by omega)]
       omega
      ·simp only [madeV, Vl.num, mArith, if_true, reduceCtorEq, if_false]
       refine ⟨k1, ?_, by simp only [Vl.has]; omega⟩
       simp only [Rep, true_and]
       rw [Int.tmod_eq_emod_of_nonneg (by omega)]
       omega
      ·simp only [madeV, mArith, reduceCtorEq, if_false]
       by_cases hlt : i < j
       ·have hq : x.1.n < x'.1.n := by omega
        exact ⟨k1, by simp [Rep, Vl.num, hlt, hq], by simp [Vl.has, Vl.num, hlt]⟩
       ·have hq : ¬ x.1.n < x'.1.n := by omega
        exact ⟨k1, by simp [Rep, Vl.num, hlt, hq], by simp [Vl.has, Vl.num, hlt]⟩
   ·rw [if_pos (by rw [hB.1]; decide)]
    exact Or.inr hB
  ·rw [ev_keep fuel b env y.2 (by rw [hB.1]; decide), mW_keep fuel b (hk b (by simp)) _ _ _ (by rw [hB.2]; decide)]
   simp only
   rw [if_pos (by rw [hB.1]; decide)]
   exact Or.inr hB
 | @loop G p nm rg a b c T ha hb hc iha ihb ihc =>
  intro hn sc base m env st hr he hl hs
  have hk := hn.kids.2
  simp only [PT.rgd, rgdL] at hr
  simp only [PT.cnt, cntL, Nat.add_zero] at hl
  simp only [ev, evLoop, mW, mLoop, if_true, reduceCtorEq, if_false]
  refine begun_sim hs (fun hs => ?_)
  have hf := mW_fits fuel ha sc base { m with steps := m.steps + 1 } hr.2.1 he.ef (by simp only; omega)
  have h1 := iha (hk a (by simp)) sc base { m with steps := m.steps + 1 } env { st with steps := st.steps + 1 } hr.2.1 he (by simp only; omega) hs
  generalize mW fuel a sc base { m with steps := m.steps + 1 } = x at hf h1 ⊢
  generalize ev fuel a env { st with steps := st.steps + 1 } = y at h1 ⊢
  have hxl : x.2.named.length = m.named.length := hf.1.len
  rcases h1 with ⟨h1, h2, h3⟩ | hB
  ·have hx := ER.on (m := { m with steps := m.steps + 1 }) he hf.1 (Nat.le_refl _)
   have hg := mW_fits fuel hb sc (base + a.cnt) x.2 hr.2.2.1 (hx.up (by omega)).ef (by omega)
   have k1 := ihb (hk b (by simp)) sc (base + a.cnt) x.2 env y.2 hr.2.2.1 (hx.up (by omega)) (by omega) h1
   generalize mW fuel b sc (base + a.cnt) x.2 = x' at hg k1 ⊢
   generalize ev fuel b env y.2 = y' at k1 ⊢
   have hxl' : x'.2.named.length = m.named.length := hg.1.len.trans hxl
   have hcb := cnt_pos' b
   rw [show (((base + a.cnt + b.cnt : Nat) : Int) - 1) = ((base + a.cnt + b.cnt - 1 : Nat) : Int) from by omega]
   rcases k1 with ⟨k1, k2, k3⟩ | hB
   ·have hnum : x.1.n.toNat = y.1.num := by
     obtain ⟨y1, y2⟩ := y
     cases y1 with
     | p u v => simp [Vl.has] at h3
     | n k => simp only [Rep] at h2; simp only [Vl.num]; omega
    rw [hnum]
    refine turns_sim (P := fun m' => ER m'.named m'.cells sc env G base ∧ m'.named.length = m.named.length) (fun st' m' v u hP hs' hr' ht' => ?_) _ _ _ _ _ ⟨hx.on hg.1 (by omega), hxl'⟩ k1 k2 k3
    have hsn := ER.snoc (nm := nm) (j := base + a.cnt + b.cnt - 1) (ER.up hP.1 (show base ≤ base + a.cnt + b.cnt - 1 by omega)) (Nat.le_refl _) (by omega) hr' ht'
    rw [show base + a.cnt + b.cnt - 1 + 1 = base + a.cnt + b.cnt from by omega] at hsn
    have hne := name_ext m' (base + a.cnt + b.cnt - 1) u (base + a.cnt + b.cnt - 1) 1 (by omega)
    have hg' := mW_fits fuel hc _ (base + a.cnt + b.cnt) _ hr.2.2.2.1 hsn.ef (by rw [hne.len]; omega)
    refine ⟨ihc (hk c (by simp)) _ (base + a.cnt + b.cnt) _ _ _ hr.2.2.2.1 hsn (by rw [hne.len]; omega) (hs'.name _ _), ER.on (hP.1.on hne (by omega)) hg'.1 (by omega), hg'.1.len.trans (hne.len.trans hP.2)⟩
   ·have e1 := turns_keep (fun v st => ev fuel c (env ++ [(nm, v)]) st) y.1.num y'.1 y'.2 (by rw [hB.1]; decide)
    have e2 := mTurns_keep (((base + a.cnt + b.cnt - 1 : Nat) : Int)) (fun m => mW fuel c (sc ++ [(nm, ((base + a.cnt + b.cnt - 1 : Nat) : Int))]) (base + a.cnt + b.cnt) m) x.1.n.toNat x'.1 x'.2 (by rw [hB.2]; decide)
    exact Or.inr ⟨by rw [e1]; exact hB.1, by rw [e2]; exact hB.2⟩
  ·rw [ev_keep fuel b env y.2 (by rw [hB.1]; decide), mW_keep fuel b (hk b (by simp)) _ _ _ (by rw [hB.2]; decide)]
   have e1 := turns_keep (fun v st => ev fuel c (env ++ [(nm, v)]) st) y.1.num (.n 0) y.2 (by rw [hB.1]; decide)
   have e2 := mTurns_keep ((((base + a.cnt + b.cnt : Nat) : Int) - 1)) (fun m => mW fuel c (sc ++ [(nm, (((base + a.cnt + b.cnt : Nat) : Int) - 1))]) (base + a.cnt + b.cnt) m) x.1.n.toNat v0 x.2 (by rw [hB.2]; decide)
   exact Or.inr ⟨by rw [e1]; exact hB.1, by rw [e2]; exact hB.2⟩
 | new _ _ =>
  intro hn
  exact absurd rfl hn.kids.1
end Go.Proofs.YtpicaknklgccoabGreatDoor
namespace Go.Proofs.YtpicaknklgccoabGreatDoor
open Go.RowKit
theorem use_keep (m : MM) (v : MV) (h : m.fault ≠ 0) : (m.use v).2 = m := by
 unfold MM.use; split
 ·rfl
 ·simp only; split
  ·rfl
  ·exact stop_keep m 13 h
theorem text_keep : ∀ (X : Vl) (v : MV) (m : MM), m.fault ≠ 0 → mText X v m = m
 | .n _, _, _, _ => rfl
 | .p a b, v, m, h => by
  simp only [mText]
  rw [use_keep m v h, text_keep a _ m h, text_keep b _ m h]
theorem rep_size {cells : List MC} : ∀ {X : Vl} {T : Ty}, X.has T → X.size = T.size
 | .n _, .n, _ => rfl
 | .p a b, .p _ A B, h => by
  simp only [Vl.has] at h
  simp only [Vl.size, Ty.size]
  rw [rep_size (cells := cells) h.1, rep_size (cells := cells) h.2]
 | .n _, .p _ _ _, h => by simp [Vl.has] at h
 | .p _ _, .n, h => by simp [Vl.has] at h
def evalV (y : Vl × ESt) : Value := if y.2.e ≠ 0 then .agg #[.string ⟨#[]⟩, .int .i64 0, .int .i64 0, .int .i64 0, .int .i64 0] else .agg #[.string (bs y.1.txt), .int .i64 y.2.steps, .int .i64 y.2.cells, .int .i64 y.2.cells, .int .i64 y.2.cells]
theorem own_neH {w : World} {base : Nat} {e : TypeId} {size : Nat} {v : Value} {n : Nat} {xs : List Value} (h : w.ownsRow base e size v n xs) {b : Nat} {arr : Array Value} {t : TypeId} {fr : Nat × Nat} (hb : w.heap[b]? = some (.cells arr t fr)) (ht : t ≠ e) : ∀ k, v.ownBlock = some k → k ≠ b := by
 intro k hk hkb
 rcases h.2 with ⟨h1, _⟩ | ⟨g, cap, cur, h1, _, hh, _⟩
 ·rw [h1] at hk; simp [Value.ownBlock] at hk
 ·rw [h1] at hk
  simp [Value.ownBlock] at hk
  rw [hk, hkb, hb] at hh
  simp only [Option.some.injEq, Obj.cells.injEq] at hh
  exact ht hh.2.1
theorem res_cells {w : World} {q : Nat} {S : ByteArray} {a b c d : Int} (h : w.heap[q]? = some (.cells #[.string S, .int .i64 a, .int .i64 b, .int .i64 c, .int .i64 d] 35)) :
  w.cell? ⟨q, 0, none⟩ = some (.string S) ∧ w.cell? ⟨q, 1, none⟩ = some (.int .i64 a) ∧ w.cell? ⟨q, 2, none⟩ = some (.int .i64 b) ∧ w.cell? ⟨q, 3, none⟩ = some (.int .i64 c) ∧ w.cell? ⟨q, 4, none⟩ = some (.int .i64 d) := by
 refine ⟨?_, ?_, ?_, ?_, ?_⟩ <;> (rw [blk_cell h]; rfl)
set_option maxRecDepth 100000 in
set_option maxHeartbeats 4000000 in
theorem run_ok (w : World) (x1 : Option Addr) (n1 c1 : Nat) (x2 : Option Addr) (n2 c2 : Nat) (fuel : Nat) (hf : fuel ≤ 20000) (S : ByteArray) (a b c d E : Int)
  (hrun : ∀ w', Below w.heap.size w w' → Calls Tryz.prog 48 #[treeV (.slice x1 n1 c1) (.slice x2 n2 c2), .int .i64 fuel] w' fun e w'' => e = .returned (.tuple #[.agg #[.string S, .int .i64 a, .int .i64 b, .int .i64 c, .int .i64 d], .int .i64 E]) ∧ Below w'.heap.size w' w'') :
  Calls Tryz.prog 28 #[treeV (.slice x1 n1 c1) (.slice x2 n2 c2), .int .i64 fuel] w fun e w' => e = .returned (.tuple #[.agg #[.string S, .int .i64 a, .int .i64 b, .int .i64 c, .int .i64 d], .int .i64 E]) ∧ Below w.heap.size w w' := by
 have HR : Hid _ := hrun
 clear hrun
 unfold treeV at HR
 unfold treeV
 go_enter Tryz.func28, Tryz.ntmps28
 go_wp2_with fail
 refine Calls.mono (HR.out _ (below_al (below_al (Below.refl _ _) _) _)) ?_
 rintro _ w2 ⟨rfl, hb2⟩
 have hq : w2.heap[w.heap.size + 1]? = some (.cells #[.string ⟨#[]⟩, .int .i64 0, .int .i64 0, .int .i64 0, .int .i64 0] 35) := by
  rw [hb2.block _ (by simp)]
  have := blk_new (w.alloc (.cells #[.slice x1 n1 c1, .slice x2 n2 c2] 62)) (.cells #[.string ⟨#[]⟩, .int .i64 0, .int .i64 0, .int .i64 0, .int .i64 0] 35)
  simpa using this
 have hB : Below w.heap.size w w2 := (below_al (below_al (Below.refl _ w) (.cells #[.slice x1 n1 c1, .slice x2 n2 c2] 62)) (.cells #[.string ⟨#[]⟩, .int .i64 0, .int .i64 0, .int .i64 0, .int .i64 0] 35)).trans (hb2.mono (by simp; omega))
 have HB : Hid _ := hB
 have hle : w.heap.size ≤ w.heap.size + 1 := by omega
 have HLE : Hid _ := hle
 clear hb2 hB hle HR
 generalize w.heap.size + 1 = q at *
 go_wp2_with (refine st_row rfl 35 (.tmp 4) (.tmp 16) rfl q #[.string S, .int .i64 a, .int .i64 b, .int .i64 c, .int .i64 d] rfl rfl 35 _ hq Tryz.infoRes rfl (by simp [Value.oneCell']) ?_; intro W hW hWs hWo hW1 hW2 hW3)
 obtain ⟨s0, s1, s2, s3, s4⟩ := res_cells hW
 have HBN : Hid _ := below_new HB.out HLE.out hWs hWo hW1 hW2 hW3
 clear hW hWs hWo hW1 hW2 hW3 HB hq
 go_wp2
 refine bodyPost_ret (v := .tuple #[.agg #[.string S, .int .i64 a, .int .i64 b, .int .i64 c, .int .i64 d], .int .i64 E]) (by simp [results, Tryz.results28, go_sem, s0, s1, s2, s3, s4]) rfl ⟨rfl, HBN.out⟩
theorem evalV_agg (y : Vl × ESt) : ∃ S a b c d, evalV y = .agg #[.string S, .int .i64 a, .int .i64 b, .int .i64 c, .int .i64 d] := by
 unfold evalV; split
 ·exact ⟨_, _, _, _, _, rfl⟩
 ·exact ⟨_, _, _, _, _, rfl⟩
end Go.Proofs.YtpicaknklgccoabGreatDoor
namespace Go.Proofs.YtpicaknklgccoabGreatDoor
open Go.RowKit
open Go.Lib (decDigits)
abbrev res0 : Obj := .cells #[.string ⟨#[]⟩, .int .i64 0, .int .i64 0, .int .i64 0, .int .i64 0] 35 (0, 0)
theorem below_setZ {B : Nat} {w W : World} (h : Below B w W) (p : Addr) (hp : B ≤ p.block) (x : Value) : Below B w (W.setCell p x) := h.setCell hp x
set_option maxRecDepth 100000 in
set_option maxHeartbeats 1000000 in
theorem worked_any (w : World) (x : KE) (t p fuel : Nat) (hfu : fuel ≤ 20000) (hT : KT [] x t) (hk : KIn w x p) (hit : ∀ W, Below w.heap.size w W → ItoaOk W) (R : Vl × ESt) (hR : R = ev fuel (x.pt []) [] ⟨0, 0, 0⟩) :
  Calls Tryz.prog 14 #[.pointer (some ⟨p, 0, none⟩), .int .i64 fuel] w fun e w' => e = .returned (.tuple #[evalV R, .bool (decide (R.2.e = 0))]) ∧ Below w.heap.size w w' := by
 have hb0 : Below w.heap.size w (w.alloc res0) := below_alZ (Below.refl _ _) _
 have hs0 : (w.alloc res0).heap.size = w.heap.size + 1 := by simp
 have hin : WkIn (w.alloc res0) ((w.alloc res0).alloc (.cells (wkCells (.slice none 0 0) fuel ⟨0, 0, 0⟩) 70 (0, 0))) (w.heap.size + 1) [] [] fuel ⟨0, 0, 0⟩ (.slice none 0 0) := by
  refine ⟨⟨below_alZ (Below.refl _ _) _, by omega, ?_, World.ownsRow_nil _ _ _ _, by simp [Value.ownBlock]⟩, rfl, fun i v p h => by simp at h⟩
  have := blk_new (w.alloc res0) (.cells (wkCells (.slice none 0 0) fuel ⟨0, 0, 0⟩) 70 (0, 0))
  rw [hs0] at this; exact this
 have hs : SOkZ fuel ⟨0, 0, 0⟩ := ⟨hfu, Nat.zero_le _, Nat.le_refl _⟩
 have henv : EnvHas (envV []) (envT []) := fun s T h => by simp [look, envT] at h
 have hgo := kgo_any (w0 := w.alloc res0) (w.heap.size + 1) fuel hT (by simp) p [] [] ⟨0, 0, 0⟩ _ _ (hk.below hb0) hin (fun _ => henv) rfl hs
 have hres := kev_res (fuel := fuel) hT (by simp) [] ⟨0, 0, 0⟩ (fun _ => henv)
 rw [show envV [] = ([] : VEnv) from rfl, ← hR] at hgo hres
 have HGO : Hid _ := hgo
 have HRES : Hid _ := hres
 have HIT : Hid _ := hit
 have HB0 : Hid _ := hb0
 have hcl := (hs.on (x.pt []) [])
 rw [← hR] at hcl
 have HQ0 : Hid ((w.alloc res0).heap[w.heap.size]? = some res0) := blk_new w res0
 clear hgo hin hs henv hres hit hb0 hk hR hT
 by_cases he : R.2.e = 0
 ·have hV : evalV R = .agg #[.string (bs R.1.txt), .int .i64 R.2.steps, .int .i64 R.2.cells, .int .i64 R.2.cells, .int .i64 R.2.cells] := by unfold evalV; rw [if_neg (fun h => h he)]
  rw [hV, show decide (R.2.e = 0) = true by simp [he]]
  have HE : Hid _ := he
  clear hV he
  go_enter Tryz.func14, Tryz.ntmps14
  go_wp2_with fail
  refine Calls.mono HGO.out ?_
  rintro _ w2 ⟨r, nv2, rfl, hfr, hin2, hkv⟩
  have hyl := blk_lt hin2.ob.y
  have y2 : w2.cell? ⟨w.heap.size + 1, 2, none⟩ = some (.int .i64 R.2.steps) := by rw [blk_cell hin2.ob.y]; rfl
  have y3 : w2.cell? ⟨w.heap.size + 1, 3, none⟩ = some (.int .i64 R.2.cells) := by rw [blk_cell hin2.ob.y]; rfl
  have y4 : w2.cell? ⟨w.heap.size + 1, 4, none⟩ = some (.bool false) := by rw [blk_cell hin2.ob.y]; simp [wkCells, HE.out]
  have hq : w2.heap[w.heap.size]? = some res0 := by rw [hin2.ob.b0.block _ (by omega)]; exact HQ0.out
  have HB2 : Hid (Below w.heap.size w w2) := HB0.out.trans (hin2.ob.b0.mono HB0.out.size)
  have HTL : Hid (∀ W, Below w2.heap.size w2 W → Calls Tryz.prog 9 #[.pointer (some ⟨r, 0, none⟩)] W fun e w' => e = .returned (.string (bs R.1.txt)) ∧ Below W.heap.size W w') := fun W hW => ktold_any R.1 (tyZ t) r W (HRES.out.1 HE.out).2 (by have := tyZ_size t; omega) (hkv.below hW) (fun W' hW' => HIT.out W' (HB2.out.trans ((hW.trans (hW'.mono hW.size)).mono HB2.out.size)))
  have hS : ∀ W, Below w2.heap.size w2 W → W.cell? ⟨w.heap.size + 1, 2, none⟩ = some (.int .i64 R.2.steps) ∧ W.cell? ⟨w.heap.size + 1, 3, none⟩ = some (.int .i64 R.2.cells) := fun W hW => ⟨(hW.cell (p := ⟨w.heap.size + 1, 2, none⟩) hyl).trans y2, (hW.cell (p := ⟨w.heap.size + 1, 3, none⟩) hyl).trans y3⟩
  have hS2 : ∀ W, Below w2.heap.size w2 W → W.cell? ⟨w.heap.size, 0, none⟩ = some (.string ⟨#[]⟩) ∧ W.cell? ⟨w.heap.size, 1, none⟩ = some (.int .i64 0) ∧ W.cell? ⟨w.heap.size, 2, none⟩ = some (.int .i64 0) ∧ W.cell? ⟨w.heap.size, 3, none⟩ = some (.int .i64 0) ∧ W.cell? ⟨w.heap.size, 4, none⟩ = some (.int .i64 0) ∧ W.frozen? ⟨w.heap.size, 0, none⟩ = false ∧ W.frozen? ⟨w.heap.size, 1, none⟩ = false ∧ W.frozen? ⟨w.heap.size, 2, none⟩ = false ∧ W.frozen? ⟨w.heap.size, 3, none⟩ = false ∧ W.frozen? ⟨w.heap.size, 4, none⟩ = false ∧ w.heap.size < W.heap.size ∧ w.heap.size + 1 < W.heap.size := fun W hW => by
   have hqW := (hW.block _ (blk_lt hq)).trans hq
   exact ⟨by rw [blk_cell hqW]; rfl, by rw [blk_cell hqW]; rfl, by rw [blk_cell hqW]; rfl, by rw [blk_cell hqW]; rfl, by rw [blk_cell hqW]; rfl, blk_free hqW 0, blk_free hqW 1, blk_free hqW 2, blk_free hqW 3, blk_free hqW 4, blk_lt hqW, by have := hW.size; omega⟩
  have hql := blk_lt hq
  have hYQ : w.heap.size + 1 ≠ w.heap.size := by omega
  have hQY : w.heap.size ≠ w.heap.size + 1 := by omega
  have HS : Hid _ := hS
  have HS2 : Hid _ := hS2
  have HQ : Hid _ := hq
  clear hfr hin2 hkv hq hS hS2 HGO HRES HIT HQ0 HB0 y2 y3
  generalize w.heap.size + 1 = Y at *
  generalize hQE : w.heap.size = Q at *
  have HQE : Hid _ := hQE
  clear hQE
  go_wp2_with fail
  have HSa : Hid (w2.cell? ⟨Y, 2, none⟩ = some (.int .i64 R.2.steps) ∧ w2.cell? ⟨Y, 3, none⟩ = some (.int .i64 R.2.cells)) := HS.out w2 (Below.refl _ _)
  have HSb : Hid (∀ m, (w2.drewN m).cell? ⟨Y, 2, none⟩ = some (.int .i64 R.2.steps) ∧ (w2.drewN m).cell? ⟨Y, 3, none⟩ = some (.int .i64 R.2.cells)) := fun m => HS.out _ (below_drewO w2 m)
  have HSc : Hid (w2.drew.cell? ⟨Y, 2, none⟩ = some (.int .i64 R.2.steps) ∧ w2.drew.cell? ⟨Y, 3, none⟩ = some (.int .i64 R.2.cells)) := HS.out w2.drew ⟨rfl, rfl, rfl, Nat.le_refl _, fun _ _ => rfl⟩
  go_region_held3 (fun W => W.cell? ⟨Y, 2, none⟩ = some (.int .i64 R.2.steps) ∧ W.cell? ⟨Y, 3, none⟩ = some (.int .i64 R.2.cells)) (first | with_reducible exact HSa.out | with_reducible exact HSb.out _ | with_reducible exact HSc.out | with_reducible exact ⟨t2, t3⟩ | go_keep) (first | (go_at_call 9; refine Calls.mono (HTL.out _ ?_) ?_; exact ⟨rfl, rfl, rfl, Nat.le_refl _, fun _ _ => rfl⟩; rintro e w3 ⟨rfl, hb3⟩; obtain ⟨t2, t3⟩ := HS.out w3 ⟨hb3.os, hb3.tape, hb3.output, hb3.size, fun k hk => hb3.block k hk⟩; obtain ⟨r0, r1, r2, r3, r4, g0, g1, g2, g3, g4, l1, l2⟩ := HS2.out w3 ⟨hb3.os, hb3.tape, hb3.output, hb3.size, fun k hk => hb3.block k hk⟩))
  all_goals
   have hq3 : w3.heap[Q]? = some res0 := (hb3.block Q hql).trans HQ.out
   have hB3 : Below Q w w3 := HB2.out.trans ((⟨hb3.os, hb3.tape, hb3.output, hb3.size, fun k hk => hb3.block k hk⟩ : Below w2.heap.size w2 w3).mono (by omega))
   obtain ⟨W7, hE7⟩ : ∃ W7, W7 = (((((w3.setCell ⟨Q, 0, none⟩ (.string (bs R.1.txt))).setCell ⟨Q, 1, none⟩ (.int .i64 R.2.steps)).setCell ⟨Q, 2, none⟩ (.int .i64 R.2.cells)).setCell ⟨Q, 3, none⟩ (.int .i64 R.2.cells)).setCell ⟨Q, 4, none⟩ (.int .i64 R.2.cells)) := ⟨_, rfl⟩
   have hN7 : W7.heap[Q]? = some (.cells #[.string (bs R.1.txt), .int .i64 R.2.steps, .int .i64 R.2.cells, .int .i64 R.2.cells, .int .i64 R.2.cells] 35 (0, 0)) := by
    rw [hE7]; exact (blk_set (blk_set (blk_set (blk_set (blk_set hq3 0 _) 1 _) 2 _) 3 _) 4 _).trans rfl
   have HB7 : Hid (Below Q w W7) := by
    show Below Q w W7
    rw [hE7]; exact below_setZ (below_setZ (below_setZ (below_setZ (below_setZ hB3 _ (Nat.le_refl _) _) _ (Nat.le_refl _) _) _ (Nat.le_refl _) _) _ (Nat.le_refl _) _) _ (Nat.le_refl _) _
   rw [← hE7]
   obtain ⟨s0, s1, s2, s3, s4⟩ := res_cells hN7
   clear hE7 hN7 hq3 hB3 hb3 t2 t3 r0 r1 r2 r3 r4 g0 g1 g2 g3 g4 l1 l2 y4
   go_wp2
   refine bodyPost_ret (v := .tuple #[.agg #[.string (bs R.1.txt), .int .i64 R.2.steps, .int .i64 R.2.cells, .int .i64 R.2.cells, .int .i64 R.2.cells], .bool true]) (by simp [results, Tryz.results14, go_sem, s0, s1, s2, s3, s4]) rfl ⟨rfl, by rw [HQE.out]; exact HB7.out⟩
 ·have hV : evalV R = .agg #[.string ⟨#[]⟩, .int .i64 0, .int .i64 0, .int .i64 0, .int .i64 0] := by unfold evalV; rw [if_pos he]
  rw [hV, show decide (R.2.e = 0) = false by simp [he]]
  have HE : Hid _ := he
  clear hV he
  go_enter Tryz.func14, Tryz.ntmps14
  go_wp2_with fail
  refine Calls.mono HGO.out ?_
  rintro _ w2 ⟨r, nv2, rfl, hfr, hin2, hkv⟩
  have hyl := blk_lt hin2.ob.y
  have y4 : w2.cell? ⟨w.heap.size + 1, 4, none⟩ = some (.bool true) := by
   have hne : decide (R.2.e ≠ 0) = true := decide_eq_true HE.out
   rw [blk_cell hin2.ob.y]
   show some (Value.bool (decide (R.2.e ≠ 0))) = _
   rw [hne]
  have hq : w2.heap[w.heap.size]? = some res0 := by rw [hin2.ob.b0.block _ (by omega)]; exact HQ0.out
  have HB2 : Hid (Below w.heap.size w w2) := HB0.out.trans (hin2.ob.b0.mono HB0.out.size)
  clear hfr hin2 hkv HGO HRES HIT HQ0 HB0
  go_wp2_with (refine st_row rfl 35 (.tmp 4) (.tmp 18) rfl w.heap.size #[.string ⟨#[]⟩, .int .i64 0, .int .i64 0, .int .i64 0, .int .i64 0] rfl rfl 35 _ hq Tryz.infoRes rfl (by simp [Value.oneCell']) ?_; intro W hW hWs hWo hW1 hW2 hW3)
  obtain ⟨s0, s1, s2, s3, s4⟩ := res_cells hW
  have HBN : Hid _ := below_new HB2.out (Nat.le_refl _) hWs hWo hW1 hW2 hW3
  clear hW hWs hWo hW1 hW2 hW3 HB2 hq
  go_wp2
  refine bodyPost_ret (v := .tuple #[.agg #[.string ⟨#[]⟩, .int .i64 0, .int .i64 0, .int .i64 0, .int .i64 0], .bool false]) (by simp [results, Tryz.results14, go_sem, s0, s1, s2, s3, s4]) rfl ⟨rfl, HBN.out⟩
def E12 (st : ESt) : Prop := st.e = 0 ∨ st.e = 12
theorem begun_e12 {fuel : Nat} {st : ESt} {f : ESt → Vl × ESt} (h : E12 st) (hf : ∀ st', E12 st' → E12 (f st').2) : E12 (begun fuel st f).2 := by
 unfold begun
 split
 ·exact h
 ·split
  ·exact Or.inr rfl
  ·exact hf _ h
theorem turns_e12 {f : Vl → ESt → Vl × ESt} (hf : ∀ v st, E12 st → E12 (f v st).2) : ∀ (k : Nat) (v : Vl) (st : ESt), E12 st → E12 (turns f k v st).2
 | 0, _, _, h => h
 | k + 1, v, st, h => by
  simp only [turns]
  split
  ·exact h
  ·exact turns_e12 hf k _ _ (hf v st h)
theorem made_e12 (k : Kw) (vs : List Vl) (st : ESt) : (madeV k vs st).2.e = st.e := by unfold madeV; split <;> rfl
mutual
theorem ev_e12 (fuel : Nat) : ∀ (t : PT) (env : VEnv) (st : ESt), E12 st → E12 (ev fuel t env st).2
 | .num _ _, _, _, h => by unfold ev; exact begun_e12 h (fun _ h => h)
 | .name _ _, _, _, h => by unfold ev; exact begun_e12 h (fun _ h => h)
 | .node _ k nm _ kids, env, st, h => by
  unfold ev
  refine begun_e12 h (fun st' h' => ?_)
  split
  ·exact evLet_e12 fuel nm kids env st' h'
  ·split
   ·exact evIf_e12 fuel kids env st' h'
   ·split
    ·exact evLoop_e12 fuel nm kids env st' h'
    ·have hk := evKids_e12 fuel kids env st' h'
     simp only
     split
     ·exact hk
     ·unfold E12; rw [made_e12]; exact hk
theorem evKids_e12 (fuel : Nat) : ∀ (ts : List PT) (env : VEnv) (st : ESt), E12 st → E12 (evKids fuel ts env st).2
 | [], _, _, h => h
 | a :: r, env, st, h => by simp only [evKids]; exact evKids_e12 fuel r env _ (ev_e12 fuel a env st h)
theorem evLet_e12 (fuel : Nat) (nm : List UInt8) : ∀ (ts : List PT) (env : VEnv) (st : ESt), E12 st → E12 (evLet fuel nm ts env st).2
 | [], _, _, h => h
 | [_], _, _, h => h
 | [a, b], env, st, h => by simp only [evLet]; exact ev_e12 fuel b _ _ (ev_e12 fuel a env st h)
 | _ :: _ :: _ :: _, _, _, h => h
theorem evIf_e12 (fuel : Nat) : ∀ (ts : List PT) (env : VEnv) (st : ESt), E12 st → E12 (evIf fuel ts env st).2
 | [], _, _, h => h
 | [_], _, _, h => h
 | [_, _], _, _, h => h
 | [a, b, c], env, st, h => by
  simp only [evIf]
  split
  ·exact ev_e12 fuel b env _ (ev_e12 fuel a env st h)
  ·exact ev_e12 fuel c env _ (ev_e12 fuel a env st h)
 | _ :: _ :: _ :: _ :: _, _, _, h => h
theorem evLoop_e12 (fuel : Nat) (nm : List UInt8) : ∀ (ts : List PT) (env : VEnv) (st : ESt), E12 st → E12 (evLoop fuel nm ts env st).2
 | [], _, _, h => h
 | [_], _, _, h => h
 | [_, _], _, _, h => h
 | [a, b, c], env, st, h => by
  simp only [evLoop]
  exact turns_e12 (fun v st h => ev_e12 fuel c _ st h) _ _ _ (ev_e12 fuel b env _ (ev_e12 fuel a env st h))
 | _ :: _ :: _ :: _ :: _, _, _, h => h
end
set_option maxRecDepth 100000 in
theorem ksame_any (S : ByteArray) (a b c d : Int) (w : World) : Calls Tryz.prog 15 #[.agg #[.string S, .int .i64 a, .int .i64 b, .int .i64 c, .int .i64 d], .agg #[.string S, .int .i64 a, .int .i64 b, .int .i64 c, .int .i64 d]] w fun v w' => v = .returned (.bool true) ∧ Below w.heap.size w w' := by
 have q0 : (S.toList == S.toList) = true := by simp
 have q1 : (a == a) = true := by simp
 have q2 : (b == b) = true := by simp
 have q3 : (c == c) = true := by simp
 have q4 : (d == d) = true := by simp
 go_enter Tryz.func15, Tryz.ntmps15
 go_wp2
 go_ret
 exact ⟨rfl, ((Below.refl _ w).alloc (Nat.le_refl _) _).alloc (by simp) _⟩
set_option maxRecDepth 100000 in
theorem knought_any (w : World) : Calls Tryz.prog 22 #[.agg #[.string ⟨#[]⟩, .int .i64 0, .int .i64 0, .int .i64 0, .int .i64 0]] w fun v w' => v = .returned (.bool true) ∧ Below w.heap.size w w' := by
 have HS : Hid _ := fun W => ksame_any ⟨#[]⟩ 0 0 0 0 W
 have hq := blk_new w res0
 obtain ⟨s0, s1, s2, s3, s4⟩ := res_cells hq
 have hl := blk_lt hq
 have HB : Hid _ := below_alZ (Below.refl _ w) res0
 clear hq
 go_enter Tryz.func22, Tryz.ntmps22
 go_wp2_with fail
 refine Calls.mono (HS.out _) ?_
 rintro _ w2 ⟨rfl, hb⟩
 have HB2 : Hid _ := HB.out.trans (hb.mono HB.out.size)
 clear hb HS
 go_wp2
 go_ret
 exact ⟨rfl, HB2.out⟩
end Go.Proofs.YtpicaknklgccoabGreatDoor
namespace Go.Proofs.YtpicaknklgccoabGreatDoor
def paint (r : Nat) : Ty → Ty
 | .n => .n
 | .p _ a b => .p r (paint r a) (paint r b)
theorem paint_size (r : Nat) : ∀ t : Ty, (paint r t).size = t.size
 | .n => rfl
 | .p _ a b => by simp only [paint, Ty.size, paint_size r a, paint_size r b]
mutual
def PT.allr (r : Int) : PT → Prop
 | .num _ _ => True
 | .name _ _ => True
 | .node _ k _ rg kids => k ≠ .new ∧ (k = .pair → valueL rg = r) ∧ allrL r kids
def allrL (r : Int) : List PT → Prop
 | [] => True
 | t :: ts => t.allr r ∧ allrL r ts
end
structure PlR (T : List Ty) (ns : List NR) (A : List Ty) (U : Ty) : Prop where
 pl : plT T ns = (0, 0)
 sz : SzOk T ns
 run : tyRun T ns = T ++ (A ++ [U])
theorem known_last (T A X : List Ty) (U : Ty) (c : Nat) (hc : c = A.length + 1) : knownT (T ++ (A ++ [U]) ++ X) (((T.length + c : Nat) : Int) - 1) = U := by
 have e : (((T.length + c : Nat) : Int) - 1) = ((T.length + A.length : Nat) : Int) := by omega
 rw [e]
 refine known_more X ?_
 rw [List.getElem?_append_right (by omega), Nat.add_sub_cancel_left, List.getElem?_append_right (by omega), Nat.sub_self]; rfl
theorem PlR.root {T : List Ty} {ks : List NR} {A : List Ty} (n : NR) (U : Ty) (hp : plT T ks = (0, 0)) (hs : SzOk T ks) (hr : tyRun T ks = T ++ A) (hU : tyR (T ++ A) n = U) (hv : vfT (T ++ A ++ [U]) n = 0) (h4 : n.form = 4 → (Ty.p 0 (knownT (T ++ A) n.p0) (knownT (T ++ A) n.p1)).size ≤ 63) : PlR T (ks ++ [n]) A U := by
 refine ⟨?_, ?_, ?_⟩
 ·rw [plT_app, hp, if_neg (by simp), hr]
  simp only [plT, hU, hv, ne_eq, not_true_eq_false, if_false]
 ·refine SzOk_app _ _ _ hs ?_
  rw [hr]
  simp only [SzOk, and_true]
  exact h4
 ·rw [tyRun_app, hr]
  simp only [tyRun, hU, List.append_assoc]
theorem PlR.two {T : List Ty} {n1 n2 : List NR} {A B : List Ty} {U V : Ty} (h : PlR T n1 A U) (g : PlR (T ++ (A ++ [U])) n2 B V) : plT T (n1 ++ n2) = (0, 0) ∧ SzOk T (n1 ++ n2) ∧ tyRun T (n1 ++ n2) = T ++ ((A ++ [U]) ++ (B ++ [V])) := by
 refine ⟨?_, ?_, ?_⟩
 ·rw [plT_app, h.pl, if_neg (by simp), h.run, g.pl]
 ·exact SzOk_app _ _ _ h.sz (by rw [h.run]; exact g.sz)
 ·rw [tyRun_app, h.run, g.run, List.append_assoc]
theorem PlR.three {T : List Ty} {n1 n2 n3 : List NR} {A B C : List Ty} {U V W : Ty} (h : PlR T n1 A U) (g : PlR (T ++ (A ++ [U])) n2 B V) (k : PlR (T ++ (A ++ [U]) ++ (B ++ [V])) n3 C W) : plT T (n1 ++ (n2 ++ n3)) = (0, 0) ∧ SzOk T (n1 ++ (n2 ++ n3)) ∧ tyRun T (n1 ++ (n2 ++ n3)) = T ++ ((A ++ [U]) ++ ((B ++ [V]) ++ (C ++ [W]))) := by
 have g2 := g.two k
 refine ⟨?_, ?_, ?_⟩
 ·rw [plT_app, h.pl, if_neg (by simp), h.run, g2.1]
 ·exact SzOk_app _ _ _ h.sz (by rw [h.run]; exact g2.2.1)
 ·rw [tyRun_app, h.run, g2.2.2, List.append_assoc]
theorem kn2 (T A B X : List Ty) (U V : Ty) (ca cb : Nat) (hA : A.length + 1 = ca) (hB : B.length + 1 = cb) :
  knownT (T ++ ((A ++ [U]) ++ (B ++ [V])) ++ X) (((T.length + ca : Nat) : Int) - 1) = U ∧ knownT (T ++ ((A ++ [U]) ++ (B ++ [V])) ++ X) (((T.length + ca + cb : Nat) : Int) - 1) = V := by
 constructor
 ·have := known_last T A ((B ++ [V]) ++ X) U ca hA.symm
  simpa only [List.append_assoc] using this
 ·have := known_last (T ++ (A ++ [U])) B X V cb hB.symm
  have hl : (T ++ (A ++ [U])).length = T.length + ca := by simp; omega
  rw [hl] at this
  simpa only [List.append_assoc] using this
theorem kn3 (T A B C X : List Ty) (U V W : Ty) (ca cb cc : Nat) (hA : A.length + 1 = ca) (hB : B.length + 1 = cb) (hC : C.length + 1 = cc) :
  knownT (T ++ ((A ++ [U]) ++ ((B ++ [V]) ++ (C ++ [W]))) ++ X) (((T.length + ca : Nat) : Int) - 1) = U ∧ knownT (T ++ ((A ++ [U]) ++ ((B ++ [V]) ++ (C ++ [W]))) ++ X) (((T.length + ca + cb : Nat) : Int) - 1) = V ∧ knownT (T ++ ((A ++ [U]) ++ ((B ++ [V]) ++ (C ++ [W]))) ++ X) (((T.length + ca + cb + cc : Nat) : Int) - 1) = W := by
 have h1 := kn2 T A B ((C ++ [W]) ++ X) U V ca cb hA hB
 have h2 := known_last (T ++ (A ++ [U]) ++ (B ++ [V])) C X W cc hC.symm
 have hl : (T ++ (A ++ [U]) ++ (B ++ [V])).length = T.length + ca + cb := by simp; omega
 rw [hl] at h2
 refine ⟨?_, ?_, ?_⟩
 ·simpa only [List.append_assoc] using h1.1
 ·simpa only [List.append_assoc] using h1.2
 ·simpa only [List.append_assoc] using h2
def EnvP (r : Nat) (G : TEnv) (sc : Sc) (T : List Ty) : Prop := ∀ s U, look G s = some U → ∃ i : Nat, findS sc s = (i : Int) ∧ T[i]? = some (paint r U)
theorem EnvP.more {r : Nat} {G : TEnv} {sc : Sc} {T : List Ty} (h : EnvP r G sc T) (X : List Ty) : EnvP r G sc (T ++ X) := fun s U hs => by
 obtain ⟨i, h1, h2⟩ := h s U hs
 exact ⟨i, h1, by rw [List.getElem?_append_left (List.getElem?_eq_some_iff.1 h2).1]; exact h2⟩
theorem findS_snocO (sc : Sc) (nm : List UInt8) (i : Int) (s : List UInt8) : findS (sc ++ [(nm, i)]) s = if nm = s then i else findS sc s := by
 unfold findS
 rw [List.reverse_append, List.reverse_singleton, List.singleton_append, List.find?_cons]
 by_cases h : nm = s
 ·subst h; simp
 ·have : (nm == s) = false := by rw [beq_eq_false_iff_ne]; exact h
  simp only [this, if_neg h]
theorem EnvP.snoc {r : Nat} {G : TEnv} {sc : Sc} {T A : List Ty} {nm : List UInt8} {U : Ty} {c : Nat} (h : EnvP r G sc T) (hc : c = A.length + 1) : EnvP r (G ++ [(nm, U)]) (sc ++ [(nm, ((T.length + c : Nat) : Int) - 1)]) (T ++ (A ++ [paint r U])) := fun s V hs => by
 rw [look_snoc'] at hs
 rw [findS_snocO]
 by_cases e : nm = s
 ·rw [if_pos e] at hs ⊢
  simp only [Option.some.injEq] at hs
  subst hs
  refine ⟨T.length + A.length, by omega, ?_⟩
  rw [List.getElem?_append_right (by omega), Nat.add_sub_cancel_left, List.getElem?_append_right (by omega), Nat.sub_self]; rfl
 ·rw [if_neg e] at hs ⊢
  exact h.more _ s V hs
theorem WT.plr {r : Nat} {G : TEnv} {e : PT} {U : Ty} (h : WT G e U) : ∀ (sc : Sc) (T : List Ty) (ns : List NR), NA sc e T.length ns → EnvP r G sc T → e.allr r → ∃ A, A.length + 1 = e.cnt ∧ PlR T ns A (paint r U) := by
 induction h with
 | num =>
  intro sc T ns hna _ _
  simp only [NA] at hna
  subst hna
  refine ⟨[], rfl, PlR.root (ks := []) _ _ rfl trivial (by simp [tyRun]) ?_ ?_ ?_⟩
  ·simp [tyR, paint]
  ·simp [vfT]
  ·simp
 | name hs =>
  intro sc T ns hna hE _
  simp only [NA] at hna
  subst hna
  obtain ⟨i, h1, h2⟩ := hE _ _ hs
  refine ⟨[], rfl, PlR.root (ks := []) _ _ rfl trivial (by simp [tyRun]) ?_ ?_ ?_⟩
  ·simp only [tyR, if_true, h1]; rw [List.append_nil]; have := known_more [] h2; rw [List.append_nil] at this; exact this
  ·simp [vfT]
  ·simp
 | @let_ G p nm rg a b UA UB ha hb iha ihb =>
  intro sc T ns hna hE hr
  simp only [PT.allr, allrL] at hr
  simp only [NA, bodK, NAs, Bool.false_eq_true, if_false] at hna
  obtain ⟨ks, beh, ⟨a1, c1, hn1, ⟨a2, c2, hn2, ⟨_, rfl⟩, rfl⟩, rfl⟩, rfl⟩ := hna
  obtain ⟨A, hA, h1⟩ := iha sc T a1 hn1 hE hr.2.2.1
  obtain ⟨B, hB, h2⟩ := ihb _ (T ++ (A ++ [paint r _])) a2 (by simp only [if_true] at hn2; rw [List.length_append, List.length_append, List.length_singleton, hA]; exact hn2) (hE.snoc hA.symm) hr.2.2.2.1
  obtain ⟨t1, t2, t3⟩ := h1.two h2
  rw [List.append_nil]
  have hk := kn2 T A B [] (paint r UA) (paint r UB) _ _ hA hB
  rw [List.append_nil] at hk
  refine ⟨_, ?_, PlR.root _ _ t1 t2 t3 ?_ ?_ ?_⟩
  ·simp only [PT.cnt, cntL, List.length_append, List.length_singleton]; omega
  ·simp only [tyR, fk_let, partsL, List.getD_cons_succ, List.getD_cons_zero]
   exact hk.2
  ·simp [vfT, fk_let]
  ·simp [fk_let]
 | @pair G p nm rg a b UA UB ha hb hsz iha ihb =>
  intro sc T ns hna hE hr
  simp only [PT.allr, allrL] at hr
  simp only [NA, bodK, NAs, Bool.false_eq_true, if_false] at hna
  obtain ⟨ks, beh, ⟨a1, c1, hn1, ⟨a2, c2, hn2, ⟨_, rfl⟩, rfl⟩, rfl⟩, rfl⟩ := hna
  obtain ⟨A, hA, h1⟩ := iha sc T a1 hn1 hE hr.2.2.1
  obtain ⟨B, hB, h2⟩ := ihb _ (T ++ (A ++ [paint r _])) a2 (by rw [List.length_append, List.length_append, List.length_singleton, hA]; exact hn2) (hE.more _) hr.2.2.2.1
  obtain ⟨t1, t2, t3⟩ := h1.two h2
  rw [List.append_nil]
  have hk := kn2 T A B [] (paint r UA) (paint r UB) _ _ hA hB
  rw [List.append_nil] at hk
  have hrr := hr.2.1 trivial
  refine ⟨_, ?_, PlR.root _ _ t1 t2 t3 ?_ ?_ ?_⟩
  ·simp only [PT.cnt, cntL, List.length_append, List.length_singleton]; omega
  ·simp only [tyR, fk_pair, partsL, List.getD_cons_succ, List.getD_cons_zero, hrr]
   simp only [Nat.reduceEqDiff, if_false, if_true]
   rw [hk.1, hk.2]
   simp only [paint, Int.toNat_natCast]
  ·simp [vfT, fk_pair]
  ·intro _
   simp only [partsL, List.getD_cons_succ, List.getD_cons_zero]
   rw [hk.1, hk.2]
   simp only [Ty.size, paint_size] at hsz ⊢
   exact hsz
 | @fst G p nm rg a UA UB ha iha =>
  intro sc T ns hna hE hr
  simp only [PT.allr, allrL] at hr
  simp only [NA, bodK, NAs, Bool.false_eq_true, if_false] at hna
  obtain ⟨ks, beh, ⟨a1, c1, hn1, ⟨_, rfl⟩, rfl⟩, rfl⟩ := hna
  obtain ⟨A, hA, h1⟩ := iha sc T a1 hn1 hE hr.2.2.1
  rw [List.append_nil]
  have hk := known_last T A [] (paint r (.p 0 UA UB)) _ hA.symm
  rw [List.append_nil] at hk
  refine ⟨_, ?_, PlR.root _ _ h1.pl h1.sz h1.run ?_ ?_ ?_⟩
  ·simp only [PT.cnt, cntL, List.length_append, List.length_singleton]; omega
  ·simp only [tyR, fk_fst, partsL, List.getD_cons_zero]
   simp only [Nat.reduceEqDiff, if_false, if_true]
   rw [hk]; rfl
  ·simp [vfT, fk_fst]
  ·simp [fk_fst]
 | @snd G p nm rg a UA UB ha iha =>
  intro sc T ns hna hE hr
  simp only [PT.allr, allrL] at hr
  simp only [NA, bodK, NAs, Bool.false_eq_true, if_false] at hna
  obtain ⟨ks, beh, ⟨a1, c1, hn1, ⟨_, rfl⟩, rfl⟩, rfl⟩ := hna
  obtain ⟨A, hA, h1⟩ := iha sc T a1 hn1 hE hr.2.2.1
  rw [List.append_nil]
  have hk := known_last T A [] (paint r (.p 0 UA UB)) _ hA.symm
  rw [List.append_nil] at hk
  refine ⟨_, ?_, PlR.root _ _ h1.pl h1.sz h1.run ?_ ?_ ?_⟩
  ·simp only [PT.cnt, cntL, List.length_append, List.length_singleton]; omega
  ·simp only [tyR, fk_snd, partsL, List.getD_cons_zero]
   simp only [Nat.reduceEqDiff, if_false, if_true]
   rw [hk]; rfl
  ·simp [vfT, fk_snd]
  ·simp [fk_snd]
 | @if_ G p nm rg a b c U ha hb hc iha ihb ihc =>
  intro sc T ns hna hE hr
  simp only [PT.allr, allrL] at hr
  simp only [NA, bodK, NAs, Bool.false_eq_true, if_false] at hna
  obtain ⟨ks, beh, ⟨a1, c1, hn1, ⟨a2, c2, hn2, ⟨a3, c3, hn3, ⟨_, rfl⟩, rfl⟩, rfl⟩, rfl⟩, rfl⟩ := hna
  obtain ⟨A, hA, h1⟩ := iha sc T a1 hn1 hE hr.2.2.1
  obtain ⟨B, hB, h2⟩ := ihb _ (T ++ (A ++ [paint r _])) a2 (by rw [List.length_append, List.length_append, List.length_singleton, hA]; exact hn2) (hE.more _) hr.2.2.2.1
  have hl1 : (T ++ (A ++ [paint r .n])).length = T.length + a.cnt := by rw [List.length_append, List.length_append, List.length_singleton, hA]
  have hl2 : (T ++ (A ++ [paint r .n]) ++ (B ++ [paint r U])).length = T.length + a.cnt + b.cnt := by rw [List.length_append, hl1, List.length_append, List.length_singleton, hB]
  obtain ⟨C, hC, h3⟩ := ihc sc (T ++ (A ++ [paint r .n]) ++ (B ++ [paint r U])) a3 (by rw [hl2]; exact hn3) ((hE.more _).more _) hr.2.2.2.2.1
  obtain ⟨t1, t2, t3⟩ := h1.three h2 h3
  rw [List.append_nil]
  have hk := fun X => kn3 T A B C X (paint r .n) (paint r U) (paint r U) _ _ _ hA hB hC
  have hk0 := hk []
  rw [List.append_nil] at hk0
  refine ⟨_, ?_, PlR.root _ _ t1 t2 t3 ?_ ?_ ?_⟩
  ·simp only [PT.cnt, cntL, List.length_append, List.length_singleton]; omega
  ·simp only [tyR, fk_if, partsL, List.getD_cons_succ, List.getD_cons_zero]
   simp only [Nat.reduceEqDiff, if_false, if_true]
   exact hk0.2.1
  ·simp only [vfT, fk_if, true_or, if_true, partsL, List.getD_cons_succ, List.getD_cons_zero]
   rw [(hk [paint r U]).2.1, (hk [paint r U]).2.2, if_pos rfl]
  ·simp [fk_if]
 | @two G p k nm rg a b hkk ha hb iha ihb =>
  intro sc T ns hna hE hr
  have hkb : bodK k = [false, false] := by rcases hkk with rfl | rfl | rfl <;> rfl
  have hkf : formK k = 8 ∨ formK k = 9 ∨ formK k = 10 := by rcases hkk with rfl | rfl | rfl <;> decide
  simp only [PT.allr, allrL] at hr
  simp only [NA, hkb, NAs, Bool.false_eq_true, if_false] at hna
  obtain ⟨ks, beh, ⟨a1, c1, hn1, ⟨a2, c2, hn2, ⟨_, rfl⟩, rfl⟩, rfl⟩, rfl⟩ := hna
  obtain ⟨A, hA, h1⟩ := iha sc T a1 hn1 hE hr.2.2.1
  obtain ⟨B, hB, h2⟩ := ihb _ (T ++ (A ++ [paint r _])) a2 (by rw [List.length_append, List.length_append, List.length_singleton, hA]; exact hn2) (hE.more _) hr.2.2.2.1
  obtain ⟨t1, t2, t3⟩ := h1.two h2
  rw [List.append_nil]
  refine ⟨_, ?_, PlR.root _ _ t1 t2 t3 ?_ ?_ ?_⟩
  ·simp only [PT.cnt, cntL, List.length_append, List.length_singleton]; omega
  ·simp only [tyR]
   rcases hkf with h | h | h <;> simp [h, paint]
  ·simp only [vfT]
   rcases hkf with h | h | h <;> simp [h]
  ·intro h4
   simp only at h4
   rcases hkf with h | h | h <;> omega
 | @loop G p nm rg a b c U ha hb hc iha ihb ihc =>
  intro sc T ns hna hE hr
  simp only [PT.allr, allrL] at hr
  simp only [NA, bodK, NAs, Bool.false_eq_true, if_false, if_true] at hna
  obtain ⟨ks, beh, ⟨a1, c1, hn1, ⟨a2, c2, hn2, ⟨a3, c3, hn3, ⟨_, rfl⟩, rfl⟩, rfl⟩, rfl⟩, rfl⟩ := hna
  obtain ⟨A, hA, h1⟩ := iha sc T a1 hn1 hE hr.2.2.1
  obtain ⟨B, hB, h2⟩ := ihb _ (T ++ (A ++ [paint r _])) a2 (by rw [List.length_append, List.length_append, List.length_singleton, hA]; exact hn2) (hE.more _) hr.2.2.2.1
  have hl1 : (T ++ (A ++ [paint r .n])).length = T.length + a.cnt := by rw [List.length_append, List.length_append, List.length_singleton, hA]
  have hE2 := (hE.more (A ++ [paint r .n])).snoc (nm := nm) (U := U) hB.symm
  rw [hl1] at hE2
  have hl2 : (T ++ (A ++ [paint r .n]) ++ (B ++ [paint r U])).length = T.length + a.cnt + b.cnt := by rw [List.length_append, hl1, List.length_append, List.length_singleton, hB]
  obtain ⟨C, hC, h3⟩ := ihc _ (T ++ (A ++ [paint r .n]) ++ (B ++ [paint r U])) a3 (by rw [hl2]; exact hn3) hE2 hr.2.2.2.2.1
  obtain ⟨t1, t2, t3⟩ := h1.three h2 h3
  rw [List.append_nil]
  have hk := fun X => kn3 T A B C X (paint r .n) (paint r U) (paint r U) _ _ _ hA hB hC
  have hk0 := hk []
  rw [List.append_nil] at hk0
  refine ⟨_, ?_, PlR.root _ _ t1 t2 t3 ?_ ?_ ?_⟩
  ·simp only [PT.cnt, cntL, List.length_append, List.length_singleton]; omega
  ·simp only [tyR, fk_loop, partsL, List.getD_cons_succ, List.getD_cons_zero]
   simp only [Nat.reduceEqDiff, if_false, if_true]
   exact hk0.2.1
  ·simp only [vfT, fk_loop, or_true, if_true, partsL, List.getD_cons_succ, List.getD_cons_zero]
   rw [(hk [paint r U]).2.1, (hk [paint r U]).2.2, if_pos rfl]
  ·simp [fk_loop]
 | new _ _ =>
  intro sc T ns _ _ hr
  simp only [PT.allr] at hr
  exact absurd rfl hr.1
end Go.Proofs.YtpicaknklgccoabGreatDoor
