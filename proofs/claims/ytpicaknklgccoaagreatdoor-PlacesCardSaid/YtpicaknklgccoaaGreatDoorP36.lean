import Derived.Test.YtpicaknklgccoaaGreatDoorP35
namespace Go.Proofs.YtpicaknklgccoaaGreatDoor
structure PCl (e : PT) (ns : List NR) (n0 : NR) (c : List Nat) : Prop where
 len : c.length = e.prs
 le : ∀ i, i < e.prs → c.getD i 0 ≤ i
 snd : ∀ i, i < e.prs → fst' (layE ns n0) ((plc e).getD (c.getD i 0) 0) = fst' (layE ns n0) ((plc e).getD i 0)
theorem PCl.sm {e : PT} {ns : List NR} {n0 : NR} {c : List Nat} (h : PCl e ns n0 c) : ∀ x ∈ c, x < e.prs := fun x hx => by
 obtain ⟨i, hi⟩ := List.getElem?_of_mem hx
 have hl := (List.getElem?_eq_some_iff.1 hi).1
 have := h.le i (by rw [← h.len]; exact hl)
 rw [List.getD, hi] at this
 simp only [Option.getD_some] at this
 rw [h.len] at hl; omega
theorem pcl_id (e : PT) (ns : List NR) (n0 : NR) : PCl e ns n0 (List.range e.prs) := by
 have h : ∀ i, i < e.prs → (List.range e.prs).getD i 0 = i := fun i hi => by simp [List.getD, List.getElem?_range hi]
 exact ⟨by simp, fun i hi => by rw [h i hi]; exact Nat.le_refl _, fun i hi => by rw [h i hi]⟩
theorem mgL_at (lo hi : Nat) {c : List Nat} {i : Nat} (h : i < c.length) : (mgL lo hi c).getD i 0 = if c.getD i 0 = hi then lo else c.getD i 0 := by
 unfold mgL
 simp [List.getD, List.getElem?_eq_getElem h]
theorem plc_at {e : PT} {i : Nat} (h : i < e.prs) : (plc e)[i]? = some ((plc e).getD i 0) := by
 have hl := plc_len e
 rw [List.getD, List.getElem?_eq_getElem (by omega)]; rfl
theorem pcl_step {e : PT} {ns : List NR} {n0 : NR} {lo hi : Nat} (hC : ClsF e ns n0) (hna : NA [] e 0 ns) (hwf : e.wf) (hpos : PosN e ns lo hi) (c : List Nat) (x y : Nat) (h : PCl e ns n0 c) (hp : ptdL (tyC e ns c) (e.subs 0 0) = some (x, y)) :
  PCl e ns n0 (mgL (min x y) (max x y) c) ∧ max x y ∈ c ∧ x ≠ y := by
 obtain ⟨s, hs, hps⟩ := ptdL_some hp
 obtain ⟨j, hj⟩ := List.getElem?_of_mem hs
 have hjl := (List.getElem?_eq_some_iff.1 hj).1
 have hnl : ns[j]? = some (ns[j]'(by rw [hna.len, ← subs_len e 0 0]; exact hjl)) := List.getElem?_eq_getElem _
 rcases ptdX_node hna hwf c hj hnl with ⟨hf, hpx⟩ | ⟨_, hpx⟩
 ·rw [hpx] at hps
  obtain ⟨i, a1, a2, hne⟩ := ptd_some hps
  rw [List.getElem?_map] at a1 a2
  obtain ⟨r1, b1, rfl⟩ := Option.map_eq_some_iff.1 a1
  obtain ⟨r2, b2, rfl⟩ := Option.map_eq_some_iff.1 a2
  have hone := congrArg Ty.rgl (hC.one j _ hnl hf)
  rw [rgl_map, rgl_map] at hone
  have h12 : fst' (layE ns n0) r1 = fst' (layE ns n0) r2 := by
   have := congrArg (fun l => l[i]?) hone
   simp only [List.getElem?_map, b1, b2, Option.map_some, Option.some.injEq] at this
   exact this
  have m1 : r1 ∈ plc e := (plc_is hna r1).1 (hC.all _ r1 (List.mem_of_getElem? b1))
  have m2 : r2 ∈ plc e := (plc_is hna r2).1 (hC.all _ r2 (List.mem_of_getElem? b2))
  obtain ⟨i1, k1⟩ := List.getElem?_of_mem m1
  obtain ⟨i2, k2⟩ := List.getElem?_of_mem m2
  have l1 : i1 < e.prs := by rw [← plc_len e]; exact (List.getElem?_eq_some_iff.1 k1).1
  have l2 : i2 < e.prs := by rw [← plc_len e]; exact (List.getElem?_eq_some_iff.1 k2).1
  rw [cF_at hpos c k1, cF_at hpos c k2] at hne ⊢
  have g1 : (plc e).getD i1 0 = r1 := by rw [List.getD, k1]; rfl
  have g2 : (plc e).getD i2 0 = r2 := by rw [List.getD, k2]; rfl
  have e1 := h.snd i1 l1
  have e2 := h.snd i2 l2
  rw [g1] at e1
  rw [g2] at e2
  have hmem : ∀ i, i < e.prs → c.getD i 0 ∈ c := fun i hi => by
   rw [List.getD, List.getElem?_eq_getElem (by rw [h.len]; exact hi)]; exact List.getElem_mem _
  have hxy : fst' (layE ns n0) ((plc e).getD (c.getD i1 0) 0) = fst' (layE ns n0) ((plc e).getD (c.getD i2 0) 0) := by rw [e1, e2, h12]
  have hcx := hmem i1 l1
  have hcy := hmem i2 l2
  generalize c.getD i1 0 = x at *
  generalize c.getD i2 0 = y at *
  have hmx : fst' (layE ns n0) ((plc e).getD (min x y) 0) = fst' (layE ns n0) ((plc e).getD (max x y) 0) := by
   by_cases hxy' : x ≤ y
   ·rw [Nat.min_eq_left hxy', Nat.max_eq_right hxy']; exact hxy
   ·rw [Nat.min_eq_right (by omega), Nat.max_eq_left (by omega)]; exact hxy.symm
  refine ⟨⟨by rw [mgL_len]; exact h.len, fun i hi => ?_, fun i hi => ?_⟩, ?_, hne⟩
  ·have := h.le i hi
   rw [mgL_at _ _ (by rw [h.len]; exact hi)]
   split <;> omega
  ·rw [mgL_at _ _ (by rw [h.len]; exact hi)]
   split
   ·rename_i he
    rw [hmx, ← he]; exact h.snd i hi
   ·exact h.snd i hi
  ·by_cases hxy' : x ≤ y
   ·rw [Nat.max_eq_right hxy']; exact hcy
   ·rw [Nat.max_eq_left (by omega)]; exact hcx
 ·rw [hpx] at hps; simp at hps
theorem pcl_end {e : PT} {ns : List NR} {n0 : NR} {lo hi_ : Nat} (hC : ClsF e ns n0) (hna : NA [] e 0 ns) (hwf : e.wf) (hpos : PosN e ns lo hi_) (c : List Nat) (h : PCl e ns n0 c) (hp : ptdL (tyC e ns c) (e.subs 0 0) = none) :
  ∀ i, i < e.prs → (plc e)[c.getD i 0]? = some (fst' (layE ns n0) ((plc e).getD i 0)) := by
 have hmin := hC.min (cF e c) (fun j n hn hf => by
  have hjl := (List.getElem?_eq_some_iff.1 hn).1
  have hx : (e.subs 0 0)[j]? = some ((e.subs 0 0)[j]'(by rw [subs_len, ← hna.len]; exact hjl)) := List.getElem?_eq_getElem _
  rcases ptdX_node hna hwf c hx hn with ⟨_, hpx⟩ | ⟨h1, _⟩
  ·have := ptdL_none hp _ (List.mem_of_getElem? hx)
   rw [hpx] at this
   have hb := hC.bare j n hn hf
   refine map_rgl _ _ _ hb (ptd_none ?_ this)
   rw [List.length_map, List.length_map, rgl_len, rgl_len, ← bare_sizeE, hb, bare_sizeE]
  ·exact absurd hf h1)
 intro i hi
 have k0 := plc_at hi
 have hpl : isPl ns ((plc e).getD i 0) := (plc_is hna _).2 (List.mem_of_getElem? k0)
 obtain ⟨j, kj⟩ := List.getElem?_of_mem ((plc_is hna _).1 (hC.keep _ hpl))
 have lj : j < e.prs := by rw [← plc_len e]; exact (List.getElem?_eq_some_iff.1 kj).1
 have h1 := hmin ((plc e).getD i 0)
 rw [cF_at hpos c kj, cF_at hpos c k0] at h1
 have h2 := h.snd i hi
 have hci : c.getD i 0 < e.prs := by have := h.le i hi; omega
 have h3 := fst_le (layE ns n0) ((plc e).getD (c.getD i 0) 0)
 rw [h2] at h3
 have h4 := h.le j lj
 have hr : (plc e).Pairwise (· < ·) := (prl_rise e ns lo hi_ hpos).1
 have hji : j ≤ c.getD i 0 := by
  apply Nat.le_of_not_lt
  intro hlt
  have k2 := plc_at hci
  obtain ⟨la, ea⟩ := List.getElem?_eq_some_iff.1 k2
  obtain ⟨lb, eb⟩ := List.getElem?_eq_some_iff.1 kj
  have := List.pairwise_iff_getElem.1 hr _ _ la lb hlt
  omega
 rw [show c.getD i 0 = j by omega]; exact kj
theorem inc_ext : ∀ {l m : List Nat}, l.Pairwise (· < ·) → m.Pairwise (· < ·) → (∀ x, x ∈ l ↔ x ∈ m) → l = m
 | [], [], _, _, _ => rfl
 | [], y :: m, _, _, h => by have := (h y).2 (by simp); simp at this
 | x :: l, [], _, _, h => by have := (h x).1 (by simp); simp at this
 | x :: l, y :: m, hl, hm, h => by
  simp only [List.pairwise_cons] at hl hm
  have hxy : x = y := by
   have h1 := (h x).1 (by simp)
   have h2 := (h y).2 (by simp)
   simp only [List.mem_cons] at h1 h2
   rcases h1 with h1 | h1
   ·exact h1
   ·rcases h2 with h2 | h2
    ·exact h2.symm
    ·have := hl.1 y h2; have := hm.1 x h1; omega
  subst hxy
  rw [inc_ext hl.2 hm.2 (fun z => ?_)]
  have hz := h z
  simp only [List.mem_cons] at hz
  constructor
  ·intro hzl
   have := hl.1 z hzl
   rcases hz.1 (.inr hzl) with e | e
   ·omega
   ·exact e
  ·intro hzm
   have := hm.1 z hzm
   rcases hz.2 (.inr hzm) with e | e
   ·omega
   ·exact e
theorem idxF_at {row : List Nat} (h : row.Pairwise (· < ·)) {i x : Nat} (hx : row[i]? = some x) : idxF row x = (i : Int) := by
 obtain ⟨hl, he⟩ := List.getElem?_eq_some_iff.1 hx
 refine idx_drop row x i hl (fun j y hj hy => ?_) he
 obtain ⟨hl2, he2⟩ := List.getElem?_eq_some_iff.1 hy
 have := List.pairwise_iff_getElem.1 h j i hl2 hl hj
 omega
theorem layF_is {e : PT} {ns : List NR} {n0 : NR} {lo hi : Nat} (hna : NA [] e 0 ns) (hpos : PosN e ns lo hi) : layF e ns n0 = (plc e).filter (fun p => fst' (layE ns n0) p == p) := by
 have hemb : Emb ns ns 0 := fun i n hn => by rw [Nat.zero_add]; exact hn
 have hr := (opn_rise ns e ns lo hi 0 hpos hemb).1
 have hp : (plc e).Pairwise (· < ·) := (prl_rise e ns lo hi hpos).1
 refine inc_ext ?_ (hp.filter _) (fun x => ?_)
 ·unfold layF firstsL
  rw [List.pairwise_map] at hr ⊢
  exact hr.filter _
 ·unfold layF firstsL
  rw [List.mem_map, List.mem_filter, ← plc_is hna x]
  constructor
  ·rintro ⟨n, hn, rfl⟩
   rw [List.mem_filter] at hn
   obtain ⟨h1, h2⟩ := hn
   simp only [Bool.and_eq_true, beq_iff_eq] at h2
   refine ⟨⟨n, ?_, h2.1, rfl⟩, by simpa using h2.2⟩
   unfold opNs at h1
   obtain ⟨z, hz, hzn⟩ := List.mem_map.1 h1
   obtain ⟨k, hk⟩ := List.getElem?_of_mem hz
   have hkl := (List.getElem?_eq_some_iff.1 hk).1
   rw [opn_len] at hkl
   obtain ⟨j, r, g1, g2, g3⟩ := opn_ids e 0 0 0 k hkl
   rw [hk] at g1
   simp only [Option.some.injEq, Nat.zero_add] at g1
   have hjl := (List.getElem?_eq_some_iff.1 g2).1
   rw [recs_len, ← hna.len] at hjl
   rw [g1, Int.toNat_natCast, List.getElem?_eq_getElem hjl] at hzn
   rw [← hzn]; exact List.getElem_mem hjl
  ·rintro ⟨⟨n, hn, h4, rfl⟩, h2⟩
   exact ⟨n, List.mem_filter.2 ⟨opNs_of hna n hn, by simp only [Bool.and_eq_true, beq_iff_eq]; exact ⟨h4, by simpa using h2⟩⟩, rfl⟩
def cBel (c : List Nat) (k : Nat) : Nat := ((List.range k).filter (fun j => c.getD j 0 == j)).length
theorem cBel_succ (c : List Nat) (k : Nat) : cBel c (k + 1) = cBel c k + if c.getD k 0 = k then 1 else 0 := by
 unfold cBel
 rw [List.range_succ, List.filter_append, List.length_append, List.filter_cons]
 by_cases h : c.getD k 0 = k
 ·rw [if_pos h, if_pos (by simpa using h)]; rfl
 ·rw [if_neg h, if_neg (by simpa using h)]; rfl
theorem rkL_is (c : List Nat) (n : Nat) (hle : ∀ i, i < n → c.getD i 0 ≤ i) (hid : ∀ i, i < n → c.getD (c.getD i 0) 0 = c.getD i 0) : ∀ m, m ≤ n → (rkL c m).2 = cBel c m ∧ ∀ i, i < m → (rkL c m).1.getD i 0 = cBel c (c.getD i 0)
 | 0, _ => ⟨by simp [rkL, cBel], fun i h => by omega⟩
 | m + 1, hm => by
  obtain ⟨h1, h2⟩ := rkL_is c n hle hid m (by omega)
  have hl := rkL_len c m
  have hlm := hle m (by omega)
  have hget : ∀ (z : Nat) (i : Nat), i < m → ((rkL c m).1 ++ [z]).getD i 0 = (rkL c m).1.getD i 0 := fun z i hi => by
   simp only [List.getD]; rw [List.getElem?_append_left (by omega)]
  have hlast : ∀ z : Nat, ((rkL c m).1 ++ [z]).getD m 0 = z := fun z => by
   simp only [List.getD]; rw [List.getElem?_append_right (by omega), hl, Nat.sub_self]; rfl
  rw [cBel_succ]
  simp only [rkL]
  by_cases hc : c.getD m 0 = m
  ·rw [if_pos hc, if_pos hc]
   refine ⟨by simp only; omega, fun i hi => ?_⟩
   simp only
   by_cases him : i < m
   ·rw [hget _ i him, h2 i him]
   ·have : i = m := by omega
    subst this
    rw [hlast, hc, h1]
  ·rw [if_neg hc, if_neg hc]
   refine ⟨by simp only; omega, fun i hi => ?_⟩
   simp only
   by_cases him : i < m
   ·rw [hget _ i him, h2 i him]
   ·have : i = m := by omega
    subst this
    rw [hlast, h2 _ (by omega), hid i (by omega)]
theorem take_map (e : PT) : ∀ k, k ≤ e.prs → (plc e).take k = (List.range k).map (fun j => (plc e).getD j 0)
 | 0, _ => by simp
 | k + 1, h => by
  rw [List.take_add_one, take_map e k (by omega), plc_at (by omega), List.range_succ, List.map_append]; rfl
theorem rank_is {e : PT} {ns : List NR} {n0 : NR} {lo hi : Nat} (hna : NA [] e 0 ns) (hpos : PosN e ns lo hi) (c : List Nat) (h : PCl e ns n0 c) (hend : ∀ i, i < e.prs → (plc e)[c.getD i 0]? = some (fst' (layE ns n0) ((plc e).getD i 0))) :
  (∀ i, i < e.prs → idxF (layF e ns n0) (fst' (layE ns n0) ((plc e).getD i 0)) = (((rkL c e.prs).1.getD i 0 : Nat) : Int)) ∧ (rkL c e.prs).2 = (layF e ns n0).length ∧ ∀ i, i < e.prs → (rkL c e.prs).1.getD i 0 < (layF e ns n0).length := by
 have hr : (plc e).Pairwise (· < ·) := (prl_rise e ns lo hi hpos).1
 have hinj : ∀ i j : Nat, ∀ x, (plc e)[i]? = some x → (plc e)[j]? = some x → i = j := fun i j x h1 h2 => by
  rw [← idx_at hr h1, ← idx_at hr h2]
 have hown : ∀ i, i < e.prs → (c.getD i 0 = i ↔ fst' (layE ns n0) ((plc e).getD i 0) = (plc e).getD i 0) := fun i hi => by
  have h1 := hend i hi
  have h2 := plc_at hi
  constructor
  ·intro hc; rw [hc, h2] at h1; exact (Option.some.inj h1).symm
  ·intro hc; rw [hc] at h1; exact hinj _ _ _ h1 h2
 have hid : ∀ i, i < e.prs → c.getD (c.getD i 0) 0 = c.getD i 0 := fun i hi => by
  have hci : c.getD i 0 < e.prs := by have := h.le i hi; omega
  refine (hown _ hci).2 ?_
  have h1 := hend i hi
  rw [plc_at hci] at h1
  rw [Option.some.inj h1, fst_idem]
 obtain ⟨hk, hri⟩ := rkL_is c e.prs h.le hid e.prs (Nat.le_refl _)
 have hcnt : ∀ k, k ≤ e.prs → (((plc e).take k).filter (fun p => fst' (layE ns n0) p == p)).length = cBel c k := fun k hk => by
  rw [take_map e k hk, List.filter_map, List.length_map]
  unfold cBel
  congr 1
  apply List.filter_congr
  intro j hj
  have hj' : j < k := by simpa using hj
  have := hown j (by omega)
  simp only [Function.comp]
  by_cases hc : c.getD j 0 = j
  ·rw [show (fst' (layE ns n0) ((plc e).getD j 0) == (plc e).getD j 0) = true from by simpa using this.1 hc, show (c.getD j 0 == j) = true from by simpa using hc]
  ·rw [show (fst' (layE ns n0) ((plc e).getD j 0) == (plc e).getD j 0) = false from by simpa using (fun hx => hc (this.2 hx)), show (c.getD j 0 == j) = false from by simpa using hc]
 have hF := layF_is (n0 := n0) hna hpos
 have hFr : (layF e ns n0).Pairwise (· < ·) := by rw [hF]; exact hr.filter _
 have hat : ∀ i, i < e.prs → (layF e ns n0)[cBel c (c.getD i 0)]? = some (fst' (layE ns n0) ((plc e).getD i 0)) := fun i hi => by
  have hci : c.getD i 0 < e.prs := by have := h.le i hi; omega
  have h1 := hend i hi
  obtain ⟨la, ea⟩ := List.getElem?_eq_some_iff.1 h1
  have hsp : plc e = (plc e).take (c.getD i 0) ++ ((plc e)[c.getD i 0] :: (plc e).drop (c.getD i 0 + 1)) := by
   rw [← List.drop_eq_getElem_cons la, List.take_append_drop]
  have hF2 := hF
  rw [hsp, List.filter_append] at hF2
  rw [hF2, List.getElem?_append_right (by rw [hcnt _ (by omega)]; exact Nat.le_refl _), hcnt _ (by omega), Nat.sub_self, List.filter_cons]
  have hself : (fst' (layE ns n0) ((plc e)[c.getD i 0]) == (plc e)[c.getD i 0]) = true := by
   rw [ea, fst_idem]; simp
  rw [if_pos hself, List.getElem?_cons_zero, ea]
 refine ⟨fun i hi => ?_, ?_, fun i hi => ?_⟩
 ·rw [hri i hi]; exact idxF_at hFr (hat i hi)
 ·rw [hk, hF, ← hcnt e.prs (Nat.le_refl _), List.take_of_length_le (by rw [plc_len]; exact Nat.le_refl _)]
 ·rw [hri i hi]; exact (List.getElem?_eq_some_iff.1 (hat i hi)).1
theorem spanF_is (T : List Ty) (rg : Nat) (n : NR) : ∀ (l : List NR) (k a b : Nat), (n.at_ ≤ (spanF T rg l k a b).1 ∧ (spanF T rg l k a b).2 ≤ n.beh) ↔ (n.at_ ≤ a ∧ b ≤ n.beh) ∧ ∀ (i : Nat) (m : NR), l[i]? = some m → (knownT T ((k + i : Nat) : Int)).has rg = true → n.at_ ≤ m.at_ ∧ m.beh ≤ n.beh
 | [], k, a, b => by simp [spanF]
 | m :: r, k, a, b => by
  simp only [spanF]
  have hcons : ∀ P : Prop, ((knownT T (k : Int)).has rg = true → n.at_ ≤ m.at_ ∧ m.beh ≤ n.beh) → ((∀ (i : Nat) (x : NR), r[i]? = some x → (knownT T ((k + 1 + i : Nat) : Int)).has rg = true → n.at_ ≤ x.at_ ∧ x.beh ≤ n.beh) ↔ (∀ (i : Nat) (x : NR), (m :: r)[i]? = some x → (knownT T ((k + i : Nat) : Int)).has rg = true → n.at_ ≤ x.at_ ∧ x.beh ≤ n.beh)) := fun _ h0 => by
   constructor
   ·intro h i x hx hh
    cases i with
    | zero => simp only [List.getElem?_cons_zero, Option.some.injEq] at hx; subst hx; exact h0 hh
    | succ i => exact h i x (by simpa using hx) (by rw [show k + 1 + i = k + (i + 1) by omega]; exact hh)
   ·intro h i x hx hh
    exact h (i + 1) x (by simpa using hx) (by rw [show k + (i + 1) = k + 1 + i by omega]; exact hh)
  by_cases hm : (knownT T (k : Int)).has rg = true
  ·rw [if_pos hm, spanF_is T rg n r (k + 1)]
   constructor
   ·rintro ⟨h1, h2⟩
    have h3 : n.at_ ≤ m.at_ ∧ m.beh ≤ n.beh ∧ n.at_ ≤ a ∧ b ≤ n.beh := by
     obtain ⟨g1, g2⟩ := h1
     split at g1 <;> split at g2 <;> omega
    exact ⟨⟨h3.2.2.1, h3.2.2.2⟩, (hcons True (fun _ => ⟨h3.1, h3.2.1⟩)).1 h2⟩
   ·rintro ⟨h1, h2⟩
    have h3 := h2 0 m rfl hm
    refine ⟨?_, (hcons True (fun _ => h3)).2 h2⟩
    constructor
    ·split <;> omega
    ·split <;> omega
  ·rw [if_neg hm, spanF_is T rg n r (k + 1), hcons True (fun h => absurd h hm)]
def cand (rl : List Rec) (S : List Bool) (i : Nat) : Bool := match rl[i]? with
 | some r => !(S.getD i false) && hmIn rl S r rl.length
 | none => false
theorem hmIn_is (rl : List Rec) (S : List Bool) (r : Rec) : ∀ k, k ≤ rl.length → (hmIn rl S r k = true ↔ ∀ j q, j < k → rl[j]? = some q → S.getD j false = true → r.id ≤ q.id ∧ q.id ≤ r.last)
 | 0, _ => by simp [hmIn]
 | k + 1, h => by
  have ih := hmIn_is rl S r k (by omega)
  have hk := List.getElem?_eq_getElem (show k < rl.length by omega)
  simp only [hmIn, Bool.and_eq_true, ih]
  rw [hk]
  simp only
  constructor
  ·rintro ⟨h1, h2⟩ j q hj hq hs
   by_cases hjk : j < k
   ·exact h1 j q hjk hq hs
   ·have : j = k := by omega
    subst this
    rw [hk] at hq
    cases hq
    rw [hs] at h2
    simp only [Bool.true_and, Bool.not_eq_true', Bool.or_eq_false_iff, decide_eq_false_iff_not] at h2
    omega
  ·intro h1
   refine ⟨fun j q hj hq hs => h1 j q (by omega) hq hs, ?_⟩
   cases hs : S.getD k false with
   | false => rfl
   | true =>
    have := h1 k _ (by omega) hk hs
    simp only [Bool.true_and, Bool.not_eq_true', Bool.or_eq_false_iff, decide_eq_false_iff_not]
    omega
theorem hmF_first (rl : List Rec) (S : List Bool) (f : Nat) (rf : Rec) (hf : rl[f]? = some rf) (hc : cand rl S f = true) (hb : ∀ j, j < f → cand rl S j = false) (hs : ∀ j r, rl[j]? = some r → cand rl S j = true → rf.last - rf.id ≤ r.last - r.id) : ∀ k, f < k → k ≤ rl.length → hmF rl S k = some f
 | 0, h, _ => by omega
 | k + 1, h, hk => by
  have hnone : ∀ m, m ≤ f → hmF rl S m = none := by
   intro m
   induction m with
   | zero => intro _; rfl
   | succ m ih =>
    intro hm
    simp only [hmF, hmS]
    rw [ih (by omega)]
    have hbm := hb m (by omega)
    unfold cand at hbm
    split
    ·rename_i r hr
     rw [hr] at hbm
     simp only at hbm
     rw [hbm]; simp
    ·rfl
  simp only [hmF, hmS]
  by_cases hkf : k = f
  ·subst hkf
   rw [hnone k (Nat.le_refl _), hf]
   unfold cand at hc
   rw [hf] at hc
   simp only at hc ⊢
   rw [hc]; simp [hmB]
  ·rw [hmF_first rl S f rf hf hc hb hs k (by omega) (by omega)]
   split
   ·rename_i r hr
    by_cases hck : cand rl S k = true
    ·have := hs k r hr hck
     rw [if_neg]
     simp only [hmB, hf]
     simp only [Bool.and_eq_true, decide_eq_true_eq]
     omega
    ·unfold cand at hck
     rw [hr] at hck
     simp only [Bool.not_eq_true] at hck
     rw [hck]; simp
   ·rfl
theorem hmF_none (rl : List Rec) (S : List Bool) (h : ∀ j, j < rl.length → cand rl S j = false) : ∀ k, k ≤ rl.length → hmF rl S k = none
 | 0, _ => rfl
 | k + 1, hk => by
  simp only [hmF, hmS]
  rw [hmF_none rl S h k (by omega)]
  have hb := h k (by omega)
  unfold cand at hb
  split
  ·rename_i r hr
   rw [hr] at hb
   simp only at hb
   rw [hb]; simp
  ·rfl
theorem cand_small {e : PT} {S : List Bool} {i j : Nat} {r q : Rec} (hi : (e.recs 0 0)[i]? = some r) (hj : (e.recs 0 0)[j]? = some q) (hij : i < j) (hci : cand (e.recs 0 0) S i = true) (hcj : cand (e.recs 0 0) S j = true) (hsaid : ∃ k, k < (e.recs 0 0).length ∧ S.getD k false = true) : r.last - r.id ≤ q.last - q.id := by
 obtain ⟨k, hkl, hks⟩ := hsaid
 unfold cand at hci hcj
 rw [hi] at hci
 rw [hj] at hcj
 simp only [Bool.and_eq_true] at hci hcj
 have h1 := (hmIn_is _ S r _ (Nat.le_refl _)).1 hci.2 k _ hkl (List.getElem?_eq_getElem hkl) hks
 have h2 := (hmIn_is _ S q _ (Nat.le_refl _)).1 hcj.2 k _ hkl (List.getElem?_eq_getElem hkl) hks
 rw [recs_subs, List.getElem?_map] at hi hj
 obtain ⟨x, hx, rfl⟩ := Option.map_eq_some_iff.1 hi
 obtain ⟨y, hy, rfl⟩ := Option.map_eq_some_iff.1 hj
 have ho := subs_ord e 0 0 i j x y hx hy hij
 have hl : ∀ z : PT × Nat × Nat, (recOf z).id = z.2.1 ∧ (recOf z).last = z.2.1 + z.1.cnt - 1 := fun z => by
  obtain ⟨t, a, b⟩ := z
  cases t <;> simp [recOf, PT.cnt]
  omega
 have hx1 := hl x
 have hy1 := hl y
 have hcx := cnt_pos x.1
 have hcy := cnt_pos y.1
 omega
theorem cand_head {e : PT} {r : Rec} (h : (e.recs 0 0)[0]? = some r) : r.last - r.id = 0 := by
 rw [recs_subs, List.getElem?_map] at h
 obtain ⟨x, hx, rfl⟩ := Option.map_eq_some_iff.1 h
 have := subs_head e 0 0 x hx
 obtain ⟨t, a, b⟩ := x
 cases t <;> simp [recOf, PT.cnt] at this ⊢
 omega
theorem about_first (T : List Ty) (rg a b : Nat) : ∀ (l : List NR) (k : Nat), (aboutF T rg a b l k = -1 ∧ ∀ (i : Nat) n, l[i]? = some n → ¬ (n.at_ ≤ a ∧ b ≤ n.beh ∧ (knownT T ((k + i : Nat) : Int)).has rg = false)) ∨ ∃ (i : Nat) (n : NR), l[i]? = some n ∧ (n.at_ ≤ a ∧ b ≤ n.beh ∧ (knownT T ((k + i : Nat) : Int)).has rg = false) ∧ aboutF T rg a b l k = ((k + i : Nat) : Int) ∧ ∀ (j : Nat) m, j < i → l[j]? = some m → ¬ (m.at_ ≤ a ∧ b ≤ m.beh ∧ (knownT T ((k + j : Nat) : Int)).has rg = false)
 | [], _ => .inl ⟨rfl, fun i n h => by simp at h⟩
 | m :: r, k => by
  by_cases hc : m.at_ ≤ a ∧ b ≤ m.beh ∧ (knownT T (k : Int)).has rg = false
  ·right
   exact ⟨0, m, rfl, hc, by simp only [aboutF]; rw [if_pos hc]; rfl, fun j _ hj => by omega⟩
  ·have he : aboutF T rg a b (m :: r) k = aboutF T rg a b r (k + 1) := by simp only [aboutF]; rw [if_neg hc]
   rcases about_first T rg a b r (k + 1) with ⟨h1, h2⟩ | ⟨i, n, h1, h2, h3, h4⟩
   ·left
    refine ⟨by rw [he, h1], fun i n hn => ?_⟩
    cases i with
    | zero => simp only [List.getElem?_cons_zero, Option.some.injEq] at hn; subst hn; exact hc
    | succ i =>
     have := h2 i n (by simpa using hn)
     rw [show k + 1 + i = k + (i + 1) by omega] at this; exact this
   ·right
    refine ⟨i + 1, n, by simpa using h1, ?_, ?_, fun j x hj hx => ?_⟩
    ·rw [show k + (i + 1) = k + 1 + i by omega]; exact h2
    ·rw [he, h3, show k + (i + 1) = k + 1 + i by omega]
    ·cases j with
     | zero => simp only [List.getElem?_cons_zero, Option.some.injEq] at hx; subst hx; exact hc
     | succ j =>
      have := h4 j x (by omega) (by simpa using hx)
      rw [show k + 1 + j = k + (j + 1) by omega] at this; exact this
theorem home_is {e : PT} {ns : List NR} {n0 : NR} {lo hi : Nat} (hna : NA [] e 0 ns) (hpos : PosN e ns lo hi) (hlast : ns[ns.length - 1]? = some n0) (hat : ∀ n ∈ ns, n.at_ < n0.beh) (T : List Ty) (rg : Nat) (S : List Bool) (hS : ∀ j, j < e.cnt → S.getD j false = (knownT T (j : Nat)).has rg) :
  aboutF T rg (spanF T rg ns 0 n0.beh n0.at_).1 (spanF T rg ns 0 n0.beh n0.at_).2 ns 0 = match hmF (e.recs 0 0) S (e.recs 0 0).length with | none => -1 | some i => (i : Int) := by
 have hal := al_of hna hpos
 have hnl := hna.len
 have hrl := recs_len e 0 0
 have hroot : ∀ n ∈ ns, n0.at_ ≤ n.beh := fun n hn => by
  obtain ⟨j, hj⟩ := List.getElem?_of_mem hn
  have hjl := (List.getElem?_eq_some_iff.1 hj).1
  have hin := hpos.in_ n hn
  obtain ⟨_, _, h3⟩ := rngs_in e ns lo hi 0 hpos 0 e.cnt (rngs_self e 0)
  obtain ⟨m, n', g1, g2, g3, _⟩ := h3 j (Nat.zero_le _) (by omega)
  rw [Nat.sub_zero, hj] at g1
  rw [Nat.zero_add, Nat.sub_zero, ← hnl, hlast] at g2
  cases g1; cases g2
  omega
 have hcand : ∀ (i : Nat) n, ns[i]? = some n → (cand (e.recs 0 0) S i = true ↔ (n.at_ ≤ (spanF T rg ns 0 n0.beh n0.at_).1 ∧ (spanF T rg ns 0 n0.beh n0.at_).2 ≤ n.beh ∧ (knownT T ((0 + i : Nat) : Int)).has rg = false)) := fun i n hn => by
  have hil := (List.getElem?_eq_some_iff.1 hn).1
  have hr : (e.recs 0 0)[i]? = some ((e.recs 0 0)[i]'(by omega)) := List.getElem?_eq_getElem _
  generalize (e.recs 0 0)[i] = r at hr
  have hnm := List.mem_of_getElem? hn
  rw [← and_assoc, spanF_is T rg n ns 0 n0.beh n0.at_]
  unfold cand
  rw [hr]
  simp only [Bool.and_eq_true, Bool.not_eq_true', hmIn_is _ S r _ (Nat.le_refl _), Nat.zero_add]
  rw [hS i (by omega)]
  constructor
  ·rintro ⟨h1, h2⟩
   refine ⟨⟨⟨Nat.le_of_lt (hat n hnm), hroot n hnm⟩, fun k m hm hh => ?_⟩, h1⟩
   have hkl := (List.getElem?_eq_some_iff.1 hm).1
   have hq : (e.recs 0 0)[k]? = some ((e.recs 0 0)[k]'(by omega)) := List.getElem?_eq_getElem _
   generalize (e.recs 0 0)[k] = q at hq
   have h3 := h2 k q (by omega) hq (by rw [hS k (by omega)]; exact hh)
   have hb := hal.b (q, m) (zip_mem hq hm) (r, n) (zip_mem hr hn)
   have hb2 := hal.b (r, n) (zip_mem hr hn) (q, m) (zip_mem hq hm)
   simp only at hb hb2
   have e1 : n.at_ ≤ m.at_ := by
    apply Nat.le_of_not_lt; intro h; have := hb.1.2 h; omega
   have e2 : m.at_ < n.beh := hb2.2.1 h3.2
   refine ⟨e1, ?_⟩
   have hinm := hpos.in_ m (List.mem_of_getElem? hm)
   rcases Nat.lt_trichotomy i k with hik | hik | hik
   ·rcases posN_two hpos i k n m hn hm hik with h | h <;> omega
   ·subst hik; rw [hn] at hm; cases hm; exact Nat.le_refl _
   ·rcases posN_two hpos k i m n hm hn hik with h | h <;> omega
  ·rintro ⟨⟨_, h2⟩, h1⟩
   refine ⟨h1, fun k q hk hq hs => ?_⟩
   have hm : ns[k]? = some (ns[k]'(by omega)) := List.getElem?_eq_getElem _
   generalize ns[k] = m at hm
   rw [hS k (by omega)] at hs
   have h3 := h2 k m hm hs
   have hb := hal.b (q, m) (zip_mem hq hm) (r, n) (zip_mem hr hn)
   have hb2 := hal.b (r, n) (zip_mem hr hn) (q, m) (zip_mem hq hm)
   simp only at hb hb2
   have hinm := hpos.in_ m (List.mem_of_getElem? hm)
   refine ⟨?_, hb2.2.2 (by omega)⟩
   apply Nat.le_of_not_lt; intro h; have := hb.1.1 h; omega
 rcases about_first T rg (spanF T rg ns 0 n0.beh n0.at_).1 (spanF T rg ns 0 n0.beh n0.at_).2 ns 0 with ⟨h1, h2⟩ | ⟨i, n, h1, h2, h3, h4⟩
 ·rw [h1, hmF_none _ S (fun j hj => ?_) _ (Nat.le_refl _)]
  have hm : ns[j]? = some (ns[j]'(by omega)) := List.getElem?_eq_getElem _
  have := h2 j _ hm
  rw [← hcand j _ hm] at this
  simpa using this
 ·have hil := (List.getElem?_eq_some_iff.1 h1).1
  have hr : (e.recs 0 0)[i]? = some ((e.recs 0 0)[i]'(by omega)) := List.getElem?_eq_getElem _
  generalize (e.recs 0 0)[i] = r at hr
  have hci := (hcand i n h1).2 h2
  have hbef : ∀ j, j < i → cand (e.recs 0 0) S j = false := fun j hj => by
   have hm : ns[j]? = some (ns[j]'(by omega)) := List.getElem?_eq_getElem _
   have := h4 j _ hj hm
   rw [← hcand j _ hm] at this
   simpa using this
  rw [h3, Nat.zero_add, hmF_first _ S i r hr hci hbef (fun j q hq hcj => ?_) _ (by omega) (Nat.le_refl _)]
  by_cases hsd : ∃ k, k < (e.recs 0 0).length ∧ S.getD k false = true
  ·rcases Nat.lt_trichotomy i j with hij | hij | hij
   ·exact cand_small hr hq hij hci hcj hsd
   ·subst hij; rw [hr] at hq; cases hq; exact Nat.le_refl _
   ·rw [hbef j hij] at hcj; simp at hcj
  ·have hi0 : i = 0 := by
    apply Nat.eq_zero_of_not_pos
    intro hpos0
    have h0 := hbef 0 hpos0
    have hr0 : (e.recs 0 0)[0]? = some ((e.recs 0 0)[0]'(by omega)) := List.getElem?_eq_getElem _
    unfold cand at h0
    rw [hr0] at h0
    simp only [Bool.and_eq_false_iff, Bool.not_eq_false'] at h0
    rcases h0 with h0 | h0
    ·exact hsd ⟨0, by omega, h0⟩
    ·have : hmIn (e.recs 0 0) S (e.recs 0 0)[0] (e.recs 0 0).length = true := (hmIn_is _ S _ _ (Nat.le_refl _)).2 (fun k q hk hq hs => absurd ⟨k, hk, hs⟩ hsd)
     rw [this] at h0; simp at h0
   subst hi0
   rw [cand_head hr]; exact Nat.zero_le _
open Go.Lib (decDigits)
theorem layT_map (e : PT) (ns : List NR) (n0 : NR) (j : Int) : knownT (layT e ns n0) j = mapT (fun x => (idxF (layF e ns n0) (fst' (layE ns n0) x)).toNat) (knownT (ty1 ns) j) := by
 unfold layT
 generalize layE ns n0 = E
 generalize layF e ns n0 = fs
 have hT2 : ∀ (l : List NR) (T : List Ty), tyRun (T.map (mapT (fun x => (idxF fs (fst' E x)).toNat))) (rgdN E fs l) = (tyRun T (l.map atR)).map (mapT (fun x => (idxF fs (fst' E x)).toNat)) := fun l => by
  induction l with
  | nil => intro T; simp [rgdN, tyRun]
  | cons n r ih =>
   intro T
   have e1 : tyR (T.map (mapT (fun x => (idxF fs (fst' E x)).toNat))) (setR n (if n.form = 4 then idxF fs (fst' E n.at_) else -1)) = mapT (fun x => (idxF fs (fst' E x)).toNat) (tyR T (atR n)) := tyR_map _ T (atR n) _ rfl (fun h4 => by
    have h4' : n.form = 4 := h4
    simp only [setR, atR, if_pos h4', Int.toNat_natCast])
   have ih2 := ih (T ++ [tyR T (atR n)])
   rw [List.map_append, List.map_singleton, ← e1] at ih2
   simp only [rgdN, List.map_cons, tyRun] at ih2 ⊢
   exact ih2
 have hT20 := hT2 ns []
 rw [List.map_nil] at hT20
 rw [hT20, knownT_map]
theorem mapT_congr {P : Nat → Prop} {f g : Nat → Nat} (h : ∀ x, P x → f x = g x) : ∀ t : Ty, AllT P t → mapT f t = mapT g t
 | .n, _ => rfl
 | .p r a b, ha => by
  obtain ⟨h1, h2, h3⟩ := ha.p
  simp only [mapT, h r h1, mapT_congr h a h2, mapT_congr h b h3]
theorem nwsF_snoc (a : Int) (i : Int) : ∀ (l : List Int) (r : Nat), nwsF (l ++ [a]) r i = nwsF l r i ++ (if a = i then [r + l.length] else [])
 | [], r => by simp [nwsF]
 | x :: l, r => by
  rw [List.cons_append]
  simp only [nwsF]
  rw [nwsF_snoc a i l (r + 1), List.length_cons, List.append_assoc, show r + 1 + l.length = r + (l.length + 1) by omega]
theorem news_is {e : PT} {ns : List NR} {n0 : NR} {lo hi : Nat} (hna : NA [] e 0 ns) (hpos : PosN e ns lo hi) (hlast : ns[ns.length - 1]? = some n0) (hat : ∀ n ∈ ns, n.at_ < n0.beh) (T : List Ty) (TY : List Ty) (hT : ∀ j x, (e.subs 0 0)[j]? = some x → tyAt TY x.2.1 = knownT T (j : Nat)) {j : Nat} {x : PT × Nat × Nat} (hx : (e.subs 0 0)[j]? = some x) :
  ∀ c, (nwR (e.recs 0 0) TY c).getD x.2.1 [] = nwsF (newsL T ns n0 c) 0 (j : Nat)
 | 0 => by
  simp only [nwR, newsL, List.range_zero, List.map_nil, nwsF, List.getD]
  rw [List.getElem?_replicate]; split <;> rfl
 | c + 1 => by
  have ih := news_is hna hpos hlast hat T TY hT hx c
  have hnl := hna.len
  have hrl := recs_len e 0 0
  have hhome := home_is hna hpos hlast hat T c (hmSaid TY c (e.recs 0 0)) (fun k hk => by
   have hk' : k < (e.subs 0 0).length := by rw [subs_len]; exact hk
   have hsk : (e.subs 0 0)[k]? = some (e.subs 0 0)[k] := List.getElem?_eq_getElem hk'
   have hrk : (e.recs 0 0)[k]? = some (recOf (e.subs 0 0)[k]) := by rw [recs_subs, List.getElem?_map, hsk]; rfl
   unfold hmSaid
   rw [List.getD, List.getElem?_map, hrk]
   simp only [Option.map_some, Option.getD_some]
   rw [recOf_id, hT k _ hsk])
  have hlen : (newsL T ns n0 c).length = c := by unfold newsL; rw [List.length_map, List.length_range]
  rw [newsL_snoc, nwsF_snoc, hhome, hlen, Nat.zero_add, ← ih]
  have hstep : nwR (e.recs 0 0) TY (c + 1) = match hmId (e.recs 0 0) TY c with | none => nwR (e.recs 0 0) TY c | some id => (nwR (e.recs 0 0) TY c).set id ((nwR (e.recs 0 0) TY c).getD id [] ++ [c]) := rfl
  rw [hstep]
  unfold hmId
  cases hh : hmF (e.recs 0 0) (hmSaid TY c (e.recs 0 0)) (e.recs 0 0).length with
  | none =>
   simp only [Option.bind_none, Option.map_none]
   rw [if_neg (by omega), List.append_nil]
  | some i =>
   have hil := hmF_lt _ _ _ i (Nat.le_refl _) hh
   have hri : (e.recs 0 0)[i]? = some ((e.recs 0 0)[i]'hil) := List.getElem?_eq_getElem _
   have hrj : (e.recs 0 0)[j]? = some (recOf x) := by rw [recs_subs, List.getElem?_map, hx]; rfl
   generalize (e.recs 0 0)[i] = r at hri
   simp only [Option.bind_some, hri, Option.map_some]
   have hxm := subs_ids e 0 0 x (List.mem_of_getElem? hx)
   have hxc := cnt_pos x.1
   by_cases hij : i = j
   ·subst hij
    rw [hri] at hrj
    cases hrj
    rw [recOf_id, if_pos rfl]
    simp only [List.getD]
    rw [List.getElem?_set_self (by rw [nwR_len, hrl]; omega)]
    rfl
   ·have hne : r.id ≠ x.2.1 := fun h => hij (recs_inj e 0 0 hri hrj (by rw [h, recOf_id]))
    rw [if_neg (by omega), List.append_nil]
    simp only [List.getD]
    rw [List.getElem?_set_ne hne]
theorem place_same {e : PT} {ns : List NR} {n0 : NR} {lo hi : Nat} (hC : ClsF e ns n0) (hnn : NoNew e) (hwf : e.wf) (hna : NA [] e 0 ns) (hpos : PosN e ns lo hi) (hlast : ns[ns.length - 1]? = some n0) (hat : ∀ n ∈ ns, n.at_ < n0.beh) (c : List Nat) (h : PCl e ns n0 c) (hp : ptdL (tyC e ns c) (e.subs 0 0) = none) :
  e.rtx (rkL c e.prs).1 (nwR (e.recs 0 0) (tyC e ns (rkL c e.prs).1) (rkL c e.prs).2) 0 0 = e.wtx (layR e ns n0) (layN e ns n0) 0 := by
 have hend := pcl_end hC hna hwf hpos c h hp
 obtain ⟨hrk, hK, hrl⟩ := rank_is hna hpos c h hend
 have hcf : ∀ x, isPl ns x → cF e (rkL c e.prs).1 x = (idxF (layF e ns n0) (fst' (layE ns n0) x)).toNat := fun x hx => by
  obtain ⟨i, hi⟩ := List.getElem?_of_mem ((plc_is hna x).1 hx)
  have hil : i < e.prs := by rw [← plc_len e]; exact (List.getElem?_eq_some_iff.1 hi).1
  have hg : (plc e).getD i 0 = x := by rw [List.getD, hi]; rfl
  have := hrk i hil
  rw [hg] at this
  rw [cF_at hpos _ hi, this]; rfl
 refine rtx_wtx _ _ _ _ e 0 0 0 hnn (fun j x hx => ⟨?_, fun p k nm rg kids hxe => ?_⟩)
 ·rw [Nat.zero_add, hK]
  unfold layN
  refine news_is hna hpos hlast hat (layT e ns n0) (tyC e ns (rkL c e.prs).1) (fun j x hx => ?_) hx _
  rw [tyAt_C e ns _ hx, layT_map]
  exact mapT_congr hcf _ (hC.all _)
 ·have hjl := (List.getElem?_eq_some_iff.1 hx).1
  obtain ⟨n, hn⟩ : ∃ n, ns[j]? = some n := ⟨_, List.getElem?_eq_getElem (by rw [hna.len, ← subs_len e 0 0]; exact hjl)⟩
  have hf := form_at hna 0 0 j x n hx hn
  rw [hxe] at hf
  simp only [PT.frm] at hf
  have hr : (e.recs 0 0)[j]? = some (recOf x) := by rw [recs_subs, List.getElem?_map, hx]; rfl
  have hb := hna.bri 0 0 _ (zip_mem hr hn)
  unfold rgT
  have hrv : rgV (layR e ns n0) j = if n.form = 4 then idxF (layF e ns n0) (fst' (layE ns n0) n.at_) else -1 := by unfold layR; exact rgV_regsL _ _ ns j n hn
  rw [Nat.zero_add]
  have hk4 : formK k = 4 ↔ k = .pair := by cases k <;> decide
  by_cases hk : k = .pair
  ·rw [if_pos (show n.form = 4 by rw [hf]; exact hk4.2 hk)] at hrv
   rw [hrv, if_pos hk]
   obtain ⟨_, hp2, _⟩ := recs_pairs e 0 0
   have hpr : (recOf x).isPair = true := by unfold Rec.isPair; rw [hb.pr.1 (by rw [hf]; exact hk4.2 hk)]; simp
   obtain ⟨_, hsl, rg', h3, _⟩ := hp2 _ (List.mem_of_getElem? hr) hpr
   have hsite : (recOf x).site = x.2.2 := by obtain ⟨t, a, b⟩ := x; cases t <;> rfl
   rw [hsite] at h3 hsl
   have hpl : (plc e)[x.2.2]? = some n.at_ := by
    unfold plc
    rw [List.getElem?_map, show x.2.2 = x.2.2 - 0 by omega, h3, ← hb.p]; rfl
   have hg : (plc e).getD x.2.2 0 = n.at_ := by rw [List.getD, hpl]; rfl
   have := hrk x.2.2 (by omega)
   rw [hg] at this
   rw [this, if_neg (by omega), Int.toNat_natCast]
  ·rw [if_neg (show ¬ n.form = 4 by rw [hf]; exact fun h => hk (hk4.1 h))] at hrv
   rw [hrv, if_neg hk]; rfl
open Go.RowKit
theorem rkL_sm (c : List Nat) : ∀ i, ∀ x ∈ (rkL c i).1, x < i
 | 0, x, h => by simp [rkL] at h
 | i + 1, x, h => by
  have ih := rkL_sm c i
  have hl := rkL_le c i
  simp only [rkL] at h
  split at h
  ·rcases List.mem_append.1 h with h | h
   ·have := ih x h; omega
   ·simp only [List.mem_singleton] at h; omega
  ·rcases List.mem_append.1 h with h | h
   ·have := ih x h; omega
   ·simp only [List.mem_singleton] at h
    rw [List.getD] at h
    cases hg : (rkL c i).1[c.getD i 0]? with
    | none => rw [hg] at h; simp at h; omega
    | some z => rw [hg] at h; simp at h; have := ih z (List.mem_of_getElem? hg); omega
set_option maxRecDepth 100000 in
set_option maxHeartbeats 4000000 in
theorem leasePlace_bad (s : ByteArray) (w : World) (x y : Nat) (hx : x ≠ 0) (hrd : ∀ w, Calls Tryz.prog 31 #[.string s] w fun v w' => ∃ x1 n1 c1 x2 n2 c2, v = .returned (.tuple #[treeV (.slice x1 n1 c1) (.slice x2 n2 c2), .int .i64 x, .int .i64 y]) ∧ Below w.heap.size w w') :
  Calls Tryz.prog 16 #[.string s] w fun v w' => v = .returned (.tuple #[.string (bs []), .int .i64 x]) ∧ Below w.heap.size w w' := by
 unfold treeV at hrd
 have q : ((x : Int) != 0) = true := by simp; omega
 have HR : Hid _ := hrd
 clear hrd
 go_enter Tryz.func16, Tryz.ntmps16
 go_wp2_with fail
 refine (HR.out _).mono ?_
 rintro _ w1 ⟨x1, n1, c1, x2, n2, c2, rfl, hb⟩
 have HB : Hid _ := hb
 clear hb HR
 go_wp2
 refine bodyPost_ret (v := .tuple #[.string (bs []), .int .i64 x]) (by simp [results, Tryz.results16, go_sem]; rfl) rfl ⟨rfl, HB.out.alloc HB.out.size _⟩
theorem refPlace_bad (s : ByteArray) (w : World) (x : Nat) (hx : x ≠ 0) (hst : ∀ w1, Below w.heap.size w w1 → Calls Tryz.prog 33 #[.string s, .bool false] w1 fun v w' => ∃ p q y, v = .returned (.tuple #[.pointer p, .pointer q, .int .i64 x, .int .i64 y]) ∧ Below w1.heap.size w1 w') :
  Calls Tryz.prog 17 #[.string s] w fun v w' => v = .returned (.tuple #[.string (bs []), .int .i64 x]) ∧ Below w.heap.size w w' := by
 have qx : ((x : Int) != 0) = true := by simp; omega
 have HST : Hid _ := hst
 clear hst
 go_enter Tryz.func17, Tryz.ntmps17
 go_wp2_with fail
 refine (HST.out _ (Below.refl _ _)).mono ?_
 rintro _ w1 ⟨p, q, y, rfl, hb⟩
 have HB : Hid _ := hb
 clear hb HST
 go_wp2
 refine bodyPost_ret (v := .tuple #[.string (bs []), .int .i64 x]) (by simp [results, Tryz.results17, go_sem]; rfl) rfl ⟨rfl, HB.out⟩
theorem Places_of (s : ByteArray) (w : World) (tx : List UInt8) (x : Nat) (h1 : Calls Tryz.prog 16 #[.string s] w fun v w' => v = .returned (.tuple #[.string (bs tx), .int .i64 x]) ∧ Below w.heap.size w w')
  (h2 : ∀ w', Below w.heap.size w w' → Calls Tryz.prog 17 #[.string s] w' fun v w'' => v = .returned (.tuple #[.string (bs tx), .int .i64 x]) ∧ Below w'.heap.size w' w'') :
  Calls Tryz.prog 4 #[.string s] w fun v w' => v = .returned (.bool true) ∧ Below w.heap.size w w' := by
 have e1 : ((x : Int) == (x : Int)) = true := by simp
 have e2 : ((bs tx).toList == (bs tx).toList) = true := by simp
 have hnum : ∀ w, Calls Tryz.prog 14 #[.int .i64 x] w fun v w' => v = .returned (.int .i64 x) ∧ w' = w := by
  intro w
  go_enter Tryz.func14, Tryz.ntmps14
  go_wp2
  go_ret
  exact ⟨rfl, rfl⟩
 have HH : Hid _ := h2
 clear h2
 generalize bs tx = B at *
 go_enter Tryz.func4, Tryz.ntmps4
 go_wp2_with fail
 refine h1.mono ?_
 rintro _ w1 ⟨rfl, hb1⟩
 have HB1 : Hid _ := hb1
 have hh := HH.out w1 hb1
 clear hb1 h1 HH
 go_wp2_with fail
 refine hh.mono ?_
 rintro _ w2 ⟨rfl, hb2⟩
 have HB2 : Hid _ := HB1.out.trans (hb2.mono HB1.out.size)
 clear hb2 hh HB1
 go_wp2_with fail
 refine (hnum _).mono ?_
 rintro _ _ ⟨rfl, rfl⟩
 go_wp2
 go_ret
 exact ⟨rfl, HB2.out⟩
theorem Places_any (s : ByteArray) (w : World) (hm : s.size ≤ maxLen) (htab : Lib.TabIs Tryz.prog w "internal/strconv.uint64pow10" .u64 Lib.pow10Tab) : Calls Tryz.prog 4 #[.string s] w fun v w' => v = .returned (.bool true) ∧ Below w.heap.size w w' := by
 by_cases hs : 3000 < s.size
 ·exact Places_of s w [] 1 (leasePlace_bad s w 1 0 (by omega) (fun w => (readPlain_long s w hs hm).mono fun _ _ ⟨h, hb⟩ => ⟨_, _, _, _, _, _, h, hb⟩)) (fun w _ => refPlace_bad s w 1 (by omega) (fun w _ => (Study_long s w hs hm).mono fun _ _ ⟨h, hb⟩ => ⟨_, _, _, h, hb⟩))
 ·cases hf : formOf false s.data.toList with
  | some q => exact Places_of s w [] 2 (leasePlace_bad s w 2 q (by omega) (fun w => (readPlain_form s w (by omega) q hf).mono fun _ _ ⟨h, hb⟩ => ⟨_, _, _, _, _, _, h, hb⟩)) (fun w _ => refPlace_bad s w 2 (by omega) (fun w _ => (Study_form s w (by omega) q hf).mono fun _ _ ⟨h, hb⟩ => ⟨_, _, _, h, hb⟩))
  | none =>
   obtain ⟨e, hp⟩ := form_none hf
   have hit : ∀ w', Below w.heap.size w w' → ItoaOk w' := fun w' hb => itoa_ok w' (Lib.tabBelow_of_tabIs htab w' hb)
   have hcnt := Study_len hp
   by_cases hc : (chkAns e).1 = 0
   ·have hprs : e.prs ≤ 100 := by
     unfold chkAns at hc
     split at hc
     ·simp at hc
     ·omega
    have h0 : (tyFind (List.range e.prs) e 0 0 [] (st0 e)).2.e = 0 := by
     have := hc
     unfold chkAns at this
     rw [if_neg (by omega)] at this
     exact this
    obtain ⟨U, hwt, _⟩ := chk_WT hp.wf hc
    obtain ⟨ns, n0, hN, hL, hpl⟩ := leasePlace_ok s (by omega) e hp (chk_ok hwt hprs)
    obtain ⟨⟨_, hnn⟩, _⟩ := PE.plain hp (tokens_tame _)
    have hta := (hp.tame (tokens_tame _)).1
    obtain ⟨lo, hi, hpos⟩ := hN.pos
    have hC := cls_facts hwt hN.na hN.at_
    have hfl := layF_len (n0 := n0) hN.na
    obtain ⟨hb1, _⟩ := layR_bd e ns n0 (by omega)
    have hnl : (layN e ns n0).length ≤ 150 := by unfold layN newsL; rw [List.length_map, List.length_range]; omega
    have hwl : (e.wtx (layR e ns n0) (layN e ns n0) 0).length ≤ 180000000 := by
     have h1 := wtx_more hb1 hnl hL.pr e hN.na.shows0 hnn
     have h2 := ptx_len e hta
     omega
    have hsame := fun c h hptd => place_same hC hnn hp.wf hN.na hpos hN.last hN.at_ c h hptd
    refine Places_of s w (e.wtx (layR e ns n0) (layN e ns n0) 0) 0 (hpl w htab) (fun w' hb' => ?_)
    refine (refPlace_ok (P := PCl e ns n0) s w' e (tyC e ns) (by omega) hp.wf hta hnn hprs (fun w1 hb => hit w1 (hb'.trans (hb.mono hb'.size))) (pcl_id e ns n0)
     (fun c h => sh_any hC hwt hnn hN.na hpos c h.len (fun x hx => by have := h.sm x hx; omega)) (fun c h => h.sm)
     (fun c h => sh_any hC hwt hnn hN.na hpos _ (rkL_len c e.prs) (fun x hx => ?_)) (fun c x y h hptd => pcl_step hC hN.na hp.wf hpos c x y h hptd)
     (fun c h hptd => by rw [hsame c h hptd]; exact hwl) (fun w1 _ => ?_)).mono ?_
    ·have := rkL_sm c e.prs x hx; omega
    ·refine (Study_ok s w1 (by omega) e hp hf hprs).mono fun _ w2 ⟨b, yb, h, hb, hT⟩ => ⟨b, yb, ((tyFind (List.range e.prs) e 0 0 [] (st0 e)).2.at_ : Int), ?_, hb, hT⟩
     rw [h, h0]; rfl
    ·rintro v w2 ⟨c, h, hptd, hv, hb⟩
     rw [hsame c h hptd] at hv
     exact ⟨hv, hb⟩
   ·refine Places_of s w [] (chkAns e).1 (leasePlace_bad s w (chkAns e).1 (chkAns e).2 hc (fun w => readPlain_tree s w (by omega) e hp)) (fun w1 hb1 => refPlace_bad s w1 (chkAns e).1 hc (fun w2 hb2 => ?_))
    by_cases hmm : 100 < e.prs
    ·refine (Study_many s w2 (by omega) e hp hf hmm).mono fun _ _ ⟨q, h, hq, hb⟩ => ⟨none, none, (q : Int), ?_, hb⟩
     rw [h]
     unfold chkAns
     rw [if_pos hmm]; rfl
    ·have he : (chkAns e).1 = (tyFind (List.range e.prs) e 0 0 [] (st0 e)).2.e := by unfold chkAns; rw [if_neg hmm]
     rw [he]
     exact (Study_ok s w2 (by omega) e hp hf (by omega)).mono fun _ _ ⟨b, yb, h, hb, _⟩ => ⟨some ⟨b, 0, none⟩, some ⟨yb, 0, none⟩, _, h, hb⟩
end Go.Proofs.YtpicaknklgccoaaGreatDoor
