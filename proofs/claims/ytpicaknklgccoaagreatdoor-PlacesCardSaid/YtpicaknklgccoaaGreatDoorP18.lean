import Derived.Test.YtpicaknklgccoaaGreatDoorP17
namespace Go.Proofs.YtpicaknklgccoaaGreatDoor
open Go.RowKit
def typeK (tb : List TP) (K : List Nat) (n : NR) : (Nat × Nat) × List TP :=
 let a := knownK K n.p0
 let b := knownK K n.p1
 let c := knownK K n.p2
 if n.form = 2 then ((if n.source = -1 then (0, 4) else (knownK K n.source, 0)), tb)
 else if n.form = 12 then ((a, 0), tb)
 else if n.form = 3 then ((b, 0), tb)
 else if n.form = 4 then ((if 63 < (atP (pairF tb 0 a b).2 (pairF tb 0 a b).1).sz then (0, 6) else ((pairF tb 0 a b).1, 0)), (pairF tb 0 a b).2)
 else if n.form = 5 then ((if a = 0 then (0, 5) else ((atP tb a).a, 0)), tb)
 else if n.form = 6 then ((if a = 0 then (0, 5) else ((atP tb a).b, 0)), tb)
 else if n.form = 7 ∨ n.form = 11 then ((b, if a = 0 ∧ b = c then 0 else 5), tb)
 else if n.form = 8 ∨ n.form = 9 ∨ n.form = 10 then ((0, if a = 0 ∧ b = 0 then 0 else 5), tb)
 else ((0, 0), tb)
theorem pairF_len (tb : List TP) (r a b : Nat) : (pairF tb r a b).2.length ≤ tb.length + 1 ∧ (pairF tb r a b).1 ≤ tb.length + 1 := by
 unfold pairF
 cases hf : tb.findIdx? (hitP r a b) with
 | none => simp
 | some i =>
  have := (List.findIdx?_eq_some_iff_getElem.1 hf).1
  simp; omega
def tyK (tb : List TP) (K : List Nat) (n : NR) (r : Nat) : Nat × List TP :=
 if n.form = 2 then (knownK K n.source, tb)
 else if n.form = 12 then (knownK K n.p0, tb)
 else if n.form = 3 then (knownK K n.p1, tb)
 else if n.form = 7 then (knownK K n.p1, tb)
 else if n.form = 11 then (knownK K n.p1, tb)
 else if n.form = 4 then pairF tb r (knownK K n.p0) (knownK K n.p1)
 else if n.form = 5 then ((atP tb (knownK K n.p0)).a, tb)
 else if n.form = 6 then ((atP tb (knownK K n.p0)).b, tb)
 else (0, tb)
def ftK (tb : List TP) (K : List Nat) (n : NR) (kind : Nat) : Nat :=
 if n.form = 2 then (if n.source = -1 then 4 else 0)
 else if n.form = 4 then (if 63 < (atP tb kind).sz then 6 else 0)
 else if n.form = 5 then (if knownK K n.p0 = 0 then 5 else 0)
 else if n.form = 6 then (if knownK K n.p0 = 0 then 5 else 0)
 else if n.form = 7 then (if knownK K n.p0 = 0 ∧ knownK K n.p1 = knownK K n.p2 then 0 else 5)
 else if n.form = 11 then (if knownK K n.p0 = 0 ∧ knownK K n.p1 = knownK K n.p2 then 0 else 5)
 else if n.form = 8 then (if knownK K n.p0 = 0 ∧ knownK K n.p1 = 0 then 0 else 5)
 else if n.form = 9 then (if knownK K n.p0 = 0 ∧ knownK K n.p1 = 0 then 0 else 5)
 else if n.form = 10 then (if knownK K n.p0 = 0 ∧ knownK K n.p1 = 0 then 0 else 5)
 else 0
theorem knownK_app (K : List Nat) (x : Nat) (i : Int) (h : i < K.length) : knownK (K ++ [x]) i = knownK K i := by
 unfold knownK
 split
 ·rw [List.getElem?_append_left (by omega)]
 ·rfl
theorem typeK_new (tb : List TP) (K : List Nat) (n : NR) (h : n.p0 < K.length ∧ n.p1 < K.length ∧ n.p2 < K.length) :
  ftK (tyK tb K n 0).2 (K ++ [(tyK tb K n 0).1]) n (tyK tb K n 0).1 = (typeK tb K n).1.2 ∧ ((typeK tb K n).1.2 = 0 → tyK tb K n 0 = ((typeK tb K n).1.1, (typeK tb K n).2)) := by
 unfold ftK
 rw [knownK_app K _ _ h.1, knownK_app K _ _ h.2.1, knownK_app K _ _ h.2.2]
 unfold tyK typeK
 simp only
 by_cases k2 : n.form = 2
 ·simp only [if_pos k2]
  by_cases hs : n.source = -1
  ·simp [if_pos hs]
  ·simp [if_neg hs]
 simp only [if_neg k2]
 by_cases k12 : n.form = 12
 ·simp [k12]
 simp only [if_neg k12]
 by_cases k3 : n.form = 3
 ·simp [k3]
 simp only [if_neg k3]
 by_cases k4 : n.form = 4
 ·simp only [k4]
  by_cases hb : 63 < (atP (pairF tb 0 (knownK K n.p0) (knownK K n.p1)).2 (pairF tb 0 (knownK K n.p0) (knownK K n.p1)).1).sz
  ·simp [if_pos hb]
  ·simp [if_neg hb]
 simp only [if_neg k4]
 by_cases k5 : n.form = 5
 ·simp only [k5]
  by_cases hb : knownK K n.p0 = 0
  ·simp [if_pos hb]
  ·simp [if_neg hb]
 simp only [if_neg k5]
 by_cases k6 : n.form = 6
 ·simp only [k6]
  by_cases hb : knownK K n.p0 = 0
  ·simp [if_pos hb]
  ·simp [if_neg hb]
 simp only [if_neg k6]
 by_cases k7 : n.form = 7
 ·simp [k7]
 by_cases k11 : n.form = 11
 ·simp [k11]
 simp only [k7, k11, or_self, if_false]
 by_cases k8 : n.form = 8
 ·simp [k8]
 by_cases k9 : n.form = 9
 ·simp [k9]
 by_cases k10 : n.form = 10
 ·simp [k10]
 simp [k8, k9, k10]
structure TOk (tb : List TP) (K : List Nat) (n : NR) : Prop where
 hl : tb.length ≤ 8999
 hK : K.length ≤ 9000
 kn : ∀ i, knownK K i ≤ 9500
 sz : ∀ k, (atP tb k).sz ≤ 10000
 s : -10 ≤ n.source ∧ n.source ≤ 10000
 p0 : -10 ≤ n.p0 ∧ n.p0 ≤ 10000
 p1 : -10 ≤ n.p1 ∧ n.p1 ≤ 10000
 p2 : -10 ≤ n.p2 ∧ n.p2 ≤ 10000
def getK (D : List Ty) (k : Nat) : Ty := if k = 0 then .n else (D[k - 1]?).getD .n
structure Rel (tb : List TP) (D : List Ty) (K : List Nat) (T : List Ty) : Prop where
 len : D.length = tb.length
 at_ : ∀ (j : Nat) (p : TP), tb[j]? = some p → p.a ≤ j ∧ p.b ≤ j ∧ D[j]? = some (.p p.r (getK D p.a) (getK D p.b)) ∧ p.sz = (Ty.p p.r (getK D p.a) (getK D p.b)).size ∧ p.sz ≤ 127
 nd : ∀ (i j : Nat) (p q : TP), tb[i]? = some p → tb[j]? = some q → p.r = q.r → p.a = q.a → p.b = q.b → i = j
 k : ∀ x ∈ K, x ≤ tb.length
 t : K.map (getK D) = T
 s : ∀ t ∈ T, t.size ≤ 63
theorem Rel.pair {tb : List TP} {D : List Ty} {K : List Nat} {T : List Ty} (h : Rel tb D K T) (k : Nat) (hk : k ≠ 0) (hl : k ≤ tb.length) : ∃ p, tb[k - 1]? = some p ∧ getK D k = .p p.r (getK D p.a) (getK D p.b) ∧ p.a < k ∧ p.b < k ∧ atP tb k = p := by
 have hj : k - 1 < tb.length := by omega
 refine ⟨tb[k - 1], List.getElem?_eq_getElem hj, ?_, ?_, ?_, ?_⟩
 ·obtain ⟨_, _, h3, _⟩ := h.at_ (k - 1) _ (List.getElem?_eq_getElem hj)
  conv => lhs; unfold getK
  rw [if_neg hk, h3]; rfl
 ·have := (h.at_ (k - 1) _ (List.getElem?_eq_getElem hj)).1; omega
 ·have := (h.at_ (k - 1) _ (List.getElem?_eq_getElem hj)).2.1; omega
 ·unfold atP; rw [if_neg hk, List.getElem?_eq_getElem hj]; rfl
theorem getK_zero (D : List Ty) : getK D 0 = .n := rfl
theorem Rel.num {tb : List TP} {D : List Ty} {K : List Nat} {T : List Ty} (h : Rel tb D K T) (k : Nat) (hl : k ≤ tb.length) : getK D k = .n ↔ k = 0 := by
 constructor
 ·intro e
  by_cases hk : k = 0
  ·exact hk
  ·obtain ⟨p, _, h2, _⟩ := h.pair k hk hl
   rw [h2] at e; cases e
 ·intro e; subst e; rfl
theorem Rel.inj {tb : List TP} {D : List Ty} {K : List Nat} {T : List Ty} (h : Rel tb D K T) : ∀ (m k k' : Nat), k ≤ m → k ≤ tb.length → k' ≤ tb.length → getK D k = getK D k' → k = k' := by
 intro m
 induction m with
 | zero =>
  intro k k' hm _ hl' e
  have : k = 0 := by omega
  subst this
  rw [getK_zero] at e
  exact ((h.num k' hl').1 e.symm).symm
 | succ m ih =>
  intro k k' hm hl hl' e
  by_cases hk : k = 0
  ·subst hk
   rw [getK_zero] at e
   exact ((h.num k' hl').1 e.symm).symm
  ·by_cases hk' : k' = 0
   ·subst hk'
    rw [getK_zero] at e
    exact (h.num k hl).1 e
   ·obtain ⟨p, p1, p2, p3, p4, _⟩ := h.pair k hk hl
    obtain ⟨q, q1, q2, q3, q4, _⟩ := h.pair k' hk' hl'
    rw [p2, q2] at e
    simp only [Ty.p.injEq] at e
    have ea := ih p.a q.a (by omega) (by omega) (by omega) e.2.1
    have eb := ih p.b q.b (by omega) (by omega) (by omega) e.2.2
    have := h.nd (k - 1) (k' - 1) p q p1 q1 e.1 ea eb
    omega
theorem Rel.injI {tb : List TP} {D : List Ty} {K : List Nat} {T : List Ty} (h : Rel tb D K T) {k k' : Nat} (hl : k ≤ tb.length) (hl' : k' ≤ tb.length) : getK D k = getK D k' ↔ k = k' :=
 ⟨h.inj k k k' (Nat.le_refl _) hl hl', fun e => by rw [e]⟩
theorem Rel.known {tb : List TP} {D : List Ty} {K : List Nat} {T : List Ty} (h : Rel tb D K T) (i : Int) : knownT T i = getK D (knownK K i) ∧ knownK K i ≤ tb.length ∧ (knownT T i).size ≤ 63 := by
 unfold knownT knownK
 by_cases hi : 0 ≤ i
 ·rw [if_pos hi, if_pos hi, ← h.t, List.getElem?_map]
  cases hk : K[i.toNat]? with
  | none => exact ⟨rfl, Nat.zero_le _, by simp [Ty.size]⟩
  | some x =>
   refine ⟨rfl, h.k x (List.mem_of_getElem? hk), ?_⟩
   show (getK D x).size ≤ 63
   exact h.s _ (by rw [← h.t]; exact List.mem_map_of_mem (List.mem_of_getElem? hk))
 ·rw [if_neg hi, if_neg hi]; exact ⟨rfl, Nat.zero_le _, by simp [Ty.size]⟩
theorem Rel.sz {tb : List TP} {D : List Ty} {K : List Nat} {T : List Ty} (h : Rel tb D K T) (k : Nat) (hl : k ≤ tb.length) : (atP tb k).sz = (getK D k).size := by
 by_cases hk : k = 0
 ·subst hk; rfl
 ·obtain ⟨p, p1, p2, _, _, p5⟩ := h.pair k hk hl
  rw [p5, p2]
  exact (h.at_ (k - 1) p p1).2.2.2.1
theorem Rel.sz_le {tb : List TP} {D : List Ty} {K : List Nat} {T : List Ty} (h : Rel tb D K T) (k : Nat) : (atP tb k).sz ≤ 127 := by
 unfold atP
 split
 ·simp
 ·cases hp : tb[k - 1]? with
  | none => simp
  | some p => exact (h.at_ _ p hp).2.2.2.2
theorem Rel.parts_le {tb : List TP} {D : List Ty} {K : List Nat} {T : List Ty} (h : Rel tb D K T) (k : Nat) : (atP tb k).a ≤ tb.length ∧ (atP tb k).b ≤ tb.length := by
 unfold atP
 split
 ·simp
 ·cases hp : tb[k - 1]? with
  | none => simp
  | some p =>
   have := h.at_ _ p hp
   have := (List.getElem?_eq_some_iff.1 hp).1
   simp only [Option.getD_some]; omega
theorem Rel.push {tb : List TP} {D : List Ty} {K : List Nat} {T : List Ty} (h : Rel tb D K T) (k : Nat) (hk : k ≤ tb.length) (hs : (getK D k).size ≤ 63) : Rel tb D (K ++ [k]) (T ++ [getK D k]) := by
 refine ⟨h.len, h.at_, h.nd, ?_, ?_, ?_⟩
 ·intro x hx
  rcases List.mem_append.1 hx with hx | hx
  ·exact h.k x hx
  ·rw [List.mem_singleton] at hx; rw [hx]; exact hk
 ·rw [List.map_append, h.t]; rfl
 ·intro t ht
  rcases List.mem_append.1 ht with ht | ht
  ·exact h.s t ht
  ·rw [List.mem_singleton] at ht; rw [ht]; exact hs
theorem getK_app (D : List Ty) (x : Ty) (k : Nat) (hk : k ≤ D.length) : getK (D ++ [x]) k = getK D k := by
 unfold getK
 split
 ·rfl
 ·rw [List.getElem?_append_left (by omega)]
theorem Rel.pairF {tb : List TP} {D : List Ty} {K : List Nat} {T : List Ty} (h : Rel tb D K T) (a b : Nat) (ha : a ≤ tb.length) (hb : b ≤ tb.length) (sa : (getK D a).size ≤ 63) (sb : (getK D b).size ≤ 63) :
  ∃ D', Rel (Go.Proofs.YtpicaknklgccoaaGreatDoor.pairF tb 0 a b).2 D' K T ∧ getK D' (Go.Proofs.YtpicaknklgccoaaGreatDoor.pairF tb 0 a b).1 = .p 0 (getK D a) (getK D b) ∧ (Go.Proofs.YtpicaknklgccoaaGreatDoor.pairF tb 0 a b).1 ≤ (Go.Proofs.YtpicaknklgccoaaGreatDoor.pairF tb 0 a b).2.length ∧ (∀ k, k ≤ tb.length → getK D' k = getK D k) := by
 unfold Go.Proofs.YtpicaknklgccoaaGreatDoor.pairF
 cases hf : tb.findIdx? (hitP 0 a b) with
 | some i =>
  obtain ⟨hi, hp, _⟩ := List.findIdx?_eq_some_iff_getElem.1 hf
  simp only
  unfold hitP at hp
  simp only [Bool.and_eq_true, beq_iff_eq] at hp
  obtain ⟨p, p1, p2, _⟩ := h.pair (i + 1) (by omega) (by omega)
  rw [Nat.add_sub_cancel, List.getElem?_eq_getElem hi] at p1
  simp only [Option.some.injEq] at p1
  refine ⟨D, h, ?_, by omega, fun _ _ => rfl⟩
  rw [p2, ← p1, hp.1.1, hp.1.2, hp.2]
 | none =>
  simp only
  rw [List.findIdx?_eq_none_iff] at hf
  have hD := h.len
  refine ⟨D ++ [.p 0 (getK D a) (getK D b)], ⟨by simp [hD], ?_, ?_, fun x hx => by have := h.k x hx; simp; omega, ?_, h.s⟩, ?_, by simp, fun k hk => getK_app D _ k (by omega)⟩
  ·intro j p hj
   by_cases hjl : j < tb.length
   ·rw [List.getElem?_append_left hjl] at hj
    obtain ⟨h1, h2, h3, h4, h5⟩ := h.at_ j p hj
    rw [getK_app D _ p.a (by omega), getK_app D _ p.b (by omega), List.getElem?_append_left (by omega)]
    exact ⟨h1, h2, h3, h4, h5⟩
   ·have hje : j = tb.length := by
     have := (List.getElem?_eq_some_iff.1 hj).1
     simp at this; omega
    subst hje
    rw [List.getElem?_append_right (Nat.le_refl _)] at hj
    simp only [Nat.sub_self, List.getElem?_cons_zero, Option.some.injEq] at hj
    subst hj
    simp only
    rw [getK_app D _ a (by omega), getK_app D _ b (by omega), List.getElem?_append_right (by omega), hD, Nat.sub_self, h.sz a ha, h.sz b hb]
    refine ⟨ha, hb, rfl, by simp only [Ty.size]; omega, by omega⟩
  ·intro i j p q hi hj e1 e2 e3
   have key : ∀ (i : Nat) (p : TP), tb[i]? = some p → ¬ (p.r = 0 ∧ p.a = a ∧ p.b = b) := by
    intro i p hi hh
    have := hf p (List.mem_of_getElem? hi)
    unfold hitP at this
    simp [hh.1, hh.2.1, hh.2.2] at this
   have last : ∀ (i : Nat) (p : TP), (tb ++ [⟨0, a, b, 1 + (atP tb a).sz + (atP tb b).sz⟩])[i]? = some p → (tb[i]? = some p ∧ i < tb.length) ∨ (i = tb.length ∧ p.r = 0 ∧ p.a = a ∧ p.b = b) := by
    intro i p hi
    by_cases hil : i < tb.length
    ·rw [List.getElem?_append_left hil] at hi; exact Or.inl ⟨hi, hil⟩
    ·have hie : i = tb.length := by
      have := (List.getElem?_eq_some_iff.1 hi).1
      simp at this; omega
     subst hie
     rw [List.getElem?_append_right (Nat.le_refl _)] at hi
     simp only [Nat.sub_self, List.getElem?_cons_zero, Option.some.injEq] at hi
     subst hi
     exact Or.inr ⟨rfl, rfl, rfl, rfl⟩
   rcases last i p hi with ⟨h1, _⟩ | ⟨h1, h2⟩
   ·rcases last j q hj with ⟨g1, _⟩ | ⟨g1, g2⟩
    ·exact h.nd i j p q h1 g1 e1 e2 e3
    ·exact absurd ⟨e1.trans g2.1, e2.trans g2.2.1, e3.trans g2.2.2⟩ (key i p h1)
   ·rcases last j q hj with ⟨g1, _⟩ | ⟨g1, g2⟩
    ·exact absurd ⟨e1.symm.trans h2.1, e2.symm.trans h2.2.1, e3.symm.trans h2.2.2⟩ (key j q g1)
    ·omega
  ·rw [← h.t]
   apply List.map_congr_left
   intro x hx
   exact getK_app D _ x (by have := h.k x hx; omega)
  ·unfold getK
   rw [if_neg (by omega), Nat.add_sub_cancel, ← hD, List.getElem?_append_right (Nat.le_refl _)]
   simp
theorem step_rel {tb : List TP} {D : List Ty} {K : List Nat} {T : List Ty} (h : Rel tb D K T) (n : NR) :
  (typeK tb K n).1.2 = (typeN T n).2 ∧ ((typeN T n).2 = 0 → ∃ D', Rel (typeK tb K n).2 D' (K ++ [(typeK tb K n).1.1]) (T ++ [(typeN T n).1])) := by
 obtain ⟨a1, a2, a3⟩ := h.known n.p0
 obtain ⟨b1, b2, b3⟩ := h.known n.p1
 obtain ⟨c1, c2, c3⟩ := h.known n.p2
 obtain ⟨s1, s2, s3⟩ := h.known n.source
 have push : ∀ k, k ≤ tb.length → (getK D k).size ≤ 63 → ∃ D', Rel tb D' (K ++ [k]) (T ++ [getK D k]) := fun k hk hs => ⟨D, h.push k hk hs⟩
 have p0 : ∃ D', Rel tb D' (K ++ [0]) (T ++ [Ty.n]) := push 0 (Nat.zero_le _) (by simp [getK, Ty.size])
 unfold typeK typeN
 simp only
 rw [a1] at a3
 rw [b1] at b3
 rw [c1] at c3
 rw [s1] at s3
 by_cases k2 : n.form = 2
 ·rw [if_pos k2, if_pos k2]
  by_cases hs : n.source = -1
  ·rw [if_pos hs, if_pos hs]; exact ⟨rfl, fun e => by cases e⟩
  ·rw [if_neg hs, if_neg hs]
   refine ⟨rfl, fun _ => ?_⟩
   simp only
   rw [s1]; exact push _ s2 s3
 rw [if_neg k2, if_neg k2]
 by_cases k12 : n.form = 12
 ·rw [if_pos k12, if_pos k12]
  refine ⟨rfl, fun _ => ?_⟩
  simp only
  rw [a1]; exact push _ a2 a3
 rw [if_neg k12, if_neg k12]
 by_cases k3 : n.form = 3
 ·rw [if_pos k3, if_pos k3]
  refine ⟨rfl, fun _ => ?_⟩
  simp only
  rw [b1]; exact push _ b2 b3
 rw [if_neg k3, if_neg k3]
 by_cases k4 : n.form = 4
 ·rw [if_pos k4, if_pos k4]
  obtain ⟨D', h1, h2, h3, _⟩ := h.pairF (knownK K n.p0) (knownK K n.p1) a2 b2 a3 b3
  have hsz := h1.sz _ h3
  rw [h2, ← a1, ← b1] at hsz
  rw [hsz]
  by_cases hb : 63 < (Ty.p 0 (knownT T n.p0) (knownT T n.p1)).size
  ·rw [if_pos hb, if_pos hb]; exact ⟨rfl, fun e => by cases e⟩
  ·rw [if_neg hb, if_neg hb]
   refine ⟨rfl, fun _ => ⟨D', ?_⟩⟩
   have := h1.push _ h3 (by rw [h2, ← a1, ← b1]; omega)
   rw [h2, ← a1, ← b1] at this
   exact this
 rw [if_neg k4, if_neg k4]
 have part : ∀ (k5 : knownK K n.p0 ≠ 0), ∃ r, knownT T n.p0 = .p r (getK D (atP tb (knownK K n.p0)).a) (getK D (atP tb (knownK K n.p0)).b) ∧ (atP tb (knownK K n.p0)).a ≤ tb.length ∧ (atP tb (knownK K n.p0)).b ≤ tb.length := by
  intro hk
  obtain ⟨p, q1, q2, q3, q4, q5⟩ := h.pair (knownK K n.p0) hk a2
  rw [q5]
  exact ⟨p.r, by rw [a1, q2], by omega, by omega⟩
 have psz : ∀ r x y, knownT T n.p0 = .p r x y → x.size ≤ 63 ∧ y.size ≤ 63 := by
  intro r x y e
  rw [← a1, e] at a3
  simp only [Ty.size] at a3; omega
 by_cases k5 : n.form = 5
 ·rw [if_pos k5, if_pos k5]
  by_cases hk : knownK K n.p0 = 0
  ·have : knownT T n.p0 = .n := by rw [a1]; exact (h.num _ a2).2 hk
   rw [if_pos hk, this]; exact ⟨rfl, fun e => by cases e⟩
  ·obtain ⟨r, e1, e2, e3⟩ := part hk
   have := psz _ _ _ e1
   rw [if_neg hk, e1]
   exact ⟨rfl, fun _ => push _ e2 this.1⟩
 rw [if_neg k5, if_neg k5]
 by_cases k6 : n.form = 6
 ·rw [if_pos k6, if_pos k6]
  by_cases hk : knownK K n.p0 = 0
  ·have : knownT T n.p0 = .n := by rw [a1]; exact (h.num _ a2).2 hk
   rw [if_pos hk, this]; exact ⟨rfl, fun e => by cases e⟩
  ·obtain ⟨r, e1, e2, e3⟩ := part hk
   have := psz _ _ _ e1
   rw [if_neg hk, e1]
   exact ⟨rfl, fun _ => push _ e3 this.2⟩
 rw [if_neg k6, if_neg k6]
 have ea : knownT T n.p0 = .n ↔ knownK K n.p0 = 0 := by rw [a1]; exact h.num _ a2
 have eb : knownT T n.p1 = .n ↔ knownK K n.p1 = 0 := by rw [b1]; exact h.num _ b2
 have ebc : knownT T n.p1 = knownT T n.p2 ↔ knownK K n.p1 = knownK K n.p2 := by rw [b1, c1]; exact h.injI b2 c2
 by_cases k7 : n.form = 7 ∨ n.form = 11
 ·rw [if_pos k7, if_pos k7]
  simp only [ea, ebc]
  refine ⟨trivial, fun _ => ?_⟩
  rw [b1]; exact push _ b2 b3
 rw [if_neg k7, if_neg k7]
 by_cases k8 : n.form = 8 ∨ n.form = 9 ∨ n.form = 10
 ·rw [if_pos k8, if_pos k8]
  simp only [ea, eb]
  exact ⟨trivial, fun _ => p0⟩
 rw [if_neg k8, if_neg k8]
 exact ⟨rfl, fun _ => p0⟩
def ckK : List TP → List Nat → List NR → Nat × Nat
 | _, _, [] => (0, 0)
 | tb, K, n :: r => if (typeK tb K n).1.2 ≠ 0 then ((typeK tb K n).1.2, n.at_) else ckK (typeK tb K n).2 (K ++ [(typeK tb K n).1.1]) r
theorem ckK_eq : ∀ (ns : List NR) {tb : List TP} {D : List Ty} {K : List Nat} {T : List Ty}, Rel tb D K T → ckK tb K ns = (ckRun T ns).1
 | [], _, _, _, _, _ => rfl
 | n :: r, tb, D, K, T, h => by
  obtain ⟨h1, h2⟩ := step_rel h n
  simp only [ckK, ckRun, h1]
  by_cases e : (typeN T n).2 ≠ 0
  ·rw [if_pos e, if_pos e]
  ·rw [if_neg e, if_neg e]
   have e0 : (typeN T n).2 = 0 := by omega
   obtain ⟨D', h3⟩ := h2 e0
   exact ckK_eq r h3
theorem rel0 : Rel [] [] [] [] := ⟨rfl, fun j p h => by simp at h, fun i j p q h => by simp at h, by simp, rfl, by simp⟩
theorem typeK_len (tb : List TP) (K : List Nat) (n : NR) : (typeK tb K n).2.length ≤ tb.length + 1 := by
 have := (pairF_len tb 0 (knownK K n.p0) (knownK K n.p1)).1
 unfold typeK
 simp only
 split <;> (try simp only; omega)
 split <;> (try simp only; omega)
 split <;> (try simp only; omega)
 split <;> (try simp only; omega)
 split <;> (try simp only; omega)
 split <;> (try simp only; omega)
 split <;> (try simp only; omega)
 split <;> (try simp only; omega)
def NR.small (n : NR) : Prop := (-1 ≤ n.source ∧ n.source ≤ 9000) ∧ (-1 ≤ n.p0 ∧ n.p0 ≤ 9000) ∧ (-1 ≤ n.p1 ∧ n.p1 ≤ 9000) ∧ (-1 ≤ n.p2 ∧ n.p2 ≤ 9000)
def scSmall (sc : Sc) : Prop := ∀ x ∈ sc, -1 ≤ x.2 ∧ x.2 ≤ 9000
theorem findS_small {sc : Sc} (h : scSmall sc) (w : List UInt8) : -1 ≤ findS sc w ∧ findS sc w ≤ 9000 := by
 unfold findS
 split
 ·rename_i x hx
  exact h x (by have := List.mem_of_find?_eq_some hx; simpa using this)
 ·omega
theorem partsL_small : ∀ (ts : List PT) (base : Nat), base + cntL ts ≤ 9000 → ∀ x ∈ partsL ts base, -1 ≤ x ∧ x ≤ 9000
 | [], _, _, x, hx => by simp [partsL] at hx
 | t :: r, base, h, x, hx => by
  simp only [cntL] at h
  simp only [partsL] at hx
  rcases List.mem_cons.1 hx with rfl | hx
  ·omega
  ·exact partsL_small r (base + t.cnt) (by omega) x hx
theorem getD_small {l : List Int} (h : ∀ x ∈ l, -1 ≤ x ∧ x ≤ 9000) (j : Nat) : -1 ≤ l.getD j (-1) ∧ l.getD j (-1) ≤ 9000 := by
 rw [List.getD_eq_getElem?_getD]
 cases hj : l[j]? with
 | none => simp
 | some x => exact h x (List.mem_of_getElem? hj)
mutual
theorem NA.small : ∀ {scope : Sc} {t : PT} {base : Nat} {ns : List NR}, NA scope t base ns → scSmall scope → base + t.cnt ≤ 9000 → ∀ n ∈ ns, n.small
 | _, .num p s, base, ns, h, _, _, n, hn => by
  simp only [NA] at h
  subst h
  rw [List.mem_singleton] at hn; subst hn
  exact ⟨by simp, by simp, by simp, by simp⟩
 | scope, .name p s, base, ns, h, hs, _, n, hn => by
  simp only [NA] at h
  subst h
  rw [List.mem_singleton] at hn; subst hn
  exact ⟨findS_small hs s, by simp, by simp, by simp⟩
 | scope, .node p k nm rg kids, base, ns, h, hs, hb, n, hn => by
  simp only [NA] at h
  obtain ⟨ks, beh, h1, rfl⟩ := h
  simp only [PT.cnt] at hb
  rcases List.mem_append.1 hn with hn | hn
  ·exact NAs.small h1 hs (by omega) n hn
  ·rw [List.mem_singleton] at hn; subst hn
   have hp := partsL_small kids base (by omega)
   exact ⟨by simp, getD_small hp 0, getD_small hp 1, getD_small hp 2⟩
theorem NAs.small : ∀ {scope : Sc} {nm : List UInt8} {ts : List PT} {bs : List Bool} {base : Nat} {ns : List NR}, NAs scope nm ts bs base ns → scSmall scope → base + cntL ts ≤ 9000 → ∀ n ∈ ns, n.small
 | _, _, [], _, _, _, h, _, _, n, hn => by simp only [NAs] at h; rw [h.2] at hn; simp at hn
 | _, _, _ :: _, [], _, _, h, _, _, _, _ => by simp [NAs] at h
 | scope, nm, t :: r, b :: bs, base, ns, h, hs, hb, n, hn => by
  simp only [NAs] at h
  obtain ⟨a, c, h1, h2, rfl⟩ := h
  simp only [cntL] at hb
  rcases List.mem_append.1 hn with hn | hn
  ·refine NA.small h1 ?_ (by omega) n hn
   cases b with
   | false => exact hs
   | true =>
    intro x hx
    rcases List.mem_append.1 hx with hx | hx
    ·exact hs x hx
    ·rw [List.mem_singleton] at hx; subst hx
     show -1 ≤ (base : Int) - 1 ∧ (base : Int) - 1 ≤ 9000
     omega
  ·exact NAs.small h2 hs (by omega) n hn
end
theorem partsL_lt : ∀ (ts : List PT) (base : Nat), ∀ x ∈ partsL ts base, x < ((base + cntL ts : Nat) : Int)
 | [], _, x, hx => by simp [partsL] at hx
 | t :: r, base, x, hx => by
  simp only [partsL] at hx
  simp only [cntL]
  rcases List.mem_cons.1 hx with rfl | hx
  ·omega
  ·have := partsL_lt r (base + t.cnt) x hx; omega
theorem getD_lt {l : List Int} {m : Nat} (h : ∀ x ∈ l, x < (m : Int)) (j : Nat) : l.getD j (-1) < (m : Int) := by
 rw [List.getD_eq_getElem?_getD]
 cases hj : l[j]? with
 | none => simp; omega
 | some x => exact h x (List.mem_of_getElem? hj)
mutual
theorem NA.back : ∀ {scope : Sc} {t : PT} {base : Nat} {ns : List NR}, NA scope t base ns → ∀ (j : Nat) (n : NR), ns[j]? = some n → n.p0 < ((base + j : Nat) : Int) ∧ n.p1 < ((base + j : Nat) : Int) ∧ n.p2 < ((base + j : Nat) : Int)
 | _, .num p s, base, ns, h, j, n, hn => by
  simp only [NA] at h
  subst h
  have hj : j = 0 := by have := (List.getElem?_eq_some_iff.1 hn).1; simp at this; omega
  subst hj
  simp only [List.getElem?_cons_zero, Option.some.injEq] at hn; subst hn
  simp only; omega
 | scope, .name p s, base, ns, h, j, n, hn => by
  simp only [NA] at h
  subst h
  have hj : j = 0 := by have := (List.getElem?_eq_some_iff.1 hn).1; simp at this; omega
  subst hj
  simp only [List.getElem?_cons_zero, Option.some.injEq] at hn; subst hn
  simp only; omega
 | scope, .node p k nm rg kids, base, ns, h, j, n, hn => by
  simp only [NA] at h
  obtain ⟨ks, beh, h1, rfl⟩ := h
  have hl := NAs.len h1
  by_cases hj : j < ks.length
  ·rw [List.getElem?_append_left hj] at hn
   exact NAs.back h1 j n hn
  ·have hje : j = ks.length := by have := (List.getElem?_eq_some_iff.1 hn).1; simp at this; omega
   rw [List.getElem?_append_right (by omega), hje, Nat.sub_self] at hn
   simp only [List.getElem?_cons_zero, Option.some.injEq] at hn; subst hn
   have hp := partsL_lt kids base
   rw [hje, hl]
   exact ⟨getD_lt hp 0, getD_lt hp 1, getD_lt hp 2⟩
theorem NAs.back : ∀ {scope : Sc} {nm : List UInt8} {ts : List PT} {bs : List Bool} {base : Nat} {ns : List NR}, NAs scope nm ts bs base ns → ∀ (j : Nat) (n : NR), ns[j]? = some n → n.p0 < ((base + j : Nat) : Int) ∧ n.p1 < ((base + j : Nat) : Int) ∧ n.p2 < ((base + j : Nat) : Int)
 | _, _, [], _, _, _, h, j, n, hn => by simp only [NAs] at h; rw [h.2] at hn; simp at hn
 | _, _, _ :: _, [], _, _, h, _, _, _ => by simp [NAs] at h
 | scope, nm, t :: r, b :: bs, base, ns, h, j, n, hn => by
  simp only [NAs] at h
  obtain ⟨a, c, h1, h2, rfl⟩ := h
  have hl := NA.len h1
  by_cases hj : j < a.length
  ·rw [List.getElem?_append_left hj] at hn
   exact NA.back h1 j n hn
  ·rw [List.getElem?_append_right (by omega)] at hn
   have := NAs.back h2 (j - a.length) n hn
   rw [hl] at this hj
   rw [show base + t.cnt + (j - t.cnt) = base + j from by omega] at this
   exact this
end
mutual
theorem opn_in : ∀ (t : PT) (base : Nat), ∀ x ∈ opn t base, (base : Int) ≤ x ∧ x < ((base + t.cnt : Nat) : Int)
 | .num _ _, base, x, hx => by simp only [opn, List.mem_singleton] at hx; subst hx; simp only [PT.cnt]; omega
 | .name _ _, base, x, hx => by simp only [opn, List.mem_singleton] at hx; subst hx; simp only [PT.cnt]; omega
 | .node _ _ _ _ kids, base, x, hx => by
  simp only [opn] at hx
  simp only [PT.cnt]
  rcases List.mem_cons.1 hx with rfl | hx
  ·omega
  ·have := opnL_in kids base x hx; omega
theorem opnL_in : ∀ (ts : List PT) (base : Nat), ∀ x ∈ opnL ts base, (base : Int) ≤ x ∧ x < ((base + cntL ts : Nat) : Int)
 | [], _, x, hx => by simp [opnL] at hx
 | t :: r, base, x, hx => by
  simp only [opnL] at hx
  simp only [cntL]
  rcases List.mem_append.1 hx with hx | hx
  ·have := opn_in t base x hx; omega
  ·have := opnL_in r (base + t.cnt) x hx; omega
end
end Go.Proofs.YtpicaknklgccoaaGreatDoor
