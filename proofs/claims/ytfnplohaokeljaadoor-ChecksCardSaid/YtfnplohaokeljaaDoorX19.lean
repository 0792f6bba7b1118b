import Derived.Test.YtfnplohaokeljaaDoorX18
/- The program's table of types against types. -/
namespace Go.Proofs.YtfnplohaokeljaaDoor

def getK (D : List Ty) (k : Nat) : Ty := if k = 0 then .n else (D[k - 1]?).getD .n

structure Rel (tb : List TP) (D : List Ty) (K : List Nat) (T : List Ty) : Prop where
  len : D.length = tb.length
  at_ : ∀ (j : Nat) (p : TP), tb[j]? = some p → p.a ≤ j ∧ p.b ≤ j ∧ D[j]? = some (.p p.r (getK D p.a) (getK D p.b)) ∧ p.sz = (Ty.p p.r (getK D p.a) (getK D p.b)).size ∧ p.sz ≤ 127
  nd : ∀ (i j : Nat) (p q : TP), tb[i]? = some p → tb[j]? = some q → p.r = q.r → p.a = q.a → p.b = q.b → i = j
  k : ∀ x ∈ K, x ≤ tb.length
  t : K.map (getK D) = T
  s : ∀ t ∈ T, t.size ≤ 63

theorem Rel.pair {tb : List TP} {D : List Ty} {K : List Nat} {T : List Ty} (h : Rel tb D K T) (k : Nat) (hk : k ≠ 0) (hl : k ≤ tb.length) : ∃ p, tb[k - 1]? = some p ∧ getK D k = .p p.r (getK D p.a) (getK D p.b) ∧ p.a < k ∧ p.b < k ∧ atP tb k = p := by
  have hj : k - 1 < tb.length := by omega
  refine ⟨tb[k - 1], List.getElem?_eq_getElem hj, ?_, ?_, ?_, ?_⟩
  · obtain ⟨_, _, h3, _⟩ := h.at_ (k - 1) _ (List.getElem?_eq_getElem hj)
    conv => lhs; unfold getK
    rw [if_neg hk, h3]; rfl
  · have := (h.at_ (k - 1) _ (List.getElem?_eq_getElem hj)).1; omega
  · have := (h.at_ (k - 1) _ (List.getElem?_eq_getElem hj)).2.1; omega
  · unfold atP; rw [if_neg hk, List.getElem?_eq_getElem hj]; rfl
theorem getK_zero (D : List Ty) : getK D 0 = .n := rfl
theorem Rel.num {tb : List TP} {D : List Ty} {K : List Nat} {T : List Ty} (h : Rel tb D K T) (k : Nat) (hl : k ≤ tb.length) : getK D k = .n ↔ k = 0 := by
  constructor
  · intro e
    by_cases hk : k = 0
    · exact hk
    · obtain ⟨p, _, h2, _⟩ := h.pair k hk hl
      rw [h2] at e; cases e
  · intro e; subst e; rfl
theorem Rel.inj {tb : List TP} {D : List Ty} {K : List Nat} {T : List Ty} (h : Rel tb D K T) : ∀ (m k k' : Nat), k ≤ m → k ≤ tb.length → k' ≤ tb.length → getK D k = getK D k' → k = k' := by
  intro m
  induction m with
  | zero =>
    intro k k' hm _ hl' e
    have : k = 0 := by omega
    subst this
    rw [getK_zero] at e
    exact ((h.num k' hl').1 e.symm).symm
  | succ m ih =>
    intro k k' hm hl hl' e
    by_cases hk : k = 0
    · subst hk
      rw [getK_zero] at e
      exact ((h.num k' hl').1 e.symm).symm
    · by_cases hk' : k' = 0
      · subst hk'
        rw [getK_zero] at e
        exact (h.num k hl).1 e
      · obtain ⟨p, p1, p2, p3, p4, _⟩ := h.pair k hk hl
        obtain ⟨q, q1, q2, q3, q4, _⟩ := h.pair k' hk' hl'
        rw [p2, q2] at e
        simp only [Ty.p.injEq] at e
        have ea := ih p.a q.a (by omega) (by omega) (by omega) e.2.1
        have eb := ih p.b q.b (by omega) (by omega) (by omega) e.2.2
        have := h.nd (k - 1) (k' - 1) p q p1 q1 e.1 ea eb
        omega
theorem Rel.injI {tb : List TP} {D : List Ty} {K : List Nat} {T : List Ty} (h : Rel tb D K T) {k k' : Nat} (hl : k ≤ tb.length) (hl' : k' ≤ tb.length) : getK D k = getK D k' ↔ k = k' :=
  ⟨h.inj k k k' (Nat.le_refl _) hl hl', fun e => by rw [e]⟩

theorem Rel.known {tb : List TP} {D : List Ty} {K : List Nat} {T : List Ty} (h : Rel tb D K T) (i : Int) : knownT T i = getK D (knownK K i) ∧ knownK K i ≤ tb.length ∧ (knownT T i).size ≤ 63 := by
  unfold knownT knownK
  by_cases hi : 0 ≤ i
  · rw [if_pos hi, if_pos hi, ← h.t, List.getElem?_map]
    cases hk : K[i.toNat]? with
    | none => exact ⟨rfl, Nat.zero_le _, by simp [Ty.size]⟩
    | some x =>
      refine ⟨rfl, h.k x (List.mem_of_getElem? hk), ?_⟩
      show (getK D x).size ≤ 63
      exact h.s _ (by rw [← h.t]; exact List.mem_map_of_mem (List.mem_of_getElem? hk))
  · rw [if_neg hi, if_neg hi]; exact ⟨rfl, Nat.zero_le _, by simp [Ty.size]⟩

theorem Rel.sz {tb : List TP} {D : List Ty} {K : List Nat} {T : List Ty} (h : Rel tb D K T) (k : Nat) (hl : k ≤ tb.length) : (atP tb k).sz = (getK D k).size := by
  by_cases hk : k = 0
  · subst hk; rfl
  · obtain ⟨p, p1, p2, _, _, p5⟩ := h.pair k hk hl
    rw [p5, p2]
    exact (h.at_ (k - 1) p p1).2.2.2.1
theorem Rel.sz_le {tb : List TP} {D : List Ty} {K : List Nat} {T : List Ty} (h : Rel tb D K T) (k : Nat) : (atP tb k).sz ≤ 127 := by
  unfold atP
  split
  · simp
  · cases hp : tb[k - 1]? with
    | none => simp
    | some p => exact (h.at_ _ p hp).2.2.2.2

/-- one more type that is known -/
theorem Rel.push {tb : List TP} {D : List Ty} {K : List Nat} {T : List Ty} (h : Rel tb D K T) (k : Nat) (hk : k ≤ tb.length) (hs : (getK D k).size ≤ 63) : Rel tb D (K ++ [k]) (T ++ [getK D k]) := by
  refine ⟨h.len, h.at_, h.nd, ?_, ?_, ?_⟩
  · intro x hx
    rcases List.mem_append.1 hx with hx | hx
    · exact h.k x hx
    · rw [List.mem_singleton] at hx; rw [hx]; exact hk
  · rw [List.map_append, h.t]; rfl
  · intro t ht
    rcases List.mem_append.1 ht with ht | ht
    · exact h.s t ht
    · rw [List.mem_singleton] at ht; rw [ht]; exact hs

theorem getK_app (D : List Ty) (x : Ty) (k : Nat) (hk : k ≤ D.length) : getK (D ++ [x]) k = getK D k := by
  unfold getK
  split
  · rfl
  · rw [List.getElem?_append_left (by omega)]

theorem Rel.pairF {tb : List TP} {D : List Ty} {K : List Nat} {T : List Ty} (h : Rel tb D K T) (a b : Nat) (ha : a ≤ tb.length) (hb : b ≤ tb.length) (sa : (getK D a).size ≤ 63) (sb : (getK D b).size ≤ 63) :
    ∃ D', Rel (Go.Proofs.YtfnplohaokeljaaDoor.pairF tb 0 a b).2 D' K T ∧ getK D' (Go.Proofs.YtfnplohaokeljaaDoor.pairF tb 0 a b).1 = .p 0 (getK D a) (getK D b) ∧ (Go.Proofs.YtfnplohaokeljaaDoor.pairF tb 0 a b).1 ≤ (Go.Proofs.YtfnplohaokeljaaDoor.pairF tb 0 a b).2.length ∧ (∀ k, k ≤ tb.length → getK D' k = getK D k) := by
  unfold Go.Proofs.YtfnplohaokeljaaDoor.pairF
  cases hf : tb.findIdx? (hitP 0 a b) with
  | some i =>
    obtain ⟨hi, hp, _⟩ := List.findIdx?_eq_some_iff_getElem.1 hf
    simp only
    unfold hitP at hp
    simp only [Bool.and_eq_true, beq_iff_eq] at hp
    obtain ⟨p, p1, p2, _⟩ := h.pair (i + 1) (by omega) (by omega)
    rw [Nat.add_sub_cancel, List.getElem?_eq_getElem hi] at p1
    simp only [Option.some.injEq] at p1
    refine ⟨D, h, ?_, by omega, fun _ _ => rfl⟩
    rw [p2, ← p1, hp.1.1, hp.1.2, hp.2]
  | none =>
    simp only
    rw [List.findIdx?_eq_none_iff] at hf
    have hD := h.len
    refine ⟨D ++ [.p 0 (getK D a) (getK D b)], ⟨by simp [hD], ?_, ?_, fun x hx => by have := h.k x hx; simp; omega, ?_, h.s⟩, ?_, by simp, fun k hk => getK_app D _ k (by omega)⟩
    · intro j p hj
      by_cases hjl : j < tb.length
      · rw [List.getElem?_append_left hjl] at hj
        obtain ⟨h1, h2, h3, h4, h5⟩ := h.at_ j p hj
        rw [getK_app D _ p.a (by omega), getK_app D _ p.b (by omega), List.getElem?_append_left (by omega)]
        exact ⟨h1, h2, h3, h4, h5⟩
      · have hje : j = tb.length := by
          have := (List.getElem?_eq_some_iff.1 hj).1
          simp at this; omega
        subst hje
        rw [List.getElem?_append_right (Nat.le_refl _)] at hj
        simp only [Nat.sub_self, List.getElem?_cons_zero, Option.some.injEq] at hj
        subst hj
        simp only
        rw [getK_app D _ a (by omega), getK_app D _ b (by omega), List.getElem?_append_right (by omega), hD, Nat.sub_self, h.sz a ha, h.sz b hb]
        refine ⟨ha, hb, rfl, by simp only [Ty.size]; omega, by omega⟩
    · intro i j p q hi hj e1 e2 e3
      have key : ∀ (i : Nat) (p : TP), tb[i]? = some p → ¬ (p.r = 0 ∧ p.a = a ∧ p.b = b) := by
        intro i p hi hh
        have := hf p (List.mem_of_getElem? hi)
        unfold hitP at this
        simp [hh.1, hh.2.1, hh.2.2] at this
      have last : ∀ (i : Nat) (p : TP), (tb ++ [⟨0, a, b, 1 + (atP tb a).sz + (atP tb b).sz⟩])[i]? = some p → (tb[i]? = some p ∧ i < tb.length) ∨ (i = tb.length ∧ p.r = 0 ∧ p.a = a ∧ p.b = b) := by
        intro i p hi
        by_cases hil : i < tb.length
        · rw [List.getElem?_append_left hil] at hi; exact Or.inl ⟨hi, hil⟩
        · have hie : i = tb.length := by
            have := (List.getElem?_eq_some_iff.1 hi).1
            simp at this; omega
          subst hie
          rw [List.getElem?_append_right (Nat.le_refl _)] at hi
          simp only [Nat.sub_self, List.getElem?_cons_zero, Option.some.injEq] at hi
          subst hi
          exact Or.inr ⟨rfl, rfl, rfl, rfl⟩
      rcases last i p hi with ⟨h1, _⟩ | ⟨h1, h2⟩
      · rcases last j q hj with ⟨g1, _⟩ | ⟨g1, g2⟩
        · exact h.nd i j p q h1 g1 e1 e2 e3
        · exact absurd ⟨e1.trans g2.1, e2.trans g2.2.1, e3.trans g2.2.2⟩ (key i p h1)
      · rcases last j q hj with ⟨g1, _⟩ | ⟨g1, g2⟩
        · exact absurd ⟨e1.symm.trans h2.1, e2.symm.trans h2.2.1, e3.symm.trans h2.2.2⟩ (key j q g1)
        · omega
    · rw [← h.t]
      apply List.map_congr_left
      intro x hx
      exact getK_app D _ x (by have := h.k x hx; omega)
    · unfold getK
      rw [if_neg (by omega), Nat.add_sub_cancel, ← hD, List.getElem?_append_right (Nat.le_refl _)]
      simp
end Go.Proofs.YtfnplohaokeljaaDoor

namespace Go.Proofs.YtfnplohaokeljaaDoor

theorem step_rel {tb : List TP} {D : List Ty} {K : List Nat} {T : List Ty} (h : Rel tb D K T) (n : NR) :
    (typeK tb K n).1.2 = (typeN T n).2 ∧ ((typeN T n).2 = 0 → ∃ D', Rel (typeK tb K n).2 D' (K ++ [(typeK tb K n).1.1]) (T ++ [(typeN T n).1])) := by
  obtain ⟨a1, a2, a3⟩ := h.known n.p0
  obtain ⟨b1, b2, b3⟩ := h.known n.p1
  obtain ⟨c1, c2, c3⟩ := h.known n.p2
  obtain ⟨s1, s2, s3⟩ := h.known n.source
  have push : ∀ k, k ≤ tb.length → (getK D k).size ≤ 63 → ∃ D', Rel tb D' (K ++ [k]) (T ++ [getK D k]) := fun k hk hs => ⟨D, h.push k hk hs⟩
  have p0 : ∃ D', Rel tb D' (K ++ [0]) (T ++ [Ty.n]) := push 0 (Nat.zero_le _) (by simp [getK, Ty.size])
  unfold typeK typeN
  simp only
  rw [a1] at a3
  rw [b1] at b3
  rw [c1] at c3
  rw [s1] at s3
  by_cases k2 : n.form = 2
  · rw [if_pos k2, if_pos k2]
    by_cases hs : n.source = -1
    · rw [if_pos hs, if_pos hs]; exact ⟨rfl, fun e => by cases e⟩
    · rw [if_neg hs, if_neg hs]
      refine ⟨rfl, fun _ => ?_⟩
      simp only
      rw [s1]; exact push _ s2 s3
  rw [if_neg k2, if_neg k2]
  by_cases k12 : n.form = 12
  · rw [if_pos k12, if_pos k12]
    refine ⟨rfl, fun _ => ?_⟩
    simp only
    rw [a1]; exact push _ a2 a3
  rw [if_neg k12, if_neg k12]
  by_cases k3 : n.form = 3
  · rw [if_pos k3, if_pos k3]
    refine ⟨rfl, fun _ => ?_⟩
    simp only
    rw [b1]; exact push _ b2 b3
  rw [if_neg k3, if_neg k3]
  by_cases k4 : n.form = 4
  · rw [if_pos k4, if_pos k4]
    obtain ⟨D', h1, h2, h3, _⟩ := h.pairF (knownK K n.p0) (knownK K n.p1) a2 b2 a3 b3
    have hsz := h1.sz _ h3
    rw [h2, ← a1, ← b1] at hsz
    rw [hsz]
    by_cases hb : 63 < (Ty.p 0 (knownT T n.p0) (knownT T n.p1)).size
    · rw [if_pos hb, if_pos hb]; exact ⟨rfl, fun e => by cases e⟩
    · rw [if_neg hb, if_neg hb]
      refine ⟨rfl, fun _ => ⟨D', ?_⟩⟩
      have := h1.push _ h3 (by rw [h2, ← a1, ← b1]; omega)
      rw [h2, ← a1, ← b1] at this
      exact this
  rw [if_neg k4, if_neg k4]
  have part : ∀ (k5 : knownK K n.p0 ≠ 0), ∃ r, knownT T n.p0 = .p r (getK D (atP tb (knownK K n.p0)).a) (getK D (atP tb (knownK K n.p0)).b) ∧ (atP tb (knownK K n.p0)).a ≤ tb.length ∧ (atP tb (knownK K n.p0)).b ≤ tb.length := by
    intro hk
    obtain ⟨p, q1, q2, q3, q4, q5⟩ := h.pair (knownK K n.p0) hk a2
    rw [q5]
    exact ⟨p.r, by rw [a1, q2], by omega, by omega⟩
  have psz : ∀ r x y, knownT T n.p0 = .p r x y → x.size ≤ 63 ∧ y.size ≤ 63 := by
    intro r x y e
    rw [← a1, e] at a3
    simp only [Ty.size] at a3; omega
  by_cases k5 : n.form = 5
  · rw [if_pos k5, if_pos k5]
    by_cases hk : knownK K n.p0 = 0
    · have : knownT T n.p0 = .n := by rw [a1]; exact (h.num _ a2).2 hk
      rw [if_pos hk, this]; exact ⟨rfl, fun e => by cases e⟩
    · obtain ⟨r, e1, e2, e3⟩ := part hk
      have := psz _ _ _ e1
      rw [if_neg hk, e1]
      exact ⟨rfl, fun _ => push _ e2 this.1⟩
  rw [if_neg k5, if_neg k5]
  by_cases k6 : n.form = 6
  · rw [if_pos k6, if_pos k6]
    by_cases hk : knownK K n.p0 = 0
    · have : knownT T n.p0 = .n := by rw [a1]; exact (h.num _ a2).2 hk
      rw [if_pos hk, this]; exact ⟨rfl, fun e => by cases e⟩
    · obtain ⟨r, e1, e2, e3⟩ := part hk
      have := psz _ _ _ e1
      rw [if_neg hk, e1]
      exact ⟨rfl, fun _ => push _ e3 this.2⟩
  rw [if_neg k6, if_neg k6]
  have ea : knownT T n.p0 = .n ↔ knownK K n.p0 = 0 := by rw [a1]; exact h.num _ a2
  have eb : knownT T n.p1 = .n ↔ knownK K n.p1 = 0 := by rw [b1]; exact h.num _ b2
  have ebc : knownT T n.p1 = knownT T n.p2 ↔ knownK K n.p1 = knownK K n.p2 := by rw [b1, c1]; exact h.injI b2 c2
  by_cases k7 : n.form = 7 ∨ n.form = 11
  · rw [if_pos k7, if_pos k7]
    simp only [ea, ebc]
    refine ⟨trivial, fun _ => ?_⟩
    rw [b1]; exact push _ b2 b3
  rw [if_neg k7, if_neg k7]
  by_cases k8 : n.form = 8 ∨ n.form = 9 ∨ n.form = 10
  · rw [if_pos k8, if_pos k8]
    simp only [ea, eb]
    exact ⟨trivial, fun _ => p0⟩
  rw [if_neg k8, if_neg k8]
  exact ⟨rfl, fun _ => p0⟩

def ckK : List TP → List Nat → List NR → Nat × Nat
  | _, _, [] => (0, 0)
  | tb, K, n :: r => if (typeK tb K n).1.2 ≠ 0 then ((typeK tb K n).1.2, n.at_) else ckK (typeK tb K n).2 (K ++ [(typeK tb K n).1.1]) r
theorem ckK_eq : ∀ (ns : List NR) {tb : List TP} {D : List Ty} {K : List Nat} {T : List Ty}, Rel tb D K T → ckK tb K ns = (ckRun T ns).1
  | [], _, _, _, _, _ => rfl
  | n :: r, tb, D, K, T, h => by
    obtain ⟨h1, h2⟩ := step_rel h n
    simp only [ckK, ckRun, h1]
    by_cases e : (typeN T n).2 ≠ 0
    · rw [if_pos e, if_pos e]
    · rw [if_neg e, if_neg e]
      have e0 : (typeN T n).2 = 0 := by omega
      obtain ⟨D', h3⟩ := h2 e0
      exact ckK_eq r h3
theorem rel0 : Rel [] [] [] [] := ⟨rfl, fun j p h => by simp at h, fun i j p q h => by simp at h, by simp, rfl, by simp⟩
theorem typeK_len (tb : List TP) (K : List Nat) (n : NR) : (typeK tb K n).2.length ≤ tb.length + 1 := by
  have := (pairF_len tb 0 (knownK K n.p0) (knownK K n.p1)).1
  unfold typeK
  simp only
  split <;> (try simp only; omega)
  split <;> (try simp only; omega)
  split <;> (try simp only; omega)
  split <;> (try simp only; omega)
  split <;> (try simp only; omega)
  split <;> (try simp only; omega)
  split <;> (try simp only; omega)
  split <;> (try simp only; omega)

/-- a node's numbers are small -/
def NR.small (n : NR) : Prop := (-1 ≤ n.source ∧ n.source ≤ 9000) ∧ (-1 ≤ n.p0 ∧ n.p0 ≤ 9000) ∧ (-1 ≤ n.p1 ∧ n.p1 ≤ 9000) ∧ (-1 ≤ n.p2 ∧ n.p2 ≤ 9000)
def scSmall (sc : Sc) : Prop := ∀ x ∈ sc, -1 ≤ x.2 ∧ x.2 ≤ 9000
theorem findS_small {sc : Sc} (h : scSmall sc) (w : List UInt8) : -1 ≤ findS sc w ∧ findS sc w ≤ 9000 := by
  unfold findS
  split
  · rename_i x hx
    exact h x (by have := List.mem_of_find?_eq_some hx; simpa using this)
  · omega
theorem partsL_small : ∀ (ts : List PT) (base : Nat), base + cntL ts ≤ 9000 → ∀ x ∈ partsL ts base, -1 ≤ x ∧ x ≤ 9000
  | [], _, _, x, hx => by simp [partsL] at hx
  | t :: r, base, h, x, hx => by
    simp only [cntL] at h
    simp only [partsL] at hx
    rcases List.mem_cons.1 hx with rfl | hx
    · omega
    · exact partsL_small r (base + t.cnt) (by omega) x hx
theorem getD_small {l : List Int} (h : ∀ x ∈ l, -1 ≤ x ∧ x ≤ 9000) (j : Nat) : -1 ≤ l.getD j (-1) ∧ l.getD j (-1) ≤ 9000 := by
  rw [List.getD_eq_getElem?_getD]
  cases hj : l[j]? with
  | none => simp
  | some x => exact h x (List.mem_of_getElem? hj)
mutual
theorem NA.small : ∀ {scope : Sc} {t : PT} {base : Nat} {ns : List NR}, NA scope t base ns → scSmall scope → base + t.cnt ≤ 9000 → ∀ n ∈ ns, n.small
  | _, .num p s, base, ns, h, _, _, n, hn => by
    simp only [NA] at h
    subst h
    rw [List.mem_singleton] at hn; subst hn
    exact ⟨by simp, by simp, by simp, by simp⟩
  | scope, .name p s, base, ns, h, hs, _, n, hn => by
    simp only [NA] at h
    subst h
    rw [List.mem_singleton] at hn; subst hn
    exact ⟨findS_small hs s, by simp, by simp, by simp⟩
  | scope, .node p k nm rg kids, base, ns, h, hs, hb, n, hn => by
    simp only [NA] at h
    obtain ⟨ks, beh, h1, rfl⟩ := h
    simp only [PT.cnt] at hb
    rcases List.mem_append.1 hn with hn | hn
    · exact NAs.small h1 hs (by omega) n hn
    · rw [List.mem_singleton] at hn; subst hn
      have hp := partsL_small kids base (by omega)
      exact ⟨by simp, getD_small hp 0, getD_small hp 1, getD_small hp 2⟩
theorem NAs.small : ∀ {scope : Sc} {nm : List UInt8} {ts : List PT} {bs : List Bool} {base : Nat} {ns : List NR}, NAs scope nm ts bs base ns → scSmall scope → base + cntL ts ≤ 9000 → ∀ n ∈ ns, n.small
  | _, _, [], _, _, _, h, _, _, n, hn => by simp only [NAs] at h; rw [h.2] at hn; simp at hn
  | _, _, _ :: _, [], _, _, h, _, _, _, _ => by simp [NAs] at h
  | scope, nm, t :: r, b :: bs, base, ns, h, hs, hb, n, hn => by
    simp only [NAs] at h
    obtain ⟨a, c, h1, h2, rfl⟩ := h
    simp only [cntL] at hb
    rcases List.mem_append.1 hn with hn | hn
    · refine NA.small h1 ?_ (by omega) n hn
      cases b with
      | false => exact hs
      | true =>
        intro x hx
        rcases List.mem_append.1 hx with hx | hx
        · exact hs x hx
        · rw [List.mem_singleton] at hx; subst hx
          show -1 ≤ (base : Int) - 1 ∧ (base : Int) - 1 ≤ 9000
          omega
    · exact NAs.small h2 hs (by omega) n hn
end
mutual
theorem opn_in : ∀ (t : PT) (base : Nat), ∀ x ∈ opn t base, (base : Int) ≤ x ∧ x < ((base + t.cnt : Nat) : Int)
  | .num _ _, base, x, hx => by simp only [opn, List.mem_singleton] at hx; subst hx; simp only [PT.cnt]; omega
  | .name _ _, base, x, hx => by simp only [opn, List.mem_singleton] at hx; subst hx; simp only [PT.cnt]; omega
  | .node _ _ _ _ kids, base, x, hx => by
    simp only [opn] at hx
    simp only [PT.cnt]
    rcases List.mem_cons.1 hx with rfl | hx
    · omega
    · have := opnL_in kids base x hx; omega
theorem opnL_in : ∀ (ts : List PT) (base : Nat), ∀ x ∈ opnL ts base, (base : Int) ≤ x ∧ x < ((base + cntL ts : Nat) : Int)
  | [], _, x, hx => by simp [opnL] at hx
  | t :: r, base, x, hx => by
    simp only [opnL] at hx
    simp only [cntL]
    rcases List.mem_append.1 hx with hx | hx
    · have := opn_in t base x hx; omega
    · have := opnL_in r (base + t.cnt) x hx; omega
end
end Go.Proofs.YtfnplohaokeljaaDoor

namespace Go.Proofs.YtfnplohaokeljaaDoor
open Go.RowKit

theorem CFr.toBelow {cb B : Nat} {w0 w w' : World} {pv tv pv' tv' : Value} (h : CFr cb w w' pv tv pv' tv') (hb : Below B w0 w) (hc : B ≤ cb) (hB : B ≤ w.heap.size) (hp : ∀ g, pv.ownBlock = some g → B ≤ g) (ht : ∀ g, tv.ownBlock = some g → B ≤ g) :
    Below B w0 w' ∧ (∀ g, pv'.ownBlock = some g → B ≤ g) ∧ (∀ g, tv'.ownBlock = some g → B ≤ g) := by
  refine ⟨⟨h.os.trans hb.os, h.tape.trans hb.tape, h.output.trans hb.output, Nat.le_trans hb.size h.size, fun k hk => ?_⟩, fun g hg => ?_, fun g hg => ?_⟩
  · rw [h.blk k (by omega) (by omega) (fun e => by have := hp k e; omega) (fun e => by have := ht k e; omega)]
    exact hb.block k hk
  · rcases h.p g hg with e | e
    · exact hp g e
    · omega
  · rcases h.t g hg with e | e
    · exact ht g e
    · omega

theorem CIn.addT {cb : Nat} {w W0 w' : World} {pv tv : Value} {tb : List TP} {K : List Nat} (h : CIn cb w pv tv tb K) (x : Nat) {g cap : Nat} (hW : Below w.heap.size w W0) (hg : W0.grownBy w' tv.ownBlock)
    (hown : w'.ownsRow 0 3 1 (.slice (some ⟨g, 0, none⟩) (K.length + 1) cap) (K.length + 1) ((K.map fun (k : Nat) => Value.int .i64 k) ++ [.int .i64 x])) (hor : tv.ownBlock = some g ∨ W0.heap.size ≤ g) :
    CFr cb w (w'.setCell ⟨cb, 1, none⟩ (.slice (some ⟨g, 0, none⟩) (K.length + 1) cap)) pv tv pv (.slice (some ⟨g, 0, none⟩) (K.length + 1) cap) ∧ CIn cb (w'.setCell ⟨cb, 1, none⟩ (.slice (some ⟨g, 0, none⟩) (K.length + 1) cap)) pv (.slice (some ⟨g, 0, none⟩) (K.length + 1) cap) tb (K ++ [x]) := by
  obtain ⟨l1, l2, l3⟩ := h.lt
  have hWs := hW.size
  have hgs := hg.size
  have yW : W0.heap[cb]? = some (.cells #[pv, tv] 82 (0, 0)) := by rw [hW.block cb l3]; exact h.y
  have yw := grown_blk hg yW h.ty
  have hgp : g ≠ cb := by
    rcases hor with e | e
    · intro e'; rw [e'] at e; exact h.ty e
    · omega
  have kp : ∀ k, k < w.heap.size → k ≠ cb → tv.ownBlock ≠ some k → (w'.setCell ⟨cb, 1, none⟩ (.slice (some ⟨g, 0, none⟩) (K.length + 1) cap)).heap[k]? = w.heap[k]? := by
    intro k hk hkp hne
    rw [blk_other _ _ (by simpa using hkp), hg.block k (by omega) (fun e => hne e.symm), hW.block k hk]
  refine ⟨⟨hg.os.trans hW.os, hg.tape.trans hW.tape, hg.output.trans hW.output, by simp only [World.setCell, Array.size_modify]; omega, fun k hk hp _ hs => kp k hk hp hs, fun _ h => Or.inl h, fun g' hg' => by simp only [Value.ownBlock, Option.some.injEq] at hg'; subst hg'; rcases hor with e | e; exact Or.inl e; exact Or.inr (by omega)⟩, ?_⟩
  refine ⟨blk_set yw 1 _, owns_blk h.p (fun k hk => kp k (l1 k hk) (fun e => h.py (by rw [hk, e])) (fun e => h.pt k hk e)), by have := owns_blk (w' := w'.setCell ⟨cb, 1, none⟩ (.slice (some ⟨g, 0, none⟩) (K.length + 1) cap)) hown (fun k hk => by simp only [Value.ownBlock, Option.some.injEq] at hk; subst hk; exact blk_other _ _ (by simpa using hgp)); simpa using this, h.py, by simp only [Value.ownBlock, ne_eq, Option.some.injEq]; exact hgp, fun k hk hk' => by
      simp only [Value.ownBlock, Option.some.injEq] at hk'
      rcases hor with e | e
      · rw [hk'] at e; exact h.pt k hk e
      · have := l1 k hk; omega⟩

/-- what the names and types of a program come to -/
def progAns (ns : List NR) (op : List Int) : Nat × Nat := if (manyAns ns op).1 ≠ 0 then manyAns ns op else ckK [] [] ns

set_option maxRecDepth 100000 in
set_option maxHeartbeats 16000000 in
theorem Program_any (w : World) (nv ov : Value) (ns : List NR) (op : List Int) (h : TreeIn w nv ov ns op) (ho : OpOk ns op) (hl : ns.length ≤ 9000) (hsm : ∀ n ∈ ns, n.small) :
    Calls Tryd.prog 18 #[treeV nv ov] w fun v w' => v = .returned (.tuple #[.int .i64 (progAns ns op).1, .int .i64 (progAns ns op).2]) ∧ Below w.heap.size w w' := by
  obtain ⟨i0, hi, hz0, hz1, hz2⟩ := info_parts Tryd.infoInt
  have HI : Hid _ := hi
  have HZ0 : Hid _ := hz0
  have HZ1 : Hid _ := hz1
  have HZ2 : Hid _ := hz2
  clear hi hz0 hz1 hz2
  have hlen := fun (w' : World) (hb : Below w.heap.size w w') => Len_any w' nv ov ns op (h.below hb)
  have hnod := fun (w' : World) (hb : Below w.heap.size w w') (k : Nat) (n : NR) (hk : ns[k]? = some n) => Node_in' w' nv ov ns op (h.below hb) k n hk hl
  have hman := fun (w' : World) (hb : Below w.heap.size w w') => manyPairs_any w' nv ov ns op (h.below hb) ho hl
  obtain ⟨a0, cap0, e0⟩ := slice_any h.nd
  obtain ⟨a1, cap1, e1⟩ := slice_any h.op
  rw [ho.1] at e1
  obtain ⟨m, hm⟩ : ∃ m, m = ns.length := ⟨_, rfl⟩
  rw [← hm] at e0 e1 hl
  subst e0
  subst e1
  unfold treeV at hlen hnod hman
  unfold treeV
  unfold nrVal at hnod
  rw [← hm] at hlen
  have HLEN : Hid _ := hlen
  have HNOD : Hid _ := hnod
  have HMAN : Hid _ := hman
  have HM : Hid _ := hm
  have HSM : Hid _ := hsm
  obtain ⟨ans, hans⟩ : ∃ ans, ans = progAns ns op := ⟨_, rfl⟩
  rw [← hans]
  have HANS : Hid _ := hans
  clear hlen hnod hman ho h hm hans hsm
  have hBx : Below w.heap.size w (w.alloc (.cells #[.slice a0 m cap0, .slice a1 m cap1] 36)) := (Below.refl _ w).alloc (Nat.le_refl _) _
  have HBX : Hid _ := hBx
  have hmn := HMAN.out _ hBx
  clear hBx HMAN
  go_enter Tryd.func18, Tryd.ntmps18
  go_wp2_with fail
  refine hmn.mono ?_
  rintro _ wb ⟨rfl, hbb⟩
  have HBB : Hid _ := hbb
  obtain ⟨b0, b1, bl⟩ := box_cells hbb
  clear hbb hmn
  by_cases hm0 : (manyAns ns op).1 ≠ 0
  · have HA : Hid (ans = manyAns ns op) := by rw [HANS.out]; unfold progAns; rw [if_pos hm0]; exact rfl
    have q : (((manyAns ns op).1 : Int) != 0) = true := by simp; omega
    generalize manyAns ns op = M at *
    clear hm0
    go_wp2
    refine bodyPost_ret (v := .tuple #[.int .i64 M.1, .int .i64 M.2]) (by simp [results, Tryd.results18, go_sem]) rfl ⟨by rw [HA.out], HBX.out.trans (HBB.out.mono (by simp))⟩
  · have HA : Hid (ans = ckK [] [] ns) := by rw [HANS.out]; unfold progAns; rw [if_neg hm0]; exact rfl
    have q : (((manyAns ns op).1 : Int) != 0) = false := by simp; omega
    generalize manyAns ns op = M at *
    clear hm0
    have hbw : Below w.heap.size w wb := HBX.out.trans (HBB.out.mono (by simp))
    have HBW : Hid _ := hbw
    have hws := hbw.size
    have hC0 : CIn wb.heap.size (wb.alloc (.cells #[.slice none 0 0, .slice none 0 0] 82)) (.slice none 0 0) (.slice none 0 0) [] [] := ⟨blk_new _ _, World.ownsRow_nil _ _ _ _, World.ownsRow_nil _ _ _ _, by simp [Value.ownBlock], by simp [Value.ownBlock], fun g hg => by simp [Value.ownBlock] at hg⟩
    have HC0 : Hid _ := hC0
    clear hC0 hbw
    go_wp2
    go_loopw [7, 8, 9, 10] (fun i _ _ _ wr => ∃ k : Nat, k ≤ m ∧ i = .int .i64 k ∧ ∃ pv tv tb D K T, CIn wb.heap.size wr pv tv tb K ∧ Rel tb D K T ∧ K.length = k ∧ tb.length ≤ k ∧ ckK [] [] ns = ckK tb K (ns.drop k) ∧ Below wb.heap.size wb wr ∧ wb.heap.size < wr.heap.size ∧ (∀ g, pv.ownBlock = some g → wb.heap.size ≤ g) ∧ (∀ g, tv.ownBlock = some g → wb.heap.size ≤ g)) (fun i _ _ _ _ => m - (intOf i).toNat)
    case atStart => exact ⟨0, by omega, rfl, _, _, [], [], [], [], HC0.out, rel0, rfl, by simp, by simp, (Below.refl _ wb).alloc (Nat.le_refl _) _, by simp, by simp [Value.ownBlock], by simp [Value.ownBlock]⟩
    case round =>
      obtain ⟨k, hk, rfl, pv, tv, tb, D, K, T, hC, hRel, hKl, htl, hck, hbr, hbs, hpb, htb⟩ := hrel
      have hbw2 : Below w.heap.size w wr := HBW.out.trans (hbr.mono hws)
      have hbr2 := HBB.out.trans (hbr.mono HBB.out.size)
      obtain ⟨x0, x1, xl⟩ := box_cells hbr2
      have hln := HLEN.out wr hbw2
      have hrs := hbr.size
      by_cases hlt : k < m
      · have hkl : k < ns.length := by have := HM.out; omega
        obtain ⟨n, hn⟩ : ∃ n, ns[k]? = some n := ⟨ns[k], List.getElem?_eq_getElem hkl⟩
        have hnsm := HSM.out n (List.mem_of_getElem? hn)
        have hdr : ns.drop k = n :: ns.drop (k + 1) := by
          rw [List.drop_eq_getElem_cons hkl]; rw [List.getElem?_eq_getElem hkl] at hn; simp only [Option.some.injEq] at hn; rw [hn]
        rw [hdr] at hck
        simp only [ckK] at hck
        have hst := step_rel hRel n
        have htk := typeK_len tb K n
        have hok : TOk tb K n := ⟨by omega, by omega, fun i => by have := (hRel.known i).2.1; omega, fun j => by have := hRel.sz_le j; omega, ⟨by have := hnsm.1; omega, by have := hnsm.1; omega⟩, ⟨by have := hnsm.2.1; omega, by have := hnsm.2.1; omega⟩, ⟨by have := hnsm.2.2.1; omega, by have := hnsm.2.2.1; omega⟩, ⟨by have := hnsm.2.2.2; omega, by have := hnsm.2.2.2; omega⟩⟩
        have hty := fun (w' : World) (hb : Below wr.heap.size wr w') => typeOf_any w' wb.heap.size pv tv tb K n (hC.below hb) hok
        unfold ptr nrVal at hty
        have HTY : Hid _ := hty
        have HN : Hid _ := hn
        have HCK : Hid _ := hck
        have HST : Hid _ := hst
        have HTK : Hid _ := htk
        have HBR : Hid _ := hbr
        have HC : Hid _ := hC
        have HPB : Hid _ := hpb
        have HTB : Hid _ := htb
        have HKL : Hid _ := hKl
        have HTL : Hid _ := htl
        clear hn hnsm hdr hck hst htk hok hty hRel hC hbr hbr2 hpb htb hkl hKl htl
        go_wp2_with fail
        refine hln.mono ?_
        rintro _ w1 ⟨rfl, hb1⟩
        have hbB1 := HBB.out.trans ((HBR.out.trans (hb1.mono hrs)).mono HBB.out.size)
        obtain ⟨d0, d1, dl⟩ := box_cells hbB1
        have hno := HNOD.out w1 (HBW.out.trans ((HBR.out.trans (hb1.mono hrs)).mono hws)) k n HN.out
        have HB1 : Hid _ := hb1
        clear hb1 hbB1 hln x0 x1
        go_wp2_with fail
        refine hno.mono ?_
        rintro _ w2 ⟨rfl, hb2⟩
        have hr2 : Below wr.heap.size wr w2 := HB1.out.trans (hb2.mono HB1.out.size)
        have hr3 := hr2.alloc hr2.size (nrO n)
        have hty := HTY.out _ hr3
        have HR3 : Hid _ := hr3
        have hr2s := hr2.size
        clear hb2 hr2 hno d0 d1 hr3 HTY
        unfold nrO nrC at hty
        go_wp2_with fail
        refine hty.mono ?_
        rintro _ w3 ⟨rfl, pv3, hfr3, hC3⟩
        have hR3 := HR3.out
        unfold nrO nrC at hR3
        have hnb : w3.heap[w2.heap.size]? = some (nrO n) := by
          rw [hfr3.blk w2.heap.size (by simp) (by omega) (fun e => by have := (HC.out.lt.1 _ e); omega) (fun e => by have := (HC.out.lt.2.1 _ e); omega)]
          exact blk_new _ _
        have c1 : w3.cell? ⟨w2.heap.size, 1, none⟩ = some (.int .i64 n.at_) := by rw [blk_cell hnb]; rfl
        have hB3 : Below wb.heap.size wb (w2.alloc (nrO n)) := HBR.out.trans (HR3.out.mono hrs)
        obtain ⟨g1, g2, g3⟩ := hfr3.toBelow hB3 (Nat.le_refl _) (by simp; omega) HPB.out HTB.out
        have hw3s := hfr3.size
        have hw3b : wb.heap.size < w3.heap.size := by simp at hw3s; omega
        generalize typeK tb K n = X at *
        have hC3y := hC3.y
        have hC3t := hC3.t
        have HC3 : Hid _ := hC3
        have HG1 : Hid _ := g1
        have HG2 : Hid _ := g2
        have HG3 : Hid _ := g3
        clear hfr3 hC3 hnb hR3 hB3 g1 g2 g3 hty HR3
        by_cases hf : X.1.2 = 0
        · have q2 : ((X.1.2 : Int) != 0) = false := by simp; omega
          have hck := HCK.out
          rw [if_neg (by omega)] at hck
          obtain ⟨D', hRel'⟩ := HST.out.2 (by rw [← HST.out.1]; exact hf)
          obtain ⟨ao, oc, htv⟩ := slice_any hC3t
          rw [HKL.out] at htv
          have t1 : w3.cell? ⟨wb.heap.size, 1, none⟩ = some (.slice ao k oc) := by rw [blk_cell hC3y, ← htv]; rfl
          have HOWN : Hid ((w3.alloc (.cells #[.int .i64 X.1.1] 3)).ownsRow 0 3 1 (.slice ao k oc) k (K.map fun (k : Nat) => Value.int .i64 k)) := by
            have := hC3t.alloc (.cells #[.int .i64 X.1.1] 3)
            rw [HKL.out, htv] at this; exact this
          have HYW : Hid ((w3.alloc (.cells #[.int .i64 X.1.1] 3)).heap[wb.heap.size]? = some (.cells #[pv3, tv] 82 (0, 0))) := blk_alloc _ hC3y
          have HC2 : Hid (∀ u ∈ ([.int .i64 X.1.1] : List Value), u.oneCell' = true) := by intro v hv; simp only [List.mem_singleton] at hv; subst hv; rfl
          have HTV : Hid _ := htv
          have HCK2 : Hid _ := hck
          have HRL : Hid _ := hRel'
          clear hC3y hC3t hf htv hck hRel'
          go_wp2_with (at_builtin; go_must (refine app_own _ rfl (.tmp 41) (.tmp 43) 34 rfl 3 i0 _ 1 8 Tryd.undInts HI.out HZ0.out HZ1.out HZ2.out rfl (by decide) (.slice ao k oc) k (K.map fun (k : Nat) => Value.int .i64 k) rfl HOWN.out ⟨w3.heap.size, 0, none⟩ 1 1 [.int .i64 X.1.1] rfl rfl ?c1 HC2.out (by decide) ?c3 ?c4 ?_))
          case c1 =>
            intro j v hj
            rw [← hj]
            first | rfl | exact alloc_cell_at _ _ _ _
          case c3 => unfold maxLen; omega
          case c4 => omega
          intro g cap w4 hown hgrow hor
          have hcb' := grown_blk hgrow HYW.out (by have := HC3.out.ty; rw [HTV.out] at this; exact this)
          have z1 : w4.cell? ⟨wb.heap.size, 1, none⟩ = some (.slice ao k oc) := by rw [blk_cell hcb', ← HTV.out]; rfl
          have zf := blk_free hcb' 1
          have hadd := CIn.addT (g := g) (cap := cap) HC3.out X.1.1 ((Below.refl _ w3).alloc (Nat.le_refl _) (.cells #[.int .i64 X.1.1] 3)) (by rw [HTV.out]; exact hgrow) (by rw [HKL.out]; exact hown) (by rw [HTV.out, show (w3.alloc (.cells #[.int .i64 X.1.1] 3)).heap.size = w3.heap.size + 1 from by simp]; exact hor)
          rw [HKL.out] at hadd
          obtain ⟨r1, r2, r3⟩ := hadd.1.toBelow HG1.out (Nat.le_refl _) (by omega) HG2.out HG3.out
          have hsz4 := hadd.1.size
          have HAD : Hid _ := hadd.2
          have HR1 : Hid _ := r1
          have HR2 : Hid _ := r2
          have HR3 : Hid _ := r3
          clear hown hgrow hor hcb' hadd r1 r2 r3
          go_wp2
          go_roundw
          case rel => exact ⟨k + 1, by omega, by go_num, pv3, _, X.2, D', K ++ [X.1.1], _, HAD.out, HRL.out, by simp [HKL.out], by have := HTK.out; have := HTL.out; omega, HCK2.out, HR1.out, by omega, HR2.out, HR3.out⟩
          case measure => simp [intOf]; omega
        · have q2 : ((X.1.2 : Int) != 0) = true := by simp; omega
          have hck := HCK.out
          rw [if_pos hf] at hck
          have HAA : Hid (ans = (X.1.2, n.at_)) := by rw [HA.out]; exact hck
          clear hC3y hC3t hf hck
          go_wp2
          go_quiet (fail)
          go_wp2
          refine bodyPost_ret (v := .tuple #[.int .i64 X.1.2, .int .i64 n.at_]) (by simp [results, Tryd.results18, go_sem]) rfl ⟨by rw [HAA.out], ?_⟩
          exact (HBW.out.trans (HG1.out.mono hws)).trans ⟨rfl, rfl, rfl, Nat.le_refl _, fun _ _ => rfl⟩
      · have HAA : Hid (ans = (0, 0)) := by
          have hd : ns.drop k = [] := List.drop_eq_nil_of_le (by have := HM.out; omega)
          rw [hd] at hck
          rw [HA.out, hck]; exact rfl
        have HBR : Hid _ := hbr
        clear hbr hC hRel hck hbr2 hpb htb
        go_wp2_with fail
        refine hln.mono ?_
        rintro _ w1 ⟨rfl, hb1⟩
        have HB1 : Hid _ := HBW.out.trans ((HBR.out.trans (hb1.mono hrs)).mono hws)
        clear hb1 hln
        go_wp2
        refine bodyPost_ret (v := .tuple #[.int .i64 0, .int .i64 0]) (by simp [results, Tryd.results18, go_sem]) rfl ⟨by rw [HAA.out]; rfl, HB1.out⟩
end Go.Proofs.YtfnplohaokeljaaDoor
