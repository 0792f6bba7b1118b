import Derived.Test.YtpicaknklgccoaaGreatDoorP20
namespace Go.Proofs.YtpicaknklgccoaaGreatDoor
open Go.RowKit
theorem Rel.pairR {tb : List TP} {D : List Ty} {K : List Nat} {T : List Ty} (h : Rel tb D K T) (r a b : Nat) (ha : a ≤ tb.length) (hb : b ≤ tb.length) (sa : (getK D a).size ≤ 63) (sb : (getK D b).size ≤ 63) :
  ∃ D', Rel (Go.Proofs.YtpicaknklgccoaaGreatDoor.pairF tb r a b).2 D' K T ∧ getK D' (Go.Proofs.YtpicaknklgccoaaGreatDoor.pairF tb r a b).1 = .p r (getK D a) (getK D b) ∧ (Go.Proofs.YtpicaknklgccoaaGreatDoor.pairF tb r a b).1 ≤ (Go.Proofs.YtpicaknklgccoaaGreatDoor.pairF tb r a b).2.length ∧ (∀ k, k ≤ tb.length → getK D' k = getK D k) := by
 unfold Go.Proofs.YtpicaknklgccoaaGreatDoor.pairF
 cases hf : tb.findIdx? (hitP r a b) with
 | some i =>
  obtain ⟨hi, hp, _⟩ := List.findIdx?_eq_some_iff_getElem.1 hf
  simp only
  unfold hitP at hp
  simp only [Bool.and_eq_true, beq_iff_eq] at hp
  obtain ⟨p, p1, p2, _⟩ := h.pair (i + 1) (by omega) (by omega)
  rw [Nat.add_sub_cancel, List.getElem?_eq_getElem hi] at p1
  simp only [Option.some.injEq] at p1
  refine ⟨D, h, ?_, by omega, fun _ _ => rfl⟩
  rw [p2, ← p1, hp.1.1, hp.1.2, hp.2]
 | none =>
  simp only
  rw [List.findIdx?_eq_none_iff] at hf
  have hD := h.len
  refine ⟨D ++ [.p r (getK D a) (getK D b)], ⟨by simp [hD], ?_, ?_, fun x hx => by have := h.k x hx; simp; omega, ?_, h.s⟩, ?_, by simp, fun k hk => getK_app D _ k (by omega)⟩
  ·intro j p hj
   by_cases hjl : j < tb.length
   ·rw [List.getElem?_append_left hjl] at hj
    obtain ⟨h1, h2, h3, h4, h5⟩ := h.at_ j p hj
    rw [getK_app D _ p.a (by omega), getK_app D _ p.b (by omega), List.getElem?_append_left (by omega)]
    exact ⟨h1, h2, h3, h4, h5⟩
   ·have hje : j = tb.length := by
     have := (List.getElem?_eq_some_iff.1 hj).1
     simp at this; omega
    subst hje
    rw [List.getElem?_append_right (Nat.le_refl _)] at hj
    simp only [Nat.sub_self, List.getElem?_cons_zero, Option.some.injEq] at hj
    subst hj
    simp only
    rw [getK_app D _ a (by omega), getK_app D _ b (by omega), List.getElem?_append_right (by omega), hD, Nat.sub_self, h.sz a ha, h.sz b hb]
    refine ⟨ha, hb, rfl, by simp only [Ty.size]; omega, by omega⟩
  ·intro i j p q hi hj e1 e2 e3
   have key : ∀ (i : Nat) (p : TP), tb[i]? = some p → ¬ (p.r = r ∧ p.a = a ∧ p.b = b) := by
    intro i p hi hh
    have := hf p (List.mem_of_getElem? hi)
    unfold hitP at this
    simp [hh.1, hh.2.1, hh.2.2] at this
   have last : ∀ (i : Nat) (p : TP), (tb ++ [⟨r, a, b, 1 + (atP tb a).sz + (atP tb b).sz⟩])[i]? = some p → (tb[i]? = some p ∧ i < tb.length) ∨ (i = tb.length ∧ p.r = r ∧ p.a = a ∧ p.b = b) := by
    intro i p hi
    by_cases hil : i < tb.length
    ·rw [List.getElem?_append_left hil] at hi; exact Or.inl ⟨hi, hil⟩
    ·have hie : i = tb.length := by
      have := (List.getElem?_eq_some_iff.1 hi).1
      simp at this; omega
     subst hie
     rw [List.getElem?_append_right (Nat.le_refl _)] at hi
     simp only [Nat.sub_self, List.getElem?_cons_zero, Option.some.injEq] at hi
     subst hi
     exact Or.inr ⟨rfl, rfl, rfl, rfl⟩
   rcases last i p hi with ⟨h1, _⟩ | ⟨h1, h2⟩
   ·rcases last j q hj with ⟨g1, _⟩ | ⟨g1, g2⟩
    ·exact h.nd i j p q h1 g1 e1 e2 e3
    ·exact absurd ⟨e1.trans g2.1, e2.trans g2.2.1, e3.trans g2.2.2⟩ (key i p h1)
   ·rcases last j q hj with ⟨g1, _⟩ | ⟨g1, g2⟩
    ·exact absurd ⟨e1.symm.trans h2.1, e2.symm.trans h2.2.1, e3.symm.trans h2.2.2⟩ (key j q g1)
    ·omega
  ·rw [← h.t]
   apply List.map_congr_left
   intro x hx
   exact getK_app D _ x (by have := h.k x hx; omega)
  ·unfold getK
   rw [if_neg (by omega), Nat.add_sub_cancel, ← hD, List.getElem?_append_right (Nat.le_refl _)]
   simp
def fstT : Ty → Ty
 | .n => .n
 | .p _ a _ => a
def sndT : Ty → Ty
 | .n => .n
 | .p _ _ b => b
def tyR (T : List Ty) (n : NR) : Ty :=
 if n.form = 2 then knownT T n.source
 else if n.form = 12 then knownT T n.p0
 else if n.form = 3 then knownT T n.p1
 else if n.form = 7 then knownT T n.p1
 else if n.form = 11 then knownT T n.p1
 else if n.form = 4 then .p n.region.toNat (knownT T n.p0) (knownT T n.p1)
 else if n.form = 5 then fstT (knownT T n.p0)
 else if n.form = 6 then sndT (knownT T n.p0)
 else .n
theorem fst_size (t : Ty) : (fstT t).size ≤ t.size := by cases t <;> simp [fstT, Ty.size]; omega
theorem snd_size (t : Ty) : (sndT t).size ≤ t.size := by cases t <;> simp [sndT, Ty.size]; omega
theorem stepR {tb : List TP} {D : List Ty} {K : List Nat} {T : List Ty} (h : Rel tb D K T) (n : NR) (hs : n.form = 4 → (Ty.p 0 (knownT T n.p0) (knownT T n.p1)).size ≤ 63) :
  ∃ D', Rel (tyK tb K n n.region.toNat).2 D' (K ++ [(tyK tb K n n.region.toNat).1]) (T ++ [tyR T n]) := by
 obtain ⟨a1, a2, a3⟩ := h.known n.p0
 obtain ⟨b1, b2, b3⟩ := h.known n.p1
 obtain ⟨s1, s2, s3⟩ := h.known n.source
 have push : ∀ k, k ≤ tb.length → (getK D k).size ≤ 63 → ∃ D', Rel tb D' (K ++ [k]) (T ++ [getK D k]) := fun k hk hs => ⟨D, h.push k hk hs⟩
 have p0 : ∃ D', Rel tb D' (K ++ [0]) (T ++ [Ty.n]) := push 0 (Nat.zero_le _) (by simp [getK, Ty.size])
 have hfs := fst_size (knownT T n.p0)
 have hsn := snd_size (knownT T n.p0)
 have part : fstT (knownT T n.p0) = getK D (atP tb (knownK K n.p0)).a ∧ sndT (knownT T n.p0) = getK D (atP tb (knownK K n.p0)).b ∧ (atP tb (knownK K n.p0)).a ≤ tb.length ∧ (atP tb (knownK K n.p0)).b ≤ tb.length := by
  by_cases hk : knownK K n.p0 = 0
  ·rw [a1, hk]
   refine ⟨rfl, rfl, ?_, ?_⟩ <;> simp [atP]
  ·obtain ⟨p, q1, q2, q3, q4, q5⟩ := h.pair (knownK K n.p0) hk a2
   rw [a1, q2, q5]
   exact ⟨rfl, rfl, by omega, by omega⟩
 unfold tyK tyR
 by_cases k2 : n.form = 2
 ·rw [if_pos k2, if_pos k2, s1]; exact push _ s2 (by rw [← s1]; exact s3)
 rw [if_neg k2, if_neg k2]
 by_cases k12 : n.form = 12
 ·rw [if_pos k12, if_pos k12, a1]; exact push _ a2 (by rw [← a1]; exact a3)
 rw [if_neg k12, if_neg k12]
 by_cases k3 : n.form = 3
 ·rw [if_pos k3, if_pos k3, b1]; exact push _ b2 (by rw [← b1]; exact b3)
 rw [if_neg k3, if_neg k3]
 by_cases k7 : n.form = 7
 ·rw [if_pos k7, if_pos k7, b1]; exact push _ b2 (by rw [← b1]; exact b3)
 rw [if_neg k7, if_neg k7]
 by_cases k11 : n.form = 11
 ·rw [if_pos k11, if_pos k11, b1]; exact push _ b2 (by rw [← b1]; exact b3)
 rw [if_neg k11, if_neg k11]
 by_cases k4 : n.form = 4
 ·rw [if_pos k4, if_pos k4]
  obtain ⟨D', h1, h2, h3, _⟩ := h.pairR n.region.toNat (knownK K n.p0) (knownK K n.p1) a2 b2 (by rw [← a1]; exact a3) (by rw [← b1]; exact b3)
  have hs4 := hs k4
  refine ⟨D', ?_⟩
  have := h1.push _ h3 (by rw [h2, ← a1, ← b1]; simpa [Ty.size] using hs4)
  rw [h2, ← a1, ← b1] at this
  exact this
 rw [if_neg k4, if_neg k4]
 by_cases k5 : n.form = 5
 ·rw [if_pos k5, if_pos k5, part.1]; exact push _ part.2.2.1 (by rw [← part.1]; omega)
 rw [if_neg k5, if_neg k5]
 by_cases k6 : n.form = 6
 ·rw [if_pos k6, if_pos k6, part.2.1]; exact push _ part.2.2.2 (by rw [← part.2.1]; omega)
 rw [if_neg k6, if_neg k6]
 exact p0
theorem has_p (r : Nat) (a b : Ty) (rg : Int) : (Ty.p r a b).has rg = (((r : Int) == rg) || a.has rg || b.has rg) := by
 unfold Ty.has
 simp only [Ty.rgl, List.any_cons, List.any_append, Bool.or_assoc]
theorem ment_eq {tb : List TP} {D : List Ty} {K : List Nat} {T : List Ty} (h : Rel tb D K T) (rg : Int) : ∀ (f k : Nat), k < f → k ≤ tb.length → mentF tb f k rg = (getK D k).has rg
 | 0, k, h1, _ => by omega
 | f + 1, k, h1, h2 => by
  simp only [mentF]
  by_cases hk : k = 0
  ·rw [if_pos (.inl hk), hk]; rfl
  ·rw [if_neg (by omega)]
   obtain ⟨p, q1, q2, q3, q4, q5⟩ := h.pair k hk h2
   rw [q5, q2, has_p, ment_eq h rg f p.a (by omega) (by omega), ment_eq h rg f p.b (by omega) (by omega)]
theorem Rel.low {tb : List TP} {D : List Ty} {K : List Nat} {T : List Ty} (h : Rel tb D K T) : Low tb := by
 intro k
 by_cases hk : k < tb.length
 ·obtain ⟨p, q1, q2, q3, q4, q5⟩ := h.pair (k + 1) (by omega) (by omega)
  rw [q5]; omega
 ·unfold atP
  rw [if_neg (by omega), List.getElem?_eq_none (by omega)]
  exact ⟨Nat.zero_le _, Nat.zero_le _⟩
def vfT (T : List Ty) (n : NR) : Nat :=
 if n.form = 7 ∨ n.form = 11 then (if knownT T n.p1 = knownT T n.p2 then 0 else 9)
 else if n.form = 12 then (if (knownT T n.p0).has n.region = true then 10 else 0)
 else 0
def plT : List Ty → List NR → Nat × Nat
 | _, [] => (0, 0)
 | T, n :: r => if vfT (T ++ [tyR T n]) n ≠ 0 then (vfT (T ++ [tyR T n]) n, n.at_) else plT (T ++ [tyR T n]) r
def SzOk : List Ty → List NR → Prop
 | _, [] => True
 | T, n :: r => (n.form = 4 → (Ty.p 0 (knownT T n.p0) (knownT T n.p1)).size ≤ 63) ∧ SzOk (T ++ [tyR T n]) r
def tyRun : List Ty → List NR → List Ty
 | T, [] => T
 | T, n :: r => tyRun (T ++ [tyR T n]) r
def matchT (E : List Nat) : Ty → Ty → List Nat
 | .p r a b, .p s c d => if Ty.p r a b = Ty.p s c d then E else matchT (matchT (joinF E r s) a c) b d
 | _, _ => E
theorem matchT_len : ∀ (a b : Ty) (E : List Nat), (matchT E a b).length = E.length
 | .n, _, _ => by simp [matchT]
 | .p _ _ _, .n, _ => by simp [matchT]
 | .p r a b, .p s c d, E => by
  simp only [matchT]
  split
  ·rfl
  ·rw [matchT_len b d, matchT_len a c, joinF_len]
theorem matchF_T {tb : List TP} {D : List Ty} {K : List Nat} {T : List Ty} (h : Rel tb D K T) : ∀ (f : Nat) (E : List Nat) (x y : Nat), x < f → x ≤ tb.length → y ≤ tb.length → matchF tb f E x y = matchT E (getK D x) (getK D y)
 | 0, _, _, _, h1, _, _ => by omega
 | f + 1, E, x, y, h1, hx, hy => by
  simp only [matchF]
  by_cases e : x = y
  ·rw [if_pos (Or.inl e), e]
   cases getK D y with
   | n => rfl
   | p r a b => simp [matchT]
  ·by_cases x0 : x = 0
   ·rw [if_pos (Or.inr (Or.inl x0)), (h.num x hx).2 x0]; rfl
   ·by_cases y0 : y = 0
    ·rw [if_pos (Or.inr (Or.inr y0)), (h.num y hy).2 y0]
     cases getK D x <;> rfl
    ·rw [if_neg (by omega)]
     obtain ⟨p, _, p2, p3, p4, p5⟩ := h.pair x x0 hx
     obtain ⟨q, _, q2, q3, q4, q5⟩ := h.pair y y0 hy
     have hne : getK D x ≠ getK D y := fun e' => e ((h.injI hx hy).1 e')
     rw [p5, q5, matchF_T h f _ p.a q.a (by omega) (by omega) (by omega), matchF_T h f _ p.b q.b (by omega) (by omega) (by omega)]
     rw [p2, q2] at hne ⊢
     simp only [matchT]
     rw [if_neg hne]
def mapT (f : Nat → Nat) : Ty → Ty
 | .n => .n
 | .p r a b => .p (f r) (mapT f a) (mapT f b)
theorem mapT_size (f : Nat → Nat) : ∀ t : Ty, (mapT f t).size = t.size
 | .n => rfl
 | .p _ a b => by simp only [mapT, Ty.size, mapT_size f a, mapT_size f b]
theorem mapT_bare (f : Nat → Nat) : ∀ t : Ty, (mapT f t).bare = t.bare
 | .n => rfl
 | .p _ a b => by simp only [mapT, Ty.bare, mapT_bare f a, mapT_bare f b]
theorem mapT_fst (f : Nat → Nat) (t : Ty) : mapT f (fstT t) = fstT (mapT f t) := by cases t <;> rfl
theorem mapT_snd (f : Nat → Nat) (t : Ty) : mapT f (sndT t) = sndT (mapT f t) := by cases t <;> rfl
theorem knownT_map (f : Nat → Nat) (T : List Ty) (i : Int) : knownT (T.map (mapT f)) i = mapT f (knownT T i) := by
 unfold knownT
 split
 ·rw [List.getElem?_map]; cases T[i.toNat]? <;> rfl
 ·rfl
def Coarse (c c' : Nat → Nat) : Prop := ∀ i j, c i = c j → c' i = c' j
theorem Coarse.refl (c : Nat → Nat) : Coarse c c := fun _ _ h => h
theorem Coarse.trans {a b c : Nat → Nat} (h : Coarse a b) (g : Coarse b c) : Coarse a c := fun i j e => g i j (h i j e)
theorem Coarse.map {c c' : Nat → Nat} (h : Coarse c c') : ∀ (a b : Ty), mapT c a = mapT c b → mapT c' a = mapT c' b
 | .n, .n, _ => rfl
 | .n, .p _ _ _, e => by simp [mapT] at e
 | .p _ _ _, .n, e => by simp [mapT] at e
 | .p r a b, .p s x y, e => by
  simp only [mapT, Ty.p.injEq] at e ⊢
  exact ⟨h r s e.1, h.map a x e.2.1, h.map b y e.2.2⟩
def BelT (n : Nat) (t : Ty) : Prop := ∀ r ∈ t.rgl, r < n
theorem BelT.p {n r : Nat} {a b : Ty} (h : BelT n (.p r a b)) : r < n ∧ BelT n a ∧ BelT n b :=
 ⟨h r (by simp [Ty.rgl]), fun x hx => h x (by simp [Ty.rgl, hx]), fun x hx => h x (by simp [Ty.rgl, hx])⟩
theorem join_coarse (E : List Nat) (x y : Nat) (hx : x < E.length) (hy : y < E.length) : Coarse (fst' E) (fst' (joinF E x y)) := fun i j h => by
 rw [fst_join E x y hx hy, fst_join E x y hx hy]; exact mrg_keeps _ x y h
theorem match_coarse : ∀ (a b : Ty) (E : List Nat), BelT E.length a → BelT E.length b → Coarse (fst' E) (fst' (matchT E a b))
 | .n, _, _, _, _ => by simp only [matchT]; exact Coarse.refl _
 | .p _ _ _, .n, _, _, _ => by simp only [matchT]; exact Coarse.refl _
 | .p r a b, .p s c d, E, h1, h2 => by
  simp only [matchT]
  split
  ·exact Coarse.refl _
  ·obtain ⟨r1, r2, r3⟩ := h1.p
   obtain ⟨s1, s2, s3⟩ := h2.p
   refine (join_coarse E r s r1 s1).trans ((match_coarse a c _ ?_ ?_).trans (match_coarse b d _ ?_ ?_))
   ·rw [joinF_len]; exact r2
   ·rw [joinF_len]; exact s2
   ·rw [matchT_len, joinF_len]; exact r3
   ·rw [matchT_len, joinF_len]; exact s3
theorem match_same : ∀ (a b : Ty) (E : List Nat), a.bare = b.bare → BelT E.length a → BelT E.length b → mapT (fst' (matchT E a b)) a = mapT (fst' (matchT E a b)) b
 | .n, .n, _, _, _, _ => rfl
 | .n, .p _ _ _, _, h, _, _ => by simp [Ty.bare] at h
 | .p _ _ _, .n, _, h, _, _ => by simp [Ty.bare] at h
 | .p r a b, .p s c d, E, h, h1, h2 => by
  simp only [Ty.bare, Ty.p.injEq, true_and] at h
  simp only [matchT]
  split
  ·rename_i e; rw [e]
  ·obtain ⟨r1, r2, r3⟩ := h1.p
   obtain ⟨s1, s2, s3⟩ := h2.p
   have l1 := joinF_len E r s
   have l2 := matchT_len a c (joinF E r s)
   have k1 := match_coarse a c (joinF E r s) (by rw [l1]; exact r2) (by rw [l1]; exact s2)
   have k2 := match_coarse b d (matchT (joinF E r s) a c) (by rw [l2, l1]; exact r3) (by rw [l2, l1]; exact s3)
   have m1 := match_same a c (joinF E r s) h.1 (by rw [l1]; exact r2) (by rw [l1]; exact s2)
   have m2 := match_same b d (matchT (joinF E r s) a c) h.2 (by rw [l2, l1]; exact r3) (by rw [l2, l1]; exact s3)
   have hj : fst' (joinF E r s) r = fst' (joinF E r s) s := by rw [fst_join E r s r1 s1, fst_join E r s r1 s1]; exact mrg_both _ r s
   simp only [mapT, Ty.p.injEq]
   exact ⟨k2 r s (k1 r s hj), k2.map a c m1, m2⟩
def atR (n : NR) : NR := { n with region := n.at_ }
def setR (n : NR) (r : Int) : NR := { n with region := r }
def shE : List Ty → List Nat → List NR → List Nat
 | _, E, [] => E
 | T, E, n :: r => shE (T ++ [tyR T (atR n)]) (if n.form = 7 ∨ n.form = 11 then matchT E (knownT (T ++ [tyR T (atR n)]) n.p1) (knownT (T ++ [tyR T (atR n)]) n.p2) else E) r
theorem shE_len : ∀ (ns : List NR) (T : List Ty) (E : List Nat), (shE T E ns).length = E.length
 | [], _, _ => rfl
 | n :: r, T, E => by
  simp only [shE]
  rw [shE_len r]
  split
  ·rw [matchT_len]
  ·rfl
theorem belT_known {n : Nat} {T : List Ty} (h : ∀ t ∈ T, BelT n t) (i : Int) : BelT n (knownT T i) := by
 unfold knownT
 split
 ·cases e : T[i.toNat]? with
  | none => intro r hr; simp [Ty.rgl] at hr
  | some t => exact h t (List.mem_of_getElem? e)
 ·intro r hr; simp [Ty.rgl] at hr
theorem belT_tyR {n : Nat} {T : List Ty} (h : ∀ t ∈ T, BelT n t) (m : NR) (hm : m.region.toNat < n) : BelT n (tyR T m) := by
 have h0 := belT_known h m.p0
 have h1 := belT_known h m.p1
 have h2 := belT_known h m.source
 have hn : BelT n .n := fun r hr => by simp [Ty.rgl] at hr
 unfold tyR
 split
 ·exact h2
 split
 ·exact h0
 split
 ·exact h1
 split
 ·exact h1
 split
 ·exact h1
 split
 ·intro r hr
  simp only [Ty.rgl, List.mem_cons, List.mem_append] at hr
  rcases hr with hr | hr | hr
  ·omega
  ·exact h0 r hr
  ·exact h1 r hr
 split
 ·cases e : knownT T m.p0 with
  | n => exact hn
  | p r a b => rw [e] at h0; exact h0.p.2.1
 split
 ·cases e : knownT T m.p0 with
  | n => exact hn
  | p r a b => rw [e] at h0; exact h0.p.2.2
 ·exact hn
def AlikeT : List Ty → List NR → Prop
 | _, [] => True
 | T, n :: r => (n.form = 7 ∨ n.form = 11 → (knownT (T ++ [tyR T n]) n.p1).bare = (knownT (T ++ [tyR T n]) n.p2).bare) ∧ AlikeT (T ++ [tyR T n]) r
def OneT (c : Nat → Nat) : List Ty → List NR → Prop
 | _, [] => True
 | T, n :: r => (n.form = 7 ∨ n.form = 11 → mapT c (knownT (T ++ [tyR T n]) n.p1) = mapT c (knownT (T ++ [tyR T n]) n.p2)) ∧ OneT c (T ++ [tyR T n]) r
theorem shE_coarse : ∀ (ns : List NR) (T : List Ty) (E : List Nat), (∀ t ∈ T, BelT E.length t) → (∀ n ∈ ns, n.at_ < E.length) → Coarse (fst' E) (fst' (shE T E ns))
 | [], _, _, _, _ => Coarse.refl _
 | n :: r, T, E, h, hn => by
  have hb : ∀ t ∈ T ++ [tyR T (atR n)], BelT E.length t := fun t ht => by
   rcases List.mem_append.1 ht with ht | ht
   ·exact h t ht
   ·simp only [List.mem_singleton] at ht; subst ht; exact belT_tyR h _ (by simpa [atR] using hn n (by simp))
  simp only [shE]
  split
  ·refine (match_coarse _ _ E (belT_known hb _) (belT_known hb _)).trans (shE_coarse r _ _ ?_ ?_)
   ·rw [matchT_len]; exact hb
   ·rw [matchT_len]; exact fun m hm => hn m (by simp [hm])
  ·exact shE_coarse r _ _ hb (fun m hm => hn m (by simp [hm]))
theorem shE_one : ∀ (ns : List NR) (T : List Ty) (E : List Nat), (∀ t ∈ T, BelT E.length t) → (∀ n ∈ ns, n.at_ < E.length) → AlikeT T (ns.map atR) → OneT (fst' (shE T E ns)) T (ns.map atR)
 | [], _, _, _, _, _ => trivial
 | n :: r, T, E, h, hn, ha => by
  have hb : ∀ t ∈ T ++ [tyR T (atR n)], BelT E.length t := fun t ht => by
   rcases List.mem_append.1 ht with ht | ht
   ·exact h t ht
   ·simp only [List.mem_singleton] at ht; subst ht; exact belT_tyR h _ (by simpa [atR] using hn n (by simp))
  simp only [List.map_cons, AlikeT] at ha
  simp only [List.map_cons, OneT, shE]
  have hf : (atR n).form = n.form := rfl
  by_cases hc : n.form = 7 ∨ n.form = 11
  ·rw [if_pos hc]
   have hb2 : ∀ t ∈ T ++ [tyR T (atR n)], BelT (matchT E (knownT (T ++ [tyR T (atR n)]) n.p1) (knownT (T ++ [tyR T (atR n)]) n.p2)).length t := by rw [matchT_len]; exact hb
   have hn2 : ∀ m ∈ r, m.at_ < (matchT E (knownT (T ++ [tyR T (atR n)]) n.p1) (knownT (T ++ [tyR T (atR n)]) n.p2)).length := by rw [matchT_len]; exact fun m hm => hn m (by simp [hm])
   refine ⟨fun _ => ?_, shE_one r _ _ hb2 hn2 ha.2⟩
   exact (shE_coarse r _ _ hb2 hn2).map _ _ (match_same _ _ E (ha.1 hc) (belT_known hb _) (belT_known hb _))
  ·rw [if_neg hc]
   exact ⟨fun h => absurd h hc, shE_one r _ _ hb (fun m hm => hn m (by simp [hm])) ha.2⟩
theorem tyR_map (f : Nat → Nat) (T : List Ty) (n m : NR) (hm : m = { n with region := m.region }) (hf : n.form = 4 → m.region.toNat = f n.region.toNat) : tyR (T.map (mapT f)) m = mapT f (tyR T n) := by
 have e1 : m.form = n.form := by rw [hm]
 have e2 : m.source = n.source := by rw [hm]
 have e3 : m.p0 = n.p0 := by rw [hm]
 have e4 : m.p1 = n.p1 := by rw [hm]
 unfold tyR
 rw [e1, e2, e3, e4, knownT_map, knownT_map, knownT_map, ← mapT_fst, ← mapT_snd]
 by_cases h4 : n.form = 4
 ·rw [hf h4]; simp [h4, mapT]
 ·simp only [h4, if_false]
  repeat' split
  all_goals rfl
set_option maxRecDepth 100000 in
set_option maxHeartbeats 2000000 in
theorem Root_any (w : World) (nv ov : Value) (ns : List NR) (op : List Int) (h : TreeIn w nv ov ns op) (hl : ns.length ≤ 9000) : Calls Tryz.prog 68 #[treeV nv ov] w fun v w' => v = .returned (.int .i64 ((ns.length : Int) - 1)) ∧ Below w.heap.size w w' := by
 obtain ⟨a, cap, rfl⟩ := slice_any h.nd
 obtain ⟨a', cap', rfl⟩ := slice_any h.op
 clear h
 unfold treeV
 go_enter Tryz.func68, Tryz.ntmps68
 go_wp2
 go_ret
 exact ⟨rfl, (Below.refl _ _).alloc (Nat.le_refl _) _⟩
theorem belY_d {W w : World} {b : Nat} (h : Below b W w) : Below b W w.drew := h.trans ⟨rfl, rfl, rfl, Nat.le_refl _, fun _ _ => rfl⟩
theorem belY_dn {W w : World} {n : Nat} {b : Nat} (h : Below b W w) : Below b W (w.drewN n) := h.trans ⟨rfl, rfl, rfl, Nat.le_refl _, fun _ _ => rfl⟩
theorem belY_al {w W : World} (h : Below w.heap.size w W) (o : Obj) : Below w.heap.size w (W.alloc o) := h.alloc h.size o
theorem stepY_call {P : Program} {ops : Array Oper} {o : Oper} {a : Act} {w : World} {K : Act → World → Prop} {Q : Exit → Act → World → Prop} {E : Prop} (hg : o.guard = none)
  (f : FuncId) (args : Array Value) (hrun : (execOp a.eval o).run P w = .ok (.enter f args) w) (h : Calls P f args w fun e w' => ∃ v, e = .returned v ∧ K (a.put o.dst v) w') : if Region.wanted o (yielded ops a.tmps) = true then Oper.wp P o a w K Q else E := by
 have hw : Region.wanted o (yielded ops a.tmps) = true := by simp [Region.wanted, hg]
 rw [if_pos hw]
 unfold Oper.wp
 rw [hrun]
 refine Calls.mono h ?_
 rintro e w' ⟨v, rfl, hk⟩
 exact hk
abbrev nz : Array Value := #[.int .i64 0, .int .i64 0, .int .i64 0, .int .i64 0, .string ⟨#[]⟩, .int .i64 0, .int .i64 0, .int .i64 0, .int .i64 0, .int .i64 0]
theorem nz_cells {w : World} {b : Nat} (h : w.heap[b]? = some (.cells nz 160 (0, 0))) : w.cell? ⟨b, 0, none⟩ = some (.int .i64 0) ∧ w.cell? ⟨b, 1, none⟩ = some (.int .i64 0) ∧ w.cell? ⟨b, 2, none⟩ = some (.int .i64 0) ∧ w.cell? ⟨b, 3, none⟩ = some (.int .i64 0) ∧ w.cell? ⟨b, 4, none⟩ = some (.string ⟨#[]⟩) ∧ w.cell? ⟨b, 5, none⟩ = some (.int .i64 0) ∧ w.cell? ⟨b, 6, none⟩ = some (.int .i64 0) ∧ w.cell? ⟨b, 7, none⟩ = some (.int .i64 0) ∧ w.cell? ⟨b, 8, none⟩ = some (.int .i64 0) ∧ w.cell? ⟨b, 9, none⟩ = some (.int .i64 0) := by
 refine ⟨?_, ?_, ?_, ?_, ?_, ?_, ?_, ?_, ?_, ?_⟩ <;> (rw [blk_cell h]; rfl)
theorem nz_free {w : World} {b : Nat} (h : w.heap[b]? = some (.cells nz 160 (0, 0))) : w.frozen? ⟨b, 0, none⟩ = false ∧ w.frozen? ⟨b, 1, none⟩ = false ∧ w.frozen? ⟨b, 2, none⟩ = false ∧ w.frozen? ⟨b, 3, none⟩ = false ∧ w.frozen? ⟨b, 4, none⟩ = false ∧ w.frozen? ⟨b, 5, none⟩ = false ∧ w.frozen? ⟨b, 6, none⟩ = false ∧ w.frozen? ⟨b, 7, none⟩ = false ∧ w.frozen? ⟨b, 8, none⟩ = false ∧ w.frozen? ⟨b, 9, none⟩ = false :=
 ⟨blk_free h 0, blk_free h 1, blk_free h 2, blk_free h 3, blk_free h 4, blk_free h 5, blk_free h 6, blk_free h 7, blk_free h 8, blk_free h 9⟩
theorem bel_set {B b o : Nat} {w0 w : World} {v : Value} (h : Below B w0 w) (hb : B ≤ b) : Below B w0 (w.setCell ⟨b, o, none⟩ v) :=
 ⟨h.os, h.tape, h.output, by have := h.size; simp only [World.setCell, Array.size_modify]; omega, fun k hk => by rw [blk_other _ _ (by simp only; omega)]; exact h.block k hk⟩
theorem nz_end {B b : Nat} {w0 w : World} (v0 v1 v2 v3 v4 v5 v6 v7 v8 v9 : Value) (hw : Below B w0 w) (hb : B ≤ b) (h : w.heap[b]? = some (.cells nz 160 (0, 0))) :
  ((((((((((w.setCell ⟨b, 0, none⟩ v0).setCell ⟨b, 1, none⟩ v1).setCell ⟨b, 2, none⟩ v2).setCell ⟨b, 3, none⟩ v3).setCell ⟨b, 4, none⟩ v4).setCell ⟨b, 5, none⟩ v5).setCell ⟨b, 6, none⟩ v6).setCell ⟨b, 7, none⟩ v7).setCell ⟨b, 8, none⟩ v8).setCell ⟨b, 9, none⟩ v9).heap[b]? = some (.cells #[v0, v1, v2, v3, v4, v5, v6, v7, v8, v9] 160 (0, 0)) ∧ Below B w0 ((((((((((w.setCell ⟨b, 0, none⟩ v0).setCell ⟨b, 1, none⟩ v1).setCell ⟨b, 2, none⟩ v2).setCell ⟨b, 3, none⟩ v3).setCell ⟨b, 4, none⟩ v4).setCell ⟨b, 5, none⟩ v5).setCell ⟨b, 6, none⟩ v6).setCell ⟨b, 7, none⟩ v7).setCell ⟨b, 8, none⟩ v8).setCell ⟨b, 9, none⟩ v9) := by
 have h0 : (w.setCell ⟨b, 0, none⟩ v0).heap[b]? = some (.cells #[v0, .int .i64 0, .int .i64 0, .int .i64 0, .string ⟨#[]⟩, .int .i64 0, .int .i64 0, .int .i64 0, .int .i64 0, .int .i64 0] 160 (0, 0)) := blk_set h 0 _
 have h1 : ((w.setCell ⟨b, 0, none⟩ v0).setCell ⟨b, 1, none⟩ v1).heap[b]? = some (.cells #[v0, v1, .int .i64 0, .int .i64 0, .string ⟨#[]⟩, .int .i64 0, .int .i64 0, .int .i64 0, .int .i64 0, .int .i64 0] 160 (0, 0)) := blk_set h0 1 _
 have h2 : (((w.setCell ⟨b, 0, none⟩ v0).setCell ⟨b, 1, none⟩ v1).setCell ⟨b, 2, none⟩ v2).heap[b]? = some (.cells #[v0, v1, v2, .int .i64 0, .string ⟨#[]⟩, .int .i64 0, .int .i64 0, .int .i64 0, .int .i64 0, .int .i64 0] 160 (0, 0)) := blk_set h1 2 _
 have h3 : ((((w.setCell ⟨b, 0, none⟩ v0).setCell ⟨b, 1, none⟩ v1).setCell ⟨b, 2, none⟩ v2).setCell ⟨b, 3, none⟩ v3).heap[b]? = some (.cells #[v0, v1, v2, v3, .string ⟨#[]⟩, .int .i64 0, .int .i64 0, .int .i64 0, .int .i64 0, .int .i64 0] 160 (0, 0)) := blk_set h2 3 _
 have h4 : (((((w.setCell ⟨b, 0, none⟩ v0).setCell ⟨b, 1, none⟩ v1).setCell ⟨b, 2, none⟩ v2).setCell ⟨b, 3, none⟩ v3).setCell ⟨b, 4, none⟩ v4).heap[b]? = some (.cells #[v0, v1, v2, v3, v4, .int .i64 0, .int .i64 0, .int .i64 0, .int .i64 0, .int .i64 0] 160 (0, 0)) := blk_set h3 4 _
 have h5 : ((((((w.setCell ⟨b, 0, none⟩ v0).setCell ⟨b, 1, none⟩ v1).setCell ⟨b, 2, none⟩ v2).setCell ⟨b, 3, none⟩ v3).setCell ⟨b, 4, none⟩ v4).setCell ⟨b, 5, none⟩ v5).heap[b]? = some (.cells #[v0, v1, v2, v3, v4, v5, .int .i64 0, .int .i64 0, .int .i64 0, .int .i64 0] 160 (0, 0)) := blk_set h4 5 _
 have h6 : (((((((w.setCell ⟨b, 0, none⟩ v0).setCell ⟨b, 1, none⟩ v1).setCell ⟨b, 2, none⟩ v2).setCell ⟨b, 3, none⟩ v3).setCell ⟨b, 4, none⟩ v4).setCell ⟨b, 5, none⟩ v5).setCell ⟨b, 6, none⟩ v6).heap[b]? = some (.cells #[v0, v1, v2, v3, v4, v5, v6, .int .i64 0, .int .i64 0, .int .i64 0] 160 (0, 0)) := blk_set h5 6 _
 have h7 : ((((((((w.setCell ⟨b, 0, none⟩ v0).setCell ⟨b, 1, none⟩ v1).setCell ⟨b, 2, none⟩ v2).setCell ⟨b, 3, none⟩ v3).setCell ⟨b, 4, none⟩ v4).setCell ⟨b, 5, none⟩ v5).setCell ⟨b, 6, none⟩ v6).setCell ⟨b, 7, none⟩ v7).heap[b]? = some (.cells #[v0, v1, v2, v3, v4, v5, v6, v7, .int .i64 0, .int .i64 0] 160 (0, 0)) := blk_set h6 7 _
 have h8 : (((((((((w.setCell ⟨b, 0, none⟩ v0).setCell ⟨b, 1, none⟩ v1).setCell ⟨b, 2, none⟩ v2).setCell ⟨b, 3, none⟩ v3).setCell ⟨b, 4, none⟩ v4).setCell ⟨b, 5, none⟩ v5).setCell ⟨b, 6, none⟩ v6).setCell ⟨b, 7, none⟩ v7).setCell ⟨b, 8, none⟩ v8).heap[b]? = some (.cells #[v0, v1, v2, v3, v4, v5, v6, v7, v8, .int .i64 0] 160 (0, 0)) := blk_set h7 8 _
 have h9 : ((((((((((w.setCell ⟨b, 0, none⟩ v0).setCell ⟨b, 1, none⟩ v1).setCell ⟨b, 2, none⟩ v2).setCell ⟨b, 3, none⟩ v3).setCell ⟨b, 4, none⟩ v4).setCell ⟨b, 5, none⟩ v5).setCell ⟨b, 6, none⟩ v6).setCell ⟨b, 7, none⟩ v7).setCell ⟨b, 8, none⟩ v8).setCell ⟨b, 9, none⟩ v9).heap[b]? = some (.cells #[v0, v1, v2, v3, v4, v5, v6, v7, v8, v9] 160 (0, 0)) := blk_set h8 9 _
 exact ⟨h9, bel_set (bel_set (bel_set (bel_set (bel_set (bel_set (bel_set (bel_set (bel_set (bel_set hw hb) hb) hb) hb) hb) hb) hb) hb) hb) hb⟩
theorem grow_set {w W0 w' : World} {sb o : Nat} {A : Array Value} {T : TypeId} {ev nv : Value} (hy : w.heap[sb]? = some (.cells A T (0, 0))) (hW : Below w.heap.size w W0) (hg : W0.grownBy w' ev.ownBlock) (hev : ev.ownBlock ≠ some sb) :
  (w'.setCell ⟨sb, o, none⟩ nv).heap[sb]? = some (.cells (A.setIfInBounds o nv) T (0, 0)) ∧ (∀ k, k < w.heap.size → k ≠ sb → ev.ownBlock ≠ some k → (w'.setCell ⟨sb, o, none⟩ nv).heap[k]? = w.heap[k]?) ∧ w.heap.size ≤ (w'.setCell ⟨sb, o, none⟩ nv).heap.size ∧ (w'.setCell ⟨sb, o, none⟩ nv).os = w.os ∧ (w'.setCell ⟨sb, o, none⟩ nv).tape = w.tape ∧ (w'.setCell ⟨sb, o, none⟩ nv).output = w.output := by
 have hl := blk_lt hy
 have yW : W0.heap[sb]? = some (.cells A T (0, 0)) := by rw [hW.block sb hl]; exact hy
 have yw := grown_blk hg yW hev
 refine ⟨blk_set yw o _, fun k hk hks hke => ?_, ?_, hg.os.trans hW.os, hg.tape.trans hW.tape, hg.output.trans hW.output⟩
 ·rw [blk_other _ _ (by simpa using hks), hg.block k (by have := hW.size; omega) (fun e => hke e.symm), hW.block k hk]
 ·have := hW.size; have := hg.size; simp only [World.setCell, Array.size_modify]; omega
structure Sh1 (w0 : World) (sb q : Nat) (n0 : NR) (wr : World) (ev : Value) (k : Nat) : Prop where
 b : Below sb w0 wr
 y : wr.heap[sb]? = some (.cells #[.slice none 0 0, .slice none 0 0, ev] 186 (0, 0))
 n : wr.heap[q]? = some (nrO n0)
 r : wr.ownsRow 0 3 1 ev k (natVs (List.range k))
 e : ∀ g, ev.ownBlock = some g → sb < g ∧ g ≠ q
 sq : sb < q
theorem Sh1.add {w0 wr W0 w' : World} {sb q : Nat} {n0 : NR} {ev : Value} {k g cap : Nat} (h : Sh1 w0 sb q n0 wr ev k) (hW : Below wr.heap.size wr W0) (hg : W0.grownBy w' ev.ownBlock)
  (hown : w'.ownsRow 0 3 1 (.slice (some ⟨g, 0, none⟩) (k + 1) cap) (k + 1) (natVs (List.range k) ++ [.int .i64 k])) (hor : ev.ownBlock = some g ∨ W0.heap.size ≤ g) :
  Sh1 w0 sb q n0 (w'.setCell ⟨sb, 2, none⟩ (.slice (some ⟨g, 0, none⟩) (k + 1) cap)) (.slice (some ⟨g, 0, none⟩) (k + 1) cap) (k + 1) := by
 have hsl := blk_lt h.y
 have hql := blk_lt h.n
 have hws := hW.size
 obtain ⟨h1, h2, h3, h4, h5, h6⟩ := grow_set (o := 2) (nv := .slice (some ⟨g, 0, none⟩) (k + 1) cap) h.y hW hg (fun e => by have := (h.e _ e).1; omega)
 have hgs : sb < g ∧ g ≠ q := by
  rcases hor with e | e
  ·exact h.e g e
  ·exact ⟨by omega, by omega⟩
 have hsq := h.sq
 have hbs := h.b.size
 refine ⟨⟨h4.trans h.b.os, h5.trans h.b.tape, h6.trans h.b.output, by omega, fun j hj => ?_⟩, h1, ?_, ?_, fun j hj => ?_, hsq⟩
 ·rw [h2 j (by omega) (by omega) (fun e => by have := (h.e j e).1; omega)]; exact h.b.block j hj
 ·rw [h2 q hql (by omega) (fun e => (h.e q e).2 rfl)]; exact h.n
 ·rw [List.range_succ]
  unfold natVs at hown ⊢
  rw [List.map_append]
  exact owns_blk hown (fun j hj => blk_other _ _ (by simp only [Value.ownBlock, Option.some.injEq] at hj; subst hj; simp only; omega))
 ·simp only [Value.ownBlock, Option.some.injEq] at hj; subst hj; exact hgs
structure Sh2 (w0 : World) (sb g cap B : Nat) (wr : World) (pv tv : Value) (tb : List TP) (K E : List Nat) : Prop where
 b : Below sb w0 wr
 c : CInO sb 0 #[pv, tv, .slice (some ⟨g, 0, none⟩) B cap] 186 wr pv tv tb K
 r : wr.ownsRow 0 3 1 (.slice (some ⟨g, 0, none⟩) B cap) B (natVs E)
 gs : sb < g
 pg : pv.ownBlock ≠ some g
 tg : tv.ownBlock ≠ some g
 pb : ∀ j, pv.ownBlock = some j → sb < j
 tb' : ∀ j, tv.ownBlock = some j → sb < j
theorem Sh2.below {w0 wr wr' : World} {sb g cap B : Nat} {pv tv : Value} {tb : List TP} {K E : List Nat} (h : Sh2 w0 sb g cap B wr pv tv tb K E) (hb : Below wr.heap.size wr wr') : Sh2 w0 sb g cap B wr' pv tv tb K E :=
 ⟨h.b.trans (hb.mono (Nat.le_of_lt (blk_lt h.c.y))), h.c.below hb, owns_below h.r hb, h.gs, h.pg, h.tg, h.pb, h.tb'⟩
theorem Sh2.add {w0 wr wr' : World} {sb g cap B : Nat} {pv tv pv' tv' : Value} {tb tb2 : List TP} {K K2 E : List Nat} (h : Sh2 w0 sb g cap B wr pv tv tb K E) (hf : CFr sb wr wr' pv tv pv' tv') (hc : CInO sb 0 #[pv', tv', .slice (some ⟨g, 0, none⟩) B cap] 186 wr' pv' tv' tb2 K2) : Sh2 w0 sb g cap B wr' pv' tv' tb2 K2 E := by
 have hgl : g < wr.heap.size := (h.r.lt g rfl).2
 have hgs := h.gs
 have hsl := blk_lt h.c.y
 have hbs := h.b.size
 refine ⟨⟨hf.os.trans h.b.os, hf.tape.trans h.b.tape, hf.output.trans h.b.output, by have := hf.size; omega, fun k hk => ?_⟩, hc, owns_blk h.r (fun k hk => ?_), hgs, fun e => ?_, fun e => ?_, fun j hj => ?_, fun j hj => ?_⟩
 ·rw [hf.blk k (by omega) (by omega) (fun e => by have := h.pb k e; omega) (fun e => by have := h.tb' k e; omega)]; exact h.b.block k hk
 ·simp only [Value.ownBlock, Option.some.injEq] at hk
  subst hk
  exact hf.blk g hgl (by omega) h.pg h.tg
 ·rcases hf.p g e with e | e
  ·exact h.pg e
  ·omega
 ·rcases hf.t g e with e | e
  ·exact h.tg e
  ·omega
 ·rcases hf.p j hj with e | e
  ·exact h.pb j e
  ·omega
 ·rcases hf.t j hj with e | e
  ·exact h.tb' j e
  ·omega
theorem Sh2.mat {w0 wr wr' : World} {sb g cap B : Nat} {pv tv : Value} {tb : List TP} {K E E' : List Nat} (h : Sh2 w0 sb g cap B wr pv tv tb K E) (hf : EFr g wr wr') (hr : wr'.ownsRow 0 3 1 (.slice (some ⟨g, 0, none⟩) B cap) B (natVs E')) : Sh2 w0 sb g cap B wr' pv tv tb K E' := by
 have hgs := h.gs
 have hsl := blk_lt h.c.y
 have hbs := h.b.size
 refine ⟨⟨hf.os.trans h.b.os, hf.tape.trans h.b.tape, hf.output.trans h.b.output, by have := hf.size; omega, fun k hk => ?_⟩, ?_, hr, hgs, h.pg, h.tg, h.pb, h.tb'⟩
 ·rw [hf.blk k (by omega) (by omega)]; exact h.b.block k hk
 ·exact ⟨by rw [hf.blk sb hsl (by omega)]; exact h.c.y, h.c.a, h.c.b, owns_blk h.c.p (fun k hk => hf.blk k (h.c.p.lt k hk).2 (fun e => h.pg (by rw [hk, e]))), owns_blk h.c.t (fun k hk => hf.blk k (h.c.t.lt k hk).2 (fun e => h.tg (by rw [hk, e]))), h.c.py, h.c.ty, h.c.pt⟩
def TbB (B : Nat) (tb : List TP) : Prop := ∀ j, (atP tb j).r < B
theorem atP_app (tb : List TP) (x : TP) (j : Nat) : atP (tb ++ [x]) j = atP tb j ∨ atP (tb ++ [x]) j = x := by
 unfold atP
 split
 ·exact Or.inl rfl
 ·by_cases h : j - 1 < tb.length
  ·rw [List.getElem?_append_left h]; exact Or.inl rfl
  ·rw [List.getElem?_append_right (by omega)]
   by_cases h2 : j - 1 - tb.length = 0
   ·rw [h2]; exact Or.inr rfl
   ·rw [List.getElem?_eq_none (by simp; omega), List.getElem?_eq_none (by omega)]; exact Or.inl rfl
theorem tyK_b {B : Nat} {tb : List TP} (h : TbB B tb) (K : List Nat) (n : NR) (r : Nat) (hr : r < B) : TbB B (tyK tb K n r).2 := by
 have hp : ∀ a b, TbB B (pairF tb r a b).2 := fun a b => by
  unfold pairF
  split
  ·exact h
  ·intro j
   simp only
   rcases atP_app tb ⟨r, a, b, 1 + (atP tb a).sz + (atP tb b).sz⟩ j with e | e
   ·rw [e]; exact h j
   ·rw [e]; exact hr
 unfold tyK
 repeat' split
 all_goals first | exact h | exact hp _ _
theorem isT_last {w : World} {F : Nat → Prop} {t : PT} {id site b : Nat} (h : IsT w F t id site b) : ∃ op nm n kv, w.heap[b]? = some (.cells (exCells op t.pl nm n kv id (id + (t.cnt - 1)) site) 82 (0, 0)) := by
 cases t with
 | num p s => simp only [IsT] at h; exact ⟨_, _, _, _, h.2⟩
 | name p s => simp only [IsT] at h; exact ⟨_, _, _, _, h.2⟩
 | node p k nm rg kids =>
  simp only [IsT] at h
  obtain ⟨_, kv, bl, h1, _⟩ := h
  have e : id + ((PT.node p k nm rg kids).cnt - 1) = id + cntL kids := by simp only [PT.cnt]; omega
  rw [e]; exact ⟨_, _, _, _, h1⟩
theorem made_strs (n : Nat) : (madeCells #[Value.string ⟨#[]⟩] n).toList = (List.replicate n ([] : List UInt8)).map strV := by
 apply List.ext_getElem
 ·simp [madeCells]
 ·intro i h1 h2
  simp [madeCells, Nat.mod_one, strV, bs]
def st0 (t : PT) : TSt := ⟨0, 0, List.replicate t.cnt []⟩
set_option maxRecDepth 100000 in
set_option maxHeartbeats 2000000 in
theorem Types_any {w0 : World} {cls : List Nat} (hit : ItFor w0 cls) (hcl : cls.length ≤ 9000) (t : PT) (hwf : t.wf) (b : Nat) (F : Nat → Prop) (cv : Value) (w : World) (hT : IsT w0 F t 0 0 b) (hcnt : t.cnt ≤ 9000) (hb0 : Below w0.heap.size w0 w)
  (hc : w.ownsRow w0.heap.size 3 1 cv cls.length (cls.map fun (k : Nat) => Value.int .i64 k)) (hprs : t.prs ≤ cls.length) (hcs : ∃ a n c, cv = .slice a n c) :
  Calls Tryz.prog 39 #[ptr b, cv] w fun v w' => ∃ yb nv tv ov, v = .returned (ptr yb) ∧ w.heap.size ≤ w'.heap.size ∧ Below w.heap.size w w' ∧ TyIn w0 w' yb cls cv nv tv ov [] (tyFind cls t 0 0 [] (st0 t)).2 := by
 obtain ⟨i0, hi, hz0, hz1, hz2⟩ := info_parts Tryz.infoStr
 have HI : Hid _ := hi
 have HZ0 : Hid _ := hz0
 have HZ1 : Hid _ := hz1
 have HZ2 : Hid _ := hz2
 clear hi hz0 hz1 hz2
 obtain ⟨ca, cn, cc, rfl⟩ := hcs
 obtain ⟨op, nm, n, kv, hblk⟩ := isT_last hT
 have hcp := cnt_pos t
 have hb := blk_lt hblk
 have hw0 := hb0.size
 have hbw : b < w.heap.size := by omega
 have x6 : w.cell? ⟨b, 6, none⟩ = some (.int .i64 (t.cnt - 1 : Nat)) := by rw [hb0.cell (p := ⟨b, 6, none⟩) hb, blk_cell hblk, Nat.zero_add]; rfl
 have hcg : ∀ g, (Value.slice ca cn cc).ownBlock = some g → w0.heap.size ≤ g ∧ g < w.heap.size := fun g hg => hc.lt g hg
 have HC : Hid (w.ownsRow w0.heap.size 3 1 (.slice ca cn cc) cls.length (cls.map fun (k : Nat) => Value.int .i64 k)) := hc
 have HT : Hid _ := hT
 have HB0 : Hid _ := hb0
 clear hblk hc hT hb0
 show Calls _ _ #[Value.pointer (some ⟨b, 0, none⟩), _] w _
 go_enter Tryz.func39, Tryz.ntmps39
 go_wp2_with (at_make; go_must (refine wpList_make_full _ rfl (.tmp 11) (.tmp 11) 68 rfl w.heap.size 9 i0 _ 1 Tryz.undStrs HI.out HZ0.out HZ1.out .i64 .i64 _ _ t.cnt rfl rfl ?l1 ?l2 ?m1 ?m2 ?m3 ?_))
 case l1 => omega
 case l2 => omega
 case m1 => rw [HZ2.out]; omega
 case m2 => unfold maxLen; omega
 case m3 => omega
 intro w2 ho2 hg2
 rw [made_strs] at ho2
 have hb2 : Below w.heap.size w w2 := ⟨hg2.os, hg2.tape, hg2.output, hg2.size, fun k hk => hg2.block k hk (by simp)⟩
 have hl2 : w.heap.size < w2.heap.size := (ho2.lt w.heap.size rfl).2
 have hin : TyIn w0 (w2.alloc (.cells (tyCells (.slice ca cn cc) (.slice none 0 0) (.slice none 0 0) (.slice (some ⟨w.heap.size, 0, none⟩) t.cnt t.cnt) 0 0) 115)) w2.heap.size cls (.slice ca cn cc) (.slice none 0 0) (.slice none 0 0) (.slice (some ⟨w.heap.size, 0, none⟩) t.cnt t.cnt) [] (st0 t) := by
  have hbA : Below w2.heap.size w2 (w2.alloc (.cells (tyCells (.slice ca cn cc) (.slice none 0 0) (.slice none 0 0) (.slice (some ⟨w.heap.size, 0, none⟩) t.cnt t.cnt) 0 0) 115)) := (Below.refl _ _).alloc (Nat.le_refl _) _
  refine ⟨(HB0.out.trans (hb2.mono hw0)).trans (hbA.mono (by omega)), by omega, blk_new _ _, owns_below (owns_below HC.out hb2) hbA, World.ownsRow_nil _ _ _ _, World.ownsRow_nil _ _ _ _, ?_, ?_, by simp [Value.ownBlock], by simp [Value.ownBlock], ?_, fun g hg h => by simp [Value.ownBlock] at h, fun g hg h => by simp [Value.ownBlock] at h, ?_, fun g hg => by simp [Value.ownBlock] at hg, fun g hg => by simp [Value.ownBlock] at hg, fun g hg => by simp [Value.ownBlock] at hg⟩
  ·have h := owns_base (base' := w0.heap.size) (owns_below ho2 hbA) (fun k hk => by simp only [Value.ownBlock, Option.some.injEq] at hk; omega)
   simp only [st0, List.length_replicate]; exact h
  ·intro e; have := (hcg _ e).2; omega
  ·simp only [Value.ownBlock, ne_eq, Option.some.injEq]; omega
  ·intro g hg h
   simp only [Value.ownBlock, Option.some.injEq] at h
   have := (hcg g hg).2; omega
 have hfo := find_all (w0 := w0) (yb := w2.heap.size) hit hcl t hwf 0 0 b F [] (st0 t) _ _ _ _ _ HT.out hin (by simp [st0]) (by omega) (by simp) (by simp) (by simp; omega)
 unfold ptr at hfo
 have HB2 : Hid _ := hb2
 clear ho2 hg2 hin hb2
 go_wp2_with fail
 refine hfo.mono ?_
 rintro e w3 ⟨rfl, nv, tv, hfr, hin3⟩
 have hs3 : w.heap.size ≤ w3.heap.size := by have := hfr.size; simp at this; omega
 have hbel : Below w.heap.size w w3 := by
  refine ⟨hin3.b0.os.trans HB0.out.os.symm, hin3.b0.tape.trans HB0.out.tape.symm, hin3.b0.output.trans HB0.out.output.symm, hs3, fun k hk => ?_⟩
  rw [hfr.blk k (by simp; omega) (by omega) (by simp [Value.ownBlock]) (by simp [Value.ownBlock]) (by simp only [Value.ownBlock, ne_eq, Option.some.injEq]; omega), Below.heap_alloc _ _ _ (by omega), HB2.out.block k hk]
 have HIN3 : Hid _ := hin3
 have HBEL : Hid _ := hbel
 clear hfr hin3 hbel hfo
 go_wp2
 go_ret
 exact ⟨w2.heap.size, nv, tv, _, rfl, hs3, HBEL.out, HIN3.out⟩
theorem ptdV_is (q : Option (Nat × Nat)) : ptdV q = .tuple #[.int .i64 ((q.getD (0, 0)).1 : Nat), .int .i64 ((q.getD (0, 0)).2 : Nat), .bool q.isSome] := by
 rcases q with _ | ⟨a, b⟩ <;> rfl
theorem own_free {w : World} {base g cap n : Nat} {t : TypeId} {xs : List Value} (h : w.ownsRow base t 1 (.slice (some ⟨g, 0, none⟩) n cap) n xs) (b : Nat) : w.frozen? ⟨g, b, none⟩ = false := by
 rcases h.2 with ⟨h2, _⟩ | ⟨g', cap', cur, hv, hg, hh, _⟩
 ·cases h2
 ·cases hv; exact blk_free hh b
def mgL (lo hi : Nat) (l : List Nat) : List Nat := l.map fun c => if c = hi then lo else c
theorem mgL_len (lo hi : Nat) (l : List Nat) : (mgL lo hi l).length = l.length := by simp [mgL]
def mgJ (lo hi : Nat) (l : List Nat) (j : Nat) : List Nat := mgL lo hi (l.take j) ++ l.drop j
theorem mgJ_len (lo hi : Nat) (l : List Nat) (j : Nat) : (mgJ lo hi l j).length = l.length := by simp [mgJ, mgL]; omega
theorem mgJ_at {lo hi : Nat} {l : List Nat} {j : Nat} (hj : j < l.length) : (mgJ lo hi l j)[j]'(by rw [mgJ_len]; exact hj) = l[j] := by
 simp only [mgJ]
 rw [List.getElem_append_right (by rw [mgL_len, List.length_take]; omega)]
 simp [mgL_len, List.length_take, Nat.min_eq_left (Nat.le_of_lt hj)]
theorem mgJ_no {lo hi : Nat} {l : List Nat} {j : Nat} (hj : j < l.length) (h : l[j] ≠ hi) : mgJ lo hi l (j + 1) = mgJ lo hi l j := by
 simp only [mgJ, List.take_add_one, List.getElem?_eq_getElem hj, mgL, List.map_append, Option.toList, List.map_cons, List.map_nil, if_neg h]
 rw [List.drop_eq_getElem_cons hj, List.append_assoc]; rfl
theorem mgJ_yes {lo hi : Nat} {l : List Nat} {j : Nat} (hj : j < l.length) (h : l[j] = hi) : mgJ lo hi l (j + 1) = (mgJ lo hi l j).set j lo := by
 have hl : (List.map (fun c => if c = hi then lo else c) (List.take j l)).length = j := by simp; omega
 simp only [mgJ, List.take_add_one, List.getElem?_eq_getElem hj, mgL, List.map_append, Option.toList, List.map_cons, List.map_nil, if_pos h]
 rw [List.drop_eq_getElem_cons hj, List.set_append_right _ _ (by omega), hl, Nat.sub_self, List.append_assoc]; rfl
def rowSum (w : World) (g n : Nat) : Nat := ((List.range n).map fun j => (intOf ((w.cell? ⟨g, j, none⟩).getD (.int .i64 0))).toNat).sum
theorem rowSum_is {w : World} {base g cap : Nat} {E : List Nat} (h : w.ownsRow base 3 1 (.slice (some ⟨g, 0, none⟩) E.length cap) E.length (natVs E)) : rowSum w g E.length = E.sum := by
 unfold rowSum
 congr 1
 apply List.ext_getElem (by simp)
 intro j h1 h2
 simp only [List.getElem_map, List.getElem_range]
 rw [natVs_at h j h2]
 simp [intOf]
theorem mgL_le {lo hi : Nat} (h : lo < hi) : ∀ l : List Nat, (mgL lo hi l).sum ≤ l.sum
 | [] => Nat.le_refl _
 | x :: r => by
  have := mgL_le h r
  simp only [mgL, List.map_cons, List.sum_cons] at this ⊢
  split <;> omega
theorem mgL_lt {lo hi : Nat} (h : lo < hi) : ∀ l : List Nat, hi ∈ l → (mgL lo hi l).sum < l.sum
 | [], hm => by simp at hm
 | x :: r, hm => by
  have h1 := mgL_le h r
  by_cases hx : x = hi
  ·simp only [mgL, List.map_cons, List.sum_cons, if_pos hx] at h1 ⊢; omega
  ·have := mgL_lt h r (by simpa [Ne.symm hx] using hm)
   simp only [mgL, List.map_cons, List.sum_cons, if_neg hx] at this ⊢; omega
theorem ofIn_ty {w0 w : World} {yb : Nat} {cls : List Nat} {cv nv tv ov : Value} {st : TSt} {TY : List Ty} (h : TyIn w0 w yb cls cv nv tv ov [] st) (ho : st.of = TY.map Ty.txt) (hl : 0 < TY.length) : OfIn w yb TY := by
 have hy := h.y
 refine ⟨blk_lt hy, ?_⟩
 have hr := h.o
 rw [ho] at hr
 rcases hr.2 with ⟨h1, h2⟩ | ⟨g, cap, cur, h1, _⟩
 ·exact absurd h2 (by rw [List.length_map]; omega)
 ·rw [List.length_map] at h1
  subst h1
  refine ⟨g, cap, by rw [blk_cell hy]; rfl, (hr.lt g rfl).2, fun k T hk => ?_⟩
  rw [List.length_map] at hr
  rw [hr.cellAt k (by have := (List.getElem?_eq_some_iff.1 hk).1; omega)]
  simp [hk, strV]
structure ShI (e : PT) (TYf : List Nat → List Ty) (n : Nat) (cls : List Nat) : Prop where
 len : cls.length = n
 sm : ∀ x ∈ cls, x < 100
 prs : e.prs ≤ n
 tl : (TYf cls).length = e.cnt
 fit : ∀ T ∈ TYf cls, T.fit
 of : (tyFind cls e 0 0 [] (st0 e)).2.of = (TYf cls).map Ty.txt
set_option maxRecDepth 100000 in
set_option maxHeartbeats 8000000 in
theorem shared_any {P : List Nat → Prop} (w0 w : World) (e : PT) (TYf : List Nat → List Ty) (b n g cap : Nat) (cls : List Nat) (hcnt : e.cnt ≤ 9000) (hwf : e.wf) (hn : n ≤ 9000) (hT : IsT w0 (fun k => k < w0.heap.size) e 0 0 b) (hb0 : Below w0.heap.size w0 w)
  (hrow : w.ownsRow w0.heap.size 3 1 (.slice (some ⟨g, 0, none⟩) n cap) n (natVs cls)) (hP : P cls) (hI : ∀ c, P c → ShI e TYf n c)
  (hS : ∀ c x y, P c → ptdL (TYf c) (e.subs 0 0) = some (x, y) → P (mgL (min x y) (max x y) c) ∧ max x y ∈ c ∧ x ≠ y) :
  Calls Tryz.prog 38 #[.pointer (some ⟨b, 0, none⟩), .slice (some ⟨g, 0, none⟩) n cap] w fun v w' => ∃ c, v = .returned (.slice (some ⟨g, 0, none⟩) n cap) ∧ P c ∧ ptdL (TYf c) (e.subs 0 0) = none ∧ w'.ownsRow w0.heap.size 3 1 (.slice (some ⟨g, 0, none⟩) n cap) n (natVs c) ∧ Below w0.heap.size w0 w' := by
 have HTY : Hid (∀ (c : List Nat) (w1 : World), P c → Below w0.heap.size w0 w1 → w1.ownsRow w0.heap.size 3 1 (.slice (some ⟨g, 0, none⟩) n cap) n (natVs c) → Calls Tryz.prog 39 #[.pointer (some ⟨b, 0, none⟩), .slice (some ⟨g, 0, none⟩) n cap] w1 fun v w' => ∃ yb, v = .returned (.pointer (some ⟨yb, 0, none⟩)) ∧ Below w0.heap.size w0 w' ∧ w'.ownsRow w0.heap.size 3 1 (.slice (some ⟨g, 0, none⟩) n cap) n (natVs c) ∧ OfIn w' yb (TYf c)) := by
  intro c w1 hp hb1 hr1
  have hi := hI c hp
  have hl := hi.len
  subst hl
  refine (Types_any (itFor_small w0 c hi.sm) hn e hwf b _ _ w1 hT hcnt hb1 hr1 hi.prs ⟨_, _, _, rfl⟩).mono ?_
  rintro v w' ⟨yb, nv, tv, ov, rfl, _, _, hty⟩
  exact ⟨yb, rfl, hty.b0, hty.c, ofIn_ty hty hi.of (by rw [hi.tl]; exact cnt_pos e)⟩
 have HPT : Hid (∀ (c : List Nat) (w1 : World) (yb : Nat), P c → Below w0.heap.size w0 w1 → w1.ownsRow w0.heap.size 3 1 (.slice (some ⟨g, 0, none⟩) n cap) n (natVs c) → OfIn w1 yb (TYf c) → Calls Tryz.prog 70 #[.pointer (some ⟨b, 0, none⟩), .pointer (some ⟨yb, 0, none⟩)] w1 fun v w' => v = .returned (.tuple #[.int .i64 (((ptdL (TYf c) (e.subs 0 0)).getD (0, 0)).1 : Nat), .int .i64 (((ptdL (TYf c) (e.subs 0 0)).getD (0, 0)).2 : Nat), .bool (ptdL (TYf c) (e.subs 0 0)).isSome]) ∧ Below w0.heap.size w0 w' ∧ w'.ownsRow w0.heap.size 3 1 (.slice (some ⟨g, 0, none⟩) n cap) n (natVs c)) := by
  intro c w1 yb hp hb1 hr1 ho
  have hi := hI c hp
  refine (parted_any w0 w1 e (TYf c) b yb hi.fit hcnt hi.tl hwf hT hb1 ho).mono ?_
  rintro v w' ⟨rfl, hb⟩
  exact ⟨by rw [ptdV_is], hb1.trans (hb.mono hb1.size), owns_blk hr1 (fun k hk => hb.block k (hr1.lt k hk).2)⟩
 have HS : Hid _ := hS
 have HI : Hid _ := hI
 have HR : Hid _ := hrow
 have HB0 : Hid _ := hb0
 have HP : Hid _ := hP
 clear hS hI hrow hb0 hP hT hwf
 go_enter Tryz.func38, Tryz.ntmps38
 go_wp2_with fail
 refine (HTY.out cls _ HP.out HB0.out HR.out).mono ?_
 rintro _ w1 ⟨yb, rfl, hb1, hr1, ho1⟩
 have hpt := HPT.out cls w1 yb HP.out hb1 hr1 ho1
 go_wp2_with fail
 refine hpt.mono ?_
 rintro _ w2 ⟨rfl, hb2, hr2⟩
 have HB2 : Hid _ := hb2
 have HR2 : Hid _ := hr2
 clear hpt hb1 hr1 ho1 hb2 hr2
 obtain ⟨q0, hq0⟩ : ∃ q0, q0 = ptdL (TYf cls) (e.subs 0 0) := ⟨_, rfl⟩
 rw [← hq0]
 have HQ0 : Hid _ := hq0
 obtain ⟨x0, hx0⟩ : ∃ x0, x0 = (q0.getD (0, 0)).1 := ⟨_, rfl⟩
 obtain ⟨y0, hy0⟩ : ∃ y0, y0 = (q0.getD (0, 0)).2 := ⟨_, rfl⟩
 obtain ⟨o0, ho0⟩ : ∃ o0, o0 = q0.isSome := ⟨_, rfl⟩
 rw [← hx0, ← hy0, ← ho0]
 have HXYO : Hid (x0 = (q0.getD (0, 0)).1 ∧ y0 = (q0.getD (0, 0)).2 ∧ o0 = q0.isSome) := ⟨hx0, hy0, ho0⟩
 clear hq0 hx0 hy0 ho0
 go_wp2
 go_loopw [5, 6, 7, 8, 9, 10, 11] (fun _ va vb vo _ _ _ wr => ∃ (c : List Nat) (q : Option (Nat × Nat)), P c ∧ q = ptdL (TYf c) (e.subs 0 0) ∧ va = .int .i64 ((q.getD (0, 0)).1 : Nat) ∧ vb = .int .i64 ((q.getD (0, 0)).2 : Nat) ∧ vo = .bool q.isSome ∧ Below w0.heap.size w0 wr ∧ wr.ownsRow w0.heap.size 3 1 (.slice (some ⟨g, 0, none⟩) n cap) n (natVs c)) (fun _ _ _ _ _ _ _ wr => rowSum wr g n)
 case atStart => exact ⟨cls, q0, HP.out, HQ0.out, by rw [HXYO.out.1], by rw [HXYO.out.2.1], by rw [HXYO.out.2.2], HB2.out, HR2.out⟩
 case round =>
  obtain ⟨c, q, hp, hq, rfl, rfl, rfl, hbr, hrr⟩ := hrel
  have HPC : Hid _ := hp
  have HQ : Hid _ := hq
  have HBR : Hid _ := hbr
  have HRR : Hid _ := hrr
  have hlc := (HI.out c hp).len
  rcases q with _ | ⟨x, y⟩
  ·clear hp hq hbr hrr
   simp only [Option.getD, Option.isSome]
   go_wp2
   go_ret
   exact ⟨c, by first | rfl | trivial, HPC.out, HQ.out.symm, HRR.out, HBR.out⟩
  ·obtain ⟨hp2, hmem, hne⟩ := HS.out c x y hp hq.symm
   have hm100 := (HI.out c hp).sm _ hmem
   have HP2 : Hid _ := hp2
   have HMEM : Hid _ := hmem
   clear hp hq hbr hrr hp2 hmem
   simp only [Option.getD, Option.isSome]
   obtain ⟨lo, hi, hlh, hlo, hhi, hcase⟩ : ∃ lo hi : Nat, lo < hi ∧ lo = min x y ∧ hi = max x y ∧ ((y < x ∧ lo = y ∧ hi = x) ∨ (¬ y < x ∧ lo = x ∧ hi = y)) := by
    by_cases h : y < x
    ·exact ⟨y, x, h, by omega, by omega, .inl ⟨h, rfl, rfl⟩⟩
    ·exact ⟨x, y, by omega, by omega, by omega, .inr ⟨h, rfl, rfl⟩⟩
   rw [← hlo, ← hhi] at HP2
   rw [← hhi] at HMEM hm100
   clear hlo hhi
   rcases hcase with ⟨hyx, rfl, rfl⟩ | ⟨hyx, rfl, rfl⟩
   all_goals
    go_wp2
    go_loopw [11] (fun i wi => ∃ j : Nat, j ≤ n ∧ i = .int .i64 j ∧ Below w0.heap.size w0 wi ∧ wi.ownsRow w0.heap.size 3 1 (.slice (some ⟨g, 0, none⟩) n cap) n (natVs (mgJ lo hi c j))) (fun i _ => n - (intOf i).toNat)
    case atStart => exact ⟨0, Nat.zero_le _, rfl, HBR.out, by simp only [mgJ, List.take_zero, mgL, List.map_nil, List.nil_append, List.drop_zero]; exact HRR.out⟩
    case round =>
     obtain ⟨j, hj, rfl, hbi, hri⟩ := hrel
     have hml := mgJ_len lo hi c j
     have hri' := hri
     rw [← hlc, ← hml] at hri'
     have HBI : Hid _ := hbi
     have HRI : Hid _ := hri
     have HRI' : Hid _ := hri'
     by_cases hjl : j < n
     ·have hjc : j < c.length := by omega
      have hc := natVs_at hri' j (by omega)
      have hgl : g < wr.heap.size := (hri.lt g rfl).2
      have hg0 : w0.heap.size ≤ g := (hri.lt g rfl).1
      rw [mgJ_at hjc] at hc
      have hfr : wr.frozen? ⟨g, j, none⟩ = false := own_free hri j
      by_cases hcj : c[j] = hi
      ·have HN : Hid (mgJ lo hi c (j + 1) = (mgJ lo hi c j).set j lo) := mgJ_yes hjc hcj
       rw [hcj] at hc
       clear hri hri' hbi hml hcj
       go_wp2
       go_roundw
       case rel =>
        refine ⟨j + 1, by omega, by go_num, bel_set HBI.out hg0, ?_⟩
        rw [HN.out]
        have := own_put HRI'.out j lo
        rw [mgJ_len, hlc] at this
        exact this
       case measure => simp [intOf]; omega
      ·have HN : Hid (mgJ lo hi c (j + 1) = mgJ lo hi c j) := mgJ_no hjc hcj
       obtain ⟨z, hz⟩ : ∃ z, z = c[j] := ⟨_, rfl⟩
       rw [← hz] at hc hcj
       have hne : ((z : Int) == (hi : Int)) = false := by simp; omega
       clear hri hri' hbi hml hz hcj
       go_wp2
       go_roundw
       case rel =>
        refine ⟨j + 1, by omega, by go_num, HBI.out, ?_⟩
        rw [HN.out]
        exact HRI.out
       case measure => simp [intOf]; omega
     ·have hjn : j = c.length := by omega
      have hfin : mgJ lo hi c j = mgL lo hi c := by rw [hjn]; simp [mgJ]
      rw [hfin] at hri
      have hty := HTY.out (mgL lo hi c) wr HP2.out hbi hri
      clear hri' hri hbi hml hjn hfin HRI HRI'
      go_wp2_with fail
      refine hty.mono ?_
      rintro _ w5 ⟨yb5, rfl, hb5, hr5, ho5⟩
      have hpt := HPT.out (mgL lo hi c) w5 yb5 HP2.out hb5 hr5 ho5
      clear hty hb5 hr5 ho5
      go_wp2_with fail
      refine hpt.mono ?_
      rintro _ w6 ⟨rfl, hb6, hr6⟩
      have HB6 : Hid _ := hb6
      have HR6 : Hid _ := hr6
      clear hpt hb6 hr6
      go_wp2
      go_roundw
      case rel => exact ⟨mgL lo hi c, _, HP2.out, rfl, rfl, rfl, rfl, HB6.out, HR6.out⟩
      case measure =>
       have e1 := HR6.out
       have e2 := HRR.out
       have hl2 := mgL_len lo hi c
       rw [← hlc] at e2
       rw [← hlc, ← hl2] at e1
       have e3 := rowSum_is e1
       have e4 := rowSum_is e2
       rw [hl2, hlc] at e3
       rw [hlc] at e4
       rw [e3, e4]
       exact mgL_lt hlh c HMEM.out
end Go.Proofs.YtpicaknklgccoaaGreatDoor
