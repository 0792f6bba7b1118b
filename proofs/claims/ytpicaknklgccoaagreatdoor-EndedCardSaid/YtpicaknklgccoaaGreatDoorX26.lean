import Derived.Test.YtpicaknklgccoaaGreatDoorX25
import Derived.Test.YtpicaknklgccoaaGreatDoorX2
import Derived.BigQuiet
namespace Go.Proofs.YtpicaknklgccoaaGreatDoor
inductive KE where
 | num (n : Nat)
 | var (n : Nat)
 | n1 (k : Kw) (a : KE)
 | n2 (k : Kw) (n : Nat) (a b : KE)
 | n3 (k : Kw) (n : Nat) (a b c : KE)
def pickF (c : Int) (n : Nat) : Nat := (Int.tmod (if c < 0 then -(c + 1) else c) n).toNat
theorem pickF_lt (c : Int) (n : Nat) (h : 0 < n) : pickF c n < n := by
 unfold pickF
 have h1 : 0 ≤ (if c < 0 then -(c + 1) else c) := by split <;> omega
 have := Int.tmod_lt_of_pos (if c < 0 then -(c + 1) else c) (show (0 : Int) < n by omega)
 have := Int.tmod_nonneg (n : Int) h1
 omega
structure MkS where
 at_ : Nat
 left : Nat
 vars : List Nat
def nextF (raw : List Int) (n : Nat) (s : MkS) : Nat × MkS :=
 if raw = [] then (0, s) else (pickF (raw.getD (s.at_ % raw.length) 0) n, { s with at_ := s.at_ + 1 })
theorem nextF_lt (raw : List Int) (n : Nat) (s : MkS) (h : 0 < n) : (nextF raw n s).1 < n := by
 unfold nextF; split
 ·exact h
 ·exact pickF_lt _ n h
theorem nextF_st (raw : List Int) (n : Nat) (s : MkS) : (nextF raw n s).2.left = s.left ∧ (nextF raw n s).2.vars = s.vars ∧ s.at_ ≤ (nextF raw n s).2.at_ ∧ (nextF raw n s).2.at_ ≤ s.at_ + 1 := by
 unfold nextF; split
 ·exact ⟨rfl, rfl, Nat.le_refl _, Nat.le_succ _⟩
 ·exact ⟨rfl, rfl, Nat.le_succ _, Nat.le_refl _⟩
def idxs (vars : List Nat) (t n : Nat) : List Nat := (List.range n).filter (fun i => vars.getD i 9 == t)
def namedF (vars : List Nat) (t k : Nat) : Option KE :=
 if (idxs vars t vars.length) = [] then none else some (.var ((idxs vars t vars.length).getD (k % (idxs vars t vars.length).length) 0))
def fT (t : Nat) : Nat := if t = 2 ∨ t = 4 then 1 else 0
def sT (t : Nat) : Nat := if t = 3 ∨ t = 4 then 1 else 0
def fI (t : Nat) : Int := if t = 0 then -1 else fT t
def sI (t : Nat) : Int := if t = 0 then -1 else sT t
def leafF (raw : List Int) : Nat → Nat → MkS → KE × MkS
 | 0, _, s => (.num 0, s)
 | f + 1, t, s =>
  let x := nextF raw 7 s
  match (if 1 < x.1 then namedF x.2.vars t x.1 else none) with
  | some y => (y, x.2)
  | none =>
   if t = 0 then (.num (nextF raw 60 x.2).1, (nextF raw 60 x.2).2)
   else
    let a := leafF raw f (fT t) x.2
    let b := leafF raw f (sT t) a.2
    (.n2 .pair 0 a.1 b.1, b.2)
def takeG (t k : Nat) : Nat → Nat → Option (Kw × Nat)
 | _, 0 => none
 | i, n + 1 =>
  if (i + k) / 5 % 2 = 1 then (if sI ((i + k) % 5) = t then some (.snd, (i + k) % 5) else takeG t k (i + 1) n)
  else (if fI ((i + k) % 5) = t then some (.fst, (i + k) % 5) else takeG t k (i + 1) n)
def opK (n : Nat) : Kw := if n = 0 then .add else if n = 1 then .sub else .less
def bindF (g : Nat → MkS → KE × MkS) (v t : Nat) (s : MkS) : KE × MkS :=
 let x := g t { s with vars := s.vars ++ [v] }
 (x.1, { x.2 with vars := x.2.vars.take s.vars.length })
def makeF (raw : List Int) : Nat → Nat → MkS → KE × MkS
 | 0, t, s => leafF raw 3 t s
 | f + 1, t, s =>
  if s.left = 0 then leafF raw 3 t s else
  let x := nextF raw 9 { s with left := s.left - 1 }
  if x.1 = 0 then
   let v := nextF raw 5 x.2
   let a := makeF raw f v.1 v.2
   let b := bindF (makeF raw f) v.1 t a.2
   (.n2 .let_ b.2.vars.length a.1 b.1, b.2)
  else if x.1 = 1 then
   let a := makeF raw f 0 x.2
   let b := makeF raw f t a.2
   let c := makeF raw f t b.2
   (.n3 .if_ 0 a.1 b.1 c.1, c.2)
  else if x.1 = 2 ∨ x.1 = 3 then
   let k := nextF raw 4 x.2
   match takeG t k.1 0 10 with
   | some q => (.n1 q.1 (makeF raw f q.2 k.2).1, (makeF raw f q.2 k.2).2)
   | none => leafF raw 3 t k.2
  else if x.1 = 4 then
   let n := nextF raw 4 x.2
   let a := makeF raw f t n.2
   let b := bindF (makeF raw f) t t a.2
   (.n3 .loop b.2.vars.length (.num n.1) a.1 b.1, b.2)
  else if x.1 < 8 then
   if t = 0 then
    let o := nextF raw 3 x.2
    let a := makeF raw f 0 o.2
    let b := makeF raw f 0 a.2
    (.n2 (opK o.1) 0 a.1 b.1, b.2)
   else
    let a := makeF raw f (fT t) x.2
    let b := makeF raw f (sT t) a.2
    (.n2 .pair 0 a.1 b.1, b.2)
  else leafF raw 3 t x.2
def buildF (t : Int) (raw : List Int) : KE := (makeF raw 25 (pickF t 5) ⟨0, 24, []⟩).1
inductive KT : List Nat → KE → Nat → Prop
 | num {vs : List Nat} {n : Nat} (h : n ≤ 59) : KT vs (.num n) 0
 | var {vs : List Nat} {n t : Nat} (h : vs[n]? = some t) : KT vs (.var n) t
 | let_ {vs : List Nat} {a b : KE} {v t : Nat} (hv : v < 5) (hl : vs.length < 100) (ha : KT vs a v) (hb : KT (vs ++ [v]) b t) : KT vs (.n2 .let_ vs.length a b) t
 | if_ {vs : List Nat} {a b c : KE} {t : Nat} (ha : KT vs a 0) (hb : KT vs b t) (hc : KT vs c t) : KT vs (.n3 .if_ 0 a b c) t
 | loop {vs : List Nat} {a b c : KE} {t : Nat} (hl : vs.length < 100) (ha : KT vs a 0) (hb : KT vs b t) (hc : KT (vs ++ [t]) c t) : KT vs (.n3 .loop vs.length a b c) t
 | pair {vs : List Nat} {a b : KE} {t : Nat} (h0 : t ≠ 0) (ht : t < 5) (ha : KT vs a (fT t)) (hb : KT vs b (sT t)) : KT vs (.n2 .pair 0 a b) t
 | fst {vs : List Nat} {a : KE} {p : Nat} (h0 : p ≠ 0) (hp : p < 5) (ha : KT vs a p) : KT vs (.n1 .fst a) (fT p)
 | snd {vs : List Nat} {a : KE} {p : Nat} (h0 : p ≠ 0) (hp : p < 5) (ha : KT vs a p) : KT vs (.n1 .snd a) (sT p)
 | two {vs : List Nat} {k : Kw} {a b : KE} (hk : k = .add ∨ k = .sub ∨ k = .less) (ha : KT vs a 0) (hb : KT vs b 0) : KT vs (.n2 k 0 a b) 0
def KE.prs : KE → Nat
 | .num _ => 0
 | .var _ => 0
 | .n1 _ a => a.prs
 | .n2 k _ a b => (if k = .pair then 1 else 0) + a.prs + b.prs
 | .n3 _ _ a b c => a.prs + b.prs + c.prs
def KE.cnt : KE → Nat
 | .num _ => 1
 | .var _ => 1
 | .n1 _ a => 1 + a.cnt
 | .n2 _ _ a b => 1 + a.cnt + b.cnt
 | .n3 _ _ a b c => 1 + a.cnt + b.cnt + c.cnt
def KE.len : KE → Nat
 | .num _ => 3
 | .var _ => 3
 | .n1 _ a => 6 + a.len
 | .n2 k _ a b => (if k = .let_ then 11 else 8) + a.len + b.len
 | .n3 k _ a b c => (if k = .loop then 13 else 7) + a.len + b.len + c.len
def lenW (t : Nat) : Nat := if t = 0 then 3 else if t = 1 then 14 else if t = 4 then 36 else 25
def prW (t : Nat) : Nat := if t = 0 then 0 else if t = 1 then 1 else if t = 4 then 3 else 2
def cntW (t : Nat) : Nat := if t = 0 then 1 else if t = 1 then 3 else if t = 4 then 7 else 5
def atW (t : Nat) : Nat := if t = 0 then 2 else if t = 1 then 5 else if t = 4 then 11 else 8
structure MkO (t : Nat) (s : MkS) (y : KE × MkS) : Prop where
 ty : KT s.vars y.1 t
 vars : y.2.vars = s.vars
 left : y.2.left ≤ s.left
 len : y.1.len + 53 * y.2.left ≤ lenW t + 53 * s.left
 prs : y.1.prs + 3 * y.2.left ≤ prW t + 3 * s.left
 cnt : y.1.cnt + 9 * y.2.left ≤ cntW t + 9 * s.left
 at_ : y.2.at_ + 40 * y.2.left ≤ s.at_ + atW t + 40 * s.left
 at' : s.at_ ≤ y.2.at_
theorem namedF_ty {vars : List Nat} {t k : Nat} {y : KE} (h : namedF vars t k = some y) : ∃ n, y = .var n ∧ vars[n]? = some t ∧ n < vars.length := by
 unfold namedF at h
 split at h
 ·cases h
 ·rename_i hne
  simp only [Option.some.injEq] at h
  have hpos : 0 < (idxs vars t vars.length).length := List.length_pos_iff.2 hne
  have hlt := Nat.mod_lt k hpos
  refine ⟨_, h.symm, ?_⟩
  have hmem : (idxs vars t vars.length).getD (k % (idxs vars t vars.length).length) 0 ∈ idxs vars t vars.length := by
   rw [List.getD_eq_getElem?_getD, List.getElem?_eq_getElem hlt, Option.getD_some]; exact List.getElem_mem hlt
  generalize (idxs vars t vars.length).getD (k % (idxs vars t vars.length).length) 0 = n at hmem
  unfold idxs at hmem
  rw [List.mem_filter, List.mem_range] at hmem
  have e := hmem.2
  rw [List.getD_eq_getElem?_getD, List.getElem?_eq_getElem hmem.1, Option.getD_some] at e
  rw [List.getElem?_eq_getElem hmem.1]
  exact ⟨by simpa using e, hmem.1⟩
theorem W_pos {t : Nat} : 3 ≤ lenW t ∧ 1 ≤ cntW t ∧ 2 ≤ atW t := by
 unfold lenW cntW atW
 by_cases h0 : t = 0
 ·subst h0; decide
 ·by_cases h1 : t = 1
  ·subst h1; decide
  ·by_cases h4 : t = 4
   ·subst h4; decide
   ·simp [h0, h1, h4]
theorem W_pair {t : Nat} (ht : t < 5) (h0 : t ≠ 0) : 8 + lenW (fT t) + lenW (sT t) = lenW t ∧ 1 + prW (fT t) + prW (sT t) = prW t ∧ 1 + cntW (fT t) + cntW (sT t) = cntW t ∧ 1 + atW (fT t) + atW (sT t) = atW t ∧ fT t < 5 ∧ sT t < 5 := by
 have h : ∀ t < 5, t ≠ 0 → (8 + lenW (fT t) + lenW (sT t) = lenW t ∧ 1 + prW (fT t) + prW (sT t) = prW t ∧ 1 + cntW (fT t) + cntW (sT t) = cntW t ∧ 1 + atW (fT t) + atW (sT t) = atW t ∧ fT t < 5 ∧ sT t < 5) := by decide
 exact h t ht h0
def dep (t : Nat) : Nat := if t = 0 then 0 else if t = 1 then 1 else 2
theorem dep_parts {t : Nat} (ht : t < 5) (h0 : t ≠ 0) : dep (fT t) < dep t ∧ dep (sT t) < dep t := by
 have h : ∀ t < 5, t ≠ 0 → (dep (fT t) < dep t ∧ dep (sT t) < dep t) := by decide
 exact h t ht h0
theorem leafF_ok (raw : List Int) : ∀ (f t : Nat) (s : MkS), t < 5 → dep t < f → MkO t s (leafF raw f t s)
 | 0, _, _, _, h => by omega
 | f + 1, t, s, ht, hd => by
  simp only [leafF]
  have hn := nextF_st raw 7 s
  generalize nextF raw 7 s = x at hn
  have hW := @W_pos t
  split
  ·rename_i y hy
   split at hy
   ·obtain ⟨n, rfl, h1, _⟩ := namedF_ty hy
    rw [hn.2.1] at h1
    refine ⟨.var h1, hn.2.1, by simp only; omega, ?_, ?_, ?_, ?_, ?_⟩ <;> simp only [KE.len, KE.prs, KE.cnt, hn.1] <;> omega
   ·cases hy
  ·split
   ·rename_i h0
    subst h0
    have hm := nextF_st raw 60 x.2
    have hl := nextF_lt raw 60 x.2 (by omega)
    generalize nextF raw 60 x.2 = z at hm hl
    refine ⟨.num (by omega), by rw [hm.2.1, hn.2.1], by simp only; omega, ?_, ?_, ?_, ?_, ?_⟩ <;> simp only [KE.len, KE.prs, KE.cnt, hm.1, hn.1] <;> omega
   ·rename_i h0
    have hp := W_pair ht h0
    have hdp := dep_parts ht h0
    have ha := leafF_ok raw f (fT t) x.2 hp.2.2.2.2.1 (by omega)
    generalize leafF raw f (fT t) x.2 = a at ha
    have hb := leafF_ok raw f (sT t) a.2 hp.2.2.2.2.2 (by omega)
    generalize leafF raw f (sT t) a.2 = b at hb
    obtain ⟨a1, a2, a3, a4, a5, a6, a7, a8⟩ := ha
    obtain ⟨b1, b2, b3, b4, b5, b6, b7, b8⟩ := hb
    rw [a2, hn.2.1] at b1 b2
    rw [hn.2.1] at a1
    refine ⟨.pair h0 ht a1 b1, b2, by simp only; omega, ?_, ?_, ?_, ?_, ?_⟩ <;> simp only [KE.len, KE.prs, KE.cnt, if_true] <;> first | omega | (rw [if_neg (by decide)]; omega)
theorem takeG_ty : ∀ t < 5, ∀ k < 4, ∀ q, takeG t k 0 10 = some q → q.2 ≠ 0 ∧ q.2 < 5 ∧ ((q.1 = .fst ∧ fT q.2 = t) ∨ (q.1 = .snd ∧ sT q.2 = t)) ∧ lenW q.2 ≤ lenW t + 40 ∧ prW q.2 ≤ prW t + 3 ∧ cntW q.2 ≤ cntW t + 7 ∧ atW q.2 ≤ atW t + 10 := by
 have h : ∀ t < 5, ∀ k < 4, (takeG t k 0 10).all (fun q => decide (q.2 ≠ 0 ∧ q.2 < 5 ∧ ((q.1 = .fst ∧ fT q.2 = t) ∨ (q.1 = .snd ∧ sT q.2 = t)) ∧ lenW q.2 ≤ lenW t + 40 ∧ prW q.2 ≤ prW t + 3 ∧ cntW q.2 ≤ cntW t + 7 ∧ atW q.2 ≤ atW t + 10)) = true := by decide
 intro t ht k hk q hq
 have := h t ht k hk
 rw [hq] at this
 simpa only [Option.all_some, decide_eq_true_eq] using this
theorem W_le {t : Nat} : lenW t ≤ 36 ∧ prW t ≤ 3 ∧ cntW t ≤ 7 ∧ atW t ≤ 11 := by
 unfold lenW prW cntW atW
 by_cases h0 : t = 0
 ·subst h0; decide
 ·by_cases h1 : t = 1
  ·subst h1; decide
  ·by_cases h4 : t = 4
   ·subst h4; decide
   ·simp [h0, h1, h4]
theorem bindF_ok {g : Nat → MkS → KE × MkS} {v t : Nat} {s : MkS} (h : MkO t { s with vars := s.vars ++ [v] } (g t { s with vars := s.vars ++ [v] })) :
  KT (s.vars ++ [v]) (bindF g v t s).1 t ∧ (bindF g v t s).2.vars = s.vars ∧ (bindF g v t s).2.left ≤ s.left ∧ (bindF g v t s).1.len + 53 * (bindF g v t s).2.left ≤ lenW t + 53 * s.left ∧ (bindF g v t s).1.prs + 3 * (bindF g v t s).2.left ≤ prW t + 3 * s.left ∧ (bindF g v t s).1.cnt + 9 * (bindF g v t s).2.left ≤ cntW t + 9 * s.left ∧ (bindF g v t s).2.at_ + 40 * (bindF g v t s).2.left ≤ s.at_ + atW t + 40 * s.left ∧ s.at_ ≤ (bindF g v t s).2.at_ := by
 unfold bindF
 refine ⟨h.ty, ?_, h.left, h.len, h.prs, h.cnt, h.at_, h.at'⟩
 simp only [h.vars, List.take_left]
set_option maxHeartbeats 1000000 in
theorem makeF_ok (raw : List Int) : ∀ (f t : Nat) (s : MkS), t < 5 → s.left < f → s.vars.length + s.left ≤ 100 → MkO t s (makeF raw f t s)
 | 0, _, _, _, h, _ => by omega
 | f + 1, t, s, ht, hf, hv => by
  simp only [makeF]
  have hW := @W_le t
  have hWp := @W_pos t
  split
  ·exact leafF_ok raw 3 t s ht (by unfold dep; split <;> (try split) <;> omega)
  rename_i hl0
  have hn := nextF_st raw 9 { s with left := s.left - 1 }
  generalize nextF raw 9 { s with left := s.left - 1 } = x at hn
  simp only at hn
  obtain ⟨n1, n2, n3, n4⟩ := hn
  split
  ·have hm := nextF_st raw 5 x.2
   have hm5 := nextF_lt raw 5 x.2 (by omega)
   generalize nextF raw 5 x.2 = v at hm hm5
   obtain ⟨m1, m2, m3, m4⟩ := hm
   have ha := makeF_ok raw f v.1 v.2 hm5 (by omega) (by rw [m2, n2]; omega)
   generalize makeF raw f v.1 v.2 = a at ha
   obtain ⟨a1, a2, a3, a4, a5, a6, a7, a8⟩ := ha
   have hb := bindF_ok (v := v.1) (makeF_ok raw f t { a.2 with vars := a.2.vars ++ [v.1] } ht (by simp only; omega) (by simp only [List.length_append, List.length_singleton, a2, m2, n2]; omega))
   generalize bindF (makeF raw f) v.1 t a.2 = b at hb
   obtain ⟨b1, b2, b3, b4, b5, b6, b7, b8⟩ := hb
   rw [a2, m2, n2] at b1 b2
   rw [m2, n2] at a1
   have hWv := @W_le v.1
   rw [b2]
   refine ⟨.let_ hm5 (by omega) a1 b1, b2, by simp only; omega, ?_, ?_, ?_, ?_, ?_⟩ <;> simp only [KE.len, KE.prs, KE.cnt, if_true] <;> first | omega | (rw [if_neg (by decide)]; omega)
  split
  ·have ha := makeF_ok raw f 0 x.2 (by omega) (by omega) (by rw [n2]; omega)
   generalize makeF raw f 0 x.2 = a at ha
   obtain ⟨a1, a2, a3, a4, a5, a6, a7, a8⟩ := ha
   have hb := makeF_ok raw f t a.2 ht (by omega) (by rw [a2, n2]; omega)
   generalize makeF raw f t a.2 = b at hb
   obtain ⟨b1, b2, b3, b4, b5, b6, b7, b8⟩ := hb
   have hc := makeF_ok raw f t b.2 ht (by omega) (by rw [b2, a2, n2]; omega)
   generalize makeF raw f t b.2 = c at hc
   obtain ⟨c1, c2, c3, c4, c5, c6, c7, c8⟩ := hc
   rw [b2, a2, n2] at c1 c2
   rw [a2, n2] at b1
   rw [n2] at a1
   have e0 : lenW 0 = 3 ∧ prW 0 = 0 ∧ cntW 0 = 1 ∧ atW 0 = 2 := by decide
   refine ⟨.if_ a1 b1 c1, c2, by simp only; omega, ?_, ?_, ?_, ?_, ?_⟩ <;> simp only [KE.len, KE.prs, KE.cnt] <;> first | omega | (rw [if_neg (by decide)]; omega)
  split
  ·have hm := nextF_st raw 4 x.2
   have hm4 := nextF_lt raw 4 x.2 (by omega)
   generalize nextF raw 4 x.2 = k at hm hm4
   obtain ⟨m1, m2, m3, m4⟩ := hm
   split
   ·rename_i q hq
    have hq' := takeG_ty t ht k.1 hm4 q hq
    have ha := makeF_ok raw f q.2 k.2 hq'.2.1 (by omega) (by rw [m2, n2]; omega)
    generalize makeF raw f q.2 k.2 = a at ha
    obtain ⟨a1, a2, a3, a4, a5, a6, a7, a8⟩ := ha
    rw [m2, n2] at a1 a2
    have hty : KT s.vars (.n1 q.1 a.1) t := by
     rcases hq'.2.2.1 with ⟨e1, e2⟩ | ⟨e1, e2⟩
     ·rw [e1, ← e2]; exact .fst hq'.1 hq'.2.1 a1
     ·rw [e1, ← e2]; exact .snd hq'.1 hq'.2.1 a1
    refine ⟨hty, a2, by simp only; omega, ?_, ?_, ?_, ?_, ?_⟩ <;> simp only [KE.len, KE.prs, KE.cnt] <;> omega
   ·have ha := leafF_ok raw 3 t k.2 ht (by unfold dep; split <;> (try split) <;> omega)
    generalize leafF raw 3 t k.2 = a at ha
    obtain ⟨a1, a2, a3, a4, a5, a6, a7, a8⟩ := ha
    rw [m2, n2] at a1 a2
    exact ⟨a1, a2, by omega, by omega, by omega, by omega, by omega, by omega⟩
  split
  ·have hm := nextF_st raw 4 x.2
   have hm4 := nextF_lt raw 4 x.2 (by omega)
   generalize nextF raw 4 x.2 = n at hm hm4
   obtain ⟨m1, m2, m3, m4⟩ := hm
   have ha := makeF_ok raw f t n.2 ht (by omega) (by rw [m2, n2]; omega)
   generalize makeF raw f t n.2 = a at ha
   obtain ⟨a1, a2, a3, a4, a5, a6, a7, a8⟩ := ha
   have hb := bindF_ok (v := t) (makeF_ok raw f t { a.2 with vars := a.2.vars ++ [t] } ht (by simp only; omega) (by simp only [List.length_append, List.length_singleton, a2, m2, n2]; omega))
   generalize bindF (makeF raw f) t t a.2 = b at hb
   obtain ⟨b1, b2, b3, b4, b5, b6, b7, b8⟩ := hb
   rw [a2, m2, n2] at b1 b2
   rw [m2, n2] at a1
   rw [b2]
   refine ⟨.loop (by omega) (.num (by omega)) a1 b1, b2, by simp only; omega, ?_, ?_, ?_, ?_, ?_⟩ <;> simp only [KE.len, KE.prs, KE.cnt, if_true] <;> omega
  split
  ·split
   ·rename_i h0
    subst h0
    have hm := nextF_st raw 3 x.2
    generalize nextF raw 3 x.2 = o at hm
    obtain ⟨m1, m2, m3, m4⟩ := hm
    have ha := makeF_ok raw f 0 o.2 ht (by omega) (by rw [m2, n2]; omega)
    generalize makeF raw f 0 o.2 = a at ha
    obtain ⟨a1, a2, a3, a4, a5, a6, a7, a8⟩ := ha
    have hb := makeF_ok raw f 0 a.2 ht (by omega) (by rw [a2, m2, n2]; omega)
    generalize makeF raw f 0 a.2 = b at hb
    obtain ⟨b1, b2, b3, b4, b5, b6, b7, b8⟩ := hb
    rw [a2, m2, n2] at b1 b2
    rw [m2, n2] at a1
    have hk : opK o.1 = .add ∨ opK o.1 = .sub ∨ opK o.1 = .less := by unfold opK; split <;> (try split) <;> simp
    have hk1 : opK o.1 ≠ .let_ ∧ opK o.1 ≠ .pair := by rcases hk with h | h | h <;> rw [h] <;> decide
    have e0 : lenW 0 = 3 ∧ prW 0 = 0 ∧ cntW 0 = 1 ∧ atW 0 = 2 := by decide
    refine ⟨.two hk a1 b1, b2, by simp only; omega, ?_, ?_, ?_, ?_, ?_⟩ <;> simp only [KE.len, KE.prs, KE.cnt, if_neg hk1.1, if_neg hk1.2] <;> omega
   ·rename_i h0
    have hp := W_pair ht h0
    have ha := makeF_ok raw f (fT t) x.2 hp.2.2.2.2.1 (by omega) (by rw [n2]; omega)
    generalize makeF raw f (fT t) x.2 = a at ha
    obtain ⟨a1, a2, a3, a4, a5, a6, a7, a8⟩ := ha
    have hb := makeF_ok raw f (sT t) a.2 hp.2.2.2.2.2 (by omega) (by rw [a2, n2]; omega)
    generalize makeF raw f (sT t) a.2 = b at hb
    obtain ⟨b1, b2, b3, b4, b5, b6, b7, b8⟩ := hb
    rw [a2, n2] at b1 b2
    rw [n2] at a1
    refine ⟨.pair h0 ht a1 b1, b2, by simp only; omega, ?_, ?_, ?_, ?_, ?_⟩ <;> simp only [KE.len, KE.prs, KE.cnt, if_true] <;> first | omega | (rw [if_neg (by decide)]; omega)
  ·have ha := leafF_ok raw 3 t x.2 ht (by unfold dep; split <;> (try split) <;> omega)
   generalize leafF raw 3 t x.2 = a at ha
   obtain ⟨a1, a2, a3, a4, a5, a6, a7, a8⟩ := ha
   rw [n2] at a1 a2
   exact ⟨a1, a2, by omega, by omega, by omega, by omega, by omega, by omega⟩
theorem build_ok (t : Int) (raw : List Int) : KT [] (buildF t raw) (pickF t 5) ∧ (buildF t raw).len ≤ 1308 ∧ (buildF t raw).prs ≤ 75 ∧ (buildF t raw).cnt ≤ 223 := by
 have h := makeF_ok raw 25 (pickF t 5) ⟨0, 24, []⟩ (pickF_lt t 5 (by omega)) (by simp) (by simp)
 have hW := @W_le (pickF t 5)
 have h2 := h.len
 have h3 := h.prs
 have h4 := h.cnt
 simp only at h2 h3 h4
 exact ⟨h.ty, by show (makeF raw 25 (pickF t 5) ⟨0, 24, []⟩).1.len ≤ _; omega, by show (makeF raw 25 (pickF t 5) ⟨0, 24, []⟩).1.prs ≤ _; omega, by show (makeF raw 25 (pickF t 5) ⟨0, 24, []⟩).1.cnt ≤ _; omega⟩
end Go.Proofs.YtpicaknklgccoaaGreatDoor
namespace Go.Proofs.YtpicaknklgccoaaGreatDoor
open Go.RowKit
structure FrO (w w' : World) (yb : Nat) (nv nv' : Value) : Prop where
 size : w.heap.size ≤ w'.heap.size
 blk : ∀ k, k < w.heap.size → k ≠ yb → nv.ownBlock ≠ some k → w'.heap[k]? = w.heap[k]?
 n : ∀ g, nv'.ownBlock = some g → nv.ownBlock = some g ∨ w.heap.size ≤ g
theorem FrO.refl (w : World) (yb : Nat) (nv : Value) : FrO w w yb nv nv := ⟨Nat.le_refl _, fun _ _ _ _ => rfl, fun _ h => Or.inl h⟩
theorem FrO.trans {w w1 w2 : World} {yb : Nat} {nv nv1 nv2 : Value} (h : FrO w w1 yb nv nv1) (h' : FrO w1 w2 yb nv1 nv2) : FrO w w2 yb nv nv2 := by
 refine ⟨Nat.le_trans h.size h'.size, ?_, ?_⟩
 ·intro k hk hy hn
  rw [h'.blk k (Nat.lt_of_lt_of_le hk h.size) hy (fun e => by rcases h.n k e with e | e; exact hn e; omega)]
  exact h.blk k hk hy hn
 ·intro g hg
  rcases h'.n g hg with e | e
  ·exact h.n g e
  ·exact Or.inr (Nat.le_trans h.size e)
theorem FrO.below {w w' : World} (h : Below w.heap.size w w') (yb : Nat) (nv : Value) : FrO w w' yb nv nv := ⟨h.size, fun k hk _ _ => h.block k hk, fun _ h => Or.inl h⟩
theorem FrO.grown {w w' : World} {yb : Nat} (h : w.grownBy w' (some yb)) (nv : Value) : FrO w w' yb nv nv := ⟨h.size, fun k hk hy _ => h.block k hk (fun e => by cases e; exact hy rfl), fun _ h => Or.inl h⟩
theorem below_alZ {w W : World} (h : Below w.heap.size w W) (o : Obj) : Below w.heap.size w (W.alloc o) := h.alloc h.size o
theorem below_drewO (w : World) (m : Nat) : Below w.heap.size w (w.drewN m) := ⟨rfl, rfl, rfl, Nat.le_refl _, fun _ _ => rfl⟩
theorem FrO.setAt (w : World) (yb : Nat) (nv : Value) (m o : Nat) (x : Value) : FrO w ((w.drewN m).setCell ⟨yb, o, none⟩ x) yb nv nv := (FrO.below (below_drewO w m) _ _).trans (FrO.grown (gr_set (w.drewN m) ⟨yb, o, none⟩ _) _)
theorem FrO.set1 (w : World) (yb : Nat) (nv : Value) (o : Nat) (x : Value) : FrO w (w.setCell ⟨yb, o, none⟩ x) yb nv nv := FrO.grown (gr_set w ⟨yb, o, none⟩ _) _
theorem FrO.recast {w w' : World} {yb : Nat} {nv nv' nv2 : Value} (h : FrO w w' yb nv nv') (e : nv2.ownBlock = nv'.ownBlock) : FrO w w' yb nv nv2 := ⟨h.size, h.blk, fun g hg => h.n g (by rw [← e]; exact hg)⟩
structure ObIn (w0 w : World) (yb : Nat) (cs : Array Value) (T : TypeId) (nv : Value) (E : TypeId) (xs : List Value) : Prop where
 b0 : Below w0.heap.size w0 w
 hyb : w0.heap.size ≤ yb
 y : w.heap[yb]? = some (.cells cs T (0, 0))
 n : w.ownsRow w0.heap.size E 1 nv xs.length xs
 ny : nv.ownBlock ≠ some yb
theorem ObIn.grow {w0 w w' : World} {yb : Nat} {cs : Array Value} {T : TypeId} {nv : Value} {E : TypeId} {xs : List Value} (h : ObIn w0 w yb cs T nv E xs) (hb : Below w.heap.size w w') : ObIn w0 w' yb cs T nv E xs :=
 ⟨h.b0.trans (hb.mono h.b0.size), h.hyb, by rw [hb.block yb (blk_lt h.y)]; exact h.y, owns_below h.n hb, h.ny⟩
theorem ObIn.set {w0 w : World} {yb : Nat} {cs cs' : Array Value} {T : TypeId} {nv : Value} {E : TypeId} {xs : List Value} (h : ObIn w0 w yb cs T nv E xs) (o : Nat) (x : Value) (hx : cs.setIfInBounds o x = cs') : ObIn w0 (w.setCell ⟨yb, o, none⟩ x) yb cs' T nv E xs := by
 have oth : ∀ b, b ≠ yb → (w.setCell ⟨yb, o, none⟩ x).heap[b]? = w.heap[b]? := fun b hb => blk_other _ _ (by simpa using hb)
 refine ⟨h.b0.setCell (p := ⟨yb, o, none⟩) h.hyb _, h.hyb, by rw [← hx]; exact blk_set h.y o x, ?_, h.ny⟩
 exact owns_blk h.n (fun k hk => oth k (fun e => h.ny (by rw [← e]; exact hk)))
theorem ObIn.push {w0 w w3 W : World} {yb : Nat} {cs : Array Value} {T : TypeId} {nv : Value} {E : TypeId} {xs : List Value} {x : Value} {g cap o : Nat} {A : Obj}
  (h : ObIn w0 w yb cs T nv E xs) (hg : (w.alloc A).grownBy w3 nv.ownBlock) (ho : w3.ownsRow 0 E 1 (.slice (some ⟨g, 0, none⟩) (xs.length + 1) cap) (xs.length + 1) (xs ++ [x]))
  (hgg : nv.ownBlock = some g ∨ (w.alloc A).heap.size ≤ g) (hW : W = w3.setCell ⟨yb, o, none⟩ (.slice (some ⟨g, 0, none⟩) (xs.length + 1) cap)) :
  ObIn w0 W yb (cs.setIfInBounds o (.slice (some ⟨g, 0, none⟩) (xs.length + 1) cap)) T (.slice (some ⟨g, 0, none⟩) (xs.length + 1) cap) E (xs ++ [x]) ∧ FrO w W yb nv (.slice (some ⟨g, 0, none⟩) (xs.length + 1) cap) := by
 have hb0 := h.b0.size
 have hyl := blk_lt h.y
 have ea : (w.alloc A).heap.size = w.heap.size + 1 := by simp
 have hs3 := hg.size
 rw [ea] at hgg hs3
 have hsW : W.heap.size = w3.heap.size := by rw [hW]; simp [World.setCell]
 have hnlt : ∀ g, nv.ownBlock = some g → w0.heap.size ≤ g ∧ g < w.heap.size := fun g hg => h.n.lt g hg
 have o3 : ∀ b, b < w.heap.size → nv.ownBlock ≠ some b → w3.heap[b]? = w.heap[b]? := by
  intro b hb hn
  rw [hg.block b (by rw [ea]; omega) (fun e => hn e.symm), Below.heap_alloc _ _ _ hb]
 have oW : ∀ b, b < w.heap.size → b ≠ yb → nv.ownBlock ≠ some b → W.heap[b]? = w.heap[b]? := by
  intro b hb hby hn
  rw [hW, blk_other _ _ (by simpa using hby), o3 b hb hn]
 have hgy : g ≠ yb := by
  intro e
  rcases hgg with hh | hh
  ·exact h.ny (by rw [hh, e])
  ·omega
 have hgb : w0.heap.size ≤ g := by
  rcases hgg with hh | hh
  ·exact (hnlt g hh).1
  ·omega
 have hyW : W.heap[yb]? = some (.cells (cs.setIfInBounds o (.slice (some ⟨g, 0, none⟩) (xs.length + 1) cap)) T (0, 0)) := by
  rw [hW]
  refine (blk_set (arr := cs) ?_ o _).trans rfl
  rw [o3 yb hyl h.ny]; exact h.y
 refine ⟨⟨?_, h.hyb, hyW, ?_, ?_⟩, ⟨by omega, fun k hk hy hn => oW k hk hy hn, fun g' hg' => by simp only [Value.ownBlock, Option.some.injEq] at hg'; subst hg'; rcases hgg with e | e; exact Or.inl e; exact Or.inr (by omega)⟩⟩
 ·refine h.b0.trans ⟨?_, ?_, ?_, by omega, fun k hk => oW k (by omega) (by have := h.hyb; omega) (fun e => by have := hnlt k e; omega)⟩
  ·rw [hW]; exact hg.os
  ·rw [hW]; exact hg.tape
  ·rw [hW]; exact hg.output
 ·have e1 : (xs ++ [x]).length = xs.length + 1 := by simp
  rw [e1]
  refine owns_base (owns_blk ho (fun k hk => ?_)) (fun k hk => ?_)
  ·simp only [Value.ownBlock, Option.some.injEq] at hk
   subst hk
   rw [hW, blk_other _ _ (by simpa using hgy)]
  ·simp only [Value.ownBlock, Option.some.injEq] at hk
   subst hk; exact hgb
 ·simp only [Value.ownBlock, ne_eq, Option.some.injEq]; exact hgy
theorem ObIn.pop {w0 w : World} {yb : Nat} {cs : Array Value} {T : TypeId} {E : TypeId} {xs : List Value} {x : Value} {g cap o : Nat}
  (h : ObIn w0 w yb cs T (.slice (some ⟨g, 0, none⟩) (xs.length + 1) cap) E (xs ++ [x])) :
  ObIn w0 (w.setCell ⟨yb, o, none⟩ (.slice (some ⟨g, 0, none⟩) xs.length cap)) yb (cs.setIfInBounds o (.slice (some ⟨g, 0, none⟩) xs.length cap)) T (.slice (some ⟨g, 0, none⟩) xs.length cap) E xs := by
 have oth : ∀ b, b ≠ yb → (w.setCell ⟨yb, o, none⟩ (.slice (some ⟨g, 0, none⟩) xs.length cap)).heap[b]? = w.heap[b]? := fun b hb => blk_other _ _ (by simpa using hb)
 have hp : w.ownsRow w0.heap.size E 1 (.slice (some ⟨g, 0, none⟩) xs.length cap) xs.length xs := by
  refine ownsRow_pop (last := [x]) (by simp) ?_
  have := h.n
  simpa using this
 refine ⟨?_, h.hyb, (blk_set h.y o _).trans rfl, owns_blk hp (fun k hk => oth k (fun e => h.ny (by rw [← e]; exact hk))), h.ny⟩
 exact h.b0.setCell (p := ⟨yb, o, none⟩) h.hyb _
theorem ObIn.shape {w0 w : World} {yb : Nat} {cs : Array Value} {T : TypeId} {nv : Value} {E : TypeId} {xs : List Value} (h : ObIn w0 w yb cs T nv E xs) : ∃ a cap, nv = .slice a xs.length cap ∧ xs.length ≤ cap ∧ (0 < xs.length → ∃ g, a = some ⟨g, 0, none⟩) := by
 rcases h.n.2 with ⟨hv, hn⟩ | ⟨g, cap, cur, hv, _, _, hc, _⟩
 ·exact ⟨none, 0, by rw [hv, hn], by omega, fun h => by omega⟩
 ·exact ⟨_, cap, hv, hc, fun _ => ⟨g, rfl⟩⟩
theorem ObIn.other {w0 w w' : World} {yb : Nat} {cs : Array Value} {T : TypeId} {nv nv' : Value} {E : TypeId} {xs : List Value} (h : ObIn w0 w yb cs T nv E xs) (hf : FrO w w' yb nv nv') {U : TypeId} (hT : U ≠ T) (hE : U ≠ E) {k : Nat} {arr : Array Value} {fz : Nat × Nat} (hk : w.heap[k]? = some (.cells arr U fz)) : w'.heap[k]? = some (.cells arr U fz) := by
 rw [← hk]
 refine hf.blk k (blk_lt hk) ?_ ?_
 ·rintro rfl
  have := h.y
  rw [hk] at this
  simp only [Option.some.injEq, Obj.cells.injEq] at this
  exact hT this.2.1
 ·intro e
  rcases h.n.2 with ⟨hv, hn⟩ | ⟨g, cap, cur, hv, _, hg, _⟩
  ·rw [hv] at e; cases e
  ·rw [hv] at e
   simp only [Value.ownBlock, Option.some.injEq] at e
   subst e
   rw [hk] at hg
   simp only [Option.some.injEq, Obj.cells.injEq] at hg
   exact hE hg.2.1
def I64 (c : Int) : Prop := -9223372036854775808 ≤ c ∧ c ≤ 9223372036854775807
def RawIn (w : World) (rv : Value) (raw : List Int) : Prop :=
 (∀ c ∈ raw, I64 c) ∧ ((rv = .slice none 0 0 ∧ raw = []) ∨ ∃ a cap, rv = .slice (some a) raw.length cap ∧ raw.length ≤ maxLen ∧ ∀ (i : Nat) (c : Int), raw[i]? = some c → w.cell? (a.add i) = some (.int .i64 c))
theorem RawIn.below {w w' : World} {rv : Value} {raw : List Int} (h : RawIn w rv raw) (hb : Below w.heap.size w w') : RawIn w' rv raw := by
 refine ⟨h.1, ?_⟩
 rcases h.2 with h | ⟨a, cap, h1, h2, h3⟩
 ·exact Or.inl h
 ·exact Or.inr ⟨a, cap, h1, h2, fun i c hc => (hb.cell (World.block_lt_of_cell? _ _ (h3 i c hc))).trans (h3 i c hc)⟩
def mkCells (rv : Value) (s : MkS) (nv : Value) : Array Value := #[rv, .int .i64 s.at_, .int .i64 s.left, nv]
def natsV (l : List Nat) : List Value := l.map (fun (k : Nat) => Value.int .i64 k)
structure MkIn (w0 w : World) (yb : Nat) (rv : Value) (raw : List Int) (s : MkS) (nv : Value) : Prop where
 r : RawIn w0 rv raw
 ob : ObIn w0 w yb (mkCells rv s nv) 94 nv 3 (natsV s.vars)
theorem MkIn.grow {w0 w w' : World} {yb : Nat} {rv : Value} {raw : List Int} {s : MkS} {nv : Value} (h : MkIn w0 w yb rv raw s nv) (hb : Below w.heap.size w w') : MkIn w0 w' yb rv raw s nv := ⟨h.r, h.ob.grow hb⟩
set_option maxRecDepth 100000 in
theorem pick_any (c : Int) (n : Nat) (w : World) (hc : I64 c) (hn : 0 < n) (hn' : n ≤ 100000) : Calls Tryz.prog 23 #[.int .i64 c, .int .i64 n] w fun e w' => e = .returned (.int .i64 (pickF c n : Nat)) ∧ w' = w := by
 obtain ⟨h1, h2⟩ := hc
 have hl := pickF_lt c n hn
 have hv : ((pickF c n : Nat) : Int) = Int.tmod (if c < 0 then -(c + 1) else c) n := by
  unfold pickF
  exact Int.toNat_of_nonneg (Int.tmod_nonneg _ (by split <;> omega))
 rw [hv]
 have hne : ((n : Int) == 0) = false := by rw [beq_eq_false_iff_ne]; omega
 by_cases h0 : c < 0
 ·rw [if_pos h0] at hv ⊢
  go_enter Tryz.func23, Tryz.ntmps23
  go_wp2
  go_ret
  exact ⟨by rw [Int.neg_tmod]; rfl, rfl⟩
 ·rw [if_neg h0] at hv ⊢
  go_enter Tryz.func23, Tryz.ntmps23
  go_wp2
  go_ret
  exact ⟨by rw [Int.tmod_eq_emod_of_nonneg (by omega)]; rfl, rfl⟩
theorem Tryz.infoFive : (Tryz.prog.info? 200).map (·.size) = some 5 := by kernel_rfl
set_option maxRecDepth 100000 in
theorem kfirst_any (t : Nat) (ht : t < 5) (w : World) : Calls Tryz.prog 82 #[.int .i64 t] w fun e w' => e = .returned (.int .i64 (fI t)) ∧ Below w.heap.size w w' := by
 have h5 : t = 0 ∨ t = 1 ∨ t = 2 ∨ t = 3 ∨ t = 4 := by omega
 rcases h5 with rfl | rfl | rfl | rfl | rfl
 all_goals
  go_enter Tryz.func82, Tryz.ntmps82
  go_wp2_with (refine st_row rfl 200 (.tmp 3) (.tmp 4) rfl w.heap.size #[.int .i64 (-1), .int .i64 0, .int .i64 1, .int .i64 0, .int .i64 1] rfl rfl 200 _ (blk_new _ _) Tryz.infoFive rfl (by simp [Value.oneCell']) ?_; intro W hW hWs hWo hW1 hW2 hW3; have s0 : W.cell? ⟨w.heap.size, 0, none⟩ = some (.int .i64 (-1)) := (by rw [blk_cell hW]; rfl); have s1 : W.cell? ⟨w.heap.size, 1, none⟩ = some (.int .i64 0) := (by rw [blk_cell hW]; rfl); have s2 : W.cell? ⟨w.heap.size, 2, none⟩ = some (.int .i64 1) := (by rw [blk_cell hW]; rfl); have s3 : W.cell? ⟨w.heap.size, 3, none⟩ = some (.int .i64 0) := (by rw [blk_cell hW]; rfl); have s4 : W.cell? ⟨w.heap.size, 4, none⟩ = some (.int .i64 1) := (by rw [blk_cell hW]; rfl); have hwl := blk_lt hW; have HB : Hid (Below w.heap.size w W) := below_new (Below.alloc (Below.refl _ w) (Nat.le_refl _) _) (Nat.le_refl _) hWs hWo hW1 hW2 hW3; clear hW hWs hWo hW1 hW2 hW3)
  go_ret
  exact ⟨rfl, HB.out⟩
set_option maxRecDepth 100000 in
theorem ksecond_any (t : Nat) (ht : t < 5) (w : World) : Calls Tryz.prog 83 #[.int .i64 t] w fun e w' => e = .returned (.int .i64 (sI t)) ∧ Below w.heap.size w w' := by
 have h5 : t = 0 ∨ t = 1 ∨ t = 2 ∨ t = 3 ∨ t = 4 := by omega
 rcases h5 with rfl | rfl | rfl | rfl | rfl
 all_goals
  go_enter Tryz.func83, Tryz.ntmps83
  go_wp2_with (refine st_row rfl 200 (.tmp 3) (.tmp 4) rfl w.heap.size #[.int .i64 (-1), .int .i64 0, .int .i64 0, .int .i64 1, .int .i64 1] rfl rfl 200 _ (blk_new _ _) Tryz.infoFive rfl (by simp [Value.oneCell']) ?_; intro W hW hWs hWo hW1 hW2 hW3; have s0 : W.cell? ⟨w.heap.size, 0, none⟩ = some (.int .i64 (-1)) := (by rw [blk_cell hW]; rfl); have s1 : W.cell? ⟨w.heap.size, 1, none⟩ = some (.int .i64 0) := (by rw [blk_cell hW]; rfl); have s2 : W.cell? ⟨w.heap.size, 2, none⟩ = some (.int .i64 0) := (by rw [blk_cell hW]; rfl); have s3 : W.cell? ⟨w.heap.size, 3, none⟩ = some (.int .i64 1) := (by rw [blk_cell hW]; rfl); have s4 : W.cell? ⟨w.heap.size, 4, none⟩ = some (.int .i64 1) := (by rw [blk_cell hW]; rfl); have hwl := blk_lt hW; have HB : Hid (Below w.heap.size w W) := below_new (Below.alloc (Below.refl _ w) (Nat.le_refl _) _) (Nat.le_refl _) hWs hWo hW1 hW2 hW3; clear hW hWs hWo hW1 hW2 hW3)
  go_ret
  exact ⟨rfl, HB.out⟩
set_option maxRecDepth 100000 in
set_option maxHeartbeats 1000000 in
theorem next_any {w0 w : World} {yb : Nat} {rv : Value} {raw : List Int} {s : MkS} {nv : Value} (n : Nat) (hn : 0 < n) (hn' : n ≤ 100000) (h : MkIn w0 w yb rv raw s nv) (hat : s.at_ ≤ 1000000) :
  Calls Tryz.prog 53 #[.pointer (some ⟨yb, 0, none⟩), .int .i64 n] w fun e w' => e = .returned (.int .i64 ((nextF raw n s).1 : Nat)) ∧ FrO w w' yb nv nv ∧ MkIn w0 w' yb rv raw (nextF raw n s).2 nv := by
 have hyl := blk_lt h.ob.y
 have y1 : w.cell? ⟨yb, 1, none⟩ = some (.int .i64 s.at_) := by rw [blk_cell h.ob.y]; rfl
 have f1 : w.frozen? ⟨yb, 1, none⟩ = false := blk_free h.ob.y 1
 have y0 : w.cell? ⟨yb, 0, none⟩ = some rv := by rw [blk_cell h.ob.y]; rfl
 by_cases hr : raw = []
 ·have hnx : nextF raw n s = (0, s) := by unfold nextF; rw [if_pos hr]
  rw [hnx]
  obtain ⟨a, cap, hrv⟩ : ∃ a cap, rv = .slice a 0 cap := by
   rcases h.r.2 with ⟨h1, _⟩ | ⟨a, cap, h1, _, _⟩
   ·exact ⟨none, 0, h1⟩
   ·exact ⟨some a, cap, by rw [h1, hr]; rfl⟩
  rw [hrv] at y0
  have HH : Hid _ := h
  clear h hr hnx f1 y1
  go_enter Tryz.func53, Tryz.ntmps53
  go_wp2
  go_ret
  exact ⟨rfl, FrO.refl _ _ _, HH.out⟩
 ·have hpos : 0 < raw.length := List.length_pos_iff.2 hr
  obtain ⟨a, cap, hrv, hlen, hcl⟩ : ∃ a cap, rv = .slice (some a) raw.length cap ∧ raw.length ≤ maxLen ∧ ∀ (i : Nat) (c : Int), raw[i]? = some c → w0.cell? (a.add i) = some (.int .i64 c) := by
   rcases h.r.2 with ⟨_, h1⟩ | ⟨a, cap, h1, h2, h3⟩
   ·exact absurd h1 hr
   ·exact ⟨a, cap, h1, h2, h3⟩
  have hlt := Nat.mod_lt s.at_ hpos
  obtain ⟨c, hc⟩ : ∃ c, raw[s.at_ % raw.length]? = some c := ⟨_, List.getElem?_eq_getElem hlt⟩
  have hnx : nextF raw n s = (pickF c n, { s with at_ := s.at_ + 1 }) := by unfold nextF; rw [if_neg hr, List.getD_eq_getElem?_getD, hc]; rfl
  rw [hnx]
  have hci : I64 c := h.r.1 c (List.mem_of_getElem? hc)
  have hcell0 := hcl _ c hc
  have hcell : w.cell? (a.add (s.at_ % raw.length)) = some (.int .i64 c) := (h.ob.b0.cell (World.block_lt_of_cell? _ _ hcell0)).trans hcell0
  have hal : (a.add (s.at_ % raw.length)).block < w.heap.size := World.block_lt_of_cell? _ _ hcell
  have hidx : Int.tmod (s.at_ : Int) (raw.length : Int) = ((s.at_ % raw.length : Nat) : Int) := (Int.ofNat_tmod _ _).symm
  have hpk := fun w => pick_any c n w hci hn hn'
  rw [hrv] at y0
  have q0 : ((raw.length : Int) == 0) = false := by rw [beq_eq_false_iff_ne]; omega
  have hset := fun m => (h.ob.grow (below_drewO w m)).set 1 (.int .i64 ((s.at_ : Int) + 1)) (cs' := mkCells rv { s with at_ := s.at_ + 1 } nv) (by simp [mkCells])
  have HSET : Hid _ := hset
  have HR : Hid _ := h.r
  have hml : raw.length ≤ maxLen := hlen
  clear h hr hnx hcl hc hset hcell0 hlen
  generalize hix : s.at_ % raw.length = ix at *
  go_enter Tryz.func53, Tryz.ntmps53
  go_wp2
  go_quiet (fail)
  go_wp2_with fail
  refine (hpk _).mono ?_
  rintro _ w2 ⟨rfl, rfl⟩
  go_wp2
  go_ret
  exact ⟨rfl, FrO.setAt w yb nv _ 1 _, HR.out, HSET.out _⟩
def exV (op : List UInt8) (n : Nat) (kv : Value) : Array Value := #[.string (bs op), .int .i64 n, kv]
def KIn (w : World) : KE → Nat → Prop
 | .num n, p => w.heap[p]? = some (.cells (exV [] n (.slice none 0 0)) 98 (0, 0))
 | .var n, p => w.heap[p]? = some (.cells (exV [120] n (.slice none 0 0)) 98 (0, 0))
 | .n1 k a, p => ∃ c pa : Nat, w.heap[p]? = some (.cells (exV k.bytes 0 (.slice (some ⟨c, 0, none⟩) 1 1)) 98 (0, 0)) ∧ w.heap[c]? = some (.cells #[.pointer (some ⟨pa, 0, none⟩)] 43 (0, 0)) ∧ KIn w a pa
 | .n2 k n a b, p => ∃ c pa pb : Nat, w.heap[p]? = some (.cells (exV k.bytes n (.slice (some ⟨c, 0, none⟩) 2 2)) 98 (0, 0)) ∧ w.heap[c]? = some (.cells #[.pointer (some ⟨pa, 0, none⟩), .pointer (some ⟨pb, 0, none⟩)] 43 (0, 0)) ∧ KIn w a pa ∧ KIn w b pb
 | .n3 k n a b d, p => ∃ c pa pb pd : Nat, w.heap[p]? = some (.cells (exV k.bytes n (.slice (some ⟨c, 0, none⟩) 3 3)) 98 (0, 0)) ∧ w.heap[c]? = some (.cells #[.pointer (some ⟨pa, 0, none⟩), .pointer (some ⟨pb, 0, none⟩), .pointer (some ⟨pd, 0, none⟩)] 43 (0, 0)) ∧ KIn w a pa ∧ KIn w b pb ∧ KIn w d pd
theorem KIn.keep {w w' : World} (h : ∀ (k : Nat) (arr : Array Value) (U : TypeId), U = 98 ∨ U = 43 → w.heap[k]? = some (.cells arr U (0, 0)) → w'.heap[k]? = some (.cells arr U (0, 0))) : ∀ {x : KE} {p : Nat}, KIn w x p → KIn w' x p
 | .num _, _, hx => h _ _ _ (Or.inl rfl) hx
 | .var _, _, hx => h _ _ _ (Or.inl rfl) hx
 | .n1 _ _, _, ⟨c, pa, h1, h2, h3⟩ => ⟨c, pa, h _ _ _ (Or.inl rfl) h1, h _ _ _ (Or.inr rfl) h2, KIn.keep h h3⟩
 | .n2 _ _ _ _, _, ⟨c, pa, pb, h1, h2, h3, h4⟩ => ⟨c, pa, pb, h _ _ _ (Or.inl rfl) h1, h _ _ _ (Or.inr rfl) h2, KIn.keep h h3, KIn.keep h h4⟩
 | .n3 _ _ _ _ _, _, ⟨c, pa, pb, pd, h1, h2, h3, h4, h5⟩ => ⟨c, pa, pb, pd, h _ _ _ (Or.inl rfl) h1, h _ _ _ (Or.inr rfl) h2, KIn.keep h h3, KIn.keep h h4, KIn.keep h h5⟩
theorem KIn.below {w w' : World} {x : KE} {p : Nat} (h : KIn w x p) (hb : Below w.heap.size w w') : KIn w' x p := h.keep (fun k _ _ _ hk => (hb.block k (blk_lt hk)).trans hk)
theorem KIn.fr {w0 w w' : World} {yb : Nat} {rv : Value} {raw : List Int} {s : MkS} {nv nv' : Value} {x : KE} {p : Nat} (h : KIn w x p) (hm : MkIn w0 w yb rv raw s nv) (hf : FrO w w' yb nv nv') : KIn w' x p :=
 h.keep (fun k arr U hU hk => hm.ob.other hf (by rcases hU with rfl | rfl <;> decide) (by rcases hU with rfl | rfl <;> decide) hk)
theorem owns_shape {w : World} {b n : Nat} {E : TypeId} {v : Value} {xs : List Value} (h : w.ownsRow b E 1 v n xs) : ∃ a cap, v = .slice a n cap ∧ (0 < n → ∃ g, a = some ⟨g, 0, none⟩) := by
 rcases h.2 with ⟨hv, hn⟩ | ⟨g, cap, cur, hv, _⟩
 ·exact ⟨none, 0, by rw [hv, hn], fun h => by omega⟩
 ·exact ⟨_, cap, hv, fun _ => ⟨g, rfl⟩⟩
theorem idxs_succ (vars : List Nat) (t j : Nat) : idxs vars t (j + 1) = if vars.getD j 9 = t then idxs vars t j ++ [j] else idxs vars t j := by
 unfold idxs
 rw [List.range_succ, List.filter_append]
 by_cases h : vars.getD j 9 = t
 ·rw [if_pos h]; simp only [List.filter_cons, List.filter_nil, h, beq_self_eq_true, if_true]
 ·have hb : (vars.getD j 9 == t) = false := by simpa using h
  rw [if_neg h]; simp only [List.filter_cons, List.filter_nil, hb, Bool.false_eq_true, if_false, List.append_nil]
theorem idxs_len (vars : List Nat) (t j : Nat) : (idxs vars t j).length ≤ j := by
 unfold idxs; have := List.length_filter_le (fun i => vars.getD i 9 == t) (List.range j); simpa using this
theorem idxs_lt {vars : List Nat} {t j x : Nat} (h : x ∈ idxs vars t j) : x < j := by
 unfold idxs at h; rw [List.mem_filter, List.mem_range] at h; exact h.1
theorem Tryz.infoIntZ : (Tryz.prog.info? 3).map (fun i => (i.zero, i.size, i.bytes)) = some (some (.int .i64 0), 1, 8) := by kernel_rfl
theorem Tryz.undIntsZ : Tryz.prog.underlying 42 = some (.slice 3) := by kernel_rfl
set_option maxRecDepth 100000 in
set_option maxHeartbeats 2000000 in
theorem named_any {w0 w : World} {yb : Nat} {rv : Value} {raw : List Int} {s : MkS} {nv : Value} (t k : Nat) (h : MkIn w0 w yb rv raw s nv) (hvl : s.vars.length ≤ 200) :
  Calls Tryz.prog 118 #[.pointer (some ⟨yb, 0, none⟩), .int .i64 t, .int .i64 k] w fun e w' => Below w.heap.size w w' ∧ ((namedF s.vars t k = none ∧ e = .returned (.pointer none)) ∨ ∃ (x : KE) (p : Nat), namedF s.vars t k = some x ∧ e = .returned (.pointer (some ⟨p, 0, none⟩)) ∧ KIn w' x p) := by
 obtain ⟨i0, hi, hz0, hz1, hz2⟩ := info_parts Tryz.infoIntZ
 have HI : Hid _ := hi
 have HZ0 : Hid _ := hz0
 have HZ1 : Hid _ := hz1
 have HZ2 : Hid _ := hz2
 have hyl := blk_lt h.ob.y
 obtain ⟨na, nc, hnv, _, hna⟩ := h.ob.shape
 have elen : (natsV s.vars).length = s.vars.length := by simp [natsV]
 rw [elen] at hnv hna
 have y3 : w.cell? ⟨yb, 3, none⟩ = some (.slice na s.vars.length nc) := by rw [blk_cell h.ob.y, ← hnv]; rfl
 have hcell : ∀ j, (hj : j < s.vars.length) → ∃ g, na = some ⟨g, 0, none⟩ ∧ g < w.heap.size ∧ w.cell? ⟨g, j, none⟩ = some (.int .i64 (s.vars[j] : Nat)) := by
  intro j hj
  obtain ⟨g, hg⟩ := hna (by omega)
  have ho := h.ob.n
  rw [hnv, hg, elen] at ho
  have hc : w.cell? ⟨g, j, none⟩ = some (.int .i64 (s.vars[j] : Nat)) := by
   rw [ho.cellAt j (by omega)]; unfold natsV; rw [List.getElem?_map, List.getElem?_eq_getElem hj]; rfl
  exact ⟨g, hg, World.block_lt_of_cell? _ _ hc, hc⟩
 have HC : Hid _ := hcell
 have hlen := idxs_len s.vars t s.vars.length
 clear hi hz0 hz1 hz2 h hnv hna hcell
 go_enter Tryz.func118, Tryz.ntmps118
 go_wp2
 go_loopw [7, 8] (fun l i wr => ∃ j : Nat, j ≤ s.vars.length ∧ i = .int .i64 j ∧ wr.ownsRow w.heap.size 3 1 l (idxs s.vars t j).length (natsV (idxs s.vars t j)) ∧ Below w.heap.size w wr) (fun _ i _ => s.vars.length - (intOf i).toNat)
 case atStart => exact ⟨0, by omega, rfl, World.ownsRow_nil _ _ _ _, Below.refl _ _⟩
 case round =>
  obtain ⟨j, hj, rfl, hown, hbel⟩ := hrel
  have hsz := hbel.size
  have q3 : wr.cell? ⟨yb, 3, none⟩ = some (.slice na s.vars.length nc) := (hbel.cell (p := ⟨yb, 3, none⟩) hyl).trans y3
  have hylr : yb < wr.heap.size := by omega
  have HO : Hid _ := hown
  have HB : Hid _ := hbel
  clear hown hbel
  by_cases hlt : j < s.vars.length
  ·obtain ⟨g, rfl, hg, hc⟩ := HC.out j hlt
   have hcr : wr.cell? ⟨g, j, none⟩ = some (.int .i64 (s.vars[j] : Nat)) := (HB.out.cell (p := ⟨g, j, none⟩) hg).trans hc
   have hgr : g < wr.heap.size := by omega
   have hsucc := idxs_succ s.vars t j
   rw [List.getD_eq_getElem?_getD, List.getElem?_eq_getElem hlt, Option.getD_some] at hsucc
   have hil := idxs_len s.vars t j
   by_cases hv : s.vars[j] = t
   ·have qv : (((s.vars[j] : Nat) : Int) == (t : Int)) = true := by rw [hv]; simp
    rw [if_pos hv] at hsucc
    have HS : Hid _ := hsucc
    clear hsucc hv hc y3
    generalize s.vars[j] = vj at *
    go_wp2_with (at_builtin; go_must (refine wpList_append_own _ rfl (.tmp 27) (.tmp 29) 42 rfl w.heap.size 3 i0 _ 1 8 Tryz.undIntsZ HI.out HZ0.out HZ1.out HZ2.out rfl (by decide) _ (idxs s.vars t j).length (natsV (idxs s.vars t j)) rfl (World.ownsRow.alloc HO.out _) ⟨wr.heap.size, 0, none⟩ 1 1 [.int .i64 j] rfl rfl ?c1 ?c2 ?c3 ?c4 ?c5 ?_))
    case c1 =>
     intro j u hj
     rw [← hj]
     exact alloc_cell_at _ _ _ _
    case c2 => intro u hu; simp at hu; subst hu; rfl
    case c3 => unfold maxLen; omega
    case c4 => first | omega | (simp; omega)
    case c5 => first | omega | (simp; omega)
    intro v' w4 hown' hgrow hnil
    have HB2 : Hid (Below w.heap.size w w4) := (HB.out.alloc hsz _).grown hgrow (by simp; omega) (fun b hb => (World.ownsRow.lt HO.out b hb).1)
    have HO3 : Hid _ := hown'
    clear hown' hgrow hnil
    go_wp2
    go_roundw
    case rel =>
     refine ⟨j + 1, by omega, by go_num, ?_, HB2.out⟩
     rw [HS.out]
     unfold natsV
     rw [List.length_append, List.map_append]
     exact HO3.out
    case measure => simp [intOf]; omega
   ·have qv : (((s.vars[j] : Nat) : Int) == (t : Int)) = false := by rw [beq_eq_false_iff_ne]; omega
    rw [if_neg hv] at hsucc
    have HS : Hid _ := hsucc
    clear hsucc hv hc y3
    generalize s.vars[j] = vj at *
    go_wp2
    go_roundw
    case rel => exact ⟨j + 1, by omega, by go_num, by rw [HS.out]; exact HO.out, HB.out⟩
    case measure => simp [intOf]; omega
  ·have hje : j = s.vars.length := by omega
   subst hje
   obtain ⟨L, hL⟩ : ∃ L, L = idxs s.vars t s.vars.length := ⟨_, rfl⟩
   have hmem : ∀ x ∈ L, x < s.vars.length := fun x hx => idxs_lt (by rw [hL] at hx; exact hx)
   have hnm : namedF s.vars t k = if L = [] then none else some (.var (L.getD (k % L.length) 0)) := by unfold namedF; rw [← hL]
   rw [← hL] at HO hlen
   have HNM : Hid _ := hnm
   clear hL hnm HC y3
   obtain ⟨la, lc, hlv, hla⟩ := owns_shape HO.out
   subst hlv
   by_cases hn : L = []
   ·have HNN : Hid _ := hn
    have hl0 : L.length = 0 := by rw [hn]; rfl
    rw [hl0] at HO ⊢
    clear hla hmem hn
    go_wp2
    go_ret
    exact ⟨HB.out, Or.inl ⟨by rw [HNM.out, if_pos HNN.out], rfl⟩⟩
   ·have HNN : Hid _ := hn
    have hpos : 0 < L.length := List.length_pos_iff.2 hn
    obtain ⟨g, rfl⟩ := hla hpos
    have hkl := Nat.mod_lt k hpos
    have hidx : Int.tmod (k : Int) (L.length : Int) = ((k % L.length : Nat) : Int) := (Int.ofNat_tmod _ _).symm
    have hcx : wr.cell? ⟨g, k % L.length, none⟩ = some (.int .i64 (L.getD (k % L.length) 0 : Nat)) := by
     rw [World.ownsRow.cellAt HO.out _ (by omega)]; unfold natsV
     rw [List.getElem?_map, List.getD_eq_getElem?_getD, List.getElem?_eq_getElem hkl]; rfl
    have hgl : g < wr.heap.size := World.block_lt_of_cell? _ _ hcx
    have ql : ((L.length : Int) == 0) = false := by rw [beq_eq_false_iff_ne]; omega
    clear hla hmem hn
    generalize L.getD (k % L.length) 0 = nx at *
    generalize k % L.length = ix at *
    go_wp2
    go_ret
    refine ⟨HB.out.alloc hsz _, Or.inr ⟨_, _, by rw [HNM.out, if_neg HNN.out], rfl, ?_⟩⟩
    exact blk_new _ _
theorem kpair_new (w : World) (k : Kw) (n pa pb : Nat) {a b : KE} (ha : KIn w a pa) (hb : KIn w b pb) :
  Below w.heap.size w ((w.alloc (.cells #[.pointer (some ⟨pa, 0, none⟩), .pointer (some ⟨pb, 0, none⟩)] 43 (0, 0))).alloc (.cells (exV k.bytes n (.slice (some ⟨w.heap.size, 0, none⟩) 2 2)) 98 (0, 0))) ∧
  KIn ((w.alloc (.cells #[.pointer (some ⟨pa, 0, none⟩), .pointer (some ⟨pb, 0, none⟩)] 43 (0, 0))).alloc (.cells (exV k.bytes n (.slice (some ⟨w.heap.size, 0, none⟩) 2 2)) 98 (0, 0))) (.n2 k n a b) (w.heap.size + 1) := by
 have h1 := below_alZ (Below.refl _ w) (.cells #[.pointer (some ⟨pa, 0, none⟩), .pointer (some ⟨pb, 0, none⟩)] 43 (0, 0))
 have h2 := below_alZ h1 (.cells (exV k.bytes n (.slice (some ⟨w.heap.size, 0, none⟩) 2 2)) 98 (0, 0))
 refine ⟨h2, w.heap.size, pa, pb, ?_, ?_, ha.below h2, hb.below h2⟩
 ·have := blk_new (w.alloc (.cells #[.pointer (some ⟨pa, 0, none⟩), .pointer (some ⟨pb, 0, none⟩)] 43 (0, 0))) (.cells (exV k.bytes n (.slice (some ⟨w.heap.size, 0, none⟩) 2 2)) 98 (0, 0))
  simpa using this
 ·rw [Below.heap_alloc _ _ _ (by simp)]; exact blk_new _ _
set_option maxRecDepth 100000 in
set_option maxHeartbeats 4000000 in
theorem leaf_any {w0 : World} {yb : Nat} {rv : Value} {raw : List Int} (f : Nat) : ∀ (t : Nat) (s : MkS) (nv : Value) (w : World), t < 5 → dep t < f → MkIn w0 w yb rv raw s nv → s.vars.length ≤ 200 → s.at_ + 40 * s.left + atW t ≤ 1000000 →
  Calls Tryz.prog 79 #[.pointer (some ⟨yb, 0, none⟩), .int .i64 t] w fun e w' => ∃ p, e = .returned (.pointer (some ⟨p, 0, none⟩)) ∧ FrO w w' yb nv nv ∧ MkIn w0 w' yb rv raw (leafF raw f t s).2 nv ∧ KIn w' (leafF raw f t s).1 p := by
 induction f with
 | zero => intro t s nv w _ h; omega
 | succ f ih =>
  intro t s nv w ht hd h hvl hat
  have hW := @W_pos t
  have hnx := next_any 7 (by omega) (by omega) h (by omega)
  have hst := nextF_st raw 7 s
  have hx7 := nextF_lt raw 7 s (by omega)
  have hlf : leafF raw (f + 1) t s = leafF raw (f + 1) t s := rfl
  generalize hR0 : leafF raw (f + 1) t s = R at hlf ⊢
  simp only [leafF] at hR0
  generalize nextF raw 7 s = x at *
  obtain ⟨x1, x2, x3, x4⟩ := hst
  have HA : Hid (∀ y, 1 < x.1 → namedF x.2.vars t x.1 = some y → R = (y, x.2)) := fun y h1 h2 => by rw [← hR0, if_pos h1, h2]
  have HB : Hid ((if 1 < x.1 then namedF x.2.vars t x.1 else none) = none → t = 0 → R = (.num (nextF raw 60 x.2).1, (nextF raw 60 x.2).2)) := fun h1 h2 => by rw [← hR0, h1, if_pos h2]
  have HC : Hid ((if 1 < x.1 then namedF x.2.vars t x.1 else none) = none → t ≠ 0 → R = (.n2 .pair 0 (leafF raw f (fT t) x.2).1 (leafF raw f (sT t) (leafF raw f (fT t) x.2).2).1, (leafF raw f (sT t) (leafF raw f (fT t) x.2).2).2)) := fun h1 h2 => by rw [← hR0, h1, if_neg h2]
  clear hR0 hlf h
  have HNX : Hid _ := hnx
  clear hnx
  go_enter Tryz.func79, Tryz.ntmps79
  go_wp2_with fail
  refine Calls.mono HNX.out ?_
  rintro _ w1 ⟨rfl, hf1, hm1⟩
  clear HNX
  by_cases hk : 1 < x.1
  ·have hnm := named_any t x.1 hm1 (by rw [x2]; omega)
   have HNM : Hid _ := hnm
   have HF1 : Hid _ := hf1
   have HM1 : Hid _ := hm1
   clear hnm hf1 hm1
   go_wp2_with fail
   refine Calls.mono HNM.out ?_
   rintro e w2 ⟨hb2, ⟨hn, rfl⟩ | ⟨y, p, hy, rfl, hkin⟩⟩
   ·have hm2 := HM1.out.grow hb2
    have hf2 := HF1.out.trans (FrO.below hb2 _ _)
    have HN : Hid ((if 1 < x.1 then namedF x.2.vars t x.1 else none) = none) := by show _ = _; rw [if_pos hk]; exact hn
    clear hn hb2 HM1 HF1 HNM HA
    by_cases h0 : t = 0
    ·have hR := HB.out HN.out h0
     subst h0
     have hz := next_any 60 (by omega) (by omega) hm2 (by omega)
     have hzs := nextF_st raw 60 x.2
     generalize nextF raw 60 x.2 = z at *
     have HZ : Hid _ := hz
     have HF2 : Hid _ := hf2
     clear hz hm2 hf2
     go_wp2_with fail
     refine Calls.mono HZ.out ?_
     rintro _ w3 ⟨rfl, hf3, hm3⟩
     have HF3 : Hid _ := HF2.out.trans hf3
     have HM3 : Hid _ := hm3
     clear hf3 hm3 HZ HF2
     have HR : Hid _ := hR
     clear hR
     go_wp2
     go_ret
     rw [HR.out]
     have hbn := below_alZ (Below.refl _ w3) (.cells (exV [] z.1 (.slice none 0 0)) 98 (0, 0))
     exact ⟨_, rfl, HF3.out.trans (FrO.below hbn _ _), HM3.out.grow hbn, blk_new _ _⟩
    ·have hR := HC.out HN.out h0
     have hp := W_pair ht h0
     have hdp := dep_parts ht h0
     have hfi : fI t = ((fT t : Nat) : Int) := by unfold fI; rw [if_neg h0]
     have hsi : sI t = ((sT t : Nat) : Int) := by unfold sI; rw [if_neg h0]
     have q0 : ((t : Int) == 0) = false := by rw [beq_eq_false_iff_ne]; omega
     have hfs := kfirst_any t ht
     have hss := ksecond_any t ht
     rw [hfi] at hfs
     rw [hsi] at hss
     have HFS : Hid _ := hfs
     have HSS : Hid _ := hss
     have HF2 : Hid _ := hf2
     have HM2 : Hid _ := hm2
     have hlo := leafF_ok raw f (fT t) x.2 hp.2.2.2.2.1 (by omega)
     have hia := fun W hW => ih (fT t) x.2 nv W hp.2.2.2.2.1 (by omega) (hm2.grow hW) (by rw [x2]; omega) (by omega)
     generalize leafF raw f (fT t) x.2 = a at *
     have hib := fun W hW => ih (sT t) a.2 nv W hp.2.2.2.2.2 (by omega) hW (by rw [hlo.vars, x2]; omega) (by have := hlo.at_; have := hlo.left; omega)
     generalize leafF raw f (sT t) a.2 = b at *
     have HIA : Hid _ := hia
     have HIB : Hid _ := hib
     clear hfi hsi hfs hss hm2 hf2 hlo hia hib hdp hp ih h0
     go_wp2_with fail
     refine Calls.mono (HFS.out _) ?_
     rintro _ w3 ⟨rfl, hb3⟩
     go_wp2_with fail
     refine Calls.mono (HIA.out w3 hb3) ?_
     rintro _ w4 ⟨pa, rfl, hf4, hm4, hk4⟩
     have HF4 : Hid _ := (HF2.out.trans (FrO.below hb3 _ _)).trans hf4
     have HM4 : Hid _ := hm4
     have HK4 : Hid _ := hk4
     clear hb3 hf4 hm4 hk4 HF2 HM2 HIA
     go_wp2_with fail
     refine Calls.mono (HSS.out _) ?_
     rintro _ w5 ⟨rfl, hb5⟩
     have hm5 := HM4.out.grow hb5
     have hk5 := HK4.out.below hb5
     have HF5 : Hid _ := HF4.out.trans (FrO.below hb5 _ _)
     have HM5 : Hid _ := hm5
     have HK5 : Hid _ := hk5
     clear hb5 hm5 hk5 HM4 HK4 HF4
     go_wp2_with fail
     refine Calls.mono (HIB.out w5 HM5.out) ?_
     rintro _ w6 ⟨pb, rfl, hf6, hm6, hk6⟩
     have HK6 : Hid _ := HK5.out.fr HM5.out hf6
     have HF6 : Hid _ := HF5.out.trans hf6
     have HM6 : Hid _ := hm6
     have HK7 : Hid _ := hk6
     clear hf6 hm6 hk6 HK5 HF5 HM5 HIB
     have HR : Hid _ := hR
     clear hR
     go_wp2
     go_ret
     rw [HR.out]
     have h2 := kpair_new w6 (.pair) 0 pa pb HK6.out HK7.out
     exact ⟨_, rfl, HF6.out.trans (FrO.below h2.1 _ _), HM6.out.grow h2.1, h2.2⟩
   ·have hR := HA.out y hk hy
    have HB2 : Hid _ := hb2
    have HK : Hid _ := hkin
    clear hb2 hkin HNM HB HC
    have HR : Hid _ := hR
    clear hR
    go_wp2
    go_ret
    rw [HR.out]
    exact ⟨p, rfl, HF1.out.trans (FrO.below HB2.out _ _), HM1.out.grow HB2.out, HK.out⟩
  ·have HN : Hid ((if 1 < x.1 then namedF x.2.vars t x.1 else none) = none) := by show _ = _; rw [if_neg hk]
   have hm2 := hm1
   have hf2 := hf1
   clear hm1 hf1 HA
   by_cases h0 : t = 0
   ·have hR := HB.out HN.out h0
    subst h0
    have hz := next_any 60 (by omega) (by omega) hm2 (by omega)
    have hzs := nextF_st raw 60 x.2
    generalize nextF raw 60 x.2 = z at *
    have HZ : Hid _ := hz
    have HF2 : Hid _ := hf2
    clear hz hm2 hf2
    go_wp2_with fail
    refine Calls.mono HZ.out ?_
    rintro _ w3 ⟨rfl, hf3, hm3⟩
    have HF3 : Hid _ := HF2.out.trans hf3
    have HM3 : Hid _ := hm3
    clear hf3 hm3 HZ HF2
    have HR : Hid _ := hR
    clear hR
    go_wp2
    go_ret
    rw [HR.out]
    have hbn := below_alZ (Below.refl _ w3) (.cells (exV [] z.1 (.slice none 0 0)) 98 (0, 0))
    exact ⟨_, rfl, HF3.out.trans (FrO.below hbn _ _), HM3.out.grow hbn, blk_new _ _⟩
   ·have hR := HC.out HN.out h0
    have hp := W_pair ht h0
    have hdp := dep_parts ht h0
    have hfi : fI t = ((fT t : Nat) : Int) := by unfold fI; rw [if_neg h0]
    have hsi : sI t = ((sT t : Nat) : Int) := by unfold sI; rw [if_neg h0]
    have q0 : ((t : Int) == 0) = false := by rw [beq_eq_false_iff_ne]; omega
    have hfs := kfirst_any t ht
    have hss := ksecond_any t ht
    rw [hfi] at hfs
    rw [hsi] at hss
    have HFS : Hid _ := hfs
    have HSS : Hid _ := hss
    have HF2 : Hid _ := hf2
    have HM2 : Hid _ := hm2
    have hlo := leafF_ok raw f (fT t) x.2 hp.2.2.2.2.1 (by omega)
    have hia := fun W hW => ih (fT t) x.2 nv W hp.2.2.2.2.1 (by omega) (hm2.grow hW) (by rw [x2]; omega) (by omega)
    generalize leafF raw f (fT t) x.2 = a at *
    have hib := fun W hW => ih (sT t) a.2 nv W hp.2.2.2.2.2 (by omega) hW (by rw [hlo.vars, x2]; omega) (by have := hlo.at_; have := hlo.left; omega)
    generalize leafF raw f (sT t) a.2 = b at *
    have HIA : Hid _ := hia
    have HIB : Hid _ := hib
    clear hfi hsi hfs hss hm2 hf2 hlo hia hib hdp hp ih h0
    go_wp2_with fail
    refine Calls.mono (HFS.out _) ?_
    rintro _ w3 ⟨rfl, hb3⟩
    go_wp2_with fail
    refine Calls.mono (HIA.out w3 hb3) ?_
    rintro _ w4 ⟨pa, rfl, hf4, hm4, hk4⟩
    have HF4 : Hid _ := (HF2.out.trans (FrO.below hb3 _ _)).trans hf4
    have HM4 : Hid _ := hm4
    have HK4 : Hid _ := hk4
    clear hb3 hf4 hm4 hk4 HF2 HM2 HIA
    go_wp2_with fail
    refine Calls.mono (HSS.out _) ?_
    rintro _ w5 ⟨rfl, hb5⟩
    have hm5 := HM4.out.grow hb5
    have hk5 := HK4.out.below hb5
    have HF5 : Hid _ := HF4.out.trans (FrO.below hb5 _ _)
    have HM5 : Hid _ := hm5
    have HK5 : Hid _ := hk5
    clear hb5 hm5 hk5 HM4 HK4 HF4
    go_wp2_with fail
    refine Calls.mono (HIB.out w5 HM5.out) ?_
    rintro _ w6 ⟨pb, rfl, hf6, hm6, hk6⟩
    have HK6 : Hid _ := HK5.out.fr HM5.out hf6
    have HF6 : Hid _ := HF5.out.trans hf6
    have HM6 : Hid _ := hm6
    have HK7 : Hid _ := hk6
    clear hf6 hm6 hk6 HK5 HF5 HM5 HIB
    have HR : Hid _ := hR
    clear hR
    go_wp2
    go_ret
    rw [HR.out]
    have h2 := kpair_new w6 (.pair) 0 pa pb HK6.out HK7.out
    exact ⟨_, rfl, HF6.out.trans (FrO.below h2.1 _ _), HM6.out.grow h2.1, h2.2⟩
end Go.Proofs.YtpicaknklgccoaaGreatDoor
