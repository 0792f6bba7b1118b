import Derived.Test.YtpicaknklgccoaaGreatDoorS32
set_option maxHeartbeats 2000000
namespace Go.Proofs.YtpicaknklgccoaaGreatDoor
mutual
def PT.era : PT -> PT
 | .num p s => .num p s
 | .name p s => .name p s
 | .node p k nm rg kids => if k = .new then (j4 kids).headD (.num 0 []) else .node p k nm rg (j4 kids)
def j4 : List PT -> List PT
 | [] => []
 | t :: r => t.era :: j4 r
end
structure Sw (fuel : Nat) (st : cd) (m : MM) : Prop where
 e : st.e = 0
 f : m.fault = 0
 s : m.steps = st.steps
 le : st.steps <= fuel
 c : m.cells.length = st.cells
 r : 0 < m.regs.length
def L8 (fuel : Nat) (y : Vl × cd) (x : MV × MM) (T : Ty) : Prop := (Sw fuel y.2 x.2 /\ iv x.2.cells y.1 x.1 /\ y.1.has T) \/ Iu y.2 x.2 \/ x.2.fault = 13
theorem Sw.name {fuel : Nat} {st : cd} {m : MM} (h : Sw fuel st m) (i : Int) (v : MV) : Sw fuel st (m.name i v) := by
 unfold MM.name; split
 ·exact ⟨h.e, h.f, h.s, h.le, h.c, h.r⟩
 ·exact h
theorem oT (m : MM) : m.fin.fault = m.fault /\ m.fin.steps = m.steps /\ m.fin.cells = m.cells /\ m.fin.named = m.named /\ m.fin.regs.length = m.regs.length - 1 := by
 unfold MM.fin
 cases h : m.regs.getLast? with
 | none =>
  have : m.regs = [] := by simpa using h
  rw [this]; exact ⟨rfl, rfl, rfl, rfl, rfl⟩
 | some r => simp
theorem s8 (m : MM) (v : MV) (h : m.fault ≠ 0) : (m.use v).2 = m := by
 unfold MM.use
 split
 ·rfl
 ·simp only; split
  ·rfl
  ·exact sQ m 13 h
theorem gq (m : MM) (k : Int) (v u : MV) : (m.aZ k v u).2.fault = m.fault := by unfold MM.aZ; split <;> rfl
theorem C2 (fuel : Nat) (t : PT) : ∀ (sc : Sc) (base : Nat) (m : MM), m.fault ≠ 0 -> (mW fuel t sc base m).2.fault = m.fault := by
 induction t using PT.ind with
 | h1 p s => intro sc base m h; simp only [mW]; rw [je fuel m _ h]
 | h2 p s => intro sc base m h; simp only [mW]; rw [je fuel m _ h]
 | h3 p k nm rg kids ih =>
  intro sc base m h
  simp only [mW]
  split
  ·match kids, ih with
   | [], _ => rfl
   | [a], ih =>
    simp only [vX]
    rw [(oT _).1, ih a (by simp) sc base (m.opn (au rg)) h]; rfl
   | _ :: _ :: _, _ => rfl
  ·rw [je fuel m _ h]
theorem Tb (m : MM) (v : MV) : (m.use v).2.regs = m.regs := by
 unfold MM.use MM.stop
 split
 ·rfl
 ·simp only; split
  ·rfl
  ·split <;> rfl
theorem E6 (m : MM) (k : Int) (v u : MV) : (m.aZ k v u).2.regs.length = m.regs.length := by unfold MM.aZ; split <;> simp
theorem j5 (m : MM) (i : Int) (v : MV) : (m.name i v).regs = m.regs := by unfold MM.name; split <;> rfl
theorem xk (fuel : Nat) (m : MM) (g : MM -> MV × MM) (h : ∀ m, (g m).2.regs.length = m.regs.length) : (bn fuel m g).2.regs.length = m.regs.length := by
 unfold bn
 have e : ∀ m : MM, (m.stop 12).regs = m.regs := fun m => by unfold MM.stop; split <;> rfl
 by_cases hq : fuel <= m.steps
 ·simp only [if_pos hq]
  split
  ·simp only [e]
  ·rw [h]; simp only [e]
 ·simp only [if_neg hq]
  split
  ·rfl
  ·rw [h]
theorem C3 (i : Int) (g : MM -> MV × MM) (h : ∀ m, (g m).2.regs.length = m.regs.length) : ∀ (k : Nat) (v : MV) (m : MM), (cP i g k v m).2.regs.length = m.regs.length
 | 0, _, _ => rfl
 | k + 1, v, m => by
  simp only [cP]
  split
  ·rfl
  ·rw [C3 i g h k, h, j5]
theorem WW (fuel : Nat) (t : PT) : ∀ (sc : Sc) (base : Nat) (m : MM), (mW fuel t sc base m).2.regs.length = m.regs.length := by
 induction t using PT.ind with
 | h1 p s => intro sc base m; simp only [mW]; exact xk fuel m _ (fun _ => rfl)
 | h2 p s => intro sc base m; simp only [mW]; exact xk fuel m _ (fun _ => rfl)
 | h3 p k nm rg kids ih =>
  intro sc base m
  simp only [mW]
  split
  ·match kids, ih with
   | [], _ => rfl
   | [a], ih =>
    simp only [vX]
    rw [(oT _).2.2.2.2, ih a (by simp) sc base (m.opn (au rg))]
    simp [MM.opn]
   | _ :: _ :: _, _ => rfl
  ·refine xk fuel m _ (fun m => ?_)
   split
   ·match kids, ih with
    | [a, b], ih => simp only [Ah]; rw [ih b (by simp), j5, ih a (by simp)]
    | [], _ => rfl
    | [_], _ => rfl
    | _ :: _ :: _ :: _, _ => rfl
   ·split
    ·match kids, ih with
     | [a, b, c], ih =>
      simp only [Om]
      split
      ·rw [ih b (by simp), ih a (by simp)]
      ·rw [ih c (by simp), ih a (by simp)]
     | [], _ => rfl
     | [_], _ => rfl
     | [_, _], _ => rfl
     | _ :: _ :: _ :: _ :: _, _ => rfl
    ·split
     ·match kids, ih with
      | [a, b, c], ih =>
       simp only [rF]
       rw [C3 _ _ (fun m => ih c (by simp) _ _ m), ih b (by simp), ih a (by simp)]
      | [], _ => rfl
      | [_], _ => rfl
      | [_, _], _ => rfl
      | _ :: _ :: _ :: _ :: _, _ => rfl
     ·match kids, ih with
      | [a], ih => simp only [iK]; rw [Tb, ih a (by simp)]
      | [a, b], ih =>
       simp only [iK]
       split
       ·rw [E6, ih b (by simp), ih a (by simp)]
       ·rw [ih b (by simp), ih a (by simp)]
      | [], _ => rfl
      | _ :: _ :: _ :: _, _ => rfl
theorem QO {fuel : Nat} {st : cd} {m : MM} {a b : Vl} {v : MV} (hs : Sw fuel st m) (h : iv m.cells (.p a b) v) : ((m.use v).2 = m /\ iv m.cells a (m.use v).1.a /\ iv m.cells b (m.use v).1.b) \/ (m.use v).2.fault = 13 := by
 simp only [iv] at h
 obtain ⟨hc, i, c, hv, hi, ha, hb⟩ := h
 have lP := (List.getElem?_eq_some_iff.1 hi).1
 have e2 : m.cells.getD v.n.toNat c0 = c := by rw [hv, Int.toNat_natCast, List.getD_eq_getElem?_getD, hi]; rfl
 unfold MM.use
 rw [if_neg (by rw [hc, hv]; simp; omega), e2]
 by_cases hlv : m.isLive c = true
 ·rw [if_pos hlv]; exact Or.inl ⟨rfl, ha, hb⟩
 ·rw [if_neg hlv]; right; unfold MM.stop; rw [if_pos hs.f]
theorem Tc {fuel : Nat} {st : cd} {m : MM} {a b : Vl} {v u : MV} {k : Int} (hs : Sw fuel st m) (ha : iv m.cells a v) (hb : iv m.cells b u) : Sw fuel { st with cells := st.cells + 1 } (m.aZ k v u).2 /\ iv (m.aZ k v u).2.cells (.p a b) (m.aZ k v u).1 := by
 have Qq : m.home k < m.regs.length := by
  have hle : ∀ (l : List MR) (k : Int) (i : Nat), jw l k i <= i := by
   intro l k i
   induction i with
   | zero => exact Nat.le_refl _
   | succ i ih => simp only [jw]; split <;> omega
  have := hle m.regs k (m.regs.length - 1)
  have := hs.r
  unfold MM.home; omega
 have hr : m.regs[m.home k]? = some m.regs[m.home k] := List.getElem?_eq_getElem Qq
 unfold MM.aZ
 rw [hr]
 refine ⟨⟨hs.e, hs.f, hs.s, hs.le, by simp [hs.c], by simp [hs.r]⟩, ?_⟩
 simp only [iv]
 exact ⟨trivial, m.cells.length, ⟨v, u, m.home k, m.regs[m.home k].gb⟩, rfl, by simp, ha.mono, hb.mono⟩
theorem eI {fuel : Nat} {st : cd} {m : MM} {f : cd -> Vl × cd} {g : MM -> MV × MM} {T : Ty} (h : Sw fuel st m) (hk : Sw fuel { st with steps := st.steps + 1 } { m with steps := m.steps + 1 } -> L8 fuel (f { st with steps := st.steps + 1 }) (g { m with steps := m.steps + 1 }) T) : L8 fuel (begun fuel st f) (bn fuel m g) T := by
 unfold begun bn
 have hs := h.s
 have hle := h.le
 rw [if_neg (fun hn => hn h.e)]
 by_cases hq : st.steps = fuel
 ·rw [if_pos hq]
  have hq' : fuel <= m.steps := by omega
  simp only [if_pos hq']
  have e : m.stop 12 = { m with fault := 12 } := by unfold MM.stop; rw [if_pos h.f]
  rw [e]
  exact Or.inr (Or.inl ⟨rfl, rfl⟩)
 ·rw [if_neg hq]
  have hq' : ¬ fuel <= m.steps := by omega
  simp only [if_neg hq']
  rw [if_neg (fun hn => hn h.f)]
  exact hk ⟨h.e, h.f, by simp only; omega, by simp only; omega, h.c, h.r⟩
theorem xm {fuel : Nat} {T : Ty} {j : Nat} {f : Vl -> cd -> Vl × cd} {g : MM -> MV × MM} {P : MM -> Prop} (tO : ∀ st m x v, P m -> Sw fuel st m -> iv m.cells x v -> x.has T -> L8 fuel (f x st) (g (m.name (j : Int) v)) T /\ P (g (m.name (j : Int) v)).2) : ∀ (k : Nat) (st : cd) (m : MM) (x : Vl) (v : MV), P m -> Sw fuel st m -> iv m.cells x v -> x.has T -> L8 fuel (turns f k x st) (cP (j : Int) g k v m) T
 | 0, st, m, x, v, _, hs, hr, ht => Or.inl ⟨hs, hr, ht⟩
 | k + 1, st, m, x, v, hP, hs, hr, ht => by
  simp only [turns, cP]
  rw [if_neg (fun hn => hn hs.e), if_neg (fun hn => hn hs.f)]
  obtain ⟨h1, h2⟩ := tO st m x v hP hs hr ht
  rcases h1 with ⟨a, b, c⟩ | hB | hD
  ·exact xm tO k _ _ _ _ h2 a b c
  ·exact Or.inr (Or.inl ⟨by rw [qw _ _ _ _ (by rw [hB.1]; decide)]; exact hB.1, by rw [gK _ _ _ _ _ (by rw [hB.2]; decide)]; exact hB.2⟩)
  ·exact Or.inr (Or.inr (by rw [gK _ _ _ _ _ (by rw [hD]; decide)]; exact hD))
theorem oq {fuel : Nat} (t : PT) (t' : PT) (sc : Sc) (base : Nat) (env : dU) {st : cd} {m : MM} (h : Iu st m) : Iu (ev fuel t env st).2 (mW fuel t' sc base m).2 :=
 ⟨by rw [OD fuel t env st (by rw [h.1]; decide)]; exact h.1, by rw [C2 fuel t' sc base m (by rw [h.2]; decide)]; exact h.2⟩
theorem s9 {fuel : Nat} (t' : PT) (sc : Sc) (base : Nat) {m : MM} (h : m.fault = 13) : (mW fuel t' sc base m).2.fault = 13 := by
 rw [C2 fuel t' sc base m (by rw [h]; decide)]; exact h
open Go.Lib (decDigits)
def eU : List Int -> Nat -> Int -> PT -> PT
 | [], _, _, t => t
 | a :: l, r, i, t => if a = i then .node 0 .new [] (35 :: decDigits r) [eU l (r + 1) i t] else eU l (r + 1) i t
def QP (regs : List Int) (i : Nat) : List UInt8 := if jJ regs i = -1 then [] else 35 :: decDigits (jJ regs i).toNat
mutual
def PT.fF (regs news : List Int) : PT -> Nat -> PT
 | .num _ s, _ => .num 0 (decDigits (au s).toNat)
 | .name _ s, _ => .name 0 s
 | .node _ k nm _ kids, b => .node 0 k nm (QP regs (b + aB kids)) (gH regs news kids b)
def gH (regs news : List Int) : List PT -> Nat -> List PT
 | [], _ => []
 | t :: r, b => eU news 0 ((b + t.cnt : Nat) - 1 : Int) (PT.fF regs news t b) :: gH regs news r (b + t.cnt)
end
def PT.lay (regs news : List Int) (t : PT) (b : Nat) : PT := eU news 0 ((b + t.cnt : Nat) - 1 : Int) (t.fF regs news b)
theorem L9 (regs : List Int) (i : Nat) : iz (QP regs i) = Na regs i := by
 unfold QP Na iz
 split
 ·rfl
 ·simp
theorem qK (i : Int) (t : PT) : ∀ (l : List Int) (r : Nat), (eU l r i t).tidy = su l r i ++ (t.tidy ++ List.replicate (sw l i) 41)
 | [], r => by simp [eU, su, sw]
 | a :: l, r => by
  have ih := qK i t l (r + 1)
  simp only [eU, su]
  by_cases h : a = i
  ·have hc : sw (a :: l) i = sw l i + 1 := by unfold sw; simp [h]
   rw [if_pos h, if_pos h, hc]
   simp only [PT.tidy, dA, bC, cI, ih, iz, Kw.bytes, TU]
   simp [List.replicate_succ', List.append_assoc]
  ·have hc : sw (a :: l) i = sw l i := by unfold sw; simp [h]
   rw [if_neg h, if_neg h, hc, ih]; rfl
mutual
theorem zo (regs news : List Int) : ∀ (t : PT) (b : Nat), cJ t -> (t.fF regs news b).tidy = t.xM regs news b
 | .num _ _, _, _ => rfl
 | .name _ _, _, _ => rfl
 | .node _ k nm _ kids, b, h => by
  cases h with
  | node hk h =>
   simp only [PT.fF, PT.tidy, PT.xM, if_neg hk, L9, zq regs news kids b h]
theorem zq (regs news : List Int) : ∀ (ts : List PT) (b : Nat), (∀ x ∈ ts, cJ x) -> dA (gH regs news ts b) = gF regs news ts b
 | [], _, _ => rfl
 | t :: r, b, h => by
  simp only [gH, dA, gF, qK, zo regs news t b (h t (by simp)), zq regs news r (b + t.cnt) (fun x hx => h x (by simp [hx])), TV]
end
theorem Ma (regs news : List Int) (t : PT) (b : Nat) (h : cJ t) : (t.lay regs news b).tidy = t.uJ regs news b := by
 unfold PT.lay PT.uJ
 rw [qK, zo regs news t b h]; rfl
def Np (regs : List Int) (ns : List NR) : Prop := ∀ (i : Nat) (n : NR), ns[i]? = some n -> (n.form = 4 -> 0 <= jJ regs i /\ jJ regs i <= 999) /\ (n.form ≠ 4 -> jJ regs i = -1)
theorem Gq (k : Kw) : aU k = 4 ↔ k = .pair := by cases k <;> decide
theorem r7 (i : Int) (t : PT) : ∀ (l : List Int) (r : Nat), (eU l r i t).np = eU l r i t.np
 | [], _ => rfl
 | a :: l, r => by
  simp only [eU]
  split
  ·simp only [PT.np, jZ, r7 i t l (r + 1)]
  ·exact r7 i t l (r + 1)
mutual
theorem Gt (regs news : List Int) : ∀ (t : PT) (b : Nat), (t.fF regs news b).np = t.fF regs news b
 | .num _ _, _ => rfl
 | .name _ _, _ => rfl
 | .node _ k nm _ kids, b => by simp only [PT.fF, PT.np, Gu regs news kids b]
theorem Gu (regs news : List Int) : ∀ (ts : List PT) (b : Nat), jZ (gH regs news ts b) = gH regs news ts b
 | [], _ => rfl
 | t :: r, b => by simp only [gH, jZ, r7, Gt regs news t b, Gu regs news r]
end
theorem Td (regs news : List Int) (t : PT) (b : Nat) : (t.lay regs news b).np = t.lay regs news b := by unfold PT.lay; rw [r7, Gt]
theorem xo (i : Int) (t : PT) (h : t.ok true) : ∀ (l : List Int) (r : Nat), r + l.length <= 999 -> (eU l r i t).ok true
 | [], _, _ => h
 | a :: l, r, hr => by
  simp only [List.length_cons] at hr
  have ih := xo i t h l (r + 1) (by omega)
  simp only [eU]
  split
  ·simp only [PT.ok, wP]
   refine ⟨by simp [bS], rfl, by simp, ?_, ih, trivial⟩
   rw [if_pos ⟨trivial, Or.inr trivial⟩]
   exact ⟨decDigits r, rfl, rV r 3 (CI r (by omega))⟩
  ·exact ih
theorem C4 (regs news : List Int) : ∀ (ts : List PT) (b : Nat), (gH regs news ts b).length = ts.length
 | [], _ => rfl
 | t :: r, b => by simp [gH, C4 regs news r]
mutual
theorem Gv {regs news : List Int} {ns : List NR} (H : Np regs ns) (hn : news.length <= 999) : ∀ (t : PT) (b : Nat), fW ns t b -> t.bN -> t.ok false -> (t.fF regs news b).ok true
 | .num _ s, _, _, ht, h => by
  simp only [PT.bN] at ht
  simp only [PT.fF, PT.ok]
  exact rV _ 4 (kJ _ (by omega))
 | .name _ s, _, _, _, h => by simpa [PT.fF, PT.ok] using h
 | .node _ k nm rg kids, b, hs, ht, h => by
  simp only [PT.bN] at ht
  simp only [fW] at hs
  obtain ⟨⟨n, eC, hf, _⟩, hks⟩ := hs
  simp only [PT.ok] at h
  obtain ⟨h1, h2, h3, h4, h5⟩ := h
  have hH := H _ _ eC
  have cT := Gq k
  rw [<- hf] at cT
  have hkn : k ≠ .new := fun e => by rw [e] at h1; simp [bS] at h1
  simp only [PT.fF, PT.ok]
  refine ⟨by cases k <;> simp [bS] at h1 ⊢, by rw [C4]; exact h2, h3, ?_, Gw H hn kids b hks ht.2 h5⟩
  by_cases hp : k = .pair
  ·have := hH.1 (cT.2 hp)
   rw [if_pos ⟨trivial, Or.inl hp⟩]
   unfold QP
   rw [if_neg (by omega)]
   exact ⟨_, rfl, rV _ 3 (CI _ (by omega))⟩
  ·rw [if_neg (by simp [hp, hkn])]
   unfold QP
   rw [if_pos (hH.2 (fun e => hp (cT.1 e)))]
theorem Gw {regs news : List Int} {ns : List NR} (H : Np regs ns) (hn : news.length <= 999) : ∀ (ts : List PT) (b : Nat), fD ns ts b -> bG ts -> wP false ts -> wP true (gH regs news ts b)
 | [], _, _, _, _ => by simp [gH, wP]
 | t :: r, b, hs, ht, h => by
  simp only [fD] at hs
  simp only [bG] at ht
  simp only [wP] at h
  simp only [gH, wP]
  exact ⟨xo _ _ (Gv H hn t b hs.1 ht.1 h.1) news 0 (by omega), Gw H hn r _ hs.2 ht.2 h.2⟩
end
theorem Te {regs news : List Int} {ns : List NR} (H : Np regs ns) (hn : news.length <= 999) (t : PT) (b : Nat) (hs : fW ns t b) (ht : t.bN) (h : t.ok false) : (t.lay regs news b).ok true := xo _ _ (Gv H hn t b hs ht h) news 0 (by omega)
theorem jk (i : Int) (t : PT) : ∀ (l : List Int) (r : Nat), (eU l r i t).era = t.era
 | [], _ => rfl
 | a :: l, r => by
  simp only [eU]
  split
  ·simp only [PT.era, if_true, j4, List.headD_cons, jk i t l (r + 1)]
  ·exact jk i t l (r + 1)
theorem oU (i : Int) (t : PT) : ∀ (l : List Int) (r : Nat), (eU l r i t).bJ = t.bJ
 | [], _ => rfl
 | a :: l, r => by
  simp only [eU]
  split
  ·simp [PT.bJ, jQ, oU i t l (r + 1)]
  ·exact oU i t l (r + 1)
mutual
theorem C5 (regs news : List Int) : ∀ (t : PT) (b : Nat), (t.fF regs news b).bJ = t.bJ
 | .num _ _, _ => rfl
 | .name _ _, _ => rfl
 | .node _ k nm _ kids, b => by simp only [PT.fF, PT.bJ, C6 regs news kids b]
theorem C6 (regs news : List Int) : ∀ (ts : List PT) (b : Nat), jQ (gH regs news ts b) = jQ ts
 | [], _ => rfl
 | t :: r, b => by simp only [gH, jQ, oU, C5 regs news t b, C6 regs news r]
end
theorem Ps (regs news : List Int) (t : PT) (b : Nat) : (t.lay regs news b).bJ = t.bJ := by unfold PT.lay; rw [oU, C5]
theorem fG {G : aQ} {t : PT} {T : Ty} (i : Int) (h : WT G t T) : ∀ (l : List Int) (r : Nat), WT G (eU l r i t) T
 | [], _ => h
 | a :: l, r => by
  simp only [eU]
  split
  ·exact .new (fG i h l (r + 1))
  ·exact fG i h l (r + 1)
theorem Tf {regs news : List Int} {G : aQ} {t : PT} {T : Ty} (h : WT G t T) : cJ t -> ∀ b, WT G (t.lay regs news b) T := by
 induction h with
 | num => intro _ b; exact fG _ .num _ _
 | name hs => intro _ b; exact fG _ (.name hs) _ _
 | bb _ _ bI dG =>
  intro hn b
  cases hn with
  | node hk hn => exact fG _ (.bb (bI (hn _ (by simp)) _) (dG (hn _ (by simp)) _)) _ _
 | pair _ _ hs bI dG =>
  intro hn b
  cases hn with
  | node hk hn => exact fG _ (.pair (bI (hn _ (by simp)) _) (dG (hn _ (by simp)) _) hs) _ _
 | fst _ bI =>
  intro hn b
  cases hn with
  | node hk hn => exact fG _ (.fst (bI (hn _ (by simp)) _)) _ _
 | snd _ bI =>
  intro hn b
  cases hn with
  | node hk hn => exact fG _ (.snd (bI (hn _ (by simp)) _)) _ _
 | fH _ _ _ bI dG nY =>
  intro hn b
  cases hn with
  | node hk hn => exact fG _ (.fH (bI (hn _ (by simp)) _) (dG (hn _ (by simp)) _) (nY (hn _ (by simp)) _)) _ _
 | two hk _ _ bI dG =>
  intro hn b
  cases hn with
  | node _ hn => exact fG _ (.two hk (bI (hn _ (by simp)) _) (dG (hn _ (by simp)) _)) _ _
 | loop _ _ _ bI dG nY =>
  intro hn b
  cases hn with
  | node hk hn => exact fG _ (.loop (bI (hn _ (by simp)) _) (dG (hn _ (by simp)) _) (nY (hn _ (by simp)) _)) _ _
 | new _ _ =>
  intro hn b
  cases hn with
  | node hk hn => exact absurd rfl hk
theorem Mb (fuel : Nat) {G : aQ} {t : PT} {T : Ty} (h : WT G t T) : ∀ (sc : Sc) (base : Nat) (m : MM) (env : dU) (st : cd), t.mZ -> ER m.named m.cells sc env G base -> base + t.cnt <= m.named.length -> Sw fuel st m -> L8 fuel (ev fuel t.era env st) (mW fuel t sc base m) T := by
 induction h with
 | num =>
  intro sc base m env st hr he hl hs
  simp only [PT.mZ] at hr
  simp only [PT.era, ev, mW]
  exact eI hs (fun hs => Or.inl ⟨hs, by simp only [iv, true_and]; omega, by simp only [Vl.has]; omega⟩)
 | name hlk =>
  intro sc base m env st hr he hl hs
  simp only [PT.era, ev, mW]
  refine eI hs (fun hs => Or.inl ⟨hs, ?_⟩)
  obtain ⟨i, v, h1, h2, h3, h4, h5⟩ := he _ _ hlk
  have lP := (List.getElem?_eq_some_iff.1 h3).1
  unfold MM.look
  simp only [h1]
  rw [if_neg (by omega), Int.toNat_natCast, List.getD_eq_getElem?_getD, h3]
  exact ⟨h4, h5⟩
 | @bb G p nm rg a b A B ha hb bI dG =>
  intro sc base m env st hr he hl hs
  simp only [PT.mZ, dP] at hr
  simp only [PT.cnt, aB, Nat.add_zero] at hl
  simp only [PT.era, j4, ev, iR, mW, Ah, if_true, reduceCtorEq, if_false]
  refine eI hs (fun hs => ?_)
  have hf := jY fuel ha sc base { m with steps := m.steps + 1 } hr.2.1 he.ef (by simp only; omega)
  have h1 := bI sc base { m with steps := m.steps + 1 } env { st with steps := st.steps + 1 } hr.2.1 he (by simp only; omega) hs
  generalize mW fuel a sc base { m with steps := m.steps + 1 } = x at hf h1 ⊢
  generalize ev fuel a.era env { st with steps := st.steps + 1 } = y at h1 ⊢
  have Wa := dI a
  have hxl : x.2.named.length = m.named.length := hf.1.len
  rw [show (((base + a.cnt : Nat) : Int) - 1) = ((base + a.cnt - 1 : Nat) : Int) from by omega]
  rcases h1 with ⟨h1, h2, h3⟩ | hB | hD
  ·have hx := ER.on (m := { m with steps := m.steps + 1 }) he hf.1 (Nat.le_refl _)
   have iF := hx.snoc (nm := nm) (j := base + a.cnt - 1) (by omega) (by omega) h2 h3
   rw [show base + a.cnt - 1 + 1 = base + a.cnt from by omega] at iF
   have hne := fE x.2 (base + a.cnt - 1) x.1 base a.cnt (by omega)
   exact dG _ (base + a.cnt) _ _ _ hr.2.2.1 iF (by rw [hne.len, hxl]; omega) (h1.name _ _)
  ·exact Or.inr (Or.inl (oq _ _ _ _ _ (hB.name _ _)))
  ·exact Or.inr (Or.inr (s9 _ _ _ (by rw [(jc _ _ _).1]; exact hD)))
 | @pair G p nm rg a b A B ha hb hsz bI dG =>
  intro sc base m env st hr he hl hs
  simp only [PT.mZ, dP] at hr
  simp only [PT.cnt, aB, Nat.add_zero] at hl
  have e' : ev fuel (PT.node p .pair nm rg [a, b]).era env st = begun fuel st (fun st => if (ev fuel b.era env (ev fuel a.era env st).2).2.e ≠ 0 then (.n 0, (ev fuel b.era env (ev fuel a.era env st).2).2) else ct .pair [(ev fuel a.era env st).1, (ev fuel b.era env (ev fuel a.era env st).2).1] (ev fuel b.era env (ev fuel a.era env st).2).2) := by
   simp only [PT.era, j4, ev, cw, reduceCtorEq, if_false]; rfl
  rw [e']
  simp only [mW, iK, if_true, reduceCtorEq, if_false]
  refine eI hs (fun hs => ?_)
  have hf := jY fuel ha sc base { m with steps := m.steps + 1 } hr.2.1 he.ef (by simp only; omega)
  have h1 := bI sc base { m with steps := m.steps + 1 } env { st with steps := st.steps + 1 } hr.2.1 he (by simp only; omega) hs
  generalize mW fuel a sc base { m with steps := m.steps + 1 } = x at hf h1 ⊢
  generalize ev fuel a.era env { st with steps := st.steps + 1 } = y at h1 ⊢
  have hxl : x.2.named.length = m.named.length := hf.1.len
  rcases h1 with ⟨h1, h2, h3⟩ | hB | hD
  ·have hx := (ER.on (m := { m with steps := m.steps + 1 }) he hf.1 (Nat.le_refl _)).up (show base <= base + a.cnt by omega)
   have hg := jY fuel hb sc (base + a.cnt) x.2 hr.2.2.1 hx.ef (by omega)
   have k1 := dG sc (base + a.cnt) x.2 env y.2 hr.2.2.1 hx (by omega) h1
   generalize mW fuel b sc (base + a.cnt) x.2 = x' at hg k1 ⊢
   generalize ev fuel b.era env y.2 = y' at k1 ⊢
   rcases k1 with ⟨k1, k2, k3⟩ | hB | hD
   ·rw [if_neg (fun hn => hn k1.e)]
    simp only [ct]
    have hc := Tc (k := au rg) k1 (h2.on hg.1) k2
    exact Or.inl ⟨hc.1, hc.2, by simp only [Vl.has]; exact ⟨h3, k3⟩⟩
   ·rw [if_pos (by rw [hB.1]; decide)]
    exact Or.inr (Or.inl ⟨hB.1, by rw [gq]; exact hB.2⟩)
   ·exact Or.inr (Or.inr (by rw [gq]; exact hD))
  ·have kZ := oq (fuel := fuel) b.era b sc (base + a.cnt) env hB
   rw [if_pos (by rw [kZ.1]; decide)]
   exact Or.inr (Or.inl ⟨kZ.1, by rw [gq]; exact kZ.2⟩)
  ·exact Or.inr (Or.inr (by rw [gq]; exact s9 _ _ _ hD))
 | @fst G p nm rg a A B ha bI =>
  intro sc base m env st hr he hl hs
  simp only [PT.mZ, dP] at hr
  simp only [PT.cnt, aB, Nat.add_zero] at hl
  have e' : ev fuel (PT.node p .fst nm rg [a]).era env st = begun fuel st (fun st => if (ev fuel a.era env st).2.e ≠ 0 then (.n 0, (ev fuel a.era env st).2) else ct .fst [(ev fuel a.era env st).1] (ev fuel a.era env st).2) := by
   simp only [PT.era, j4, ev, cw, reduceCtorEq, if_false]; rfl
  rw [e']
  simp only [mW, iK, if_true, reduceCtorEq, if_false]
  refine eI hs (fun hs => ?_)
  have h1 := bI sc base { m with steps := m.steps + 1 } env { st with steps := st.steps + 1 } hr.2.1 he (by simp only; omega) hs
  generalize mW fuel a sc base { m with steps := m.steps + 1 } = x at h1 ⊢
  generalize ev fuel a.era env { st with steps := st.steps + 1 } = y at h1 ⊢
  rcases h1 with ⟨h1, h2, h3⟩ | hB | hD
  ·rw [if_neg (fun hn => hn h1.e)]
   obtain ⟨y1, y2⟩ := y
   cases y1 with
   | n k => simp [Vl.has] at h3
   | p u v =>
    simp only [Vl.has] at h3
    have hu := QO h1 h2
    simp only [ct, Vl.fst]
    rcases hu with hu | hu
    ·rw [hu.1]
     exact Or.inl ⟨h1, hu.2.1, h3.1⟩
    ·exact Or.inr (Or.inr hu)
  ·rw [if_pos (by rw [hB.1]; decide)]
   exact Or.inr (Or.inl ⟨hB.1, by rw [s8 _ _ (by rw [hB.2]; decide)]; exact hB.2⟩)
  ·exact Or.inr (Or.inr (by rw [s8 _ _ (by rw [hD]; decide)]; exact hD))
 | @snd G p nm rg a A B ha bI =>
  intro sc base m env st hr he hl hs
  simp only [PT.mZ, dP] at hr
  simp only [PT.cnt, aB, Nat.add_zero] at hl
  have e' : ev fuel (PT.node p .snd nm rg [a]).era env st = begun fuel st (fun st => if (ev fuel a.era env st).2.e ≠ 0 then (.n 0, (ev fuel a.era env st).2) else ct .snd [(ev fuel a.era env st).1] (ev fuel a.era env st).2) := by
   simp only [PT.era, j4, ev, cw, reduceCtorEq, if_false]; rfl
  rw [e']
  simp only [mW, iK, reduceCtorEq, if_false]
  refine eI hs (fun hs => ?_)
  have h1 := bI sc base { m with steps := m.steps + 1 } env { st with steps := st.steps + 1 } hr.2.1 he (by simp only; omega) hs
  generalize mW fuel a sc base { m with steps := m.steps + 1 } = x at h1 ⊢
  generalize ev fuel a.era env { st with steps := st.steps + 1 } = y at h1 ⊢
  rcases h1 with ⟨h1, h2, h3⟩ | hB | hD
  ·rw [if_neg (fun hn => hn h1.e)]
   obtain ⟨y1, y2⟩ := y
   cases y1 with
   | n k => simp [Vl.has] at h3
   | p u v =>
    simp only [Vl.has] at h3
    have hu := QO h1 h2
    simp only [ct, Vl.snd]
    rcases hu with hu | hu
    ·rw [hu.1]
     exact Or.inl ⟨h1, hu.2.2, h3.2⟩
    ·exact Or.inr (Or.inr hu)
  ·rw [if_pos (by rw [hB.1]; decide)]
   exact Or.inr (Or.inl ⟨hB.1, by rw [s8 _ _ (by rw [hB.2]; decide)]; exact hB.2⟩)
  ·exact Or.inr (Or.inr (by rw [s8 _ _ (by rw [hD]; decide)]; exact hD))
 | @fH G p nm rg a b c T ha hb hc bI dG nY =>
  intro sc base m env st hr he hl hs
  simp only [PT.mZ, dP] at hr
  simp only [PT.cnt, aB, Nat.add_zero] at hl
  simp only [PT.era, j4, ev, ml, mW, Om, if_true, reduceCtorEq, if_false]
  refine eI hs (fun hs => ?_)
  have hf := jY fuel ha sc base { m with steps := m.steps + 1 } hr.2.1 he.ef (by simp only; omega)
  have h1 := bI sc base { m with steps := m.steps + 1 } env { st with steps := st.steps + 1 } hr.2.1 he (by simp only; omega) hs
  generalize mW fuel a sc base { m with steps := m.steps + 1 } = x at hf h1 ⊢
  generalize ev fuel a.era env { st with steps := st.steps + 1 } = y at h1 ⊢
  have hxl : x.2.named.length = m.named.length := hf.1.len
  rcases h1 with ⟨h1, h2, h3⟩ | hB | hD
  ·have hx := ER.on (m := { m with steps := m.steps + 1 }) he hf.1 (Nat.le_refl _)
   obtain ⟨y1, y2⟩ := y
   cases y1 with
   | p u v => simp [Vl.has] at h3
   | n k =>
    simp only [iv] at h2
    split
    ·rename_i hz
     simp only [Vl.num] at hz
     rw [if_pos (show x.1.n ≠ 0 by omega)]
     exact dG sc (base + a.cnt) x.2 env _ hr.2.2.1 (hx.up (by omega)) (by omega) h1
    ·rename_i hz
     simp only [Vl.num, ne_eq, Decidable.not_not] at hz
     rw [if_neg (show ¬ x.1.n ≠ 0 by omega)]
     exact nY sc (base + a.cnt + b.cnt) x.2 env _ hr.2.2.2.1 (hx.up (by omega)) (by omega) h1
  ·refine Or.inr (Or.inl ?_)
   constructor
   ·split
    ·exact (oq b.era b sc 0 env hB).1
    ·exact (oq c.era c sc 0 env hB).1
   ·split
    ·exact (oq b.era b sc (base + a.cnt) env hB).2
    ·exact (oq c.era c sc (base + a.cnt + b.cnt) env hB).2
  ·refine Or.inr (Or.inr ?_)
   split
   ·exact s9 _ _ _ hD
   ·exact s9 _ _ _ hD
 | @two G p k nm rg a b hkk ha hb bI dG =>
  intro sc base m env st hr he hl hs
  simp only [PT.mZ, dP] at hr
  simp only [PT.cnt, aB, Nat.add_zero] at hl
  have e : mW fuel (.node p k nm rg [a, b]) sc base m = bn fuel m (fun m => (⟨false, ij k (mW fuel a sc base m).1.n (mW fuel b sc (base + a.cnt) (mW fuel a sc base m).2).1.n⟩, (mW fuel b sc (base + a.cnt) (mW fuel a sc base m).2).2)) := by
   rcases hkk with rfl | rfl | rfl <;> simp only [mW, iK, reduceCtorEq, if_false]
  have e' : ev fuel (PT.node p k nm rg [a, b]).era env st = begun fuel st (fun st => if (ev fuel b.era env (ev fuel a.era env st).2).2.e ≠ 0 then (.n 0, (ev fuel b.era env (ev fuel a.era env st).2).2) else ct k [(ev fuel a.era env st).1, (ev fuel b.era env (ev fuel a.era env st).2).1] (ev fuel b.era env (ev fuel a.era env st).2).2) := by
   rcases hkk with rfl | rfl | rfl <;> (simp only [PT.era, j4, ev, cw, reduceCtorEq, if_false]; rfl)
  rw [e, e']
  refine eI hs (fun hs => ?_)
  have hf := jY fuel ha sc base { m with steps := m.steps + 1 } hr.2.1 he.ef (by simp only; omega)
  have h1 := bI sc base { m with steps := m.steps + 1 } env { st with steps := st.steps + 1 } hr.2.1 he (by simp only; omega) hs
  generalize mW fuel a sc base { m with steps := m.steps + 1 } = x at hf h1 ⊢
  generalize ev fuel a.era env { st with steps := st.steps + 1 } = y at h1 ⊢
  have hxl : x.2.named.length = m.named.length := hf.1.len
  rcases h1 with ⟨h1, h2, h3⟩ | hB | hD
  ·have hx := (ER.on (m := { m with steps := m.steps + 1 }) he hf.1 (Nat.le_refl _)).up (show base <= base + a.cnt by omega)
   have k1 := dG sc (base + a.cnt) x.2 env y.2 hr.2.2.1 hx (by omega) h1
   generalize mW fuel b sc (base + a.cnt) x.2 = x' at k1 ⊢
   generalize ev fuel b.era env y.2 = y' at k1 ⊢
   rcases k1 with ⟨k1, k2, k3⟩ | hB | hD
   ·rw [if_neg (fun hn => hn k1.e)]
    obtain ⟨y1, y2⟩ := y
    obtain ⟨z1, z2⟩ := y'
    cases y1 with
    | p u v => simp [Vl.has] at h3
    | n i =>
     cases z1 with
     | p u v => simp [Vl.has] at k3
     | n j =>
      simp only [iv] at h2 k2
      refine Or.inl ?_
      rcases hkk with rfl | rfl | rfl
      ·simp only [ct, Vl.num, ij, if_true]
       refine ⟨k1, ?_, by simp only [Vl.has]; omega⟩
       simp only [iv, true_and]
       rw [Int.tmod_eq_emod_of_nonneg (by omega)]
       omega
      ·simp only [ct, Vl.num, ij, if_true, reduceCtorEq, if_false]
       refine ⟨k1, ?_, by simp only [Vl.has]; omega⟩
       simp only [iv, true_and]
       rw [Int.tmod_eq_emod_of_nonneg (by omega)]
       omega
      ·simp only [ct, ij, reduceCtorEq, if_false]
       by_cases hlt : i < j
       ·have hq : x.1.n < x'.1.n := by omega
        exact ⟨k1, by simp [iv, Vl.num, hlt, hq], by simp [Vl.has, Vl.num, hlt]⟩
       ·have hq : ¬ x.1.n < x'.1.n := by omega
        exact ⟨k1, by simp [iv, Vl.num, hlt, hq], by simp [Vl.has, Vl.num, hlt]⟩
   ·rw [if_pos (by rw [hB.1]; decide)]
    exact Or.inr (Or.inl hB)
   ·exact Or.inr (Or.inr hD)
  ·have kZ := oq (fuel := fuel) b.era b sc (base + a.cnt) env hB
   rw [if_pos (by rw [kZ.1]; decide)]
   exact Or.inr (Or.inl kZ)
  ·exact Or.inr (Or.inr (s9 _ _ _ hD))
 | @loop G p nm rg a b c T ha hb hc bI dG nY =>
  intro sc base m env st hr he hl hs
  simp only [PT.mZ, dP] at hr
  simp only [PT.cnt, aB, Nat.add_zero] at hl
  simp only [PT.era, j4, ev, eD, mW, rF, if_true, reduceCtorEq, if_false]
  refine eI hs (fun hs => ?_)
  have hf := jY fuel ha sc base { m with steps := m.steps + 1 } hr.2.1 he.ef (by simp only; omega)
  have h1 := bI sc base { m with steps := m.steps + 1 } env { st with steps := st.steps + 1 } hr.2.1 he (by simp only; omega) hs
  generalize mW fuel a sc base { m with steps := m.steps + 1 } = x at hf h1 ⊢
  generalize ev fuel a.era env { st with steps := st.steps + 1 } = y at h1 ⊢
  have hxl : x.2.named.length = m.named.length := hf.1.len
  rcases h1 with ⟨h1, h2, h3⟩ | hB | hD
  ·have hx := ER.on (m := { m with steps := m.steps + 1 }) he hf.1 (Nat.le_refl _)
   have hg := jY fuel hb sc (base + a.cnt) x.2 hr.2.2.1 (hx.up (by omega)).ef (by omega)
   have k1 := dG sc (base + a.cnt) x.2 env y.2 hr.2.2.1 (hx.up (by omega)) (by omega) h1
   generalize mW fuel b sc (base + a.cnt) x.2 = x' at hg k1 ⊢
   generalize ev fuel b.era env y.2 = y' at k1 ⊢
   have aad : x'.2.named.length = m.named.length := hg.1.len.trans hxl
   have uD := dI b
   rw [show (((base + a.cnt + b.cnt : Nat) : Int) - 1) = ((base + a.cnt + b.cnt - 1 : Nat) : Int) from by omega]
   rcases k1 with ⟨k1, k2, k3⟩ | hB | hD
   ·have oV : x.1.n.toNat = y.1.num := by
     obtain ⟨y1, y2⟩ := y
     cases y1 with
     | p u v => simp [Vl.has] at h3
     | n k => simp only [iv] at h2; simp only [Vl.num]; omega
    rw [oV]
    refine xm (P := fun m' => ER m'.named m'.cells sc env G base /\ m'.named.length = m.named.length) (fun st' m' v u hP hs' hr' ht' => ?_) _ _ _ _ _ ⟨hx.on hg.1 (by omega), aad⟩ k1 k2 k3
    have iF := ER.snoc (nm := nm) (j := base + a.cnt + b.cnt - 1) (ER.up hP.1 (show base <= base + a.cnt + b.cnt - 1 by omega)) (Nat.le_refl _) (by omega) hr' ht'
    rw [show base + a.cnt + b.cnt - 1 + 1 = base + a.cnt + b.cnt from by omega] at iF
    have hne := fE m' (base + a.cnt + b.cnt - 1) u (base + a.cnt + b.cnt - 1) 1 (by omega)
    have hg' := jY fuel hc _ (base + a.cnt + b.cnt) _ hr.2.2.2.1 iF.ef (by rw [hne.len]; omega)
    refine ⟨nY _ (base + a.cnt + b.cnt) _ _ _ hr.2.2.2.1 iF (by rw [hne.len]; omega) (hs'.name _ _), ER.on (hP.1.on hne (by omega)) hg'.1 (by omega), hg'.1.len.trans (hne.len.trans hP.2)⟩
   ·exact Or.inr (Or.inl ⟨by rw [qw _ _ _ _ (by rw [hB.1]; decide)]; exact hB.1, by rw [gK _ _ _ _ _ (by rw [hB.2]; decide)]; exact hB.2⟩)
   ·exact Or.inr (Or.inr (by rw [gK _ _ _ _ _ (by rw [hD]; decide)]; exact hD))
  ·have kZ := oq (fuel := fuel) b.era b sc (base + a.cnt) env hB
   exact Or.inr (Or.inl ⟨by rw [qw _ _ _ _ (by rw [kZ.1]; decide)]; exact kZ.1, by rw [gK _ _ _ _ _ (by rw [kZ.2]; decide)]; exact kZ.2⟩)
  ·have hD2 := s9 (fuel := fuel) b sc (base + a.cnt) hD
   exact Or.inr (Or.inr (by rw [gK _ _ _ _ _ (by rw [hD2]; decide)]; exact hD2))
 | @new G p nm rg a T ha bI =>
  intro sc base m env st hr he hl hs
  simp only [PT.mZ, dP] at hr
  simp only [PT.cnt, aB, Nat.add_zero] at hl
  simp only [PT.era, j4, if_true, List.headD_cons, mW, vX]
  have h1 := bI sc base (m.opn (au rg)) env st hr.2.1 he (by simp only [MM.opn]; omega) ⟨hs.e, hs.f, hs.s, hs.le, hs.c, by simp [MM.opn]⟩
  have hrl := WW fuel a sc base (m.opn (au rg))
  generalize mW fuel a sc base (m.opn (au rg)) = x at h1 hrl ⊢
  obtain ⟨f1, f2, f3, f4, f5⟩ := oT x.2
  have hr0 := hs.r
  rcases h1 with ⟨h1, h2, h3⟩ | hB | hD
  ·refine Or.inl ⟨⟨h1.e, by rw [f1]; exact h1.f, by rw [f2]; exact h1.s, h1.le, by rw [f3]; exact h1.c, ?_⟩, by rw [f3]; exact h2, h3⟩
   rw [f5, hrl]; simp only [MM.opn, List.length_append, List.length_singleton]; omega
  ·exact Or.inr (Or.inl ⟨hB.1, by rw [f1]; exact hB.2⟩)
  ·exact Or.inr (Or.inr (by rw [f1]; exact hD))
inductive mU : aQ -> PT -> Ty -> Prop
 | num {G : aQ} {p : Nat} {s : List UInt8} (h : 0 <= au s /\ au s <= 9999) : mU G (.num p s) .n
 | name {G : aQ} {p : Nat} {s : List UInt8} {T : Ty} (h : look G s = some T) : mU G (.name p s) T
 | bb {G : aQ} {p : Nat} {nm rg : List UInt8} {a b : PT} {A B : Ty} (ha : mU G a A) (hb : mU (G ++ [(nm, A)]) b B) : mU G (.node p .bb nm rg [a, b]) B
 | pair {G : aQ} {p : Nat} {nm rg : List UInt8} {a b : PT} {A B : Ty} {r : Nat} (hr : au rg = (r : Int)) (ha : mU G a A) (hb : mU G b B) : mU G (.node p .pair nm rg [a, b]) (.p r A B)
 | fst {G : aQ} {p : Nat} {nm rg : List UInt8} {a : PT} {r : Nat} {A B : Ty} (ha : mU G a (.p r A B)) : mU G (.node p .fst nm rg [a]) A
 | snd {G : aQ} {p : Nat} {nm rg : List UInt8} {a : PT} {r : Nat} {A B : Ty} (ha : mU G a (.p r A B)) : mU G (.node p .snd nm rg [a]) B
 | fH {G : aQ} {p : Nat} {nm rg : List UInt8} {a b c : PT} {T : Ty} (ha : mU G a .n) (hb : mU G b T) (hc : mU G c T) : mU G (.node p .fH nm rg [a, b, c]) T
 | two {G : aQ} {p : Nat} {k : Kw} {nm rg : List UInt8} {a b : PT} (hk : k = .add \/ k = .sub \/ k = .less) (ha : mU G a .n) (hb : mU G b .n) : mU G (.node p k nm rg [a, b]) .n
 | loop {G : aQ} {p : Nat} {nm rg : List UInt8} {a b c : PT} {T : Ty} (ha : mU G a .n) (hb : mU G b T) (hc : mU (G ++ [(nm, T)]) c T) : mU G (.node p .loop nm rg [a, b, c]) T
 | new {G : aQ} {p : Nat} {nm rg : List UInt8} {a : PT} {T : Ty} (ha : mU G a T) (hm : T.has (au rg) = false) : mU G (.node p .new nm rg [a]) T
def bW (m : MM) : Ty -> MV -> Prop
 | .n, v => v.c = false /\ 0 <= v.n /\ v.n <= 9999
 | .p r A B, v => v.c = true /\ ∃ (i : Nat) (c : MC) (g : MR), v.n = i /\ m.cells[i]? = some c /\ m.regs[c.home]? = some g /\ g.gb = c.gb /\ (g.num = (r : Int) \/ c.home = 0) /\ bW m A c.a /\ bW m B c.b
def AQ (r : MR) : Int × Nat := (r.num, r.gb)
def bO (m m' : MM) : Prop := m'.regs.map AQ = m.regs.map AQ
theorem bO.refl (m : MM) : bO m m := rfl
theorem bO.trans {a b c : MM} (h : bO a b) (g : bO b c) : bO a c := Eq.trans g h
theorem bO.of {m m' : MM} (h : m'.regs = m.regs) : bO m m' := by unfold bO; rw [h]
theorem bO.at {m m' : MM} (h : bO m m') {i : Nat} {g : MR} (hi : m.regs[i]? = some g) : ∃ g', m'.regs[i]? = some g' /\ g'.num = g.num /\ g'.gb = g.gb := by
 have e := congrArg (fun l => l[i]?) h
 simp only [List.getElem?_map, hi, Option.map_some] at e
 cases h' : m'.regs[i]? with
 | none => rw [h'] at e; simp at e
 | some g' =>
  rw [h'] at e
  simp only [Option.map_some, Option.some.injEq, AQ, Prod.mk.injEq] at e
  exact ⟨g', rfl, e.1, e.2⟩
theorem bO.len {m m' : MM} (h : bO m m') : m'.regs.length = m.regs.length := by have := congrArg List.length h; simpa using this
theorem bW.on {m m' : MM} (hc : ∃ l, m'.cells = m.cells ++ l) (hs : bO m m') : ∀ {T : Ty} {v : MV}, bW m T v -> bW m' T v
 | .n, _, h => h
 | .p r A B, v, h => by
  simp only [bW] at h ⊢
  obtain ⟨h0, i, c, g, h1, h2, h3, h4, h5, h6, h7⟩ := h
  obtain ⟨g', k1, k2, k3⟩ := hs.at h3
  obtain ⟨l, hl⟩ := hc
  refine ⟨h0, i, c, g', h1, ?_, k1, k3.trans h4, ?_, bW.on ⟨l, hl⟩ hs h6, bW.on ⟨l, hl⟩ hs h7⟩
  ·rw [hl, List.getElem?_append_left (List.getElem?_eq_some_iff.1 h2).1]; exact h2
  ·rw [k2]; exact h5
theorem Tg {r : Nat} {A B : Ty} {k : Int} (h : (Ty.p r A B).has k = false) : (r : Int) ≠ k /\ A.has k = false /\ B.has k = false := by
 unfold Ty.has at h ⊢
 simp only [Ty.xW, List.any_cons, List.any_append, Bool.or_eq_false_iff, beq_eq_false_iff_ne] at h
 exact ⟨h.1, h.2.1, h.2.2⟩
theorem bW.fin {m x : MM} {k : Int} (hm : 0 < m.regs.length) (hs : bO (m.opn k) x) : ∀ {T : Ty} {v : MV}, T.has k = false -> bW x T v -> bW x.fin T v
 | .n, _, _, h => h
 | .p r A B, v, ht, h => by
  obtain ⟨hr, hA, hB⟩ := Tg ht
  simp only [bW] at h ⊢
  obtain ⟨h0, i, c, g, h1, h2, h3, h4, h5, h6, h7⟩ := h
  have hl : x.regs.length = m.regs.length + 1 := by rw [hs.len]; simp [MM.opn]
  have hlt := (List.getElem?_eq_some_iff.1 h3).1
  have hne : c.home ≠ m.regs.length := by
   intro e
   rcases h5 with h5 | h5
   ·obtain ⟨g', k1, k2, _⟩ := hs.at (i := m.regs.length) (g := ⟨k, m.opened, 0⟩) (by simp [MM.opn])
    rw [e, k1] at h3
    cases h3
    exact hr (h5.symm.trans k2)
   ·omega
  have hfr : x.fin.regs = x.regs.dropLast /\ x.fin.cells = x.cells := by
   unfold MM.fin
   cases hg : x.regs.getLast? with
   | none => have : x.regs = [] := by simpa using hg
             rw [this] at hl; simp at hl
   | some _ => exact ⟨rfl, rfl⟩
  refine ⟨h0, i, c, g, h1, by rw [hfr.2]; exact h2, ?_, h4, h5, bW.fin hm hs hA h6, bW.fin hm hs hB h7⟩
  rw [hfr.1, List.getElem?_dropLast, if_pos (by omega)]; exact h3
theorem bO.new {m x : MM} {k : Int} (hs : bO (m.opn k) x) : bO m x.fin := by
 have hl : x.regs.length = m.regs.length + 1 := by rw [hs.len]; simp [MM.opn]
 have hfr : x.fin.regs = x.regs.dropLast := by
  unfold MM.fin
  cases hg : x.regs.getLast? with
  | none => have : x.regs = [] := by simpa using hg
            rw [this] at hl; simp at hl
  | some _ => rfl
 unfold bO at hs ⊢
 rw [hfr, List.map_dropLast, hs]
 simp [MM.opn]
structure zt (m : MM) (x : MV × MM) (base c : Nat) (T : Ty) : Prop where
 ext : Ext m x.2 base c
 same : bO m x.2
 ok : x.2.fault = 12 \/ (x.2.fault = 0 /\ bW x.2 T x.1)
theorem Th (fuel : Nat) (t : PT) : ∀ (sc : Sc) (base : Nat) (m : MM), m.fault ≠ 0 -> Ext m (mW fuel t sc base m).2 base t.cnt /\ bO m (mW fuel t sc base m).2 := by
 induction t using PT.ind with
 | h1 p s => intro sc base m h; simp only [mW]; rw [je fuel m _ h]; exact ⟨Ext.refl _ _ _, bO.refl _⟩
 | h2 p s => intro sc base m h; simp only [mW]; rw [je fuel m _ h]; exact ⟨Ext.refl _ _ _, bO.refl _⟩
 | h3 p k nm rg kids ih =>
  intro sc base m h
  simp only [mW]
  split
  ·match kids, ih with
   | [], _ => exact ⟨Ext.refl _ _ _, bO.refl _⟩
   | [a], ih =>
    simp only [vX, PT.cnt, aB]
    obtain ⟨h1, h2⟩ := ih a (by simp) sc base (m.opn (au rg)) h
    have h0 : Ext m (m.opn (au rg)) base (1 + (a.cnt + 0)) := Ext.same (m := m) (m' := m.opn (au rg)) rfl rfl _ _
    have h3 := Ext.trans (b := base) (c := 1 + (a.cnt + 0)) h0 h1 (by omega) (by omega)
    exact ⟨Ext.trans (b := base) (c := 1 + (a.cnt + 0)) h3 (Aq _ base (1 + (a.cnt + 0))) (by omega) (by omega), h2.new⟩
   | _ :: _ :: _, _ => exact ⟨Ext.refl _ _ _, bO.refl _⟩
  ·rw [je fuel m _ h]; exact ⟨Ext.refl _ _ _, bO.refl _⟩
theorem zt.bad {fuel : Nat} (t : PT) (sc : Sc) (base : Nat) {m : MM} (h : m.fault = 12) (T : Ty) : zt m (mW fuel t sc base m) base t.cnt T := by
 obtain ⟨h1, h2⟩ := Th fuel t sc base m (by rw [h]; decide)
 exact ⟨h1, h2, Or.inl (by rw [C2 fuel t sc base m (by rw [h]; decide)]; exact h)⟩
def fY (m : MM) (sc : Sc) (G : aQ) (base : Nat) : Prop := ∀ s U, look G s = some U -> ∃ (i : Nat) (v : MV), bL sc s = (i : Int) /\ i < base /\ m.named[i]? = some v /\ bW m U v
theorem fY.on {m m' : MM} {sc : Sc} {G : aQ} {base b c : Nat} (h : fY m sc G base) (he : Ext m m' b c) (hs : bO m m') (hb : base <= b) : fY m' sc G base := by
 intro s U hl
 obtain ⟨i, v, h1, h2, h3, h4⟩ := h s U hl
 exact ⟨i, v, h1, h2, (he.named i (Or.inl (by omega))).trans h3, h4.on he.cells hs⟩
theorem fY.up {m : MM} {sc : Sc} {G : aQ} {base b : Nat} (h : fY m sc G base) (hb : base <= b) : fY m sc G b := by
 intro s U hl
 obtain ⟨i, v, h1, h2, h3, h4⟩ := h s U hl
 exact ⟨i, v, h1, by omega, h3, h4⟩
theorem fY.snoc {m : MM} {sc : Sc} {G : aQ} {base j : Nat} {nm : List UInt8} {T : Ty} {v : MV} (h : fY m sc G base) (hj : base <= j) (hl : j < m.named.length) (hv : bW m T v) : fY (m.name (j : Int) v) (sc ++ [(nm, (j : Int))]) (G ++ [(nm, T)]) (j + 1) := by
 have he := fE m j v j 1 (by omega)
 have sj : bO m (m.name (j : Int) v) := bO.of (j5 m j v)
 intro s T' hlk
 rw [qu] at hlk
 rw [lD]
 by_cases hs : nm = s
 ·rw [if_pos hs] at hlk ⊢
  cases hlk
  exact ⟨j, v, rfl, by omega, Ap m j v hl, hv.on he.cells sj⟩
 ·rw [if_neg hs] at hlk ⊢
  obtain ⟨i, u, h1, h2, h3, h4⟩ := h s T' hlk
  exact ⟨i, u, h1, by omega, (he.named i (Or.inl (by omega))).trans h3, h4.on he.cells sj⟩
theorem iE {fuel : Nat} {m : MM} {g : MM -> MV × MM} {base c : Nat} {T : Ty} (h : m.fault = 0) (hk : zt { m with steps := m.steps + 1 } (g { m with steps := m.steps + 1 }) base c T) : zt m (bn fuel m g) base c T := by
 unfold bn
 by_cases hq : fuel <= m.steps
 ·simp only [if_pos hq]
  have e : m.stop 12 = { m with fault := 12 } := by unfold MM.stop; rw [if_pos h]
  rw [e, if_pos (by simp)]
  exact ⟨Ext.same (m := m) (m' := { m with fault := 12 }) rfl rfl _ _, bO.of rfl, Or.inl rfl⟩
 ·simp only [if_neg hq]
  rw [if_neg (fun hn => hn h)]
  have h0 : Ext m { m with steps := m.steps + 1 } base c := Ext.same (m := m) (m' := { m with steps := m.steps + 1 }) rfl rfl _ _
  exact ⟨h0.trans hk.ext (by omega) (by omega), (bO.of (m := m) (m' := { m with steps := m.steps + 1 }) rfl).trans hk.same, hk.ok⟩
theorem Ext.widen {m m' : MM} {b c B C : Nat} (h : Ext m m' b c) (hb : B <= b /\ b + c <= B + C) : Ext m m' B C := ⟨h.cells, h.len, fun i hi => h.named i (by omega)⟩
theorem C8 (l : List MR) (k : Int) : ∀ i, (l[jw l k i]?).map (·.num) = some k \/ jw l k i = 0
 | 0 => Or.inr rfl
 | i + 1 => by
  simp only [jw]
  split
  ·rename_i h; exact Or.inl h
  ·exact C8 l k i
theorem zu (l : List MR) (k : Int) : ∀ i, jw l k i <= i
 | 0 => Nat.le_refl _
 | i + 1 => by
  simp only [jw]
  split
  ·exact Nat.le_refl _
  ·exact Nat.le_succ_of_le (zu l k i)
theorem bW.opn {m : MM} (k : Int) : ∀ {T : Ty} {v : MV}, bW m T v -> bW (m.opn k) T v
 | .n, _, h => h
 | .p r A B, v, h => by
  simp only [bW] at h ⊢
  obtain ⟨h0, i, c, g, h1, h2, h3, h4, h5, h6, h7⟩ := h
  refine ⟨h0, i, c, g, h1, h2, ?_, h4, h5, bW.opn k h6, bW.opn k h7⟩
  simp only [MM.opn]
  rw [List.getElem?_append_left (List.getElem?_eq_some_iff.1 h3).1]; exact h3
theorem Pt {m : MM} {A B : Ty} {v u : MV} {r : Nat} (hr : 0 < m.regs.length) (ha : bW m A v) (hb : bW m B u) : bO m (m.aZ (r : Int) v u).2 /\ bW (m.aZ (r : Int) v u).2 (.p r A B) (m.aZ (r : Int) v u).1 := by
 have Qq : m.home (r : Int) < m.regs.length := by
  have := zu m.regs (r : Int) (m.regs.length - 1)
  unfold MM.home; omega
 have hg : m.regs[m.home (r : Int)]? = some m.regs[m.home (r : Int)] := List.getElem?_eq_getElem Qq
 have hn := C8 m.regs (r : Int) (m.regs.length - 1)
 have WX := rO m (r : Int) v u 0 0
 have hsame : bO m (m.aZ (r : Int) v u).2 := by
  unfold bO MM.aZ
  rw [hg]
  simp only [List.map_set]
  rw [show AQ { m.regs[m.home (r : Int)] with cells := m.regs[m.home (r : Int)].cells + 1 } = (m.regs.map AQ)[m.home (r : Int)]'(by simpa using Qq) by simp [AQ]]
  exact List.set_getElem_self _
 have hA := ha.on WX.cells hsame
 have hB := hb.on WX.cells hsame
 refine ⟨hsame, ?_⟩
 revert hA hB
 unfold MM.aZ
 rw [hg]
 intro hA hB
 simp only [bW]
 refine ⟨trivial, m.cells.length, ⟨v, u, m.home (r : Int), m.regs[m.home (r : Int)].gb⟩, { m.regs[m.home (r : Int)] with cells := m.regs[m.home (r : Int)].cells + 1 }, rfl, by simp, by simp [Qq], rfl, ?_, hA, hB⟩
 rcases hn with hn | hn
 ·left
  have : m.regs[m.home (r : Int)]?.map (·.num) = some (r : Int) := hn
  rw [hg] at this
  simpa using this
 ·exact Or.inr hn
theorem E7 {m : MM} {r : Nat} {A B : Ty} {v : MV} (h : bW m (.p r A B) v) : (m.use v).2 = m /\ bW m A (m.use v).1.a /\ bW m B (m.use v).1.b := by
 simp only [bW] at h
 obtain ⟨hc, i, c, g, hv, hi, h3, h4, _, ha, hb⟩ := h
 have lP := (List.getElem?_eq_some_iff.1 hi).1
 have e2 : m.cells.getD v.n.toNat c0 = c := by rw [hv, Int.toNat_natCast, List.getD_eq_getElem?_getD, hi]; rfl
 have hlv : m.isLive c = true := by unfold MM.isLive; rw [h3]; simp [h4]
 have e : m.use v = (c, m) := by
  unfold MM.use
  rw [if_neg (by rw [hc, hv]; simp; omega), e2, if_pos hlv]
 rw [e]; exact ⟨rfl, ha, hb⟩
theorem zw (i : Int) (f : MM -> MV × MM) (k : Nat) (v : MV) (m : MM) (h : m.fault ≠ 0) : cP i f k v m = (v, m) := by
 cases k with
 | zero => rfl
 | succ k => simp only [cP]; rw [if_pos h]
theorem C9 {T : Ty} {j B C : Nat} {g : MM -> MV × MM} {P : MM -> Prop} (hj : B <= j /\ j < B + C) (tO : ∀ m v, P m -> m.fault = 0 -> bW m T v -> zt (m.name (j : Int) v) (g (m.name (j : Int) v)) B C T /\ P (g (m.name (j : Int) v)).2) : ∀ (k : Nat) (m : MM) (v : MV), P m -> m.fault = 0 -> bW m T v -> zt m (cP (j : Int) g k v m) B C T
 | 0, m, v, _, hf, hv => ⟨Ext.refl _ _ _, bO.refl _, Or.inr ⟨hf, hv⟩⟩
 | k + 1, m, v, hP, hf, hv => by
  simp only [cP]
  rw [if_neg (fun hn => hn hf)]
  obtain ⟨h1, h2⟩ := tO m v hP hf hv
  have hne := fE m j v B C hj
  have hns : bO m (m.name (j : Int) v) := bO.of (j5 m j v)
  have hE := Ext.trans (b := B) (c := C) hne h1.ext (by omega) (by omega)
  have hS := hns.trans h1.same
  rcases h1.ok with h12 | ⟨h0, hl⟩
  ·rw [zw _ _ _ _ _ (by rw [h12]; decide)]
   exact ⟨hE, hS, Or.inl h12⟩
  ·have h3 := C9 hj tO k _ _ h2 h0 hl
   exact ⟨Ext.trans (b := B) (c := C) hE h3.ext (by omega) (by omega), hS.trans h3.same, h3.ok⟩
end Go.Proofs.YtpicaknklgccoaaGreatDoor
