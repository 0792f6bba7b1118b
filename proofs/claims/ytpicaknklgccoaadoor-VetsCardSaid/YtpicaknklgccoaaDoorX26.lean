import Derived.Test.YtpicaknklgccoaaDoorX25
namespace Go.Proofs.YtpicaknklgccoaaDoor
def envL (T : List Ty) : TEnv → Sc → Prop
 | [], [] => True
 | x :: e, y :: s => x.1 = y.1 ∧ 0 ≤ y.2 ∧ T[y.2.toNat]? = some x.2 ∧ envL T e s
 | _, _ => False
theorem envL.app {T : List Ty} : ∀ {e e' : TEnv} {s s' : Sc}, envL T e s → envL T e' s' → envL T (e ++ e') (s ++ s')
 | [], _, [], _, _, h => h
 | _ :: _, _, _ :: _, _, h, h' => ⟨h.1, h.2.1, h.2.2.1, envL.app h.2.2.2 h'⟩
 | [], _, _ :: _, _, h, _ => h.elim
 | _ :: _, _, [], _, h, _ => h.elim
theorem envL.rev {T : List Ty} : ∀ {e : TEnv} {s : Sc}, envL T e s → envL T e.reverse s.reverse
 | [], [], _ => trivial
 | _ :: _, _ :: _, h => by
  rw [List.reverse_cons, List.reverse_cons]
  exact envL.app (envL.rev h.2.2.2) ⟨h.1, h.2.1, h.2.2.1, trivial⟩
 | [], _ :: _, h => h.elim
 | _ :: _, [], h => h.elim
theorem envL.more {T T' : List Ty} : ∀ {e : TEnv} {s : Sc}, envL T e s → envL (T ++ T') e s
 | [], [], _ => trivial
 | _ :: _, _ :: _, h => ⟨h.1, h.2.1, by
   have h3 := h.2.2.1
   rw [List.getElem?_append_left (List.getElem?_eq_some_iff.1 h3).1]; exact h3, envL.more h.2.2.2⟩
 | [], _ :: _, h => h.elim
 | _ :: _, [], h => h.elim
theorem envL.find {T : List Ty} (w : List UInt8) : ∀ {e : TEnv} {s : Sc}, envL T e s →
  (e.find? (fun x => x.1 == w) = none ∧ s.find? (fun x => x.1 == w) = none) ∨ (∃ x y, e.find? (fun x => x.1 == w) = some x ∧ s.find? (fun x => x.1 == w) = some y ∧ 0 ≤ y.2 ∧ T[y.2.toNat]? = some x.2)
 | [], [], _ => Or.inl ⟨rfl, rfl⟩
 | x :: _, y :: _, h => by
  rw [List.find?_cons, List.find?_cons, ← h.1]
  by_cases hw : (x.1 == w) = true
  ·rw [hw]; exact Or.inr ⟨x, y, rfl, rfl, h.2.1, h.2.2.1⟩
  ·have hw' : (x.1 == w) = false := by simpa using hw
   rw [hw']; exact envL.find w h.2.2.2
 | [], _ :: _, h => h.elim
 | _ :: _, [], h => h.elim
theorem envL.look {T : List Ty} {e : TEnv} {s : Sc} (h : envL T e s) (w : List UInt8) :
  (look e w = none ∧ findS s w = -1) ∨ (∃ t, look e w = some t ∧ findS s w ≠ -1 ∧ knownT T (findS s w) = t) := by
 rcases h.rev.find w with ⟨h1, h2⟩ | ⟨x, y, h1, h2, h3, h4⟩
 ·left; unfold Go.Proofs.YtpicaknklgccoaaDoor.look findS; rw [h1, h2]; exact ⟨rfl, rfl⟩
 ·right
  refine ⟨x.2, ?_, ?_, ?_⟩
  ·unfold Go.Proofs.YtpicaknklgccoaaDoor.look; rw [h1]; rfl
  ·unfold findS; rw [h2]; simp only; omega
  ·unfold findS knownT; rw [h2]; simp only; rw [if_pos h3, h4]; rfl
def tyRun : List Ty → List NR → List Ty
 | T, [] => T
 | T, n :: r => tyRun (T ++ [tyR T n]) r
theorem tyRun_app : ∀ (a b : List NR) (T : List Ty), tyRun T (a ++ b) = tyRun (tyRun T a) b
 | [], _, _ => rfl
 | n :: r, b, T => by simp only [List.cons_append, tyRun]; exact tyRun_app r b _
theorem SzOk_app : ∀ (a b : List NR) (T : List Ty), SzOk T a → SzOk (tyRun T a) b → SzOk T (a ++ b)
 | [], _, _, _, h => h
 | n :: r, b, T, h, h' => by
  simp only [List.cons_append, SzOk] at h ⊢
  exact ⟨h.1, SzOk_app r b _ h.2 h'⟩
theorem plT_app : ∀ (a b : List NR) (T : List Ty), plT T (a ++ b) = if (plT T a).1 ≠ 0 then plT T a else plT (tyRun T a) b
 | [], _, _ => by simp [plT, tyRun]
 | n :: r, b, T => by
  have e1 : plT T (n :: (r ++ b)) = if vfT (T ++ [tyR T n]) n ≠ 0 then (vfT (T ++ [tyR T n]) n, n.at_) else plT (T ++ [tyR T n]) (r ++ b) := rfl
  have e2 : plT T (n :: r) = if vfT (T ++ [tyR T n]) n ≠ 0 then (vfT (T ++ [tyR T n]) n, n.at_) else plT (T ++ [tyR T n]) r := rfl
  by_cases h : vfT (T ++ [tyR T n]) n ≠ 0
  ·rw [if_pos h] at e1 e2; rw [List.cons_append, e1, e2, if_pos h]
  ·rw [if_neg h] at e1 e2; rw [List.cons_append, e1, e2, plT_app r b]; rfl
theorem vetL_app (TY : List Ty) : ∀ (a b : List (PT × Nat × Nat)), vetL TY (a ++ b) = if (vetL TY a).1 ≠ 0 then vetL TY a else vetL TY b
 | [], _ => by simp [vetL]
 | x :: r, b => by
  have e1 : vetL TY (x :: (r ++ b)) = if vStep TY x ≠ 0 then (vStep TY x, x.1.at0) else vetL TY (r ++ b) := rfl
  have e2 : vetL TY (x :: r) = if vStep TY x ≠ 0 then (vStep TY x, x.1.at0) else vetL TY r := rfl
  by_cases h : vStep TY x ≠ 0
  ·rw [if_pos h] at e1 e2; rw [List.cons_append, e1, e2, if_pos h]
  ·rw [if_neg h] at e1 e2; rw [List.cons_append, e1, e2, vetL_app TY r b]
structure Lab (T : List Ty) (c : Nat) (ns : List NR) (T' : List Ty) (of of' : List (List UInt8)) (id : Nat) (xs : List (PT × Nat × Nat)) : Prop where
 run : tyRun T ns = T ++ T'
 len : T'.length = c
 sz : SzOk T ns
 out : ∀ k, k < id ∨ id + c ≤ k → of'[k]? = of[k]?
 ofl : of'.length = of.length
 inn : ∀ k, id ≤ k → k < id + c → ∃ U : Ty, U.fit ∧ of'[k]? = some U.txt
 pl : ∀ TY : List Ty, (∀ k, id ≤ k → k < id + c → of'[k]? = some (tyAt TY k).txt) → plT T ns = vetL TY xs
theorem Lab.nil (T : List Ty) (of : List (List UInt8)) (id : Nat) : Lab T 0 [] [] of of id [] :=
 ⟨by simp [tyRun], rfl, trivial, fun _ _ => rfl, rfl, fun k h1 h2 => by omega, fun _ _ => rfl⟩
theorem Lab.app {T : List Ty} {c1 c2 : Nat} {n1 n2 : List NR} {T1 T2 : List Ty} {o o1 o2 : List (List UInt8)} {id : Nat} {x1 x2 : List (PT × Nat × Nat)} (h : Lab T c1 n1 T1 o o1 id x1) (g : Lab (T ++ T1) c2 n2 T2 o1 o2 (id + c1) x2) : Lab T (c1 + c2) (n1 ++ n2) (T1 ++ T2) o o2 id (x1 ++ x2) := by
 refine ⟨?_, ?_, ?_, ?_, ?_, ?_, ?_⟩
 ·rw [tyRun_app, h.run, g.run, List.append_assoc]
 ·rw [List.length_append, h.len, g.len]
 ·exact SzOk_app _ _ _ h.sz (by rw [h.run]; exact g.sz)
 ·intro k hk; rw [g.out k (by omega), h.out k (by omega)]
 ·rw [g.ofl, h.ofl]
 ·intro k h1 h2
  by_cases hk : k < id + c1
  ·obtain ⟨U, u1, u2⟩ := h.inn k h1 hk
   exact ⟨U, u1, by rw [g.out k (by omega)]; exact u2⟩
  ·exact g.inn k (by omega) (by omega)
 ·intro TY hT
  rw [plT_app, vetL_app, h.run, h.pl TY (fun k h1 h2 => by rw [← g.out k (by omega)]; exact hT k h1 (by omega)), g.pl TY (fun k h1 h2 => hT k (by omega) (by omega))]
theorem Lab.root {T : List Ty} {c : Nat} {ks : List NR} {T' : List Ty} {o o1 : List (List UInt8)} {id : Nat} {xs : List (PT × Nat × Nat)} (h : Lab T c ks T' o o1 (id + 1) xs) (n : NR) (U : Ty) (x : PT × Nat × Nat) (hU : tyR (T ++ T') n = U) (hf : U.fit) (hs : n.form = 4 → (Ty.p 0 (knownT (T ++ T') n.p0) (knownT (T ++ T') n.p1)).size ≤ 63) (hid : id < o.length) (hat : n.at_ = x.1.at0)
  (hv : ∀ TY : List Ty, (∀ k, id + 1 ≤ k → k < id + 1 + c → o1[k]? = some (tyAt TY k).txt) → vfT (T ++ T' ++ [U]) n = vStep TY x) :
  Lab T (1 + c) (ks ++ [n]) (T' ++ [U]) o (o1.set id U.txt) id (xs ++ [x]) := by
 have ho : ∀ k, k ≠ id → (o1.set id U.txt)[k]? = o1[k]? := fun k hk => List.getElem?_set_ne (fun e => hk e.symm)
 have hi : (o1.set id U.txt)[id]? = some U.txt := by rw [List.getElem?_set_self (by rw [h.ofl]; exact hid)]
 refine ⟨?_, ?_, ?_, ?_, ?_, ?_, ?_⟩
 ·rw [tyRun_app, h.run]; simp only [tyRun, hU, List.append_assoc]
 ·rw [List.length_append, h.len]; simp; omega
 ·exact SzOk_app _ _ _ h.sz (by rw [h.run]; exact ⟨hs, trivial⟩)
 ·intro k hk; rw [ho k (by omega), h.out k (by omega)]
 ·rw [List.length_set, h.ofl]
 ·intro k h1 h2
  by_cases e : k = id
  ·subst e; exact ⟨U, hf, hi⟩
  ·obtain ⟨V, v1, v2⟩ := h.inn k (by omega) (by omega)
   exact ⟨V, v1, by rw [ho k e]; exact v2⟩
 ·intro TY hT
  have hT' : ∀ k, id + 1 ≤ k → k < id + 1 + c → o1[k]? = some (tyAt TY k).txt := fun k h1 h2 => by rw [← ho k (by omega)]; exact hT k (by omega) (by omega)
  rw [plT_app, vetL_app, h.run, h.pl TY hT']
  simp only [plT, vetL, hU, hv TY hT', hat]
theorem fin_of (id p : Nat) (x : Ty × TSt) : (fin id p x).1 = x.1 ∧ (fin id p x).2.of = x.2.of.set id x.1.txt ∧ ((fin id p x).2.e = 0 → x.2.e = 0 ∧ x.1.size ≤ 63) := by
 unfold fin
 refine ⟨rfl, ?_, ?_⟩
 ·simp only
  split
  ·unfold errS; split <;> rfl
  ·rfl
 ·simp only
  split
  ·rename_i h
   unfold errS; rw [if_pos h.1]; intro h'; simp at h'
  ·rename_i h
   intro h'
   exact ⟨h', by omega⟩
def clsIn (cls : List Nat) (l : List (Nat × List UInt8)) (site : Nat) : Prop := ∀ (i : Nat) (x : Nat × List UInt8), l[i]? = some x → cls.getD (site + i) 0 = (valueL x.2).toNat
theorem clsIn.left {cls : List Nat} {a b : List (Nat × List UInt8)} {site : Nat} (h : clsIn cls (a ++ b) site) : clsIn cls a site :=
 fun i x hx => h i x (by rw [List.getElem?_append_left (List.getElem?_eq_some_iff.1 hx).1]; exact hx)
theorem clsIn.right {cls : List Nat} {a b : List (Nat × List UInt8)} {site : Nat} (h : clsIn cls (a ++ b) site) : clsIn cls b (site + a.length) := by
 intro i x hx
 have := h (a.length + i) x (by rw [List.getElem?_append_right (by omega), Nat.add_sub_cancel_left]; exact hx)
 rw [Nat.add_assoc]; exact this
theorem known_more {T : List Ty} {i : Nat} {t : Ty} (U : List Ty) (h : T[i]? = some t) : knownT (T ++ U) (i : Int) = t :=
 known_some (by rw [List.getElem?_append_left (List.getElem?_eq_some_iff.1 h).1]; exact h)
theorem fk_let : formK .let_ = 3 := by decide
theorem fk_pair : formK .pair = 4 := by decide
theorem fk_fst : formK .fst = 5 := by decide
theorem fk_snd : formK .snd = 6 := by decide
theorem fk_if : formK .if_ = 7 := by decide
theorem fk_add : formK .add = 8 := by decide
theorem fk_sub : formK .sub = 9 := by decide
theorem fk_less : formK .less = 10 := by decide
theorem fk_loop : formK .loop = 11 := by decide
theorem fk_new : formK .new = 12 := by decide
theorem made_lab (cls : List Nat) (k : Kw) (p site id : Nat) (nm rg : List UInt8) (kids : List PT) (ks : List Ty) (st : TSt) (T : List Ty) (beh : Nat) (hkl : kids.length = (bodK k).length) (hl : ks.length = (bodK k).length) (h0 : st.e = 0)
  (hc : k = .pair → cls.getD site 0 = (valueL rg).toNat) (base : Nat)
  (hK : ∀ (j : Nat) (t : Ty), ks[j]? = some t → ∃ i : Nat, (partsL kids base).getD j (-1) = (i : Int) ∧ T[i]? = some t)
  (he : (nodeT2 cls k p site ks st).2.e = 0) (hsz : (nodeT2 cls k p site ks st).1.size ≤ 63) :
  (nodeT2 cls k p site ks st).2 = st ∧
  tyR T ⟨formK k, p, beh, 0, nm, valueL rg, -1, (partsL kids base).getD 0 (-1), (partsL kids base).getD 1 (-1), (partsL kids base).getD 2 (-1)⟩ = (nodeT2 cls k p site ks st).1 ∧
  (formK k = 4 → (Ty.p 0 (knownT T ((partsL kids base).getD 0 (-1))) (knownT T ((partsL kids base).getD 1 (-1)))).size ≤ 63) ∧
  ∀ (TY : List Ty) (U : Ty), (∀ (j : Nat) (t : Ty), ks[j]? = some t → tyAt TY (id + 1 + cntL (kids.take j)) = t) →
   vfT (T ++ [U]) ⟨formK k, p, beh, 0, nm, valueL rg, -1, (partsL kids base).getD 0 (-1), (partsL kids base).getD 1 (-1), (partsL kids base).getD 2 (-1)⟩ = vStep TY (.node p k nm rg kids, id, site) := by
 have hkn : ∀ (j : Nat) (t : Ty), ks[j]? = some t → knownT T ((partsL kids base).getD j (-1)) = t ∧ ∀ U, knownT (T ++ [U]) ((partsL kids base).getD j (-1)) = t := by
  intro j t ht
  obtain ⟨i, h1, h2⟩ := hK j t ht
  rw [h1]
  exact ⟨known_some h2, fun U => known_more [U] h2⟩
 have bad : ∀ (e q : Nat) (st : TSt), st.e = 0 → e ≠ 0 → (errS st e q).e ≠ 0 := by
  intro e q st h1 h2; unfold errS; rw [if_pos h1]; exact h2
 have h0k := hkn 0
 have h1k := hkn 1
 have h2k := hkn 2
 clear hK hkn
 generalize (partsL kids base).getD 0 (-1) = P0 at *
 generalize (partsL kids base).getD 1 (-1) = P1 at *
 generalize (partsL kids base).getD 2 (-1) = P2 at *
 cases k
 case let_ =>
  match ks, hl, kids, hkl, h1k with
  | [A, B], _, [a, b], _, h1k => simp [nodeT2, tyR, fk_let, vfT, vStep, (h1k B rfl).1]
 case pair =>
  match ks, hl, kids, hkl, h0k, h1k with
  | [A, B], _, [a, b], _, h0k, h1k =>
   have e : nodeT2 cls .pair p site [A, B] st = (.p (valueL rg).toNat A B, st) := by simp only [nodeT2, madeT, hc rfl]; rfl
   rw [e] at hsz ⊢
   refine ⟨rfl, by simp [tyR, fk_pair, (h0k A rfl).1, (h1k B rfl).1], fun _ => ?_, fun TY U _ => by simp [vfT, fk_pair, vStep]⟩
   rw [(h0k A rfl).1, (h1k B rfl).1]
   exact hsz
 case fst =>
  match ks, hl, kids, hkl, h0k with
  | [.p r A B], _, [a], _, h0k => simp [nodeT2, madeT, tyR, fk_fst, vfT, vStep, (h0k _ rfl).1, fstT]
  | [.n], _, [a], _, _ => exact absurd he (by simp only [nodeT2, madeT]; exact bad _ _ _ h0 (by decide))
 case snd =>
  match ks, hl, kids, hkl, h0k with
  | [.p r A B], _, [a], _, h0k => simp [nodeT2, madeT, tyR, fk_snd, vfT, vStep, (h0k _ rfl).1, sndT]
  | [.n], _, [a], _, _ => exact absurd he (by simp only [nodeT2, madeT]; exact bad _ _ _ h0 (by decide))
 case if_ =>
  match ks, hl, kids, hkl, h1k, h2k with
  | [A, B, C], _, [a, b, c], _, h1k, h2k =>
   by_cases hc : A = .n ∧ B.bare = C.bare
   ·have e : nodeT2 cls .if_ p site [A, B, C] st = (B, st) := by simp only [nodeT2, madeT]; rw [if_pos hc]; rfl
    rw [e]
    refine ⟨rfl, by simp [tyR, fk_if, (h1k B rfl).1], by simp [fk_if], ?_⟩
    intro TY U hT
    have t1 := hT 1 B rfl
    have t2 := hT 2 C rfl
    simp only [List.take, cntL, Nat.add_zero] at t1 t2
    rw [← Nat.add_assoc] at t2
    simp only [vfT, fk_if, vStep, (h1k B rfl).2, (h2k C rfl).2, t1, t2]
    by_cases hbc : B = C <;> simp [hbc]
   ·exact absurd he (by simp only [nodeT2, madeT]; rw [if_neg hc]; exact bad _ _ _ h0 (by decide))
 case loop =>
  match ks, hl, kids, hkl, h1k, h2k with
  | [A, B, C], _, [a, b, c], _, h1k, h2k =>
   by_cases hc : A = .n ∧ B.bare = C.bare
   ·have e : nodeT2 cls .loop p site [A, B, C] st = (B, st) := by simp only [nodeT2, madeT]; rw [if_pos hc]; rfl
    rw [e]
    refine ⟨rfl, by simp [tyR, fk_loop, (h1k B rfl).1], by simp [fk_loop], ?_⟩
    intro TY U hT
    have t1 := hT 1 B rfl
    have t2 := hT 2 C rfl
    simp only [List.take, cntL, Nat.add_zero] at t1 t2
    rw [← Nat.add_assoc] at t2
    simp only [vfT, fk_loop, vStep, (h1k B rfl).2, (h2k C rfl).2, t1, t2]
    by_cases hbc : B = C <;> simp [hbc]
   ·exact absurd he (by simp only [nodeT2, madeT]; rw [if_neg hc]; exact bad _ _ _ h0 (by decide))
 case new =>
  match ks, hl, kids, hkl, h0k with
  | [A], _, [a], _, h0k =>
   refine ⟨rfl, by simp [nodeT2, madeT, tyR, fk_new, (h0k A rfl).1], by simp [fk_new], ?_⟩
   intro TY U hT
   have t1 := hT 0 A rfl
   simp only [List.take, cntL, Nat.add_zero] at t1
   simp only [vfT, fk_new, vStep, (h0k A rfl).2, t1]
   by_cases hh : A.has (valueL rg) = true <;> simp [hh]
 all_goals
  match ks, hl, kids, hkl with
  | [A, B], _, [a, b], _ =>
   by_cases hc : A = .n ∧ B = .n
   ·simp only [nodeT2, madeT]
    rw [if_pos hc]
    simp [tyR, fk_add, fk_sub, fk_less, vfT, vStep]
   ·exact absurd he (by simp only [nodeT2, madeT]; rw [if_neg hc]; exact bad _ _ _ h0 (by decide))
theorem cntL_split (ts : List PT) (j : Nat) (hj : j < ts.length) : cntL (ts.take j) + ts[j].cnt ≤ cntL ts := by
 have h := cntL_take ts (j + 1)
 rw [List.take_succ_eq_append_getElem hj, cntL_snoc] at h
 exact h
theorem take_zero_cnt (ts : List PT) : cntL (ts.take 0) = 0 := by simp [cntL]
mutual
theorem lab (cls : List Nat) (hc : ∀ x ∈ cls, x < 1000) : ∀ (t : PT) (scope : Sc) (ns : List NR) (env : TEnv) (st : TSt) (T : List Ty) (id site : Nat), NA scope t T.length ns → envL T env scope → envOk env st → clsIn cls t.prl site → id + t.cnt ≤ st.of.length → (tyFind cls t id site env st).2.e = 0 →
  ∃ T', Lab T t.cnt ns T' st.of (tyFind cls t id site env st).2.of id (t.subs id site) ∧ T'[t.cnt - 1]? = some (tyFind cls t id site env st).1 ∧ (tyFind cls t id site env st).2.of[id]? = some (tyFind cls t id site env st).1.txt
 | .num p s, scope, ns, env, st, T, id, site, hn, hr, ho, hcl, hid, he => by
  simp only [NA] at hn
  subst hn
  simp only [PT.cnt] at hid
  simp only [tyFind] at he ⊢
  obtain ⟨f1, f2, f3⟩ := fin_of id p (Ty.n, st)
  rw [f1, f2]
  refine ⟨[.n], ?_, rfl, List.getElem?_set_self (show id < st.of.length by omega)⟩
  have := Lab.root (Lab.nil T st.of (id + 1)) ⟨1, p, p + s.length, valueL s, [], 0, -1, -1, -1, -1⟩ .n (.num p s, id, site) (by simp [tyR]) fit_n (by simp) (by omega) rfl (fun TY _ => by simp [vfT, vStep])
  exact this
 | .name p s, scope, ns, env, st, T, id, site, hn, hr, ho, hcl, hid, he => by
  simp only [NA] at hn
  subst hn
  have hres := tyFind_ok cls hc (.name p s) id site env st ho
  simp only [PT.cnt] at hid
  simp only [tyFind] at he hres ⊢
  rcases hr.look s with ⟨h1, h2⟩ | ⟨t, h1, h2, h3⟩
  ·rw [h1] at he
   simp only at he
   obtain ⟨_, _, f3⟩ := fin_of id p (Ty.n, errS st 4 p)
   have := (f3 he).1
   unfold errS at this
   split at this
   ·simp at this
   ·rename_i hh; exact absurd this hh
  ·rw [h1] at he hres ⊢
   simp only at he hres ⊢
   obtain ⟨f1, f2, f3⟩ := fin_of id p (t, st)
   have hfit := hres.1
   rw [f1] at hfit
   rw [f1, f2]
   refine ⟨[t], ?_, rfl, List.getElem?_set_self (show id < st.of.length by omega)⟩
   have := Lab.root (Lab.nil T st.of (id + 1)) ⟨2, p, p + s.length, 0, s, 0, findS scope s, -1, -1, -1⟩ t (.name p s, id, site) (by simp [tyR, h3]) hfit (by simp) (by omega) rfl (fun TY _ => by simp [vfT, vStep])
   exact this
 | .node p k nm rg kids, scope, ns, env, st, T, id, site, hn, hr, ho, hcl, hid, he => by
  simp only [NA] at hn
  obtain ⟨ks, beh, hks, rfl⟩ := hn
  have hb := hks.bods
  have hres := tyFind_ok cls hc (.node p k nm rg kids) id site env st ho
  simp only [PT.cnt] at hid
  simp only [PT.prl] at hcl
  have hlen : (tyB cls nm kids (bodK k) (id + 1) (site + if k = .pair then 1 else 0) env .n st).1.length = (bodK k).length := tyB_len cls nm kids (bodK k) _ _ _ _ _ hb
  have hcr : clsIn cls (prlL kids) (site + if k = .pair then 1 else 0) := by
   have := hcl.right
   by_cases hk : k = .pair
   ·simpa [hk] using this
   ·simpa [hk] using this
  have hK := labs cls hc nm kids (bodK k) scope ks env .n st T (id + 1) (site + if k = .pair then 1 else 0) hks hr ho fit_n (by simp [Ty.size]) (fun e => by revert e; cases k <;> simp [bodK]) hcr (by omega)
  rw [node_tyB cls p k nm rg kids id site env .n st hb] at he hres ⊢
  generalize tyB cls nm kids (bodK k) (id + 1) (site + if k = .pair then 1 else 0) env .n st = x at hK hlen he hres ⊢
  have e0 : x.2.e = 0 := by
   have := ((fin_of id p _).2.2 he).1
   by_cases hh : x.2.e ≠ 0 ∧ k ≠ .let_
   ·rw [if_pos hh] at this; exact this
   ·rw [if_neg hh] at this
    by_cases hk : k = .let_
    ·subst hk; simpa [nodeT2] using this
    ·exact Classical.byContradiction fun h => hh ⟨h, hk⟩
  have hcond : ¬ (x.2.e ≠ 0 ∧ k ≠ .let_) := fun h => h.1 e0
  rw [if_neg hcond] at he hres ⊢
  obtain ⟨T', hL, hP⟩ := hK e0
  obtain ⟨f1, f2, f3⟩ := fin_of id p (nodeT2 cls k p site x.1 x.2)
  obtain ⟨g1, g2⟩ := f3 he
  obtain ⟨m1, m2, m3, m4⟩ := made_lab cls k p site id nm rg kids x.1 x.2 (T ++ T') beh (by rw [hb]) hlen e0 (fun hk => by
   subst hk
   have := hcl 0 (p, rg) (by simp)
   simpa using this) T.length (fun j t ht => by obtain ⟨i, i1, i2, _⟩ := hP j t ht; exact ⟨i, i1, i2⟩) g1 g2
  have hfit := hres.1
  rw [f1] at hfit
  rw [f1, f2, m1]
  have hol : id < x.2.of.length := by rw [hL.ofl]; omega
  refine ⟨T' ++ [(nodeT2 cls k p site x.1 x.2).1], ?_, ?_, by rw [List.getElem?_set_self hol]⟩
  ·have := Lab.root hL _ _ (.node p k nm rg kids, id, site) m2 hfit m3 (by omega) rfl (fun TY hT => m4 TY _ (fun j t ht => by
    obtain ⟨i, _, _, i3⟩ := hP j t ht
    have hj : j < kids.length := by rw [← hb, ← hlen]; exact (List.getElem?_eq_some_iff.1 ht).1
    have hcj : cntL (kids.take j) < cntL kids := by
     have h1 := cntL_split kids j hj
     have h2 := cnt_pos kids[j]
     omega
    have := hT (id + 1 + cntL (kids.take j)) (by omega) (by omega)
    rw [i3] at this
    exact (txt_inj (Option.some.inj this)).symm))
   simpa [PT.cnt, PT.subs] using this
  ·have hl := hL.len
   rw [List.getElem?_append_right (by simp [PT.cnt]; omega)]
   simp [PT.cnt, hl]
theorem labs (cls : List Nat) (hc : ∀ x ∈ cls, x < 1000) (nm : List UInt8) : ∀ (ts : List PT) (bs : List Bool) (scope : Sc) (ns : List NR) (env : TEnv) (prev : Ty) (st : TSt) (T : List Ty) (id site : Nat), NAs scope nm ts bs T.length ns → envL T env scope → envOk env st → prev.fit → prev.size ≤ 63 → (bs.head? = some true → 0 < T.length ∧ T[T.length - 1]? = some prev) →
  clsIn cls (prlL ts) site → id + cntL ts ≤ st.of.length → (tyB cls nm ts bs id site env prev st).2.e = 0 →
  ∃ T', Lab T (cntL ts) ns T' st.of (tyB cls nm ts bs id site env prev st).2.of id (subsL ts id site) ∧ ∀ (j : Nat) (t : Ty), (tyB cls nm ts bs id site env prev st).1[j]? = some t → ∃ i : Nat, (partsL ts T.length).getD j (-1) = (i : Int) ∧ (T ++ T')[i]? = some t ∧ (tyB cls nm ts bs id site env prev st).2.of[id + cntL (ts.take j)]? = some t.txt
 | [], bs, scope, ns, env, prev, st, T, id, site, hn, _, _, _, _, _, _, _, _ => by
  simp only [NAs] at hn
  obtain ⟨rfl, rfl⟩ := hn
  simp only [tyB, cntL, subsL]
  exact ⟨[], Lab.nil _ _ _, fun j t h => by simp at h⟩
 | _ :: _, [], _, _, _, _, _, _, _, _, hn, _, _, _, _, _, _, _, _ => by simp [NAs] at hn
 | a :: r, b :: bs, scope, ns, env, prev, st, T, id, site, hn, hr, ho, hp1, hp2, hp3, hcl, hid, he => by
  simp only [NAs] at hn
  obtain ⟨na, nc, h1, h2, rfl⟩ := hn
  have hr' : envL T (if b then env ++ [(nm, prev)] else env) (if b then scope ++ [(nm, (T.length : Int) - 1)] else scope) := by
   cases b with
   | false => exact hr
   | true =>
    obtain ⟨hT0, hT1⟩ := hp3 rfl
    refine hr.app ⟨rfl, ?_, ?_, trivial⟩
    ·show (0 : Int) ≤ (T.length : Int) - 1; omega
    ·show T[((T.length : Int) - 1).toNat]? = _
     rw [show ((T.length : Int) - 1).toNat = T.length - 1 from by omega]; exact hT1
  have ho' : envOk (if b then env ++ [(nm, prev)] else env) st := by
   cases b with
   | false => exact ho
   | true =>
    constructor
    ·intro x hx
     rcases List.mem_append.1 hx with hx | hx
     ·exact ho.1 x hx
     ·rw [List.mem_singleton] at hx; subst hx; exact hp1
    ·intro e0 x hx
     rcases List.mem_append.1 hx with hx | hx
     ·exact ho.2 e0 x hx
     ·rw [List.mem_singleton] at hx; subst hx; exact hp2
  simp only [cntL] at hid
  simp only [prlL] at hcl
  have hA := lab cls hc a (if b then scope ++ [(nm, (T.length : Int) - 1)] else scope) na (if b then env ++ [(nm, prev)] else env) st T id site h1 hr' ho' hcl.left (by omega)
  have hR := tyFind_ok cls hc a id site (if b then env ++ [(nm, prev)] else env) st ho'
  simp only [tyB] at he ⊢
  generalize tyFind cls a id site (if b then env ++ [(nm, prev)] else env) st = x at hA hR he ⊢
  have e0 : x.2.e = 0 := Classical.byContradiction fun h => by
   have hs := tyB_stay cls nm r bs (id + a.cnt) (site + a.prs) env x.1 x.2 h
   rw [hs.1] at he
   exact h he
  obtain ⟨T1, hL, hT1, hof⟩ := hA e0
  have hl1 : (T ++ T1).length = T.length + a.cnt := by simp [hL.len]
  have hcp := cnt_pos a
  have hst0 : st.e = 0 := (hR.2.1 e0).1
  have hlast : (T ++ T1)[T.length + a.cnt - 1]? = some x.1 := by
   rw [List.getElem?_append_right (by omega), show T.length + a.cnt - 1 - T.length = a.cnt - 1 from by omega]; exact hT1
  have hB := labs cls hc nm r bs scope nc env x.1 x.2 (T ++ T1) (id + a.cnt) (site + a.prs) (by rw [hl1]; exact h2) hr.more (ho.on (fun _ => hst0)) hR.1 (hR.2.1 e0).2 (fun _ => ⟨by omega, by rw [hl1]; exact hlast⟩) (by have := hcl.right; rwa [prl_len] at this) (by rw [hL.ofl]; omega)
  generalize tyB cls nm r bs (id + a.cnt) (site + a.prs) env x.1 x.2 = y at hB he ⊢
  obtain ⟨T2, hM, hP2⟩ := hB he
  refine ⟨T1 ++ T2, ?_, ?_⟩
  ·simp only [cntL, subsL]
   exact hL.app hM
  ·intro j t hj
   cases j with
   | zero =>
    simp only [List.getElem?_cons_zero, Option.some.injEq] at hj
    subst hj
    refine ⟨T.length + a.cnt - 1, ?_, ?_, ?_⟩
    ·simp only [partsL, List.getD_cons_zero]; omega
    ·rw [← List.append_assoc, List.getElem?_append_left (by omega)]; exact hlast
    ·rw [take_zero_cnt, Nat.add_zero, hM.out id (by omega)]; exact hof
   | succ j =>
    simp only [List.getElem?_cons_succ] at hj
    obtain ⟨i, i1, i2, i3⟩ := hP2 j t hj
    rw [hl1] at i1
    refine ⟨i, ?_, by rw [← List.append_assoc]; exact i2, ?_⟩
    ·simp only [partsL, List.getD_cons_succ]; exact i1
    ·simp only [List.take_succ_cons, cntL]
     rw [← Nat.add_assoc]; exact i3
end
theorem lab_root (e : PT) (ns : List NR) (hna : NA [] e 0 ns) (h3 : e.rg3) (he : (tyFind (clsOf e) e 0 0 [] (st0 e)).2.e = 0) :
  SzOk [] ns ∧ ∃ TY : List Ty, TY.length = e.cnt ∧ (∀ T ∈ TY, T.fit) ∧ (tyFind (clsOf e) e 0 0 [] (st0 e)).2.of = TY.map Ty.txt ∧ plT [] ns = vetL TY (e.subs 0 0) := by
 have hl0 : (st0 e).of.length = e.cnt := by simp [st0]
 obtain ⟨T', hL, _, _⟩ := lab (clsOf e) (clsOf_lt h3) e [] ns [] (st0 e) [] 0 0 hna trivial ⟨fun x hx => by simp at hx, fun _ x hx => by simp at hx⟩ (fun i x hx => by
  rw [Nat.zero_add]
  unfold clsOf
  rw [List.getD_eq_getElem?_getD, List.getElem?_map, hx]; rfl) (by omega) he
 refine ⟨hL.sz, ?_⟩
 generalize (tyFind (clsOf e) e 0 0 [] (st0 e)).2.of = of at hL
 have hch : ∀ k : Nat, ∃ U : Ty, U.fit ∧ (k < e.cnt → of[k]? = some U.txt) := by
  intro k
  by_cases hk : k < e.cnt
  ·obtain ⟨U, u1, u2⟩ := hL.inn k (Nat.zero_le _) (by omega)
   exact ⟨U, u1, fun _ => u2⟩
  ·exact ⟨.n, fit_n, fun h => absurd h hk⟩
 have hof : of.length = e.cnt := by rw [hL.ofl, hl0]
 let f : Nat → Ty := fun k => Classical.choose (hch k)
 have hf : ∀ k, (f k).fit ∧ (k < e.cnt → of[k]? = some (f k).txt) := fun k => Classical.choose_spec (hch k)
 have hat : ∀ k, k < e.cnt → tyAt ((List.range e.cnt).map f) k = f k := by
  intro k hk
  unfold tyAt
  rw [List.getElem?_map, List.getElem?_range hk]; rfl
 refine ⟨(List.range e.cnt).map f, by simp, ?_, ?_, ?_⟩
 ·intro T hT
  obtain ⟨k, _, rfl⟩ := List.mem_map.1 hT
  exact (hf k).1
 ·apply List.ext_getElem?
  intro k
  by_cases hk : k < e.cnt
  ·rw [(hf k).2 hk, List.getElem?_map, List.getElem?_map, List.getElem?_range hk]; rfl
  ·rw [List.getElem?_eq_none (by omega), List.getElem?_eq_none (by simp; omega)]
 ·refine hL.pl _ (fun k _ h2 => ?_)
  rw [Nat.zero_add] at h2
  rw [hat k h2]; exact (hf k).2 h2
end Go.Proofs.YtpicaknklgccoaaDoor
namespace Go.Proofs.YtpicaknklgccoaaDoor
open Go.RowKit
mutual
theorem NA.rgn : ∀ {scope : Sc} {t : PT} {base : Nat} {ns : List NR}, NA scope t base ns → t.rg3 → ∀ n ∈ ns, 0 ≤ n.region
 | _, .num p s, _, _, h, _, n, hn => by simp only [NA] at h; subst h; rw [List.mem_singleton] at hn; subst hn; exact Int.le_refl _
 | _, .name p s, _, _, h, _, n, hn => by simp only [NA] at h; subst h; rw [List.mem_singleton] at hn; subst hn; exact Int.le_refl _
 | _, .node p k nm rg kids, _, _, h, h3, n, hn => by
  simp only [NA] at h
  obtain ⟨ks, beh, hk, rfl⟩ := h
  simp only [PT.rg3] at h3
  rcases List.mem_append.1 hn with hn | hn
  ·exact hk.rgn h3.2 n hn
  ·rw [List.mem_singleton] at hn; subst hn; simp only; omega
theorem NAs.rgn : ∀ {scope : Sc} {nm : List UInt8} {ts : List PT} {bs : List Bool} {base : Nat} {ns : List NR}, NAs scope nm ts bs base ns → rg3L ts → ∀ n ∈ ns, 0 ≤ n.region
 | _, _, [], _, _, _, h, _, n, hn => by simp only [NAs] at h; rw [h.2] at hn; simp at hn
 | _, _, _ :: _, [], _, _, h, _, n, hn => by simp [NAs] at h
 | _, _, t :: r, b :: bs, _, _, h, h3, n, hn => by
  simp only [NAs] at h
  obtain ⟨a, c, h1, h2, rfl⟩ := h
  simp only [rg3L] at h3
  rcases List.mem_append.1 hn with hn | hn
  ·exact h1.rgn h3.1 n hn
  ·exact h2.rgn h3.2 n hn
end
theorem map_txt_inj : ∀ {A B : List Ty}, A.map Ty.txt = B.map Ty.txt → A = B
 | [], [], _ => rfl
 | [], _ :: _, h => by simp at h
 | _ :: _, [], h => by simp at h
 | a :: A, b :: B, h => by
  simp only [List.map_cons, List.cons.injEq] at h
  rw [txt_inj h.1, map_txt_inj h.2]
theorem cls_ansV (e : PT) (hm : e.prs ≤ 100) : (tyFind (clsOf e) e 0 0 [] (st0 e)).2.e = (chkAns e).1 ∧ (tyFind (clsOf e) e 0 0 [] (st0 e)).2.at_ = (chkAns e).2 := by
 have h := (tyFind_cls (clsOf e) (List.range e.prs) e 0 0 0 0 [] [] (st0 e) (st0 e) rfl ⟨rfl, rfl⟩).2
 unfold chkAns
 rw [if_neg (by omega)]
 exact h
set_option maxRecDepth 100000 in
set_option maxHeartbeats 2000000 in
theorem Vets_of (s : ByteArray) (w : World) (x y : Nat) (h1 : Calls Tryd.prog 11 #[.string s] w fun v w' => v = .returned (.tuple #[.int .i64 x, .int .i64 y]) ∧ Below w.heap.size w w')
  (h2 : ∀ w', Below w.heap.size w w' → Calls Tryd.prog 12 #[.string s] w' fun v w'' => v = .returned (.tuple #[.int .i64 x, .int .i64 y]) ∧ Below w'.heap.size w' w'') :
  Calls Tryd.prog 5 #[.string s] w fun v w' => v = .returned (.bool true) ∧ Below w.heap.size w w' := by
 have e1 : ((x : Int) == (x : Int)) = true := by simp
 have e2 : ((y : Int) == (y : Int)) = true := by simp
 have hnum : ∀ w, Calls Tryd.prog 8 #[.int .i64 x] w fun v w' => v = .returned (.int .i64 x) ∧ w' = w := by
  intro w
  go_enter Tryd.func8, Tryd.ntmps8
  go_wp2
  go_ret
  exact ⟨rfl, rfl⟩
 have HH : Hid _ := h2
 clear h2
 go_enter Tryd.func5, Tryd.ntmps5
 go_wp2_with fail
 refine h1.mono ?_
 rintro _ w1 ⟨rfl, hb1⟩
 have HB1 : Hid _ := hb1
 have hh := HH.out _ hb1
 clear hb1 h1 HH
 go_wp2_with fail
 refine Calls.mono hh ?_
 rintro _ w2 ⟨rfl, hb2⟩
 have HB2 : Hid _ := HB1.out.trans (hb2.mono HB1.out.size)
 clear hb2 hh HB1
 go_wp2_with fail
 refine (hnum _).mono ?_
 rintro _ _ ⟨rfl, rfl⟩
 go_wp2
 go_ret
 exact ⟨rfl, HB2.out⟩
theorem study_out {w1 w' wz : World} {e : PT} {TY : List Ty} {b yb : Nat} {cv nv tv ov : Value} {st : TSt} (hb : Below w1.heap.size w1 w') (hT : IsT w' (fun k => k < w'.heap.size) e 0 0 b) (hin : TyIn wz w' yb (clsOf e) cv nv tv ov [] st) (hof : st.of = TY.map Ty.txt) (hpos : 0 < TY.length) : StOut w1 w' e TY b yb := by
 have ho := hin.o
 have hl : st.of.length = TY.length := by rw [hof, List.length_map]
 rw [hl] at ho
 obtain ⟨go, oc, rfl⟩ := slice_of ho hpos
 refine ⟨hb, hT, blk_lt hin.y, go, oc, by rw [blk_cell hin.y]; rfl, (ho.lt go rfl).2, ?_⟩
 intro k T hk
 have hkl := (List.getElem?_eq_some_iff.1 hk).1
 rw [ho.cellAt k (by omega), hof, List.map_map, List.getElem?_map, hk]; rfl
theorem Vets_any (s : ByteArray) (w : World) (hm : s.size ≤ maxLen) (htab : Lib.TabIs Tryd.prog w "internal/strconv.uint64pow10" .u64 Lib.pow10Tab) : Calls Tryd.prog 5 #[.string s] w fun v w' => v = .returned (.bool true) ∧ Below w.heap.size w w' := by
 by_cases hs : 9000 < s.size
 ·exact Vets_of s w 1 0 (leaseVet_bad s w 1 0 (by omega) (fun w => (readPlacedV_bad s w 1 0 (by omega) (fun w => parsePlaced_long s w hs hm)).mono fun _ _ ⟨h, hb⟩ => ⟨_, _, _, _, _, _, h, hb⟩)) (fun w _ => refVet_bad s w 1 0 (by omega) (fun w _ => (StudyP_long s w hs hm).mono fun _ _ ⟨h, hb⟩ => ⟨_, _, h, hb⟩))
 ·cases hf : formOf true s.data.toList with
  | some q => exact Vets_of s w 2 q (leaseVet_bad s w 2 q (by omega) (fun w => (readPlacedV_bad s w 2 q (by omega) (fun w => parsePlaced_form s w (by omega) q hf)).mono fun _ _ ⟨h, hb⟩ => ⟨_, _, _, _, _, _, h, hb⟩)) (fun w _ => refVet_bad s w 2 q (by omega) (fun w _ => (StudyP_form s w (by omega) q hf).mono fun _ _ ⟨h, hb⟩ => ⟨_, _, h, hb⟩))
  | none =>
   obtain ⟨e, hp⟩ := form_none hf
   have hit : ∀ w', Below w.heap.size w w' → ItoaOk w' := fun w' hb => itoa_ok w' (Lib.tabBelow_of_tabIs htab w' hb)
   have h3 := (hp.rg3 (tokens_rg _)).1
   have hcnt := Study_len hp
   by_cases hc : (chkAns e).1 = 0
   ·have hprs : e.prs ≤ 100 := by
     unfold chkAns at hc
     split at hc
     ·simp at hc
     ·omega
    have h0 : (tyFind (clsOf e) e 0 0 [] (st0 e)).2.e = 0 := (cls_ansV e hprs).1.trans hc
    obtain ⟨ns0, hna0, hpg⟩ := prog_yes (len := s.size) hp
    have hps := prog_pos (placed := true) (len := s.size) hp (tokens_okU s.data.toList)
    rw [hpg] at hps
    obtain ⟨_, TY, hTl, hfit, hof, _⟩ := lab_root e ns0 hna0 h3 h0
    have hgd := al_of hna0 hps
    have hga := (hps.good 0 0).2
    have hpos : ∀ r ∈ e.recs 0 0, r.p ≤ 9000 := by
     intro r hr
     obtain ⟨n, hz⟩ := hgd.f3 r hr
     have h1 := (hgd.br _ hz).p
     have h2 := hga.a _ hz
     simp only at h1 h2
     omega
    refine Vets_of s w (vetAnsR e TY).1 (vetAnsR e TY).2 (leaseVet_ok s w e (chkAns e).2 (vetAnsR e TY) (fun w => ?_) (fun w' x1 n1 c1 x2 n2 c2 ns hTr hna => ?_)) (fun w' hb' => refVet_ok s w' e TY hfit (by omega) hTl hp.wf hpos (fun w1 hb1 => ?_))
    ·have := readPlaced_pos s w (by omega) e hp
     rw [hc] at this
     exact this
    ·obtain ⟨hsz, TY', _, _, hof', hpl⟩ := lab_root e ns hna.1 h3 h0
     have hTT : TY' = TY := map_txt_inj (by rw [← hof', ← hof])
     subst hTT
     rw [← vet_eq hna.1 hna.2 hpl]
     exact vetProgram_any w' _ _ ns (opn e 0) hTr (op_ok hna.1) (by have := hna.1.len; omega) (hna.1.small (fun _ h => by simp at h) (by omega)) (hna.1.rgn h3) hsz
    ·refine (StudyP_ok s w1 (by omega) e hp hf hprs (fun w2 hb2 => hit w2 ((hb'.trans (hb1.mono hb'.size)).trans (hb2.mono (Nat.le_trans hb'.size hb1.size))))).mono fun _ w2 ⟨b, yb, h, hb, hT, wz, cv, nv, tv, ov, _, _, hin⟩ => ⟨b, yb, ((tyFind (clsOf e) e 0 0 [] (st0 e)).2.at_ : Int), ?_, study_out hb hT hin hof (by rw [hTl]; exact cnt_pos e)⟩
     rw [h, h0]; rfl
   ·have hx : (chkAns e).1 ≠ 0 := hc
    refine Vets_of s w (chkAns e).1 (chkAns e).2 (leaseVet_bad s w (chkAns e).1 (chkAns e).2 hx (fun w => (readPlaced_pos s w (by omega) e hp).mono fun _ _ ⟨x1, n1, c1, x2, n2, c2, _, h, hb, _⟩ => ⟨x1, n1, c1, x2, n2, c2, h, hb⟩)) (fun w1 hb1 => refVet_bad s w1 (chkAns e).1 (chkAns e).2 hx (fun w2 hb2 => ?_))
    by_cases hmm : 100 < e.prs
    ·refine (StudyP_many s w2 (by omega) e hp hf hmm).mono fun _ _ ⟨q, h, hq, hb⟩ => ⟨none, none, ?_, hb⟩
     rw [h]
     unfold chkAns
     rw [if_pos hmm, hq]; rfl
    ·rw [← (cls_ansV e (by omega)).1, ← (cls_ansV e (by omega)).2]
     exact (StudyP_ok s w2 (by omega) e hp hf (by omega) (fun w' hb => hit w' ((hb1.trans (hb2.mono hb1.size)).trans (hb.mono (Nat.le_trans hb1.size hb2.size))))).mono fun _ _ ⟨b, yb, h, hb, _⟩ => ⟨some ⟨b, 0, none⟩, some ⟨yb, 0, none⟩, h, hb⟩
end Go.Proofs.YtpicaknklgccoaaDoor
