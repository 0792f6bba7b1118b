import Derived.Test.YtpicaknklgccoabGreatDoorX16
import Derived.Test.YtpicaknklgccoabGreatDoorX1
namespace Go.Proofs.YtpicaknklgccoabGreatDoor
def envL (T : List Ty) : TEnv → Sc → Prop
 | [], [] => True
 | x :: e, y :: s => x.1 = y.1 ∧ 0 ≤ y.2 ∧ T[y.2.toNat]? = some x.2 ∧ envL T e s
 | _, _ => False
theorem envL.app {T : List Ty} : ∀ {e e' : TEnv} {s s' : Sc}, envL T e s → envL T e' s' → envL T (e ++ e') (s ++ s')
 | [], _, [], _, _, h => h
 | _ :: _, _, _ :: _, _, h, h' => ⟨h.1, h.2.1, h.2.2.1, envL.app h.2.2.2 h'⟩
 | [], _, _ :: _, _, h, _ => h.elim
 | _ :: _, _, [], _, h, _ => h.elim
theorem envL.rev {T : List Ty} : ∀ {e : TEnv} {s : Sc}, envL T e s → envL T e.reverse s.reverse
 | [], [], _ => trivial
 | _ :: _, _ :: _, h => by
  rw [List.reverse_cons, List.reverse_cons]
  exact envL.app (envL.rev h.2.2.2) ⟨h.1, h.2.1, h.2.2.1, trivial⟩
 | [], _ :: _, h => h.elim
 | _ :: _, [], h => h.elim
theorem envL.more {T T' : List Ty} : ∀ {e : TEnv} {s : Sc}, envL T e s → envL (T ++ T') e s
 | [], [], _ => trivial
 | _ :: _, _ :: _, h => ⟨h.1, h.2.1, by
   have h3 := h.2.2.1
   rw [List.getElem?_append_left (List.getElem?_eq_some_iff.1 h3).1]; exact h3, envL.more h.2.2.2⟩
 | [], _ :: _, h => h.elim
 | _ :: _, [], h => h.elim
theorem envL.find {T : List Ty} (w : List UInt8) : ∀ {e : TEnv} {s : Sc}, envL T e s →
  (e.find? (fun x => x.1 == w) = none ∧ s.find? (fun x => x.1 == w) = none) ∨ (∃ x y, e.find? (fun x => x.1 == w) = some x ∧ s.find? (fun x => x.1 == w) = some y ∧ 0 ≤ y.2 ∧ T[y.2.toNat]? = some x.2)
 | [], [], _ => Or.inl ⟨rfl, rfl⟩
 | x :: _, y :: _, h => by
  rw [List.find?_cons, List.find?_cons, ← h.1]
  by_cases hw : (x.1 == w) = true
  ·rw [hw]; exact Or.inr ⟨x, y, rfl, rfl, h.2.1, h.2.2.1⟩
  ·have hw' : (x.1 == w) = false := by simpa using hw
   rw [hw']; exact envL.find w h.2.2.2
 | [], _ :: _, h => h.elim
 | _ :: _, [], h => h.elim
theorem envL.look {T : List Ty} {e : TEnv} {s : Sc} (h : envL T e s) (w : List UInt8) :
  (look e w = none ∧ findS s w = -1) ∨ (∃ t, look e w = some t ∧ findS s w ≠ -1 ∧ knownT T (findS s w) = t) := by
 rcases h.rev.find w with ⟨h1, h2⟩ | ⟨x, y, h1, h2, h3, h4⟩
 ·left; unfold Go.Proofs.YtpicaknklgccoabGreatDoor.look findS; rw [h1, h2]; exact ⟨rfl, rfl⟩
 ·right
  refine ⟨x.2, ?_, ?_, ?_⟩
  ·unfold Go.Proofs.YtpicaknklgccoabGreatDoor.look; rw [h1]; rfl
  ·unfold findS; rw [h2]; simp only; omega
  ·unfold findS knownT; rw [h2]; simp only; rw [if_pos h3, h4]; rfl
def tyRun : List Ty → List NR → List Ty
 | T, [] => T
 | T, n :: r => tyRun (T ++ [tyR T n]) r
theorem tyRun_app : ∀ (a b : List NR) (T : List Ty), tyRun T (a ++ b) = tyRun (tyRun T a) b
 | [], _, _ => rfl
 | n :: r, b, T => by simp only [List.cons_append, tyRun]; exact tyRun_app r b _
theorem SzOk_app : ∀ (a b : List NR) (T : List Ty), SzOk T a → SzOk (tyRun T a) b → SzOk T (a ++ b)
 | [], _, _, _, h => h
 | n :: r, b, T, h, h' => by
  simp only [List.cons_append, SzOk] at h ⊢
  exact ⟨h.1, SzOk_app r b _ h.2 h'⟩
theorem plT_app : ∀ (a b : List NR) (T : List Ty), plT T (a ++ b) = if (plT T a).1 ≠ 0 then plT T a else plT (tyRun T a) b
 | [], _, _ => by simp [plT, tyRun]
 | n :: r, b, T => by
  have e1 : plT T (n :: (r ++ b)) = if vfT (T ++ [tyR T n]) n ≠ 0 then (vfT (T ++ [tyR T n]) n, n.at_) else plT (T ++ [tyR T n]) (r ++ b) := rfl
  have e2 : plT T (n :: r) = if vfT (T ++ [tyR T n]) n ≠ 0 then (vfT (T ++ [tyR T n]) n, n.at_) else plT (T ++ [tyR T n]) r := rfl
  by_cases h : vfT (T ++ [tyR T n]) n ≠ 0
  ·rw [if_pos h] at e1 e2; rw [List.cons_append, e1, e2, if_pos h]
  ·rw [if_neg h] at e1 e2; rw [List.cons_append, e1, e2, plT_app r b]; rfl
theorem vetL_app (TY : List Ty) : ∀ (a b : List (PT × Nat × Nat)), vetL TY (a ++ b) = if (vetL TY a).1 ≠ 0 then vetL TY a else vetL TY b
 | [], _ => by simp [vetL]
 | x :: r, b => by
  have e1 : vetL TY (x :: (r ++ b)) = if vStep TY x ≠ 0 then (vStep TY x, x.1.at0) else vetL TY (r ++ b) := rfl
  have e2 : vetL TY (x :: r) = if vStep TY x ≠ 0 then (vStep TY x, x.1.at0) else vetL TY r := rfl
  by_cases h : vStep TY x ≠ 0
  ·rw [if_pos h] at e1 e2; rw [List.cons_append, e1, e2, if_pos h]
  ·rw [if_neg h] at e1 e2; rw [List.cons_append, e1, e2, vetL_app TY r b]
structure Lab (T : List Ty) (c : Nat) (ns : List NR) (T' : List Ty) (of of' : List (List UInt8)) (id : Nat) (xs : List (PT × Nat × Nat)) : Prop where
 run : tyRun T ns = T ++ T'
 len : T'.length = c
 sz : SzOk T ns
 out : ∀ k, k < id ∨ id + c ≤ k → of'[k]? = of[k]?
 ofl : of'.length = of.length
 inn : ∀ k, id ≤ k → k < id + c → ∃ U : Ty, U.fit ∧ of'[k]? = some U.txt
 pl : ∀ TY : List Ty, (∀ k, id ≤ k → k < id + c → of'[k]? = some (tyAt TY k).txt) → plT T ns = vetL TY xs
theorem Lab.nil (T : List Ty) (of : List (List UInt8)) (id : Nat) : Lab T 0 [] [] of of id [] :=
 ⟨by simp [tyRun], rfl, trivial, fun _ _ => rfl, rfl, fun k h1 h2 => by omega, fun _ _ => rfl⟩
theorem Lab.app {T : List Ty} {c1 c2 : Nat} {n1 n2 : List NR} {T1 T2 : List Ty} {o o1 o2 : List (List UInt8)} {id : Nat} {x1 x2 : List (PT × Nat × Nat)} (h : Lab T c1 n1 T1 o o1 id x1) (g : Lab (T ++ T1) c2 n2 T2 o1 o2 (id + c1) x2) : Lab T (c1 + c2) (n1 ++ n2) (T1 ++ T2) o o2 id (x1 ++ x2) := by
 refine ⟨?_, ?_, ?_, ?_, ?_, ?_, ?_⟩
 ·rw [tyRun_app, h.run, g.run, List.append_assoc]
 ·rw [List.length_append, h.len, g.len]
 ·exact SzOk_app _ _ _ h.sz (by rw [h.run]; exact g.sz)
 ·intro k hk; rw [g.out k (by omega), h.out k (by omega)]
 ·rw [g.ofl, h.ofl]
 ·intro k h1 h2
  by_cases hk : k < id + c1
  ·obtain ⟨U, u1, u2⟩ := h.inn k h1 hk
   exact ⟨U, u1, by rw [g.out k (by omega)]; exact u2⟩
  ·exact g.inn k (by omega) (by omega)
 ·intro TY hT
  rw [plT_app, vetL_app, h.run, h.pl TY (fun k h1 h2 => by rw [← g.out k (by omega)]; exact hT k h1 (by omega)), g.pl TY (fun k h1 h2 => hT k (by omega) (by omega))]
theorem Lab.root {T : List Ty} {c : Nat} {ks : List NR} {T' : List Ty} {o o1 : List (List UInt8)} {id : Nat} {xs : List (PT × Nat × Nat)} (h : Lab T c ks T' o o1 (id + 1) xs) (n : NR) (U : Ty) (x : PT × Nat × Nat) (hU : tyR (T ++ T') n = U) (hf : U.fit) (hs : n.form = 4 → (Ty.p 0 (knownT (T ++ T') n.p0) (knownT (T ++ T') n.p1)).size ≤ 63) (hid : id < o.length) (hat : n.at_ = x.1.at0)
  (hv : ∀ TY : List Ty, (∀ k, id + 1 ≤ k → k < id + 1 + c → o1[k]? = some (tyAt TY k).txt) → vfT (T ++ T' ++ [U]) n = vStep TY x) :
  Lab T (1 + c) (ks ++ [n]) (T' ++ [U]) o (o1.set id U.txt) id (xs ++ [x]) := by
 have ho : ∀ k, k ≠ id → (o1.set id U.txt)[k]? = o1[k]? := fun k hk => List.getElem?_set_ne (fun e => hk e.symm)
 have hi : (o1.set id U.txt)[id]? = some U.txt := by rw [List.getElem?_set_self (by rw [h.ofl]; exact hid)]
 refine ⟨?_, ?_, ?_, ?_, ?_, ?_, ?_⟩
 ·rw [tyRun_app, h.run]; simp only [tyRun, hU, List.append_assoc]
 ·rw [List.length_append, h.len]; simp; omega
 ·exact SzOk_app _ _ _ h.sz (by rw [h.run]; exact ⟨hs, trivial⟩)
 ·intro k hk; rw [ho k (by omega), h.out k (by omega)]
 ·rw [List.length_set, h.ofl]
 ·intro k h1 h2
  by_cases e : k = id
  ·subst e; exact ⟨U, hf, hi⟩
  ·obtain ⟨V, v1, v2⟩ := h.inn k (by omega) (by omega)
   exact ⟨V, v1, by rw [ho k e]; exact v2⟩
 ·intro TY hT
  have hT' : ∀ k, id + 1 ≤ k → k < id + 1 + c → o1[k]? = some (tyAt TY k).txt := fun k h1 h2 => by rw [← ho k (by omega)]; exact hT k (by omega) (by omega)
  rw [plT_app, vetL_app, h.run, h.pl TY hT']
  simp only [plT, vetL, hU, hv TY hT', hat]
theorem fin_of (id p : Nat) (x : Ty × TSt) : (fin id p x).1 = x.1 ∧ (fin id p x).2.of = x.2.of.set id x.1.txt ∧ ((fin id p x).2.e = 0 → x.2.e = 0 ∧ x.1.size ≤ 63) := by
 unfold fin
 refine ⟨rfl, ?_, ?_⟩
 ·simp only
  split
  ·unfold errS; split <;> rfl
  ·rfl
 ·simp only
  split
  ·rename_i h
   unfold errS; rw [if_pos h.1]; intro h'; simp at h'
  ·rename_i h
   intro h'
   exact ⟨h', by omega⟩
def clsIn (cls : List Nat) (l : List (Nat × List UInt8)) (site : Nat) : Prop := ∀ (i : Nat) (x : Nat × List UInt8), l[i]? = some x → cls.getD (site + i) 0 = (valueL x.2).toNat
theorem clsIn.left {cls : List Nat} {a b : List (Nat × List UInt8)} {site : Nat} (h : clsIn cls (a ++ b) site) : clsIn cls a site :=
 fun i x hx => h i x (by rw [List.getElem?_append_left (List.getElem?_eq_some_iff.1 hx).1]; exact hx)
theorem clsIn.right {cls : List Nat} {a b : List (Nat × List UInt8)} {site : Nat} (h : clsIn cls (a ++ b) site) : clsIn cls b (site + a.length) := by
 intro i x hx
 have := h (a.length + i) x (by rw [List.getElem?_append_right (by omega), Nat.add_sub_cancel_left]; exact hx)
 rw [Nat.add_assoc]; exact this
theorem known_more {T : List Ty} {i : Nat} {t : Ty} (U : List Ty) (h : T[i]? = some t) : knownT (T ++ U) (i : Int) = t :=
 known_some (by rw [List.getElem?_append_left (List.getElem?_eq_some_iff.1 h).1]; exact h)
theorem fk_let : formK .let_ = 3 := by decide
theorem fk_pair : formK .pair = 4 := by decide
theorem fk_fst : formK .fst = 5 := by decide
theorem fk_snd : formK .snd = 6 := by decide
theorem fk_if : formK .if_ = 7 := by decide
theorem fk_add : formK .add = 8 := by decide
theorem fk_sub : formK .sub = 9 := by decide
theorem fk_less : formK .less = 10 := by decide
theorem fk_loop : formK .loop = 11 := by decide
theorem fk_new : formK .new = 12 := by decide
theorem made_lab (cls : List Nat) (k : Kw) (p site id : Nat) (nm rg : List UInt8) (kids : List PT) (ks : List Ty) (st : TSt) (T : List Ty) (beh : Nat) (hkl : kids.length = (bodK k).length) (hl : ks.length = (bodK k).length) (h0 : st.e = 0)
  (hc : k = .pair → cls.getD site 0 = (valueL rg).toNat) (base : Nat)
  (hK : ∀ (j : Nat) (t : Ty), ks[j]? = some t → ∃ i : Nat, (partsL kids base).getD j (-1) = (i : Int) ∧ T[i]? = some t)
  (he : (nodeT2 cls k p site ks st).2.e = 0) (hsz : (nodeT2 cls k p site ks st).1.size ≤ 63) :
  (nodeT2 cls k p site ks st).2 = st ∧
  tyR T ⟨formK k, p, beh, 0, nm, valueL rg, -1, (partsL kids base).getD 0 (-1), (partsL kids base).getD 1 (-1), (partsL kids base).getD 2 (-1)⟩ = (nodeT2 cls k p site ks st).1 ∧
  (formK k = 4 → (Ty.p 0 (knownT T ((partsL kids base).getD 0 (-1))) (knownT T ((partsL kids base).getD 1 (-1)))).size ≤ 63) ∧
  ∀ (TY : List Ty) (U : Ty), (∀ (j : Nat) (t : Ty), ks[j]? = some t → tyAt TY (id + 1 + cntL (kids.take j)) = t) →
   vfT (T ++ [U]) ⟨formK k, p, beh, 0, nm, valueL rg, -1, (partsL kids base).getD 0 (-1), (partsL kids base).getD 1 (-1), (partsL kids base).getD 2 (-1)⟩ = vStep TY (.node p k nm rg kids, id, site) := by
 have hkn : ∀ (j : Nat) (t : Ty), ks[j]? = some t → knownT T ((partsL kids base).getD j (-1)) = t ∧ ∀ U, knownT (T ++ [U]) ((partsL kids base).getD j (-1)) = t := by
  intro j t ht
  obtain ⟨i, h1, h2⟩ := hK j t ht
  rw [h1]
  exact ⟨known_some h2, fun U => known_more [U] h2⟩
 have bad : ∀ (e q : Nat) (st : TSt), st.e = 0 → e ≠ 0 → (errS st e q).e ≠ 0 := by
  intro e q st h1 h2; unfold errS; rw [if_pos h1]; exact h2
 have h0k := hkn 0
 have h1k := hkn 1
 have h2k := hkn 2
 clear hK hkn
 generalize (partsL kids base).getD 0 (-1) = P0 at *
 generalize (partsL kids base).getD 1 (-1) = P1 at *
 generalize (partsL kids base).getD 2 (-1) = P2 at *
 cases k
 case let_ =>
  match ks, hl, kids, hkl, h1k with
  | [A, B], _, [a, b], _, h1k => simp [nodeT2, tyR, fk_let, vfT, vStep, (h1k B rfl).1]
 case pair =>
  match ks, hl, kids, hkl, h0k, h1k with
  | [A, B], _, [a, b], _, h0k, h1k =>
   have e : nodeT2 cls .pair p site [A, B] st = (.p (valueL rg).toNat A B, st) := by simp only [nodeT2, madeT, hc rfl]; rfl
   rw [e] at hsz ⊢
   refine ⟨rfl, by simp [tyR, fk_pair, (h0k A rfl).1, (h1k B rfl).1], fun _ => ?_, fun TY U _ => by simp [vfT, fk_pair, vStep]⟩
   rw [(h0k A rfl).1, (h1k B rfl).1]
   exact hsz
 case fst =>
  match ks, hl, kids, hkl, h0k with
  | [.p r A B], _, [a], _, h0k => simp [nodeT2, madeT, tyR, fk_fst, vfT, vStep, (h0k _ rfl).1, fstT]
  | [.n], _, [a], _, _ => exact absurd he (by simp only [nodeT2, madeT]; exact bad _ _ _ h0 (by decide))
 case snd =>
  match ks, hl, kids, hkl, h0k with
  | [.p r A B], _, [a], _, h0k => simp [nodeT2, madeT, tyR, fk_snd, vfT, vStep, (h0k _ rfl).1, sndT]
  | [.n], _, [a], _, _ => exact absurd he (by simp only [nodeT2, madeT]; exact bad _ _ _ h0 (by decide))
 case if_ =>
  match ks, hl, kids, hkl, h1k, h2k with
  | [A, B, C], _, [a, b, c], _, h1k, h2k =>
   by_cases hc : A = .n ∧ B.bare = C.bare
   ·have e : nodeT2 cls .if_ p site [A, B, C] st = (B, st) := by simp only [nodeT2, madeT]; rw [if_pos hc]; rfl
    rw [e]
    refine ⟨rfl, by simp [tyR, fk_if, (h1k B rfl).1], by simp [fk_if], ?_⟩
    intro TY U hT
    have t1 := hT 1 B rfl
    have t2 := hT 2 C rfl
    simp only [List.take, cntL, Nat.add_zero] at t1 t2
    rw [← Nat.add_assoc] at t2
    simp only [vfT, fk_if, vStep, (h1k B rfl).2, (h2k C rfl).2, t1, t2]
    by_cases hbc : B = C <;> simp [hbc]
   ·exact absurd he (by simp only [nodeT2, madeT]; rw [if_neg hc]; exact bad _ _ _ h0 (by decide))
 case loop =>
  match ks, hl, kids, hkl, h1k, h2k with
  | [A, B, C], _, [a, b, c], _, h1k, h2k =>
   by_cases hc : A = .n ∧ B.bare = C.bare
   ·have e : nodeT2 cls .loop p site [A, B, C] st = (B, st) := by simp only [nodeT2, madeT]; rw [if_pos hc]; rfl
    rw [e]
    refine ⟨rfl, by simp [tyR, fk_loop, (h1k B rfl).1], by simp [fk_loop], ?_⟩
    intro TY U hT
    have t1 := hT 1 B rfl
    have t2 := hT 2 C rfl
    simp only [List.take, cntL, Nat.add_zero] at t1 t2
    rw [← Nat.add_assoc] at t2
    simp only [vfT, fk_loop, vStep, (h1k B rfl).2, (h2k C rfl).2, t1, t2]
    by_cases hbc : B = C <;> simp [hbc]
   ·exact absurd he (by simp only [nodeT2, madeT]; rw [if_neg hc]; exact bad _ _ _ h0 (by decide))
 case new =>
  match ks, hl, kids, hkl, h0k with
  | [A], _, [a], _, h0k =>
   refine ⟨rfl, by simp [nodeT2, madeT, tyR, fk_new, (h0k A rfl).1], by simp [fk_new], ?_⟩
   intro TY U hT
   have t1 := hT 0 A rfl
   simp only [List.take, cntL, Nat.add_zero] at t1
   simp only [vfT, fk_new, vStep, (h0k A rfl).2, t1]
   by_cases hh : A.has (valueL rg) = true <;> simp [hh]
 all_goals
  match ks, hl, kids, hkl with
  | [A, B], _, [a, b], _ =>
   by_cases hc : A = .n ∧ B = .n
   ·simp only [nodeT2, madeT]
    rw [if_pos hc]
    simp [tyR, fk_add, fk_sub, fk_less, vfT, vStep]
   ·exact absurd he (by simp only [nodeT2, madeT]; rw [if_neg hc]; exact bad _ _ _ h0 (by decide))
def Tk.z (t : Tk) : Tk := { t with at_ := 0 }
def sk (l : List UInt8) : List Tk := (tokens l).map Tk.z
theorem toks_z : ∀ (f p q : Nat) (l : List UInt8), (toks f p l).map Tk.z = (toks f q l).map Tk.z
 | 0, _, _, _ => rfl
 | _ + 1, _, _, [] => rfl
 | f + 1, p, q, c :: r => by
  simp only [toks]
  split
  ·exact toks_z f _ _ _
  ·simp only [List.map_cons]; rw [toks_z f _ (q + (tokenOf (c :: r)).1)]; rfl
theorem toks_sk (f p : Nat) (l : List UInt8) (h : l.length ≤ f) : (toks f p l).map Tk.z = sk l := by
 unfold sk tokens; rw [toks_fuel f l.length p l h (Nat.le_refl _)]; exact toks_z _ _ _ _
theorem sk_nil : sk [] = [] := rfl
theorem sk_blank (c : UInt8) (r : List UInt8) (h : blankB c = true) : sk (c :: r) = sk r := by
 show (toks (r.length + 1) 0 (c :: r)).map Tk.z = _
 rw [toks_blank _ _ _ _ h]; exact toks_sk _ _ _ (Nat.le_refl _)
theorem sk_tok (a : UInt8) (t r : List UInt8) (c : Cl) (ha : blankB a = false) (h : tokenOf (a :: (t ++ r)) = (t.length + 1, c)) : sk (a :: (t ++ r)) = ⟨a :: t, 0, c⟩ :: sk r := by
 show (toks ((t ++ r).length + 1) 0 (a :: (t ++ r))).map Tk.z = _
 rw [toks_tok _ _ _ _ ha, h]
 simp only [List.map_cons, List.take_succ_cons, List.drop_succ_cons, List.take_left, List.drop_left]
 rw [toks_sk _ _ _ (by simp)]; rfl
theorem run_app (lo hi : Int) : ∀ (w r : List UInt8), (∀ c ∈ w, inB lo hi c = true) → (∀ c ∈ r.head?, inB lo hi c = false) → run lo hi (w ++ r) = w.length
 | [], [], _, _ => rfl
 | [], c :: r, _, h => by simp [run, h c (by simp)]
 | a :: w, r, h, h' => by
  simp only [List.cons_append, run, h a (by simp), if_true, List.length_cons]
  rw [run_app lo hi w r (fun c hc => h c (by simp [hc])) h']
def Stop (r : List UInt8) : Prop := ∀ c ∈ r.head?, inB 97 122 c = false ∧ inB 48 57 c = false
theorem stop_nil : Stop [] := by intro c h; simp at h
theorem stop_blank (r : List UInt8) : Stop (32 :: r) := by intro c h; simp at h; subst h; decide
theorem stop_close (r : List UInt8) : Stop (41 :: r) := by intro c h; simp at h; subst h; decide
def GoodN (s : List UInt8) : Prop := s ≠ [] ∧ (∀ c ∈ s, inB 97 122 c = true) ∧ s.length ≤ 8 ∧ kwOf s = none
def GoodD (s : List UInt8) (m : Nat) : Prop := (∀ c ∈ s, inB 48 57 c = true) ∧ numeralB s m = true
theorem inB_of {lo hi : Int} {c : UInt8} (h : inB lo hi c = true) : lo ≤ (c.toNat : Int) ∧ (c.toNat : Int) ≤ hi := by
 unfold inB at h; simp only [Bool.and_eq_true, decide_eq_true_eq] at h; exact h
theorem inB_not {lo hi : Int} {c : UInt8} (h : (c.toNat : Int) < lo ∨ hi < (c.toNat : Int)) : inB lo hi c = false := by
 cases hb : inB lo hi c with
 | false => rfl
 | true => have := inB_of hb; omega
theorem blank_not {c : UInt8} (h : 33 ≤ c.toNat) : blankB c = false := by
 unfold blankB
 rw [Bool.or_eq_false_iff]
 constructor <;> (rw [beq_eq_false_iff_ne]; rintro rfl; exact absurd h (by decide))
theorem sk_word (w r : List UInt8) (hne : w ≠ []) (hw : ∀ c ∈ w, inB 97 122 c = true) (hr : Stop r) : sk (w ++ r) = ⟨w, 0, wordCl w w.length⟩ :: sk r := by
 have hrun := run_app 97 122 w r hw (fun c hc => (hr c hc).1)
 cases w with
 | nil => exact absurd rfl hne
 | cons a t =>
  have ha := inB_of (hw a (by simp))
  refine sk_tok a t r _ (blank_not (by omega)) ?_
  have hrun' : run 97 122 (a :: (t ++ r)) = t.length + 1 := hrun
  unfold tokenOf
  rw [if_pos (by omega), hrun']
  simp
theorem sk_kw (k : Kw) (r : List UInt8) (hr : Stop r) : sk (k.bytes ++ r) = ⟨k.bytes, 0, .kw k⟩ :: sk r := by
 rw [sk_word k.bytes r (by cases k <;> decide) (by cases k <;> decide) hr]
 unfold wordCl; rw [kwOf_bytes]
theorem sk_name (s r : List UInt8) (h : GoodN s) (hr : Stop r) : sk (s ++ r) = ⟨s, 0, .nam⟩ :: sk r := by
 rw [sk_word s r h.1 h.2.1 hr]
 unfold wordCl; rw [h.2.2.2]; simp only; rw [if_pos h.2.2.1]
theorem numeral_pos {s : List UInt8} {m : Nat} (h : numeralB s m = true) : s ≠ [] := by
 rintro rfl; simp [numeralB] at h
theorem sk_num (s r : List UInt8) (h : GoodD s 4) (hr : Stop r) : sk (s ++ r) = ⟨s, 0, .num⟩ :: sk r := by
 have hrun := run_app 48 57 s r h.1 (fun c hc => (hr c hc).2)
 have hne := numeral_pos h.2
 cases s with
 | nil => exact absurd rfl hne
 | cons a t =>
  have ha := inB_of (h.1 a (by simp))
  refine sk_tok a t r _ (blank_not (by omega)) ?_
  have hrun' : run 48 57 (a :: (t ++ r)) = t.length + 1 := hrun
  have h0 : run 97 122 (a :: (t ++ r)) = 0 := by simp only [run]; rw [inB_not (by omega)]; simp
  unfold tokenOf
  rw [if_neg (by omega), if_pos (by omega), hrun']
  simp only [List.take_succ_cons, List.take_left]
  rw [if_pos h.2]
theorem sk_reg (d r : List UInt8) (h : GoodD d 3) (hr : Stop r) : sk (35 :: (d ++ r)) = ⟨35 :: d, 0, .reg⟩ :: sk r := by
 have hrun := run_app 48 57 d r h.1 (fun c hc => (hr c hc).2)
 refine sk_tok 35 d r _ (by decide) ?_
 unfold tokenOf
 rw [if_neg (by simp [run, inB]), if_neg (by simp [run, inB])]
 simp only [if_true]
 rw [hrun, List.take_left, if_pos h.2]
theorem sk_opn (r : List UInt8) : sk (40 :: r) = ⟨[40], 0, .opn⟩ :: sk r := by
 refine sk_tok 40 [] r _ (by decide) ?_
 unfold tokenOf
 rw [if_neg (by simp [run, inB]), if_neg (by simp [run, inB])]
 simp
theorem sk_cls (r : List UInt8) : sk (41 :: r) = ⟨[41], 0, .cls⟩ :: sk r := by
 refine sk_tok 41 [] r _ (by decide) ?_
 unfold tokenOf
 rw [if_neg (by simp [run, inB]), if_neg (by simp [run, inB])]
 simp
theorem sk_sp (r : List UInt8) : sk (32 :: r) = sk r := sk_blank 32 r (by decide)
mutual
def PT.ok (placed : Bool) : PT → Prop
 | .num _ s => GoodD s 4
 | .name _ s => GoodN s
 | .node _ k nm rg kids => wantsK k placed ≠ [] ∧ kids.length = arity k ∧ (if k = .let_ ∨ k = .loop then GoodN nm else nm = []) ∧ (if placed = true ∧ (k = .pair ∨ k = .new) then ∃ d, rg = 35 :: d ∧ GoodD d 3 else rg = []) ∧ okL placed kids
def okL (placed : Bool) : List PT → Prop
 | [] => True
 | t :: r => t.ok placed ∧ okL placed r
end
mutual
def PT.np : PT → PT
 | .num _ s => .num 0 s
 | .name _ s => .name 0 s
 | .node _ k nm rg kids => .node 0 k nm rg (npL kids)
def npL : List PT → List PT
 | [] => []
 | t :: r => t.np :: npL r
end
def regT (rg : List UInt8) : List UInt8 := if rg = [] then [] else 32 :: rg
mutual
def PT.tidy : PT → List UInt8
 | .num _ s => s
 | .name _ s => s
 | .node _ k nm rg kids => 40 :: (k.bytes ++ (regT rg ++ (joinT k nm 0 (tidyL kids) ++ [41])))
def tidyL : List PT → List (List UInt8)
 | [] => []
 | t :: r => t.tidy :: tidyL r
end
def pieceK (k : Kw) (nm : List UInt8) (i : Nat) (x : List Tk) : List Tk := (if (k = .let_ ∧ i = 0) ∨ (k = .loop ∧ i = 1) then [⟨nm, 0, .nam⟩] else []) ++ x
def joinK (k : Kw) (nm : List UInt8) : Nat → List (List Tk) → List Tk
 | _, [] => []
 | i, x :: r => pieceK k nm i x ++ joinK k nm (i + 1) r
def regK (rg : List UInt8) : List Tk := if rg = [] then [] else [⟨rg, 0, .reg⟩]
mutual
def PT.tkz : PT → List Tk
 | .num _ s => [⟨s, 0, .num⟩]
 | .name _ s => [⟨s, 0, .nam⟩]
 | .node _ k nm rg kids => ⟨[40], 0, .opn⟩ :: ⟨k.bytes, 0, .kw k⟩ :: (regK rg ++ (joinK k nm 0 (tkzL kids) ++ [⟨[41], 0, .cls⟩]))
def tkzL : List PT → List (List Tk)
 | [] => []
 | t :: r => t.tkz :: tkzL r
end
theorem stop_join (k : Kw) (nm : List UInt8) (i : Nat) (l : List (List UInt8)) (r : List UInt8) : Stop (joinT k nm i l ++ (41 :: r)) := by
 cases l with
 | nil => exact stop_close r
 | cons x l =>
  unfold joinT pieceT
  split
  ·exact stop_blank _
  ·exact stop_blank _
mutual
theorem tidy_sk {placed : Bool} : ∀ (e : PT), e.ok placed → ∀ r, Stop r → sk (e.tidy ++ r) = e.tkz ++ sk r
 | .num _ s, h, r, hr => sk_num s r (by simpa only [PT.ok] using h) hr
 | .name _ s, h, r, hr => sk_name s r (by simpa only [PT.ok] using h) hr
 | .node _ k nm rg kids, h, r, hr => by
  simp only [PT.ok] at h
  obtain ⟨_, _, hn, hg, hk⟩ := h
  have hj := tidyL_sk (placed := placed) kids hk k nm (fun hx => by rw [if_pos hx] at hn; exact hn) 0 r
  simp only [PT.tidy, PT.tkz, List.cons_append, List.append_assoc, List.nil_append]
  rw [sk_opn, sk_kw, List.cons.injEq, List.cons.injEq]
  ·refine ⟨rfl, rfl, ?_⟩
   unfold regT regK
   split
   ·exact hj
   ·rename_i e
    split at hg
    ·obtain ⟨d, rfl, hd⟩ := hg
     simp only [List.cons_append]
     rw [sk_sp, sk_reg d _ hd (stop_join _ _ _ _ _), hj]; rfl
    ·exact absurd hg e
  ·unfold regT
   split
   ·exact stop_join _ _ _ _ _
   ·exact stop_blank _
theorem tidyL_sk {placed : Bool} : ∀ (kids : List PT), okL placed kids → ∀ (k : Kw) (nm : List UInt8), ((k = .let_ ∨ k = .loop) → GoodN nm) → ∀ (i : Nat) (r : List UInt8), sk (joinT k nm i (tidyL kids) ++ (41 :: r)) = joinK k nm i (tkzL kids) ++ (⟨[41], 0, .cls⟩ :: sk r)
 | [], _, k, nm, _, i, r => by simp only [tidyL, tkzL, joinT, joinK, List.nil_append]; exact sk_cls r
 | t :: ts, h, k, nm, hn, i, r => by
  simp only [okL] at h
  have ih := tidyL_sk ts h.2 k nm hn (i + 1) r
  have iht := tidy_sk t h.1 (joinT k nm (i + 1) (tidyL ts) ++ (41 :: r)) (stop_join _ _ _ _ _)
  simp only [tidyL, tkzL, joinT, joinK, pieceT, pieceK, List.append_assoc]
  split
  ·rename_i hc
   have hg : GoodN nm := hn (hc.elim (fun h => Or.inl h.1) (fun h => Or.inr h.1))
   simp only [List.cons_append, List.nil_append]
   rw [sk_sp, sk_name nm _ hg (stop_blank _), sk_sp, iht, ih]
  ·simp only [List.cons_append, List.nil_append]
   rw [sk_sp, iht, ih]
end
mutual
theorem tkz_PE {placed : Bool} : ∀ (e : PT), e.ok placed → ∀ r, PE placed (e.tkz ++ r) e.np r
 | .num _ s, _, r => by simp only [PT.tkz, PT.np]; exact .num (t := ⟨s, 0, .num⟩) rfl
 | .name _ s, _, r => by simp only [PT.tkz, PT.np]; exact .name (t := ⟨s, 0, .nam⟩) rfl
 | .node _ k nm rg kids, h, r => by
  simp only [PT.ok] at h
  obtain ⟨hw, hl, hn, hg, hk⟩ := h
  have hks := okL_PE (placed := placed) kids hk
  have fin0 : ∀ (R : List Tk) (nm' rg' : List UInt8) (ks : List PT), PW placed (wantsK k placed) R nm' rg' ks r → R = regK rg ++ (joinK k nm 0 (tkzL kids) ++ [⟨[41], 0, .cls⟩]) ++ r → nm' = nm → rg' = rg → ks = npL kids → PE placed ((PT.node 0 k nm rg kids).tkz ++ r) (PT.node 0 k nm rg kids).np r := by
   rintro R nm' rg' ks hp rfl rfl rfl rfl
   simp only [PT.tkz, PT.np, List.cons_append]
   exact .node (t := ⟨[40], 0, .opn⟩) (u := ⟨k.bytes, 0, .kw k⟩) rfl rfl hw hp
  cases k with
  | let_ =>
   match kids, hl, hks, fin0 with
   | [a, b], _, hks, fin0 =>
    simp only [wantsK] at fin0
    simp only [true_or, if_true] at hn
    rw [if_neg (by simp)] at hg
    subst hg
    exact fin0 _ _ _ _ (.name (t := ⟨nm, 0, .nam⟩) rfl (.e (hks a (by simp) _) (.e (hks b (by simp) _) (.close (t := ⟨[41], 0, .cls⟩) rfl .nil)))) (by simp [regK, tkzL, joinK, pieceK]) rfl rfl rfl
  | loop =>
   match kids, hl, hks, fin0 with
   | [a, b, c], _, hks, fin0 =>
    simp only [wantsK] at fin0
    rw [if_neg (by simp)] at hg
    subst hg
    exact fin0 _ _ _ _ (.e (hks a (by simp) _) (.name (t := ⟨nm, 0, .nam⟩) rfl (.e (hks b (by simp) _) (.e (hks c (by simp) _) (.close (t := ⟨[41], 0, .cls⟩) rfl .nil))))) (by simp [regK, tkzL, joinK, pieceK]) rfl rfl rfl
  | if_ =>
   match kids, hl, hks, fin0 with
   | [a, b, c], _, hks, fin0 =>
    simp only [wantsK] at fin0
    rw [if_neg (by simp)] at hg
    rw [if_neg (by decide)] at hn
    subst hg; subst hn
    exact fin0 _ _ _ _ (.e (hks a (by simp) _) (.e (hks b (by simp) _) (.e (hks c (by simp) _) (.close (t := ⟨[41], 0, .cls⟩) rfl .nil)))) (by simp [regK, tkzL, joinK, pieceK]) rfl rfl rfl
  | fst =>
   match kids, hl, hks, fin0 with
   | [a], _, hks, fin0 =>
    simp only [wantsK] at fin0
    rw [if_neg (by simp)] at hg
    rw [if_neg (by decide)] at hn
    subst hg; subst hn
    exact fin0 _ _ _ _ (.e (hks a (by simp) _) (.close (t := ⟨[41], 0, .cls⟩) rfl .nil)) (by simp [regK, tkzL, joinK, pieceK]) rfl rfl rfl
  | snd =>
   match kids, hl, hks, fin0 with
   | [a], _, hks, fin0 =>
    simp only [wantsK] at fin0
    rw [if_neg (by simp)] at hg
    rw [if_neg (by decide)] at hn
    subst hg; subst hn
    exact fin0 _ _ _ _ (.e (hks a (by simp) _) (.close (t := ⟨[41], 0, .cls⟩) rfl .nil)) (by simp [regK, tkzL, joinK, pieceK]) rfl rfl rfl
  | add =>
   match kids, hl, hks, fin0 with
   | [a, b], _, hks, fin0 =>
    simp only [wantsK] at fin0
    rw [if_neg (by simp)] at hg
    rw [if_neg (by decide)] at hn
    subst hg; subst hn
    exact fin0 _ _ _ _ (.e (hks a (by simp) _) (.e (hks b (by simp) _) (.close (t := ⟨[41], 0, .cls⟩) rfl .nil))) (by simp [regK, tkzL, joinK, pieceK]) rfl rfl rfl
  | sub =>
   match kids, hl, hks, fin0 with
   | [a, b], _, hks, fin0 =>
    simp only [wantsK] at fin0
    rw [if_neg (by simp)] at hg
    rw [if_neg (by decide)] at hn
    subst hg; subst hn
    exact fin0 _ _ _ _ (.e (hks a (by simp) _) (.e (hks b (by simp) _) (.close (t := ⟨[41], 0, .cls⟩) rfl .nil))) (by simp [regK, tkzL, joinK, pieceK]) rfl rfl rfl
  | less =>
   match kids, hl, hks, fin0 with
   | [a, b], _, hks, fin0 =>
    simp only [wantsK] at fin0
    rw [if_neg (by simp)] at hg
    rw [if_neg (by decide)] at hn
    subst hg; subst hn
    exact fin0 _ _ _ _ (.e (hks a (by simp) _) (.e (hks b (by simp) _) (.close (t := ⟨[41], 0, .cls⟩) rfl .nil))) (by simp [regK, tkzL, joinK, pieceK]) rfl rfl rfl
  | pair =>
   match kids, hl, hks, fin0 with
   | [a, b], _, hks, fin0 =>
    rw [if_neg (by decide)] at hn
    subst hn
    cases placed with
    | false =>
     simp only [wantsK] at fin0
     rw [if_neg (by simp)] at hg
     subst hg
     exact fin0 _ _ _ _ (.e (hks a (by simp) _) (.e (hks b (by simp) _) (.close (t := ⟨[41], 0, .cls⟩) rfl .nil))) (by simp [regK, tkzL, joinK, pieceK]) rfl rfl rfl
    | true =>
     simp only [wantsK] at fin0
     rw [if_pos (by simp)] at hg
     obtain ⟨d, rfl, hd⟩ := hg
     exact fin0 _ _ _ _ (.region (t := ⟨35 :: d, 0, .reg⟩) rfl (.e (hks a (by simp) _) (.e (hks b (by simp) _) (.close (t := ⟨[41], 0, .cls⟩) rfl .nil)))) (by simp [regK, tkzL, joinK, pieceK]) rfl rfl rfl
  | new =>
   match kids, hl, hks, fin0 with
   | [a], _, hks, fin0 =>
    rw [if_neg (by decide)] at hn
    subst hn
    cases placed with
    | false => exact absurd rfl hw
    | true =>
     simp only [wantsK] at fin0
     rw [if_pos (by simp)] at hg
     obtain ⟨d, rfl, hd⟩ := hg
     exact fin0 _ _ _ _ (.region (t := ⟨35 :: d, 0, .reg⟩) rfl (.e (hks a (by simp) _) (.close (t := ⟨[41], 0, .cls⟩) rfl .nil))) (by simp [regK, tkzL, joinK, pieceK]) rfl rfl rfl
theorem okL_PE {placed : Bool} : ∀ (kids : List PT), okL placed kids → ∀ x ∈ kids, ∀ r, PE placed (x.tkz ++ r) x.np r
 | [], _, x, hx, _ => by simp at hx
 | t :: ts, h, x, hx, r => by
  simp only [okL] at h
  rcases List.mem_cons.1 hx with hx | hx
  ·rw [hx]; exact tkz_PE t h.1 r
  ·exact okL_PE ts h.2 x hx r
end
theorem z_cons {l : List Tk} {t : Tk} {r : List Tk} (h : l.map Tk.z = t :: r) : ∃ t2 r2, l = t2 :: r2 ∧ t2.c = t.c ∧ t2.s = t.s ∧ r2.map Tk.z = r := by
 cases l with
 | nil => simp at h
 | cons a l =>
  simp only [List.map_cons, List.cons.injEq] at h
  exact ⟨a, l, rfl, by rw [← h.1]; rfl, by rw [← h.1]; rfl, h.2⟩
mutual
theorem PE.unz {placed : Bool} : ∀ {l : List Tk} {e : PT} {r : List Tk}, PE placed l e r → ∀ l2, l2.map Tk.z = l → ∃ e2 r2, PE placed l2 e2 r2 ∧ e2.np = e.np ∧ r2.map Tk.z = r
 | _, _, _, .num h, l2, h2 => by
  obtain ⟨t2, r2, rfl, hc, hs, hr⟩ := z_cons h2
  exact ⟨_, r2, .num (hc.trans h), by simp only [PT.np, hs], hr⟩
 | _, _, _, .name h, l2, h2 => by
  obtain ⟨t2, r2, rfl, hc, hs, hr⟩ := z_cons h2
  exact ⟨_, r2, .name (hc.trans h), by simp only [PT.np, hs], hr⟩
 | _, _, _, .node h1 h3 h4 h5, l2, h2 => by
  obtain ⟨t2, r2, rfl, hc, _, hr⟩ := z_cons h2
  obtain ⟨u2, r3, rfl, hc3, _, hr3⟩ := z_cons hr
  obtain ⟨ks, r4, hp, hks, hr4⟩ := PW.unz h5 r3 hr3
  exact ⟨_, r4, .node (hc.trans h1) (hc3.trans h3) h4 hp, by simp only [PT.np, hks], hr4⟩
theorem PW.unz {placed : Bool} : ∀ {ws : List Wt} {l : List Tk} {nm rg : List UInt8} {kids : List PT} {r : List Tk}, PW placed ws l nm rg kids r → ∀ l2, l2.map Tk.z = l → ∃ kids2 r2, PW placed ws l2 nm rg kids2 r2 ∧ npL kids2 = npL kids ∧ r2.map Tk.z = r
 | _, _, _, _, _, _, .nil, l2, h2 => ⟨[], l2, .nil, rfl, h2⟩
 | _, _, _, _, _, _, .close h h1, l2, h2 => by
  obtain ⟨t2, r2, rfl, hc, _, hr⟩ := z_cons h2
  obtain ⟨ks, r4, hp, hks, hr4⟩ := PW.unz h1 r2 hr
  exact ⟨ks, r4, .close (hc.trans h) hp, hks, hr4⟩
 | _, _, _, _, _, _, .name h h1, l2, h2 => by
  obtain ⟨t2, r2, rfl, hc, hs, hr⟩ := z_cons h2
  obtain ⟨ks, r4, hp, hks, hr4⟩ := PW.unz h1 r2 hr
  exact ⟨ks, r4, by rw [← hs]; exact .name (hc.trans h) hp, hks, hr4⟩
 | _, _, _, _, _, _, .region h h1, l2, h2 => by
  obtain ⟨t2, r2, rfl, hc, hs, hr⟩ := z_cons h2
  obtain ⟨ks, r4, hp, hks, hr4⟩ := PW.unz h1 r2 hr
  exact ⟨ks, r4, by rw [← hs]; exact .region (hc.trans h) hp, hks, hr4⟩
 | _, _, _, _, _, _, .e h h1, l2, h2 => by
  obtain ⟨e2, r2, hp, he, hr⟩ := PE.unz h l2 h2
  obtain ⟨ks, r4, hp4, hks, hr4⟩ := PW.unz h1 r2 hr
  exact ⟨_, r4, .e hp hp4, by simp only [npL, he, hks], hr4⟩
end
mutual
theorem np_np : ∀ e : PT, e.np.np = e.np
 | .num _ _ => rfl
 | .name _ _ => rfl
 | .node _ _ _ _ kids => by simp only [PT.np, npL_np kids]
theorem npL_np : ∀ l : List PT, npL (npL l) = npL l
 | [] => rfl
 | t :: r => by simp only [npL, np_np t, npL_np r]
end
theorem tidy_PE {placed : Bool} (e : PT) (h : e.ok placed) : ∃ e2, PE placed (tokens e.tidy) e2 [] ∧ e2.np = e.np := by
 have hs := tidy_sk e h [] stop_nil
 rw [List.append_nil, sk_nil] at hs
 obtain ⟨e2, r2, hp, he, hr⟩ := (tkz_PE e h []).unz (tokens e.tidy) hs
 have : r2 = [] := by simpa using hr
 subst this
 exact ⟨e2, hp, he.trans (np_np e)⟩
inductive KE where
 | num (n : Nat)
 | var (n : Nat)
 | n1 (k : Kw) (a : KE)
 | n2 (k : Kw) (n : Nat) (a b : KE)
 | n3 (k : Kw) (n : Nat) (a b c : KE)
def pickF (c : Int) (n : Nat) : Nat := (Int.tmod (if c < 0 then -(c + 1) else c) n).toNat
theorem pickF_lt (c : Int) (n : Nat) (h : 0 < n) : pickF c n < n := by
 unfold pickF
 have h1 : 0 ≤ (if c < 0 then -(c + 1) else c) := by split <;> omega
 have := Int.tmod_lt_of_pos (if c < 0 then -(c + 1) else c) (show (0 : Int) < n by omega)
 have := Int.tmod_nonneg (n : Int) h1
 omega
structure MkS where
 at_ : Nat
 left : Nat
 vars : List Nat
def nextF (raw : List Int) (n : Nat) (s : MkS) : Nat × MkS :=
 if raw = [] then (0, s) else (pickF (raw.getD (s.at_ % raw.length) 0) n, { s with at_ := s.at_ + 1 })
theorem nextF_lt (raw : List Int) (n : Nat) (s : MkS) (h : 0 < n) : (nextF raw n s).1 < n := by
 unfold nextF; split
 ·exact h
 ·exact pickF_lt _ n h
theorem nextF_st (raw : List Int) (n : Nat) (s : MkS) : (nextF raw n s).2.left = s.left ∧ (nextF raw n s).2.vars = s.vars ∧ s.at_ ≤ (nextF raw n s).2.at_ ∧ (nextF raw n s).2.at_ ≤ s.at_ + 1 := by
 unfold nextF; split
 ·exact ⟨rfl, rfl, Nat.le_refl _, Nat.le_succ _⟩
 ·exact ⟨rfl, rfl, Nat.le_succ _, Nat.le_refl _⟩
def idxs (vars : List Nat) (t n : Nat) : List Nat := (List.range n).filter (fun i => vars.getD i 9 == t)
def namedF (vars : List Nat) (t k : Nat) : Option KE :=
 if (idxs vars t vars.length) = [] then none else some (.var ((idxs vars t vars.length).getD (k % (idxs vars t vars.length).length) 0))
def fT (t : Nat) : Nat := if t = 2 ∨ t = 4 then 1 else 0
def sT (t : Nat) : Nat := if t = 3 ∨ t = 4 then 1 else 0
def fI (t : Nat) : Int := if t = 0 then -1 else fT t
def sI (t : Nat) : Int := if t = 0 then -1 else sT t
def leafF (raw : List Int) : Nat → Nat → MkS → KE × MkS
 | 0, _, s => (.num 0, s)
 | f + 1, t, s =>
  let x := nextF raw 7 s
  match (if 1 < x.1 then namedF x.2.vars t x.1 else none) with
  | some y => (y, x.2)
  | none =>
   if t = 0 then (.num (nextF raw 60 x.2).1, (nextF raw 60 x.2).2)
   else
    let a := leafF raw f (fT t) x.2
    let b := leafF raw f (sT t) a.2
    (.n2 .pair 0 a.1 b.1, b.2)
def takeG (t k : Nat) : Nat → Nat → Option (Kw × Nat)
 | _, 0 => none
 | i, n + 1 =>
  if (i + k) / 5 % 2 = 1 then (if sI ((i + k) % 5) = t then some (.snd, (i + k) % 5) else takeG t k (i + 1) n)
  else (if fI ((i + k) % 5) = t then some (.fst, (i + k) % 5) else takeG t k (i + 1) n)
def opK (n : Nat) : Kw := if n = 0 then .add else if n = 1 then .sub else .less
def bindF (g : Nat → MkS → KE × MkS) (v t : Nat) (s : MkS) : KE × MkS :=
 let x := g t { s with vars := s.vars ++ [v] }
 (x.1, { x.2 with vars := x.2.vars.take s.vars.length })
def makeF (raw : List Int) : Nat → Nat → MkS → KE × MkS
 | 0, t, s => leafF raw 3 t s
 | f + 1, t, s =>
  if s.left = 0 then leafF raw 3 t s else
  let x := nextF raw 9 { s with left := s.left - 1 }
  if x.1 = 0 then
   let v := nextF raw 5 x.2
   let a := makeF raw f v.1 v.2
   let b := bindF (makeF raw f) v.1 t a.2
   (.n2 .let_ b.2.vars.length a.1 b.1, b.2)
  else if x.1 = 1 then
   let a := makeF raw f 0 x.2
   let b := makeF raw f t a.2
   let c := makeF raw f t b.2
   (.n3 .if_ 0 a.1 b.1 c.1, c.2)
  else if x.1 = 2 ∨ x.1 = 3 then
   let k := nextF raw 4 x.2
   match takeG t k.1 0 10 with
   | some q => (.n1 q.1 (makeF raw f q.2 k.2).1, (makeF raw f q.2 k.2).2)
   | none => leafF raw 3 t k.2
  else if x.1 = 4 then
   let n := nextF raw 4 x.2
   let a := makeF raw f t n.2
   let b := bindF (makeF raw f) t t a.2
   (.n3 .loop b.2.vars.length (.num n.1) a.1 b.1, b.2)
  else if x.1 < 8 then
   if t = 0 then
    let o := nextF raw 3 x.2
    let a := makeF raw f 0 o.2
    let b := makeF raw f 0 a.2
    (.n2 (opK o.1) 0 a.1 b.1, b.2)
   else
    let a := makeF raw f (fT t) x.2
    let b := makeF raw f (sT t) a.2
    (.n2 .pair 0 a.1 b.1, b.2)
  else leafF raw 3 t x.2
def buildF (t : Int) (raw : List Int) : KE := (makeF raw 25 (pickF t 5) ⟨0, 24, []⟩).1
inductive KT : List Nat → KE → Nat → Prop
 | num {vs : List Nat} {n : Nat} (h : n ≤ 59) : KT vs (.num n) 0
 | var {vs : List Nat} {n t : Nat} (h : vs[n]? = some t) : KT vs (.var n) t
 | let_ {vs : List Nat} {a b : KE} {v t : Nat} (hv : v < 5) (hl : vs.length < 100) (ha : KT vs a v) (hb : KT (vs ++ [v]) b t) : KT vs (.n2 .let_ vs.length a b) t
 | if_ {vs : List Nat} {a b c : KE} {t : Nat} (ha : KT vs a 0) (hb : KT vs b t) (hc : KT vs c t) : KT vs (.n3 .if_ 0 a b c) t
 | loop {vs : List Nat} {a b c : KE} {t : Nat} (hl : vs.length < 100) (ha : KT vs a 0) (hb : KT vs b t) (hc : KT (vs ++ [t]) c t) : KT vs (.n3 .loop vs.length a b c) t
 | pair {vs : List Nat} {a b : KE} {t : Nat} (h0 : t ≠ 0) (ht : t < 5) (ha : KT vs a (fT t)) (hb : KT vs b (sT t)) : KT vs (.n2 .pair 0 a b) t
 | fst {vs : List Nat} {a : KE} {p : Nat} (h0 : p ≠ 0) (hp : p < 5) (ha : KT vs a p) : KT vs (.n1 .fst a) (fT p)
 | snd {vs : List Nat} {a : KE} {p : Nat} (h0 : p ≠ 0) (hp : p < 5) (ha : KT vs a p) : KT vs (.n1 .snd a) (sT p)
 | two {vs : List Nat} {k : Kw} {a b : KE} (hk : k = .add ∨ k = .sub ∨ k = .less) (ha : KT vs a 0) (hb : KT vs b 0) : KT vs (.n2 k 0 a b) 0
def KE.prs : KE → Nat
 | .num _ => 0
 | .var _ => 0
 | .n1 _ a => a.prs
 | .n2 k _ a b => (if k = .pair then 1 else 0) + a.prs + b.prs
 | .n3 _ _ a b c => a.prs + b.prs + c.prs
def KE.cnt : KE → Nat
 | .num _ => 1
 | .var _ => 1
 | .n1 _ a => 1 + a.cnt
 | .n2 _ _ a b => 1 + a.cnt + b.cnt
 | .n3 _ _ a b c => 1 + a.cnt + b.cnt + c.cnt
def KE.len : KE → Nat
 | .num _ => 3
 | .var _ => 3
 | .n1 _ a => 6 + a.len
 | .n2 k _ a b => (if k = .let_ then 11 else 8) + a.len + b.len
 | .n3 k _ a b c => (if k = .loop then 13 else 7) + a.len + b.len + c.len
def lenW (t : Nat) : Nat := if t = 0 then 3 else if t = 1 then 14 else if t = 4 then 36 else 25
def prW (t : Nat) : Nat := if t = 0 then 0 else if t = 1 then 1 else if t = 4 then 3 else 2
def cntW (t : Nat) : Nat := if t = 0 then 1 else if t = 1 then 3 else if t = 4 then 7 else 5
def atW (t : Nat) : Nat := if t = 0 then 2 else if t = 1 then 5 else if t = 4 then 11 else 8
structure MkO (t : Nat) (s : MkS) (y : KE × MkS) : Prop where
 ty : KT s.vars y.1 t
 vars : y.2.vars = s.vars
 left : y.2.left ≤ s.left
 len : y.1.len + 53 * y.2.left ≤ lenW t + 53 * s.left
 prs : y.1.prs + 3 * y.2.left ≤ prW t + 3 * s.left
 cnt : y.1.cnt + 9 * y.2.left ≤ cntW t + 9 * s.left
 at_ : y.2.at_ + 40 * y.2.left ≤ s.at_ + atW t + 40 * s.left
 at' : s.at_ ≤ y.2.at_
theorem namedF_ty {vars : List Nat} {t k : Nat} {y : KE} (h : namedF vars t k = some y) : ∃ n, y = .var n ∧ vars[n]? = some t ∧ n < vars.length := by
 unfold namedF at h
 split at h
 ·cases h
 ·rename_i hne
  simp only [Option.some.injEq] at h
  have hpos : 0 < (idxs vars t vars.length).length := List.length_pos_iff.2 hne
  have hlt := Nat.mod_lt k hpos
  refine ⟨_, h.symm, ?_⟩
  have hmem : (idxs vars t vars.length).getD (k % (idxs vars t vars.length).length) 0 ∈ idxs vars t vars.length := by
   rw [List.getD_eq_getElem?_getD, List.getElem?_eq_getElem hlt, Option.getD_some]; exact List.getElem_mem hlt
  generalize (idxs vars t vars.length).getD (k % (idxs vars t vars.length).length) 0 = n at hmem
  unfold idxs at hmem
  rw [List.mem_filter, List.mem_range] at hmem
  have e := hmem.2
  rw [List.getD_eq_getElem?_getD, List.getElem?_eq_getElem hmem.1, Option.getD_some] at e
  rw [List.getElem?_eq_getElem hmem.1]
  exact ⟨by simpa using e, hmem.1⟩
theorem W_pos {t : Nat} : 3 ≤ lenW t ∧ 1 ≤ cntW t ∧ 2 ≤ atW t := by
 unfold lenW cntW atW
 by_cases h0 : t = 0
 ·subst h0; decide
 ·by_cases h1 : t = 1
  ·subst h1; decide
  ·by_cases h4 : t = 4
   ·subst h4; decide
   ·simp [h0, h1, h4]
theorem W_pair {t : Nat} (ht : t < 5) (h0 : t ≠ 0) : 8 + lenW (fT t) + lenW (sT t) = lenW t ∧ 1 + prW (fT t) + prW (sT t) = prW t ∧ 1 + cntW (fT t) + cntW (sT t) = cntW t ∧ 1 + atW (fT t) + atW (sT t) = atW t ∧ fT t < 5 ∧ sT t < 5 := by
 have h : ∀ t < 5, t ≠ 0 → (8 + lenW (fT t) + lenW (sT t) = lenW t ∧ 1 + prW (fT t) + prW (sT t) = prW t ∧ 1 + cntW (fT t) + cntW (sT t) = cntW t ∧ 1 + atW (fT t) + atW (sT t) = atW t ∧ fT t < 5 ∧ sT t < 5) := by decide
 exact h t ht h0
def dep (t : Nat) : Nat := if t = 0 then 0 else if t = 1 then 1 else 2
theorem dep_parts {t : Nat} (ht : t < 5) (h0 : t ≠ 0) : dep (fT t) < dep t ∧ dep (sT t) < dep t := by
 have h : ∀ t < 5, t ≠ 0 → (dep (fT t) < dep t ∧ dep (sT t) < dep t) := by decide
 exact h t ht h0
theorem leafF_ok (raw : List Int) : ∀ (f t : Nat) (s : MkS), t < 5 → dep t < f → MkO t s (leafF raw f t s)
 | 0, _, _, _, h => by omega
 | f + 1, t, s, ht, hd => by
  simp only [leafF]
  have hn := nextF_st raw 7 s
  generalize nextF raw 7 s = x at hn
  have hW := @W_pos t
  split
  ·rename_i y hy
   split at hy
   ·obtain ⟨n, rfl, h1, _⟩ := namedF_ty hy
    rw [hn.2.1] at h1
    refine ⟨.var h1, hn.2.1, by simp only; omega, ?_, ?_, ?_, ?_, ?_⟩ <;> simp only [KE.len, KE.prs, KE.cnt, hn.1] <;> omega
   ·cases hy
  ·split
   ·rename_i h0
    subst h0
    have hm := nextF_st raw 60 x.2
    have hl := nextF_lt raw 60 x.2 (by omega)
    generalize nextF raw 60 x.2 = z at hm hl
    refine ⟨.num (by omega), by rw [hm.2.1, hn.2.1], by simp only; omega, ?_, ?_, ?_, ?_, ?_⟩ <;> simp only [KE.len, KE.prs, KE.cnt, hm.1, hn.1] <;> omega
   ·rename_i h0
    have hp := W_pair ht h0
    have hdp := dep_parts ht h0
    have ha := leafF_ok raw f (fT t) x.2 hp.2.2.2.2.1 (by omega)
    generalize leafF raw f (fT t) x.2 = a at ha
    have hb := leafF_ok raw f (sT t) a.2 hp.2.2.2.2.2 (by omega)
    generalize leafF raw f (sT t) a.2 = b at hb
    obtain ⟨a1, a2, a3, a4, a5, a6, a7, a8⟩ := ha
    obtain ⟨b1, b2, b3, b4, b5, b6, b7, b8⟩ := hb
    rw [a2, hn.2.1] at b1 b2
    rw [hn.2.1] at a1
    refine ⟨.pair h0 ht a1 b1, b2, by simp only; omega, ?_, ?_, ?_, ?_, ?_⟩ <;> simp only [KE.len, KE.prs, KE.cnt, if_true] <;> first | omega | (rw [if_neg (by decide)]; omega)
theorem takeG_ty : ∀ t < 5, ∀ k < 4, ∀ q, takeG t k 0 10 = some q → q.2 ≠ 0 ∧ q.2 < 5 ∧ ((q.1 = .fst ∧ fT q.2 = t) ∨ (q.1 = .snd ∧ sT q.2 = t)) ∧ lenW q.2 ≤ lenW t + 40 ∧ prW q.2 ≤ prW t + 3 ∧ cntW q.2 ≤ cntW t + 7 ∧ atW q.2 ≤ atW t + 10 := by
 have h : ∀ t < 5, ∀ k < 4, (takeG t k 0 10).all (fun q => decide (q.2 ≠ 0 ∧ q.2 < 5 ∧ ((q.1 = .fst ∧ fT q.2 = t) ∨ (q.1 = .snd ∧ sT q.2 = t)) ∧ lenW q.2 ≤ lenW t + 40 ∧ prW q.2 ≤ prW t + 3 ∧ cntW q.2 ≤ cntW t + 7 ∧ atW q.2 ≤ atW t + 10)) = true := by decide
 intro t ht k hk q hq
 have := h t ht k hk
 rw [hq] at this
 simpa only [Option.all_some, decide_eq_true_eq] using this
theorem W_le {t : Nat} : lenW t ≤ 36 ∧ prW t ≤ 3 ∧ cntW t ≤ 7 ∧ atW t ≤ 11 := by
 unfold lenW prW cntW atW
 by_cases h0 : t = 0
 ·subst h0; decide
 ·by_cases h1 : t = 1
  ·subst h1; decide
  ·by_cases h4 : t = 4
   ·subst h4; decide
   ·simp [h0, h1, h4]
theorem bindF_ok {g : Nat → MkS → KE × MkS} {v t : Nat} {s : MkS} (h : MkO t { s with vars := s.vars ++ [v] } (g t { s with vars := s.vars ++ [v] })) :
  KT (s.vars ++ [v]) (bindF g v t s).1 t ∧ (bindF g v t s).2.vars = s.vars ∧ (bindF g v t s).2.left ≤ s.left ∧ (bindF g v t s).1.len + 53 * (bindF g v t s).2.left ≤ lenW t + 53 * s.left ∧ (bindF g v t s).1.prs + 3 * (bindF g v t s).2.left ≤ prW t + 3 * s.left ∧ (bindF g v t s).1.cnt + 9 * (bindF g v t s).2.left ≤ cntW t + 9 * s.left ∧ (bindF g v t s).2.at_ + 40 * (bindF g v t s).2.left ≤ s.at_ + atW t + 40 * s.left ∧ s.at_ ≤ (bindF g v t s).2.at_ := by
 unfold bindF
 refine ⟨h.ty, ?_, h.left, h.len, h.prs, h.cnt, h.at_, h.at'⟩
 simp only [h.vars, List.take_left]
set_option maxHeartbeats 1000000 in
theorem makeF_ok (raw : List Int) : ∀ (f t : Nat) (s : MkS), t < 5 → s.left < f → s.vars.length + s.left ≤ 100 → MkO t s (makeF raw f t s)
 | 0, _, _, _, h, _ => by omega
 | f + 1, t, s, ht, hf, hv => by
  simp only [makeF]
  have hW := @W_le t
  have hWp := @W_pos t
  split
  ·exact leafF_ok raw 3 t s ht (by unfold dep; split <;> (try split) <;> omega)
  rename_i hl0
  have hn := nextF_st raw 9 { s with left := s.left - 1 }
  generalize nextF raw 9 { s with left := s.left - 1 } = x at hn
  simp only at hn
  obtain ⟨n1, n2, n3, n4⟩ := hn
  split
  ·have hm := nextF_st raw 5 x.2
   have hm5 := nextF_lt raw 5 x.2 (by omega)
   generalize nextF raw 5 x.2 = v at hm hm5
   obtain ⟨m1, m2, m3, m4⟩ := hm
   have ha := makeF_ok raw f v.1 v.2 hm5 (by omega) (by rw [m2, n2]; omega)
   generalize makeF raw f v.1 v.2 = a at ha
   obtain ⟨a1, a2, a3, a4, a5, a6, a7, a8⟩ := ha
   have hb := bindF_ok (v := v.1) (makeF_ok raw f t { a.2 with vars := a.2.vars ++ [v.1] } ht (by simp only; omega) (by simp only [List.length_append, List.length_singleton, a2, m2, n2]; omega))
   generalize bindF (makeF raw f) v.1 t a.2 = b at hb
   obtain ⟨b1, b2, b3, b4, b5, b6, b7, b8⟩ := hb
   rw [a2, m2, n2] at b1 b2
   rw [m2, n2] at a1
   have hWv := @W_le v.1
   rw [b2]
   refine ⟨.let_ hm5 (by omega) a1 b1, b2, by simp only; omega, ?_, ?_, ?_, ?_, ?_⟩ <;> simp only [KE.len, KE.prs, KE.cnt, if_true] <;> first | omega | (rw [if_neg (by decide)]; omega)
  split
  ·have ha := makeF_ok raw f 0 x.2 (by omega) (by omega) (by rw [n2]; omega)
   generalize makeF raw f 0 x.2 = a at ha
   obtain ⟨a1, a2, a3, a4, a5, a6, a7, a8⟩ := ha
   have hb := makeF_ok raw f t a.2 ht (by omega) (by rw [a2, n2]; omega)
   generalize makeF raw f t a.2 = b at hb
   obtain ⟨b1, b2, b3, b4, b5, b6, b7, b8⟩ := hb
   have hc := makeF_ok raw f t b.2 ht (by omega) (by rw [b2, a2, n2]; omega)
   generalize makeF raw f t b.2 = c at hc
   obtain ⟨c1, c2, c3, c4, c5, c6, c7, c8⟩ := hc
   rw [b2, a2, n2] at c1 c2
   rw [a2, n2] at b1
   rw [n2] at a1
   have e0 : lenW 0 = 3 ∧ prW 0 = 0 ∧ cntW 0 = 1 ∧ atW 0 = 2 := by decide
   refine ⟨.if_ a1 b1 c1, c2, by simp only; omega, ?_, ?_, ?_, ?_, ?_⟩ <;> simp only [KE.len, KE.prs, KE.cnt] <;> first | omega | (rw [if_neg (by decide)]; omega)
  split
  ·have hm := nextF_st raw 4 x.2
   have hm4 := nextF_lt raw 4 x.2 (by omega)
   generalize nextF raw 4 x.2 = k at hm hm4
   obtain ⟨m1, m2, m3, m4⟩ := hm
   split
   ·rename_i q hq
    have hq' := takeG_ty t ht k.1 hm4 q hq
    have ha := makeF_ok raw f q.2 k.2 hq'.2.1 (by omega) (by rw [m2, n2]; omega)
    generalize makeF raw f q.2 k.2 = a at ha
    obtain ⟨a1, a2, a3, a4, a5, a6, a7, a8⟩ := ha
    rw [m2, n2] at a1 a2
    have hty : KT s.vars (.n1 q.1 a.1) t := by
     rcases hq'.2.2.1 with ⟨e1, e2⟩ | ⟨e1, e2⟩
     ·rw [e1, ← e2]; exact .fst hq'.1 hq'.2.1 a1
     ·rw [e1, ← e2]; exact .snd hq'.1 hq'.2.1 a1
    refine ⟨hty, a2, by simp only; omega, ?_, ?_, ?_, ?_, ?_⟩ <;> simp only [KE.len, KE.prs, KE.cnt] <;> omega
   ·have ha := leafF_ok raw 3 t k.2 ht (by unfold dep; split <;> (try split) <;> omega)
    generalize leafF raw 3 t k.2 = a at ha
    obtain ⟨a1, a2, a3, a4, a5, a6, a7, a8⟩ := ha
    rw [m2, n2] at a1 a2
    exact ⟨a1, a2, by omega, by omega, by omega, by omega, by omega, by omega⟩
  split
  ·have hm := nextF_st raw 4 x.2
   have hm4 := nextF_lt raw 4 x.2 (by omega)
   generalize nextF raw 4 x.2 = n at hm hm4
   obtain ⟨m1, m2, m3, m4⟩ := hm
   have ha := makeF_ok raw f t n.2 ht (by omega) (by rw [m2, n2]; omega)
   generalize makeF raw f t n.2 = a at ha
   obtain ⟨a1, a2, a3, a4, a5, a6, a7, a8⟩ := ha
   have hb := bindF_ok (v := t) (makeF_ok raw f t { a.2 with vars := a.2.vars ++ [t] } ht (by simp only; omega) (by simp only [List.length_append, List.length_singleton, a2, m2, n2]; omega))
   generalize bindF (makeF raw f) t t a.2 = b at hb
   obtain ⟨b1, b2, b3, b4, b5, b6, b7, b8⟩ := hb
   rw [a2, m2, n2] at b1 b2
   rw [m2, n2] at a1
   rw [b2]
   refine ⟨.loop (by omega) (.num (by omega)) a1 b1, b2, by simp only; omega, ?_, ?_, ?_, ?_, ?_⟩ <;> simp only [KE.len, KE.prs, KE.cnt, if_true] <;> omega
  split
  ·split
   ·rename_i h0
    subst h0
    have hm := nextF_st raw 3 x.2
    generalize nextF raw 3 x.2 = o at hm
    obtain ⟨m1, m2, m3, m4⟩ := hm
    have ha := makeF_ok raw f 0 o.2 ht (by omega) (by rw [m2, n2]; omega)
    generalize makeF raw f 0 o.2 = a at ha
    obtain ⟨a1, a2, a3, a4, a5, a6, a7, a8⟩ := ha
    have hb := makeF_ok raw f 0 a.2 ht (by omega) (by rw [a2, m2, n2]; omega)
    generalize makeF raw f 0 a.2 = b at hb
    obtain ⟨b1, b2, b3, b4, b5, b6, b7, b8⟩ := hb
    rw [a2, m2, n2] at b1 b2
    rw [m2, n2] at a1
    have hk : opK o.1 = .add ∨ opK o.1 = .sub ∨ opK o.1 = .less := by unfold opK; split <;> (try split) <;> simp
    have hk1 : opK o.1 ≠ .let_ ∧ opK o.1 ≠ .pair := by rcases hk with h | h | h <;> rw [h] <;> decide
    have e0 : lenW 0 = 3 ∧ prW 0 = 0 ∧ cntW 0 = 1 ∧ atW 0 = 2 := by decide
    refine ⟨.two hk a1 b1, b2, by simp only; omega, ?_, ?_, ?_, ?_, ?_⟩ <;> simp only [KE.len, KE.prs, KE.cnt, if_neg hk1.1, if_neg hk1.2] <;> omega
   ·rename_i h0
    have hp := W_pair ht h0
    have ha := makeF_ok raw f (fT t) x.2 hp.2.2.2.2.1 (by omega) (by rw [n2]; omega)
    generalize makeF raw f (fT t) x.2 = a at ha
    obtain ⟨a1, a2, a3, a4, a5, a6, a7, a8⟩ := ha
    have hb := makeF_ok raw f (sT t) a.2 hp.2.2.2.2.2 (by omega) (by rw [a2, n2]; omega)
    generalize makeF raw f (sT t) a.2 = b at hb
    obtain ⟨b1, b2, b3, b4, b5, b6, b7, b8⟩ := hb
    rw [a2, n2] at b1 b2
    rw [n2] at a1
    refine ⟨.pair h0 ht a1 b1, b2, by simp only; omega, ?_, ?_, ?_, ?_, ?_⟩ <;> simp only [KE.len, KE.prs, KE.cnt, if_true] <;> first | omega | (rw [if_neg (by decide)]; omega)
  ·have ha := leafF_ok raw 3 t x.2 ht (by unfold dep; split <;> (try split) <;> omega)
   generalize leafF raw 3 t x.2 = a at ha
   obtain ⟨a1, a2, a3, a4, a5, a6, a7, a8⟩ := ha
   rw [n2] at a1 a2
   exact ⟨a1, a2, by omega, by omega, by omega, by omega, by omega, by omega⟩
theorem build_ok (t : Int) (raw : List Int) : KT [] (buildF t raw) (pickF t 5) ∧ (buildF t raw).len ≤ 1308 ∧ (buildF t raw).prs ≤ 75 ∧ (buildF t raw).cnt ≤ 223 := by
 have h := makeF_ok raw 25 (pickF t 5) ⟨0, 24, []⟩ (pickF_lt t 5 (by omega)) (by simp) (by simp)
 have hW := @W_le (pickF t 5)
 have h2 := h.len
 have h3 := h.prs
 have h4 := h.cnt
 simp only at h2 h3 h4
 exact ⟨h.ty, by show (makeF raw 25 (pickF t 5) ⟨0, 24, []⟩).1.len ≤ _; omega, by show (makeF raw 25 (pickF t 5) ⟨0, 24, []⟩).1.prs ≤ _; omega, by show (makeF raw 25 (pickF t 5) ⟨0, 24, []⟩).1.cnt ≤ _; omega⟩
end Go.Proofs.YtpicaknklgccoabGreatDoor
