import Derived.Test.YtpicaknklgccoaaGreatDoorS26
set_option maxHeartbeats 1000000
namespace Go.Proofs.YtpicaknklgccoaaGreatDoor
def kP (T : List Ty) : aQ -> Sc -> Prop
 | [], [] => True
 | x :: e, y :: s => x.1 = y.1 /\ 0 <= y.2 /\ T[y.2.toNat]? = some x.2 /\ kP T e s
 | _, _ => False
theorem kP.app {T : List Ty} : ∀ {e e' : aQ} {s s' : Sc}, kP T e s -> kP T e' s' -> kP T (e ++ e') (s ++ s')
 | [], _, [], _, _, h => h
 | _ :: _, _, _ :: _, _, h, h' => ⟨h.1, h.2.1, h.2.2.1, kP.app h.2.2.2 h'⟩
 | [], _, _ :: _, _, h, _ => h.elim
 | _ :: _, _, [], _, h, _ => h.elim
theorem kP.rev {T : List Ty} : ∀ {e : aQ} {s : Sc}, kP T e s -> kP T e.reverse s.reverse
 | [], [], _ => trivial
 | _ :: _, _ :: _, h => by
  rw [List.reverse_cons, List.reverse_cons]
  exact kP.app (kP.rev h.2.2.2) ⟨h.1, h.2.1, h.2.2.1, trivial⟩
 | [], _ :: _, h => h.elim
 | _ :: _, [], h => h.elim
theorem kP.more {T T' : List Ty} : ∀ {e : aQ} {s : Sc}, kP T e s -> kP (T ++ T') e s
 | [], [], _ => trivial
 | _ :: _, _ :: _, h => ⟨h.1, h.2.1, by
   have h3 := h.2.2.1
   rw [List.getElem?_append_left (List.getElem?_eq_some_iff.1 h3).1]; exact h3, kP.more h.2.2.2⟩
 | [], _ :: _, h => h.elim
 | _ :: _, [], h => h.elim
theorem kP.find {T : List Ty} (w : List UInt8) : ∀ {e : aQ} {s : Sc}, kP T e s ->
  (e.find? (fun x => x.1 == w) = none /\ s.find? (fun x => x.1 == w) = none) \/ (∃ x y, e.find? (fun x => x.1 == w) = some x /\ s.find? (fun x => x.1 == w) = some y /\ 0 <= y.2 /\ T[y.2.toNat]? = some x.2)
 | [], [], _ => Or.inl ⟨rfl, rfl⟩
 | x :: _, y :: _, h => by
  rw [List.find?_cons, List.find?_cons, <- h.1]
  by_cases hw : (x.1 == w) = true
  ·rw [hw]; exact Or.inr ⟨x, y, rfl, rfl, h.2.1, h.2.2.1⟩
  ·have hw' : (x.1 == w) = false := by simpa using hw
   rw [hw']; exact kP.find w h.2.2.2
 | [], _ :: _, h => h.elim
 | _ :: _, [], h => h.elim
theorem kP.look {T : List Ty} {e : aQ} {s : Sc} (h : kP T e s) (w : List UInt8) :
  (look e w = none /\ bL s w = -1) \/ (∃ t, look e w = some t /\ bL s w ≠ -1 /\ ai T (bL s w) = t) := by
 rcases h.rev.find w with ⟨h1, h2⟩ | ⟨x, y, h1, h2, h3, h4⟩
 ·left; unfold Go.Proofs.YtpicaknklgccoaaGreatDoor.look bL; rw [h1, h2]; exact ⟨rfl, rfl⟩
 ·right
  refine ⟨x.2, ?_, ?_, ?_⟩
  ·unfold Go.Proofs.YtpicaknklgccoaaGreatDoor.look; rw [h1]; rfl
  ·unfold bL; rw [h2]; simp only; omega
  ·unfold bL ai; rw [h2]; simp only; rw [if_pos h3, h4]; rfl
theorem wL (TY : List Ty) : ∀ (a b : List (PT × Nat × Nat)), sW TY (a ++ b) = if (sW TY a).1 ≠ 0 then sW TY a else sW TY b
 | [], _ => by simp [sW]
 | x :: r, b => by
  have e1 : sW TY (x :: (r ++ b)) = if iy TY x ≠ 0 then (iy TY x, x.1.X4) else sW TY (r ++ b) := rfl
  have e2 : sW TY (x :: r) = if iy TY x ≠ 0 then (iy TY x, x.1.X4) else sW TY r := rfl
  by_cases h : iy TY x ≠ 0
  ·rw [if_pos h] at e1 e2; rw [List.cons_append, e1, e2, if_pos h]
  ·rw [if_neg h] at e1 e2; rw [List.cons_append, e1, e2, wL TY r b]
structure Cx (T : List Ty) (c : Nat) (ns : List NR) (T' : List Ty) (of of' : List (List UInt8)) (id : Nat) (xs : List (PT × Nat × Nat)) : Prop where
 run : bz T ns = T ++ T'
 len : T'.length = c
 sz : iY T ns
 out : ∀ k, k < id \/ id + c <= k -> of'[k]? = of[k]?
 Sx : of'.length = of.length
 X5 : ∀ k, id <= k -> k < id + c -> ∃ U : Ty, U.fit /\ of'[k]? = some U.txt
 pl : ∀ TY : List Ty, (∀ k, id <= k -> k < id + c -> of'[k]? = some (AE TY k).txt) -> tM T ns = sW TY xs
theorem Cx.nil (T : List Ty) (of : List (List UInt8)) (id : Nat) : Cx T 0 [] [] of of id [] :=
 ⟨by simp [bz], rfl, trivial, fun _ _ => rfl, rfl, fun k h1 h2 => by omega, fun _ _ => rfl⟩
theorem Cx.app {T : List Ty} {c1 c2 : Nat} {n1 n2 : List NR} {T1 T2 : List Ty} {o o1 o2 : List (List UInt8)} {id : Nat} {x1 x2 : List (PT × Nat × Nat)} (h : Cx T c1 n1 T1 o o1 id x1) (g : Cx (T ++ T1) c2 n2 T2 o1 o2 (id + c1) x2) : Cx T (c1 + c2) (n1 ++ n2) (T1 ++ T2) o o2 id (x1 ++ x2) := by
 refine ⟨?_, ?_, ?_, ?_, ?_, ?_, ?_⟩
 ·rw [kf, h.run, g.run, List.append_assoc]
 ·rw [List.length_append, h.len, g.len]
 ·exact vD _ _ _ h.sz (by rw [h.run]; exact g.sz)
 ·intro k hk; rw [g.out k (by omega), h.out k (by omega)]
 ·rw [g.Sx, h.Sx]
 ·intro k h1 h2
  by_cases hk : k < id + c1
  ·obtain ⟨U, u1, u2⟩ := h.X5 k h1 hk
   exact ⟨U, u1, by rw [g.out k (by omega)]; exact u2⟩
  ·exact g.X5 k (by omega) (by omega)
 ·intro TY hT
  rw [oI, wL, h.run, h.pl TY (fun k h1 h2 => by rw [<- g.out k (by omega)]; exact hT k h1 (by omega)), g.pl TY (fun k h1 h2 => hT k (by omega) (by omega))]
theorem Cx.root {T : List Ty} {c : Nat} {ks : List NR} {T' : List Ty} {o o1 : List (List UInt8)} {id : Nat} {xs : List (PT × Nat × Nat)} (h : Cx T c ks T' o o1 (id + 1) xs) (n : NR) (U : Ty) (x : PT × Nat × Nat) (hU : cH (T ++ T') n = U) (hf : U.fit) (hs : n.form = 4 -> (Ty.p 0 (ai (T ++ T') n.p0) (ai (T ++ T') n.p1)).size <= 63) (hid : id < o.length) (hat : n.at_ = x.1.X4)
  (hv : ∀ TY : List Ty, (∀ k, id + 1 <= k -> k < id + 1 + c -> o1[k]? = some (AE TY k).txt) -> oY (T ++ T' ++ [U]) n = iy TY x) :
  Cx T (1 + c) (ks ++ [n]) (T' ++ [U]) o (o1.set id U.txt) id (xs ++ [x]) := by
 have ho : ∀ k, k ≠ id -> (o1.set id U.txt)[k]? = o1[k]? := fun k hk => List.getElem?_set_ne (fun e => hk e.symm)
 have hi : (o1.set id U.txt)[id]? = some U.txt := by rw [List.getElem?_set_self (by rw [h.Sx]; exact hid)]
 refine ⟨?_, ?_, ?_, ?_, ?_, ?_, ?_⟩
 ·rw [kf, h.run]; simp only [bz, hU, List.append_assoc]
 ·rw [List.length_append, h.len]; simp; omega
 ·exact vD _ _ _ h.sz (by rw [h.run]; exact ⟨hs, trivial⟩)
 ·intro k hk; rw [ho k (by omega), h.out k (by omega)]
 ·rw [List.length_set, h.Sx]
 ·intro k h1 h2
  by_cases e : k = id
  ·subst e; exact ⟨U, hf, hi⟩
  ·obtain ⟨V, v1, v2⟩ := h.X5 k (by omega) (by omega)
   exact ⟨V, v1, by rw [ho k e]; exact v2⟩
 ·intro TY hT
  have Uk : ∀ k, id + 1 <= k -> k < id + 1 + c -> o1[k]? = some (AE TY k).txt := fun k h1 h2 => by rw [<- ho k (by omega)]; exact hT k (by omega) (by omega)
  rw [oI, wL, h.run, h.pl TY Uk]
  simp only [tM, sW, hU, hv TY Uk, hat]
theorem wM (id p : Nat) (x : Ty × dD) : (fin id p x).1 = x.1 /\ (fin id p x).2.of = x.2.of.set id x.1.txt /\ ((fin id p x).2.e = 0 -> x.2.e = 0 /\ x.1.size <= 63) := by
 unfold fin
 refine ⟨rfl, ?_, ?_⟩
 ·simp only
  split
  ·unfold cS; split <;> rfl
  ·rfl
 ·simp only
  split
  ·rename_i h
   unfold cS; rw [if_pos h.1]; intro h'; simp at h'
  ·rename_i h
   intro h'
   exact ⟨h', by omega⟩
def rQ (cls : List Nat) (l : List (Nat × List UInt8)) (site : Nat) : Prop := ∀ (i : Nat) (x : Nat × List UInt8), l[i]? = some x -> cls.getD (site + i) 0 = (au x.2).toNat
theorem rQ.left {cls : List Nat} {a b : List (Nat × List UInt8)} {site : Nat} (h : rQ cls (a ++ b) site) : rQ cls a site :=
 fun i x hx => h i x (by rw [List.getElem?_append_left (List.getElem?_eq_some_iff.1 hx).1]; exact hx)
theorem rQ.right {cls : List Nat} {a b : List (Nat × List UInt8)} {site : Nat} (h : rQ cls (a ++ b) site) : rQ cls b (site + a.length) := by
 intro i x hx
 have := h (a.length + i) x (by rw [List.getElem?_append_right (by omega), Nat.add_sub_cancel_left]; exact hx)
 rw [Nat.add_assoc]; exact this
theorem qA {T : List Ty} {i : Nat} {t : Ty} (U : List Ty) (h : T[i]? = some t) : ai (T ++ U) (i : Int) = t :=
 qB (by rw [List.getElem?_append_left (List.getElem?_eq_some_iff.1 h).1]; exact h)
theorem qC : aU .bb = 3 := by decide
theorem mH : aU .pair = 4 := by decide
theorem qD : aU .fst = 5 := by decide
theorem qE : aU .snd = 6 := by decide
theorem tX : aU .fH = 7 := by decide
theorem Sy : aU .add = 8 := by decide
theorem Sz : aU .sub = 9 := by decide
theorem O0 : aU .less = 10 := by decide
theorem lA : aU .loop = 11 := by decide
theorem wN : aU .new = 12 := by decide
theorem Lf (cls : List Nat) (k : Kw) (p site id : Nat) (nm rg : List UInt8) (kids : List PT) (ks : List Ty) (st : dD) (T : List Ty) (aO : Nat) (hkl : kids.length = (bX k).length) (hl : ks.length = (bX k).length) (h0 : st.e = 0)
  (hc : k = .pair -> cls.getD site 0 = (au rg).toNat) (base : Nat)
  (hK : ∀ (j : Nat) (t : Ty), ks[j]? = some t -> ∃ i : Nat, (ay kids base).getD j (-1) = (i : Int) /\ T[i]? = some t)
  (he : (aN cls k p site ks st).2.e = 0) (hsz : (aN cls k p site ks st).1.size <= 63) :
  (aN cls k p site ks st).2 = st /\
  cH T ⟨aU k, p, aO, 0, nm, au rg, -1, (ay kids base).getD 0 (-1), (ay kids base).getD 1 (-1), (ay kids base).getD 2 (-1)⟩ = (aN cls k p site ks st).1 /\
  (aU k = 4 -> (Ty.p 0 (ai T ((ay kids base).getD 0 (-1))) (ai T ((ay kids base).getD 1 (-1)))).size <= 63) /\
  ∀ (TY : List Ty) (U : Ty), (∀ (j : Nat) (t : Ty), ks[j]? = some t -> AE TY (id + 1 + aB (kids.take j)) = t) ->
   oY (T ++ [U]) ⟨aU k, p, aO, 0, nm, au rg, -1, (ay kids base).getD 0 (-1), (ay kids base).getD 1 (-1), (ay kids base).getD 2 (-1)⟩ = iy TY (.node p k nm rg kids, id, site) := by
 have hkn : ∀ (j : Nat) (t : Ty), ks[j]? = some t -> ai T ((ay kids base).getD j (-1)) = t /\ ∀ U, ai (T ++ [U]) ((ay kids base).getD j (-1)) = t := by
  intro j t ht
  obtain ⟨i, h1, h2⟩ := hK j t ht
  rw [h1]
  exact ⟨qB h2, fun U => qA [U] h2⟩
 have bad : ∀ (e q : Nat) (st : dD), st.e = 0 -> e ≠ 0 -> (cS st e q).e ≠ 0 := by
  intro e q st h1 h2; unfold cS; rw [if_pos h1]; exact h2
 have h0k := hkn 0
 have Ex := hkn 1
 have Ul := hkn 2
 clear hK hkn
 generalize (ay kids base).getD 0 (-1) = P0 at *
 generalize (ay kids base).getD 1 (-1) = P1 at *
 generalize (ay kids base).getD 2 (-1) = P2 at *
 cases k
 case bb =>
  match ks, hl, kids, hkl, Ex with
  | [A, B], _, [a, b], _, Ex => simp [aN, cH, qC, oY, iy, (Ex B rfl).1]
 case pair =>
  match ks, hl, kids, hkl, h0k, Ex with
  | [A, B], _, [a, b], _, h0k, Ex =>
   have e : aN cls .pair p site [A, B] st = (.p (au rg).toNat A B, st) := by simp only [aN, bB, hc rfl]; rfl
   rw [e] at hsz ⊢
   refine ⟨rfl, by simp [cH, mH, (h0k A rfl).1, (Ex B rfl).1], fun _ => ?_, fun TY U _ => by simp [oY, mH, iy]⟩
   rw [(h0k A rfl).1, (Ex B rfl).1]
   exact hsz
 case fst =>
  match ks, hl, kids, hkl, h0k with
  | [.p r A B], _, [a], _, h0k => simp [aN, bB, cH, qD, oY, iy, (h0k _ rfl).1, Bv]
  | [.n], _, [a], _, _ => exact absurd he (by simp only [aN, bB]; exact bad _ _ _ h0 (by decide))
 case snd =>
  match ks, hl, kids, hkl, h0k with
  | [.p r A B], _, [a], _, h0k => simp [aN, bB, cH, qE, oY, iy, (h0k _ rfl).1, Bw]
  | [.n], _, [a], _, _ => exact absurd he (by simp only [aN, bB]; exact bad _ _ _ h0 (by decide))
 case fH =>
  match ks, hl, kids, hkl, Ex, Ul with
  | [A, B, C], _, [a, b, c], _, Ex, Ul =>
   by_cases hc : A = .n /\ B.bare = C.bare
   ·have e : aN cls .fH p site [A, B, C] st = (B, st) := by simp only [aN, bB]; rw [if_pos hc]; rfl
    rw [e]
    refine ⟨rfl, by simp [cH, tX, (Ex B rfl).1], by simp [tX], ?_⟩
    intro TY U hT
    have t1 := hT 1 B rfl
    have t2 := hT 2 C rfl
    simp only [List.take, aB, Nat.add_zero] at t1 t2
    rw [<- Nat.add_assoc] at t2
    simp only [oY, tX, iy, (Ex B rfl).2, (Ul C rfl).2, t1, t2]
    by_cases hbc : B = C <;> simp [hbc]
   ·exact absurd he (by simp only [aN, bB]; rw [if_neg hc]; exact bad _ _ _ h0 (by decide))
 case loop =>
  match ks, hl, kids, hkl, Ex, Ul with
  | [A, B, C], _, [a, b, c], _, Ex, Ul =>
   by_cases hc : A = .n /\ B.bare = C.bare
   ·have e : aN cls .loop p site [A, B, C] st = (B, st) := by simp only [aN, bB]; rw [if_pos hc]; rfl
    rw [e]
    refine ⟨rfl, by simp [cH, lA, (Ex B rfl).1], by simp [lA], ?_⟩
    intro TY U hT
    have t1 := hT 1 B rfl
    have t2 := hT 2 C rfl
    simp only [List.take, aB, Nat.add_zero] at t1 t2
    rw [<- Nat.add_assoc] at t2
    simp only [oY, lA, iy, (Ex B rfl).2, (Ul C rfl).2, t1, t2]
    by_cases hbc : B = C <;> simp [hbc]
   ·exact absurd he (by simp only [aN, bB]; rw [if_neg hc]; exact bad _ _ _ h0 (by decide))
 case new =>
  match ks, hl, kids, hkl, h0k with
  | [A], _, [a], _, h0k =>
   refine ⟨rfl, by simp [aN, bB, cH, wN, (h0k A rfl).1], by simp [wN], ?_⟩
   intro TY U hT
   have t1 := hT 0 A rfl
   simp only [List.take, aB, Nat.add_zero] at t1
   simp only [oY, wN, iy, (h0k A rfl).2, t1]
   by_cases hh : A.has (au rg) = true <;> simp [hh]
 all_goals
  match ks, hl, kids, hkl with
  | [A, B], _, [a, b], _ =>
   by_cases hc : A = .n /\ B = .n
   ·simp only [aN, bB]
    rw [if_pos hc]
    simp [cH, Sy, Sz, O0, oY, iy]
   ·exact absurd he (by simp only [aN, bB]; rw [if_neg hc]; exact bad _ _ _ h0 (by decide))
def Tk.z (t : Tk) : Tk := { t with at_ := 0 }
def sk (l : List UInt8) : List Tk := (tokens l).map Tk.z
theorem Ey : ∀ (f p q : Nat) (l : List UInt8), (toks f p l).map Tk.z = (toks f q l).map Tk.z
 | 0, _, _, _ => rfl
 | _ + 1, _, _, [] => rfl
 | f + 1, p, q, c :: r => by
  simp only [toks]
  split
  ·exact Ey f _ _ _
  ·simp only [List.map_cons]; rw [Ey f _ (q + (aJ (c :: r)).1)]; rfl
theorem F7 (f p : Nat) (l : List UInt8) (h : l.length <= f) : (toks f p l).map Tk.z = sk l := by
 unfold sk tokens; rw [yt f l.length p l h (Nat.le_refl _)]; exact Ey _ _ _ _
theorem SA : sk [] = [] := rfl
theorem Lg (c : UInt8) (r : List UInt8) (h : dY c = true) : sk (c :: r) = sk r := by
 show (toks (r.length + 1) 0 (c :: r)).map Tk.z = _
 rw [uZ _ _ _ _ h]; exact F7 _ _ _ (Nat.le_refl _)
theorem wO (a : UInt8) (t r : List UInt8) (c : Cl) (ha : dY a = false) (h : aJ (a :: (t ++ r)) = (t.length + 1, c)) : sk (a :: (t ++ r)) = ⟨a :: t, 0, c⟩ :: sk r := by
 show (toks ((t ++ r).length + 1) 0 (a :: (t ++ r))).map Tk.z = _
 rw [Bd _ _ _ _ ha, h]
 simp only [List.map_cons, List.take_succ_cons, List.drop_succ_cons, List.take_left, List.drop_left]
 rw [F7 _ _ _ (by simp)]; rfl
theorem uT (lo hi : Int) : ∀ (w r : List UInt8), (∀ c ∈ w, j7 lo hi c = true) -> (∀ c ∈ r.head?, j7 lo hi c = false) -> run lo hi (w ++ r) = w.length
 | [], [], _, _ => rfl
 | [], c :: r, _, h => by simp [run, h c (by simp)]
 | a :: w, r, h, h' => by
  simp only [List.cons_append, run, h a (by simp), if_true, List.length_cons]
  rw [uT lo hi w r (fun c hc => h c (by simp [hc])) h']
def Stop (r : List UInt8) : Prop := ∀ c ∈ r.head?, j7 97 122 c = false /\ j7 48 57 c = false
theorem Lh : Stop [] := by intro c h; simp at h
theorem mI (r : List UInt8) : Stop (32 :: r) := by intro c h; simp at h; subst h; decide
theorem Ez (r : List UInt8) : Stop (41 :: r) := by intro c h; simp at h; subst h; decide
def yS (s : List UInt8) : Prop := s ≠ [] /\ (∀ c ∈ s, j7 97 122 c = true) /\ s.length <= 8 /\ uf s = none
def yT (s : List UInt8) (m : Nat) : Prop := (∀ c ∈ s, j7 48 57 c = true) /\ bY s m = true
theorem EA {lo hi : Int} {c : UInt8} (h : j7 lo hi c = true) : lo <= (c.toNat : Int) /\ (c.toNat : Int) <= hi := by
 unfold j7 at h; simp only [Bool.and_eq_true, decide_eq_true_eq] at h; exact h
theorem O1 {lo hi : Int} {c : UInt8} (h : (c.toNat : Int) < lo \/ hi < (c.toNat : Int)) : j7 lo hi c = false := by
 cases hb : j7 lo hi c with
 | false => rfl
 | true => have := EA hb; omega
theorem yU {c : UInt8} (h : 33 <= c.toNat) : dY c = false := by
 unfold dY
 rw [Bool.or_eq_false_iff]
 constructor <;> (rw [beq_eq_false_iff_ne]; rintro rfl; exact absurd h (by decide))
theorem F8 (w r : List UInt8) (hne : w ≠ []) (hw : ∀ c ∈ w, j7 97 122 c = true) (hr : Stop r) : sk (w ++ r) = ⟨w, 0, dX w w.length⟩ :: sk r := by
 have hrun := uT 97 122 w r hw (fun c hc => (hr c hc).1)
 cases w with
 | nil => exact absurd rfl hne
 | cons a t =>
  have ha := EA (hw a (by simp))
  refine wO a t r _ (yU (by omega)) ?_
  have hrun' : run 97 122 (a :: (t ++ r)) = t.length + 1 := hrun
  unfold aJ
  rw [if_pos (by omega), hrun']
  simp
theorem Wl (k : Kw) (r : List UInt8) (hr : Stop r) : sk (k.bytes ++ r) = ⟨k.bytes, 0, .kw k⟩ :: sk r := by
 rw [F8 k.bytes r (by cases k <;> decide) (by cases k <;> decide) hr]
 unfold dX; rw [uY]
theorem F9 (s r : List UInt8) (h : yS s) (hr : Stop r) : sk (s ++ r) = ⟨s, 0, .xP⟩ :: sk r := by
 rw [F8 s r h.1 h.2.1 hr]
 unfold dX; rw [h.2.2.2]; simp only; rw [if_pos h.2.2.1]
theorem Cy {s : List UInt8} {m : Nat} (h : bY s m = true) : s ≠ [] := by
 rintro rfl; simp [bY] at h
theorem SB (s r : List UInt8) (h : yT s 4) (hr : Stop r) : sk (s ++ r) = ⟨s, 0, .num⟩ :: sk r := by
 have hrun := uT 48 57 s r h.1 (fun c hc => (hr c hc).2)
 have hne := Cy h.2
 cases s with
 | nil => exact absurd rfl hne
 | cons a t =>
  have ha := EA (h.1 a (by simp))
  refine wO a t r _ (yU (by omega)) ?_
  have hrun' : run 48 57 (a :: (t ++ r)) = t.length + 1 := hrun
  have h0 : run 97 122 (a :: (t ++ r)) = 0 := by simp only [run]; rw [O1 (by omega)]; simp
  unfold aJ
  rw [if_neg (by omega), if_pos (by omega), hrun']
  simp only [List.take_succ_cons, List.take_left]
  rw [if_pos h.2]
theorem SC (d r : List UInt8) (h : yT d 3) (hr : Stop r) : sk (35 :: (d ++ r)) = ⟨35 :: d, 0, .Ft⟩ :: sk r := by
 have hrun := uT 48 57 d r h.1 (fun c hc => (hr c hc).2)
 refine wO 35 d r _ (by decide) ?_
 unfold aJ
 rw [if_neg (by simp [run, j7]), if_neg (by simp [run, j7])]
 simp only [if_true]
 rw [hrun, List.take_left, if_pos h.2]
theorem SD (r : List UInt8) : sk (40 :: r) = ⟨[40], 0, .opn⟩ :: sk r := by
 refine wO 40 [] r _ (by decide) ?_
 unfold aJ
 rw [if_neg (by simp [run, j7]), if_neg (by simp [run, j7])]
 simp
theorem SE (r : List UInt8) : sk (41 :: r) = ⟨[41], 0, .cls⟩ :: sk r := by
 refine wO 41 [] r _ (by decide) ?_
 unfold aJ
 rw [if_neg (by simp [run, j7]), if_neg (by simp [run, j7])]
 simp
theorem Ga (r : List UInt8) : sk (32 :: r) = sk r := Lg 32 r (by decide)
mutual
def PT.ok (ae : Bool) : PT -> Prop
 | .num _ s => yT s 4
 | .name _ s => yS s
 | .node _ k nm rg kids => bS k ae ≠ [] /\ kids.length = arity k /\ (if k = .bb \/ k = .loop then yS nm else nm = []) /\ (if ae = true /\ (k = .pair \/ k = .new) then ∃ d, rg = 35 :: d /\ yT d 3 else rg = []) /\ wP ae kids
def wP (ae : Bool) : List PT -> Prop
 | [] => True
 | t :: r => t.ok ae /\ wP ae r
end
mutual
def PT.np : PT -> PT
 | .num _ s => .num 0 s
 | .name _ s => .name 0 s
 | .node _ k nm rg kids => .node 0 k nm rg (jZ kids)
def jZ : List PT -> List PT
 | [] => []
 | t :: r => t.np :: jZ r
end
def iz (rg : List UInt8) : List UInt8 := if rg = [] then [] else 32 :: rg
mutual
def PT.tidy : PT -> List UInt8
 | .num _ s => s
 | .name _ s => s
 | .node _ k nm rg kids => 40 :: (k.bytes ++ (iz rg ++ (bC k nm 0 (dA kids) ++ [41])))
def dA : List PT -> List (List UInt8)
 | [] => []
 | t :: r => t.tidy :: dA r
end
def jg (k : Kw) (nm : List UInt8) (i : Nat) (x : List Tk) : List Tk := (if (k = .bb /\ i = 0) \/ (k = .loop /\ i = 1) then [⟨nm, 0, .xP⟩] else []) ++ x
def jz (k : Kw) (nm : List UInt8) : Nat -> List (List Tk) -> List Tk
 | _, [] => []
 | i, x :: r => jg k nm i x ++ jz k nm (i + 1) r
def rR (rg : List UInt8) : List Tk := if rg = [] then [] else [⟨rg, 0, .Ft⟩]
mutual
def PT.O2 : PT -> List Tk
 | .num _ s => [⟨s, 0, .num⟩]
 | .name _ s => [⟨s, 0, .xP⟩]
 | .node _ k nm rg kids => ⟨[40], 0, .opn⟩ :: ⟨k.bytes, 0, .kw k⟩ :: (rR rg ++ (jz k nm 0 (og kids) ++ [⟨[41], 0, .cls⟩]))
def og : List PT -> List (List Tk)
 | [] => []
 | t :: r => t.O2 :: og r
end
theorem sX (k : Kw) (nm : List UInt8) (i : Nat) (l : List (List UInt8)) (r : List UInt8) : Stop (bC k nm i l ++ (41 :: r)) := by
 cases l with
 | nil => exact Ez r
 | cons x l =>
  unfold bC cI
  split
  ·exact mI _
  ·exact mI _
mutual
theorem Gb {ae : Bool} : ∀ (e : PT), e.ok ae -> ∀ r, Stop r -> sk (e.tidy ++ r) = e.O2 ++ sk r
 | .num _ s, h, r, hr => SB s r (by simpa only [PT.ok] using h) hr
 | .name _ s, h, r, hr => F9 s r (by simpa only [PT.ok] using h) hr
 | .node _ k nm rg kids, h, r, hr => by
  simp only [PT.ok] at h
  obtain ⟨_, _, hn, hg, hk⟩ := h
  have hj := Cz (ae := ae) kids hk k nm (fun hx => by rw [if_pos hx] at hn; exact hn) 0 r
  simp only [PT.tidy, PT.O2, List.cons_append, List.append_assoc, List.nil_append]
  rw [SD, Wl, List.cons.injEq, List.cons.injEq]
  ·refine ⟨rfl, rfl, ?_⟩
   unfold iz rR
   split
   ·exact hj
   ·rename_i e
    split at hg
    ·obtain ⟨d, rfl, hd⟩ := hg
     simp only [List.cons_append]
     rw [Ga, SC d _ hd (sX _ _ _ _ _), hj]; rfl
    ·exact absurd hg e
  ·unfold iz
   split
   ·exact sX _ _ _ _ _
   ·exact mI _
theorem Cz {ae : Bool} : ∀ (kids : List PT), wP ae kids -> ∀ (k : Kw) (nm : List UInt8), ((k = .bb \/ k = .loop) -> yS nm) -> ∀ (i : Nat) (r : List UInt8), sk (bC k nm i (dA kids) ++ (41 :: r)) = jz k nm i (og kids) ++ (⟨[41], 0, .cls⟩ :: sk r)
 | [], _, k, nm, _, i, r => by simp only [dA, og, bC, jz, List.nil_append]; exact SE r
 | t :: ts, h, k, nm, hn, i, r => by
  simp only [wP] at h
  have ih := Cz ts h.2 k nm hn (i + 1) r
  have iht := Gb t h.1 (bC k nm (i + 1) (dA ts) ++ (41 :: r)) (sX _ _ _ _ _)
  simp only [dA, og, bC, jz, cI, jg, List.append_assoc]
  split
  ·rename_i hc
   have hg : yS nm := hn (hc.elim (fun h => Or.inl h.1) (fun h => Or.inr h.1))
   simp only [List.cons_append, List.nil_append]
   rw [Ga, F9 nm _ hg (mI _), Ga, iht, ih]
  ·simp only [List.cons_append, List.nil_append]
   rw [Ga, iht, ih]
end
mutual
theorem Li {ae : Bool} : ∀ (e : PT), e.ok ae -> ∀ r, PE ae (e.O2 ++ r) e.np r
 | .num _ s, _, r => by simp only [PT.O2, PT.np]; exact .num (t := ⟨s, 0, .num⟩) rfl
 | .name _ s, _, r => by simp only [PT.O2, PT.np]; exact .name (t := ⟨s, 0, .xP⟩) rfl
 | .node _ k nm rg kids, h, r => by
  simp only [PT.ok] at h
  obtain ⟨hw, hl, hn, hg, hk⟩ := h
  have hks := Lj (ae := ae) kids hk
  have dW : ∀ (R : List Tk) (ZL Wm : List UInt8) (ks : List PT), PW ae (bS k ae) R ZL Wm ks r -> R = rR rg ++ (jz k nm 0 (og kids) ++ [⟨[41], 0, .cls⟩]) ++ r -> ZL = nm -> Wm = rg -> ks = jZ kids -> PE ae ((PT.node 0 k nm rg kids).O2 ++ r) (PT.node 0 k nm rg kids).np r := by
   rintro R ZL Wm ks hp rfl rfl rfl rfl
   simp only [PT.O2, PT.np, List.cons_append]
   exact .node (t := ⟨[40], 0, .opn⟩) (u := ⟨k.bytes, 0, .kw k⟩) rfl rfl hw hp
  cases k with
  | bb =>
   match kids, hl, hks, dW with
   | [a, b], _, hks, dW =>
    simp only [bS] at dW
    simp only [true_or, if_true] at hn
    rw [if_neg (by simp)] at hg
    subst hg
    exact dW _ _ _ _ (.name (t := ⟨nm, 0, .xP⟩) rfl (.e (hks a (by simp) _) (.e (hks b (by simp) _) (.close (t := ⟨[41], 0, .cls⟩) rfl .nil)))) (by simp [rR, og, jz, jg]) rfl rfl rfl
  | loop =>
   match kids, hl, hks, dW with
   | [a, b, c], _, hks, dW =>
    simp only [bS] at dW
    rw [if_neg (by simp)] at hg
    subst hg
    exact dW _ _ _ _ (.e (hks a (by simp) _) (.name (t := ⟨nm, 0, .xP⟩) rfl (.e (hks b (by simp) _) (.e (hks c (by simp) _) (.close (t := ⟨[41], 0, .cls⟩) rfl .nil))))) (by simp [rR, og, jz, jg]) rfl rfl rfl
  | fH =>
   match kids, hl, hks, dW with
   | [a, b, c], _, hks, dW =>
    simp only [bS] at dW
    rw [if_neg (by simp)] at hg
    rw [if_neg (by decide)] at hn
    subst hg; subst hn
    exact dW _ _ _ _ (.e (hks a (by simp) _) (.e (hks b (by simp) _) (.e (hks c (by simp) _) (.close (t := ⟨[41], 0, .cls⟩) rfl .nil)))) (by simp [rR, og, jz, jg]) rfl rfl rfl
  | fst =>
   match kids, hl, hks, dW with
   | [a], _, hks, dW =>
    simp only [bS] at dW
    rw [if_neg (by simp)] at hg
    rw [if_neg (by decide)] at hn
    subst hg; subst hn
    exact dW _ _ _ _ (.e (hks a (by simp) _) (.close (t := ⟨[41], 0, .cls⟩) rfl .nil)) (by simp [rR, og, jz, jg]) rfl rfl rfl
  | snd =>
   match kids, hl, hks, dW with
   | [a], _, hks, dW =>
    simp only [bS] at dW
    rw [if_neg (by simp)] at hg
    rw [if_neg (by decide)] at hn
    subst hg; subst hn
    exact dW _ _ _ _ (.e (hks a (by simp) _) (.close (t := ⟨[41], 0, .cls⟩) rfl .nil)) (by simp [rR, og, jz, jg]) rfl rfl rfl
  | add =>
   match kids, hl, hks, dW with
   | [a, b], _, hks, dW =>
    simp only [bS] at dW
    rw [if_neg (by simp)] at hg
    rw [if_neg (by decide)] at hn
    subst hg; subst hn
    exact dW _ _ _ _ (.e (hks a (by simp) _) (.e (hks b (by simp) _) (.close (t := ⟨[41], 0, .cls⟩) rfl .nil))) (by simp [rR, og, jz, jg]) rfl rfl rfl
  | sub =>
   match kids, hl, hks, dW with
   | [a, b], _, hks, dW =>
    simp only [bS] at dW
    rw [if_neg (by simp)] at hg
    rw [if_neg (by decide)] at hn
    subst hg; subst hn
    exact dW _ _ _ _ (.e (hks a (by simp) _) (.e (hks b (by simp) _) (.close (t := ⟨[41], 0, .cls⟩) rfl .nil))) (by simp [rR, og, jz, jg]) rfl rfl rfl
  | less =>
   match kids, hl, hks, dW with
   | [a, b], _, hks, dW =>
    simp only [bS] at dW
    rw [if_neg (by simp)] at hg
    rw [if_neg (by decide)] at hn
    subst hg; subst hn
    exact dW _ _ _ _ (.e (hks a (by simp) _) (.e (hks b (by simp) _) (.close (t := ⟨[41], 0, .cls⟩) rfl .nil))) (by simp [rR, og, jz, jg]) rfl rfl rfl
  | pair =>
   match kids, hl, hks, dW with
   | [a, b], _, hks, dW =>
    rw [if_neg (by decide)] at hn
    subst hn
    cases ae with
    | false =>
     simp only [bS] at dW
     rw [if_neg (by simp)] at hg
     subst hg
     exact dW _ _ _ _ (.e (hks a (by simp) _) (.e (hks b (by simp) _) (.close (t := ⟨[41], 0, .cls⟩) rfl .nil))) (by simp [rR, og, jz, jg]) rfl rfl rfl
    | true =>
     simp only [bS] at dW
     rw [if_pos (by simp)] at hg
     obtain ⟨d, rfl, hd⟩ := hg
     exact dW _ _ _ _ (.region (t := ⟨35 :: d, 0, .Ft⟩) rfl (.e (hks a (by simp) _) (.e (hks b (by simp) _) (.close (t := ⟨[41], 0, .cls⟩) rfl .nil)))) (by simp [rR, og, jz, jg]) rfl rfl rfl
  | new =>
   match kids, hl, hks, dW with
   | [a], _, hks, dW =>
    rw [if_neg (by decide)] at hn
    subst hn
    cases ae with
    | false => exact absurd rfl hw
    | true =>
     simp only [bS] at dW
     rw [if_pos (by simp)] at hg
     obtain ⟨d, rfl, hd⟩ := hg
     exact dW _ _ _ _ (.region (t := ⟨35 :: d, 0, .Ft⟩) rfl (.e (hks a (by simp) _) (.close (t := ⟨[41], 0, .cls⟩) rfl .nil))) (by simp [rR, og, jz, jg]) rfl rfl rfl
theorem Lj {ae : Bool} : ∀ (kids : List PT), wP ae kids -> ∀ x ∈ kids, ∀ r, PE ae (x.O2 ++ r) x.np r
 | [], _, x, hx, _ => by simp at hx
 | t :: ts, h, x, hx, r => by
  simp only [wP] at h
  rcases List.mem_cons.1 hx with hx | hx
  ·rw [hx]; exact Li t h.1 r
  ·exact Lj ts h.2 x hx r
end
theorem qF {l : List Tk} {t : Tk} {r : List Tk} (h : l.map Tk.z = t :: r) : ∃ t2 r2, l = t2 :: r2 /\ t2.c = t.c /\ t2.s = t.s /\ r2.map Tk.z = r := by
 cases l with
 | nil => simp at h
 | cons a l =>
  simp only [List.map_cons, List.cons.injEq] at h
  exact ⟨a, l, rfl, by rw [<- h.1]; rfl, by rw [<- h.1]; rfl, h.2⟩
mutual
theorem PE.QD {ae : Bool} : ∀ {l : List Tk} {e : PT} {r : List Tk}, PE ae l e r -> ∀ l2, l2.map Tk.z = l -> ∃ e2 r2, PE ae l2 e2 r2 /\ e2.np = e.np /\ r2.map Tk.z = r
 | _, _, _, .num h, l2, h2 => by
  obtain ⟨t2, r2, rfl, hc, hs, hr⟩ := qF h2
  exact ⟨_, r2, .num (hc.trans h), by simp only [PT.np, hs], hr⟩
 | _, _, _, .name h, l2, h2 => by
  obtain ⟨t2, r2, rfl, hc, hs, hr⟩ := qF h2
  exact ⟨_, r2, .name (hc.trans h), by simp only [PT.np, hs], hr⟩
 | _, _, _, .node h1 h3 h4 h5, l2, h2 => by
  obtain ⟨t2, r2, rfl, hc, _, hr⟩ := qF h2
  obtain ⟨u2, r3, rfl, hc3, _, rm⟩ := qF hr
  obtain ⟨ks, r4, hp, hks, BN⟩ := PW.QD h5 r3 rm
  exact ⟨_, r4, .node (hc.trans h1) (hc3.trans h3) h4 hp, by simp only [PT.np, hks], BN⟩
theorem PW.QD {ae : Bool} : ∀ {ws : List Wt} {l : List Tk} {nm rg : List UInt8} {kids : List PT} {r : List Tk}, PW ae ws l nm rg kids r -> ∀ l2, l2.map Tk.z = l -> ∃ QE r2, PW ae ws l2 nm rg QE r2 /\ jZ QE = jZ kids /\ r2.map Tk.z = r
 | _, _, _, _, _, _, .nil, l2, h2 => ⟨[], l2, .nil, rfl, h2⟩
 | _, _, _, _, _, _, .close h h1, l2, h2 => by
  obtain ⟨t2, r2, rfl, hc, _, hr⟩ := qF h2
  obtain ⟨ks, r4, hp, hks, BN⟩ := PW.QD h1 r2 hr
  exact ⟨ks, r4, .close (hc.trans h) hp, hks, BN⟩
 | _, _, _, _, _, _, .name h h1, l2, h2 => by
  obtain ⟨t2, r2, rfl, hc, hs, hr⟩ := qF h2
  obtain ⟨ks, r4, hp, hks, BN⟩ := PW.QD h1 r2 hr
  exact ⟨ks, r4, by rw [<- hs]; exact .name (hc.trans h) hp, hks, BN⟩
 | _, _, _, _, _, _, .region h h1, l2, h2 => by
  obtain ⟨t2, r2, rfl, hc, hs, hr⟩ := qF h2
  obtain ⟨ks, r4, hp, hks, BN⟩ := PW.QD h1 r2 hr
  exact ⟨ks, r4, by rw [<- hs]; exact .region (hc.trans h) hp, hks, BN⟩
 | _, _, _, _, _, _, .e h h1, l2, h2 => by
  obtain ⟨e2, r2, hp, he, hr⟩ := PE.QD h l2 h2
  obtain ⟨ks, r4, XL, hks, BN⟩ := PW.QD h1 r2 hr
  exact ⟨_, r4, .e hp XL, by simp only [jZ, he, hks], BN⟩
end
mutual
theorem QF : ∀ e : PT, e.np.np = e.np
 | .num _ _ => rfl
 | .name _ _ => rfl
 | .node _ _ _ _ kids => by simp only [PT.np, Ll kids]
theorem Ll : ∀ l : List PT, jZ (jZ l) = jZ l
 | [] => rfl
 | t :: r => by simp only [jZ, QF t, Ll r]
end
theorem Gc {ae : Bool} (e : PT) (h : e.ok ae) : ∃ e2, PE ae (tokens e.tidy) e2 [] /\ e2.np = e.np := by
 have hs := Gb e h [] Lh
 rw [List.append_nil, SA] at hs
 obtain ⟨e2, r2, hp, he, hr⟩ := (Li e h []).QD (tokens e.tidy) hs
 have : r2 = [] := by simpa using hr
 subst this
 exact ⟨e2, hp, he.trans (QF e)⟩
inductive KE where
 | num (n : Nat)
 | var (n : Nat)
 | n1 (k : Kw) (a : KE)
 | n2 (k : Kw) (n : Nat) (a b : KE)
 | n3 (k : Kw) (n : Nat) (a b c : KE)
def jM (c : Int) (n : Nat) : Nat := (Int.tmod (if c < 0 then -(c + 1) else c) n).toNat
theorem oh (c : Int) (n : Nat) (h : 0 < n) : jM c n < n := by
 unfold jM
 have h1 : 0 <= (if c < 0 then -(c + 1) else c) := by split <;> omega
 have := Int.tmod_lt_of_pos (if c < 0 then -(c + 1) else c) (show (0 : Int) < n by omega)
 have := Int.tmod_nonneg (n : Int) h1
 omega
structure lT where
 at_ : Nat
 left : Nat
 vars : List Nat
def aV (raw : List Int) (n : Nat) (s : lT) : Nat × lT :=
 if raw = [] then (0, s) else (jM (raw.getD (s.at_ % raw.length) 0) n, { s with at_ := s.at_ + 1 })
theorem cL (raw : List Int) (n : Nat) (s : lT) (h : 0 < n) : (aV raw n s).1 < n := by
 unfold aV; split
 ·exact h
 ·exact oh _ n h
theorem bT (raw : List Int) (n : Nat) (s : lT) : (aV raw n s).2.left = s.left /\ (aV raw n s).2.vars = s.vars /\ s.at_ <= (aV raw n s).2.at_ /\ (aV raw n s).2.at_ <= s.at_ + 1 := by
 unfold aV; split
 ·exact ⟨rfl, rfl, Nat.le_refl _, Nat.le_succ _⟩
 ·exact ⟨rfl, rfl, Nat.le_succ _, Nat.le_refl _⟩
def idxs (vars : List Nat) (t n : Nat) : List Nat := (List.range n).filter (fun i => vars.getD i 9 == t)
def jG (vars : List Nat) (t k : Nat) : Option KE :=
 if (idxs vars t vars.length) = [] then none else some (.var ((idxs vars t vars.length).getD (k % (idxs vars t vars.length).length) 0))
def fT (t : Nat) : Nat := if t = 2 \/ t = 4 then 1 else 0
def sT (t : Nat) : Nat := if t = 3 \/ t = 4 then 1 else 0
def fI (t : Nat) : Int := if t = 0 then -1 else fT t
def sI (t : Nat) : Int := if t = 0 then -1 else sT t
def dB (raw : List Int) : Nat -> Nat -> lT -> KE × lT
 | 0, _, s => (.num 0, s)
 | f + 1, t, s =>
  let x := aV raw 7 s
  match (if 1 < x.1 then jG x.2.vars t x.1 else none) with
  | some y => (y, x.2)
  | none =>
   if t = 0 then (.num (aV raw 60 x.2).1, (aV raw 60 x.2).2)
   else
    let a := dB raw f (fT t) x.2
    let b := dB raw f (sT t) a.2
    (.n2 .pair 0 a.1 b.1, b.2)
def iA (t k : Nat) : Nat -> Nat -> Option (Kw × Nat)
 | _, 0 => none
 | i, n + 1 =>
  if (i + k) / 5 % 2 = 1 then (if sI ((i + k) % 5) = t then some (.snd, (i + k) % 5) else iA t k (i + 1) n)
  else (if fI ((i + k) % 5) = t then some (.fst, (i + k) % 5) else iA t k (i + 1) n)
def O3 (n : Nat) : Kw := if n = 0 then .add else if n = 1 then .sub else .less
def eT (g : Nat -> lT -> KE × lT) (v t : Nat) (s : lT) : KE × lT :=
 let x := g t { s with vars := s.vars ++ [v] }
 (x.1, { x.2 with vars := x.2.vars.take s.vars.length })
def aP (raw : List Int) : Nat -> Nat -> lT -> KE × lT
 | 0, t, s => dB raw 3 t s
 | f + 1, t, s =>
  if s.left = 0 then dB raw 3 t s else
  let x := aV raw 9 { s with left := s.left - 1 }
  if x.1 = 0 then
   let v := aV raw 5 x.2
   let a := aP raw f v.1 v.2
   let b := eT (aP raw f) v.1 t a.2
   (.n2 .bb b.2.vars.length a.1 b.1, b.2)
  else if x.1 = 1 then
   let a := aP raw f 0 x.2
   let b := aP raw f t a.2
   let c := aP raw f t b.2
   (.n3 .fH 0 a.1 b.1 c.1, c.2)
  else if x.1 = 2 \/ x.1 = 3 then
   let k := aV raw 4 x.2
   match iA t k.1 0 10 with
   | some q => (.n1 q.1 (aP raw f q.2 k.2).1, (aP raw f q.2 k.2).2)
   | none => dB raw 3 t k.2
  else if x.1 = 4 then
   let n := aV raw 4 x.2
   let a := aP raw f t n.2
   let b := eT (aP raw f) t t a.2
   (.n3 .loop b.2.vars.length (.num n.1) a.1 b.1, b.2)
  else if x.1 < 8 then
   if t = 0 then
    let o := aV raw 3 x.2
    let a := aP raw f 0 o.2
    let b := aP raw f 0 a.2
    (.n2 (O3 o.1) 0 a.1 b.1, b.2)
   else
    let a := aP raw f (fT t) x.2
    let b := aP raw f (sT t) a.2
    (.n2 .pair 0 a.1 b.1, b.2)
  else dB raw 3 t x.2
def qG (t : Int) (raw : List Int) : KE := (aP raw 25 (jM t 5) ⟨0, 24, []⟩).1
inductive KT : List Nat -> KE -> Nat -> Prop
 | num {vs : List Nat} {n : Nat} (h : n <= 59) : KT vs (.num n) 0
 | var {vs : List Nat} {n t : Nat} (h : vs[n]? = some t) : KT vs (.var n) t
 | bb {vs : List Nat} {a b : KE} {v t : Nat} (hv : v < 5) (hl : vs.length < 100) (ha : KT vs a v) (hb : KT (vs ++ [v]) b t) : KT vs (.n2 .bb vs.length a b) t
 | fH {vs : List Nat} {a b c : KE} {t : Nat} (ha : KT vs a 0) (hb : KT vs b t) (hc : KT vs c t) : KT vs (.n3 .fH 0 a b c) t
 | loop {vs : List Nat} {a b c : KE} {t : Nat} (hl : vs.length < 100) (ha : KT vs a 0) (hb : KT vs b t) (hc : KT (vs ++ [t]) c t) : KT vs (.n3 .loop vs.length a b c) t
 | pair {vs : List Nat} {a b : KE} {t : Nat} (h0 : t ≠ 0) (ht : t < 5) (ha : KT vs a (fT t)) (hb : KT vs b (sT t)) : KT vs (.n2 .pair 0 a b) t
 | fst {vs : List Nat} {a : KE} {p : Nat} (h0 : p ≠ 0) (hp : p < 5) (ha : KT vs a p) : KT vs (.n1 .fst a) (fT p)
 | snd {vs : List Nat} {a : KE} {p : Nat} (h0 : p ≠ 0) (hp : p < 5) (ha : KT vs a p) : KT vs (.n1 .snd a) (sT p)
 | two {vs : List Nat} {k : Kw} {a b : KE} (hk : k = .add \/ k = .sub \/ k = .less) (ha : KT vs a 0) (hb : KT vs b 0) : KT vs (.n2 k 0 a b) 0
def KE.bJ : KE -> Nat
 | .num _ => 0
 | .var _ => 0
 | .n1 _ a => a.bJ
 | .n2 k _ a b => (if k = .pair then 1 else 0) + a.bJ + b.bJ
 | .n3 _ _ a b c => a.bJ + b.bJ + c.bJ
def KE.cnt : KE -> Nat
 | .num _ => 1
 | .var _ => 1
 | .n1 _ a => 1 + a.cnt
 | .n2 _ _ a b => 1 + a.cnt + b.cnt
 | .n3 _ _ a b c => 1 + a.cnt + b.cnt + c.cnt
def KE.len : KE -> Nat
 | .num _ => 3
 | .var _ => 3
 | .n1 _ a => 6 + a.len
 | .n2 k _ a b => (if k = .bb then 11 else 8) + a.len + b.len
 | .n3 k _ a b c => (if k = .loop then 13 else 7) + a.len + b.len + c.len
def ng (t : Nat) : Nat := if t = 0 then 3 else if t = 1 then 14 else if t = 4 then 36 else 25
def DH (t : Nat) : Nat := if t = 0 then 0 else if t = 1 then 1 else if t = 4 then 3 else 2
def ni (t : Nat) : Nat := if t = 0 then 1 else if t = 1 then 3 else if t = 4 then 7 else 5
def AF (t : Nat) : Nat := if t = 0 then 2 else if t = 1 then 5 else if t = 4 then 11 else 8
structure ZM (t : Nat) (s : lT) (y : KE × lT) : Prop where
 ty : KT s.vars y.1 t
 vars : y.2.vars = s.vars
 left : y.2.left <= s.left
 len : y.1.len + 53 * y.2.left <= ng t + 53 * s.left
 bJ : y.1.bJ + 3 * y.2.left <= DH t + 3 * s.left
 cnt : y.1.cnt + 9 * y.2.left <= ni t + 9 * s.left
 at_ : y.2.at_ + 40 * y.2.left <= s.at_ + AF t + 40 * s.left
 at' : s.at_ <= y.2.at_
theorem Iz {vars : List Nat} {t k : Nat} {y : KE} (h : jG vars t k = some y) : ∃ n, y = .var n /\ vars[n]? = some t /\ n < vars.length := by
 unfold jG at h
 split at h
 ·cases h
 ·rename_i hne
  simp only [Option.some.injEq] at h
  have hpos : 0 < (idxs vars t vars.length).length := List.length_pos_iff.2 hne
  have hlt := Nat.mod_lt k hpos
  refine ⟨_, h.symm, ?_⟩
  have hmem : (idxs vars t vars.length).getD (k % (idxs vars t vars.length).length) 0 ∈ idxs vars t vars.length := by
   rw [List.getD_eq_getElem?_getD, List.getElem?_eq_getElem hlt, Option.getD_some]; exact List.getElem_mem hlt
  generalize (idxs vars t vars.length).getD (k % (idxs vars t vars.length).length) 0 = n at hmem
  unfold idxs at hmem
  rw [List.mem_filter, List.mem_range] at hmem
  have e := hmem.2
  rw [List.getD_eq_getElem?_getD, List.getElem?_eq_getElem hmem.1, Option.getD_some] at e
  rw [List.getElem?_eq_getElem hmem.1]
  exact ⟨by simpa using e, hmem.1⟩
theorem Lm {t : Nat} : 3 <= ng t /\ 1 <= ni t /\ 2 <= AF t := by
 unfold ng ni AF
 by_cases h0 : t = 0
 ·subst h0; decide
 ·by_cases h1 : t = 1
  ·subst h1; decide
  ·by_cases h4 : t = 4
   ·subst h4; decide
   ·simp [h0, h1, h4]
theorem wQ {t : Nat} (ht : t < 5) (h0 : t ≠ 0) : 8 + ng (fT t) + ng (sT t) = ng t /\ 1 + DH (fT t) + DH (sT t) = DH t /\ 1 + ni (fT t) + ni (sT t) = ni t /\ 1 + AF (fT t) + AF (sT t) = AF t /\ fT t < 5 /\ sT t < 5 := by
 have h : ∀ t < 5, t ≠ 0 -> (8 + ng (fT t) + ng (sT t) = ng t /\ 1 + DH (fT t) + DH (sT t) = DH t /\ 1 + ni (fT t) + ni (sT t) = ni t /\ 1 + AF (fT t) + AF (sT t) = AF t /\ fT t < 5 /\ sT t < 5) := by decide
 exact h t ht h0
def dep (t : Nat) : Nat := if t = 0 then 0 else if t = 1 then 1 else 2
theorem sY {t : Nat} (ht : t < 5) (h0 : t ≠ 0) : dep (fT t) < dep t /\ dep (sT t) < dep t := by
 have h : ∀ t < 5, t ≠ 0 -> (dep (fT t) < dep t /\ dep (sT t) < dep t) := by decide
 exact h t ht h0
theorem kQ (raw : List Int) : ∀ (f t : Nat) (s : lT), t < 5 -> dep t < f -> ZM t s (dB raw f t s)
 | 0, _, _, _, h => by omega
 | f + 1, t, s, ht, hd => by
  simp only [dB]
  have hn := bT raw 7 s
  generalize aV raw 7 s = x at hn
  have hW := @Lm t
  split
  ·rename_i y hy
   split at hy
   ·obtain ⟨n, rfl, h1, _⟩ := Iz hy
    rw [hn.2.1] at h1
    refine ⟨.var h1, hn.2.1, by simp only; omega, ?_, ?_, ?_, ?_, ?_⟩ <;> simp only [KE.len, KE.bJ, KE.cnt, hn.1] <;> omega
   ·cases hy
  ·split
   ·rename_i h0
    subst h0
    have hm := bT raw 60 x.2
    have hl := cL raw 60 x.2 (by omega)
    generalize aV raw 60 x.2 = z at hm hl
    refine ⟨.num (by omega), by rw [hm.2.1, hn.2.1], by simp only; omega, ?_, ?_, ?_, ?_, ?_⟩ <;> simp only [KE.len, KE.bJ, KE.cnt, hm.1, hn.1] <;> omega
   ·rename_i h0
    have hp := wQ ht h0
    have X6 := sY ht h0
    have ha := kQ raw f (fT t) x.2 hp.2.2.2.2.1 (by omega)
    generalize dB raw f (fT t) x.2 = a at ha
    have hb := kQ raw f (sT t) a.2 hp.2.2.2.2.2 (by omega)
    generalize dB raw f (sT t) a.2 = b at hb
    obtain ⟨a1, a2, a3, a4, a5, a6, a7, a8⟩ := ha
    obtain ⟨b1, b2, b3, b4, b5, b6, b7, b8⟩ := hb
    rw [a2, hn.2.1] at b1 b2
    rw [hn.2.1] at a1
    refine ⟨.pair h0 ht a1 b1, b2, by simp only; omega, ?_, ?_, ?_, ?_, ?_⟩ <;> simp only [KE.len, KE.bJ, KE.cnt, if_true] <;> first | omega | (rw [if_neg (by decide)]; omega)
theorem CA : ∀ t < 5, ∀ k < 4, ∀ q, iA t k 0 10 = some q -> q.2 ≠ 0 /\ q.2 < 5 /\ ((q.1 = .fst /\ fT q.2 = t) \/ (q.1 = .snd /\ sT q.2 = t)) /\ ng q.2 <= ng t + 40 /\ DH q.2 <= DH t + 3 /\ ni q.2 <= ni t + 7 /\ AF q.2 <= AF t + 10 := by
 have h : ∀ t < 5, ∀ k < 4, (iA t k 0 10).all (fun q => decide (q.2 ≠ 0 /\ q.2 < 5 /\ ((q.1 = .fst /\ fT q.2 = t) \/ (q.1 = .snd /\ sT q.2 = t)) /\ ng q.2 <= ng t + 40 /\ DH q.2 <= DH t + 3 /\ ni q.2 <= ni t + 7 /\ AF q.2 <= AF t + 10)) = true := by decide
 intro t ht k hk q hq
 have := h t ht k hk
 rw [hq] at this
 simpa only [Option.all_some, decide_eq_true_eq] using this
theorem uy {t : Nat} : ng t <= 36 /\ DH t <= 3 /\ ni t <= 7 /\ AF t <= 11 := by
 unfold ng DH ni AF
 by_cases h0 : t = 0
 ·subst h0; decide
 ·by_cases h1 : t = 1
  ·subst h1; decide
  ·by_cases h4 : t = 4
   ·subst h4; decide
   ·simp [h0, h1, h4]
theorem rS {g : Nat -> lT -> KE × lT} {v t : Nat} {s : lT} (h : ZM t { s with vars := s.vars ++ [v] } (g t { s with vars := s.vars ++ [v] })) :
  KT (s.vars ++ [v]) (eT g v t s).1 t /\ (eT g v t s).2.vars = s.vars /\ (eT g v t s).2.left <= s.left /\ (eT g v t s).1.len + 53 * (eT g v t s).2.left <= ng t + 53 * s.left /\ (eT g v t s).1.bJ + 3 * (eT g v t s).2.left <= DH t + 3 * s.left /\ (eT g v t s).1.cnt + 9 * (eT g v t s).2.left <= ni t + 9 * s.left /\ (eT g v t s).2.at_ + 40 * (eT g v t s).2.left <= s.at_ + AF t + 40 * s.left /\ s.at_ <= (eT g v t s).2.at_ := by
 unfold eT
 refine ⟨h.ty, ?_, h.left, h.len, h.bJ, h.cnt, h.at_, h.at'⟩
 simp only [h.vars, List.take_left]
theorem bU (raw : List Int) : ∀ (f t : Nat) (s : lT), t < 5 -> s.left < f -> s.vars.length + s.left <= 100 -> ZM t s (aP raw f t s)
 | 0, _, _, _, h, _ => by omega
 | f + 1, t, s, ht, hf, hv => by
  simp only [aP]
  have hW := @uy t
  have hWp := @Lm t
  split
  ·exact kQ raw 3 t s ht (by unfold dep; split <;> (try split) <;> omega)
  rename_i O4
  have hn := bT raw 9 { s with left := s.left - 1 }
  generalize aV raw 9 { s with left := s.left - 1 } = x at hn
  simp only at hn
  obtain ⟨n1, n2, n3, n4⟩ := hn
  split
  ·have hm := bT raw 5 x.2
   have Bb := cL raw 5 x.2 (by omega)
   generalize aV raw 5 x.2 = v at hm Bb
   obtain ⟨m1, m2, m3, m4⟩ := hm
   have ha := bU raw f v.1 v.2 Bb (by omega) (by rw [m2, n2]; omega)
   generalize aP raw f v.1 v.2 = a at ha
   obtain ⟨a1, a2, a3, a4, a5, a6, a7, a8⟩ := ha
   have hb := rS (v := v.1) (bU raw f t { a.2 with vars := a.2.vars ++ [v.1] } ht (by simp only; omega) (by simp only [List.length_append, List.length_singleton, a2, m2, n2]; omega))
   generalize eT (aP raw f) v.1 t a.2 = b at hb
   obtain ⟨b1, b2, b3, b4, b5, b6, b7, b8⟩ := hb
   rw [a2, m2, n2] at b1 b2
   rw [m2, n2] at a1
   have hWv := @uy v.1
   rw [b2]
   refine ⟨.bb Bb (by omega) a1 b1, b2, by simp only; omega, ?_, ?_, ?_, ?_, ?_⟩ <;> simp only [KE.len, KE.bJ, KE.cnt, if_true] <;> first | omega | (rw [if_neg (by decide)]; omega)
  split
  ·have ha := bU raw f 0 x.2 (by omega) (by omega) (by rw [n2]; omega)
   generalize aP raw f 0 x.2 = a at ha
   obtain ⟨a1, a2, a3, a4, a5, a6, a7, a8⟩ := ha
   have hb := bU raw f t a.2 ht (by omega) (by rw [a2, n2]; omega)
   generalize aP raw f t a.2 = b at hb
   obtain ⟨b1, b2, b3, b4, b5, b6, b7, b8⟩ := hb
   have hc := bU raw f t b.2 ht (by omega) (by rw [b2, a2, n2]; omega)
   generalize aP raw f t b.2 = c at hc
   obtain ⟨c1, c2, c3, c4, c5, c6, c7, c8⟩ := hc
   rw [b2, a2, n2] at c1 c2
   rw [a2, n2] at b1
   rw [n2] at a1
   have e0 : ng 0 = 3 /\ DH 0 = 0 /\ ni 0 = 1 /\ AF 0 = 2 := by decide
   refine ⟨.fH a1 b1 c1, c2, by simp only; omega, ?_, ?_, ?_, ?_, ?_⟩ <;> simp only [KE.len, KE.bJ, KE.cnt] <;> first | omega | (rw [if_neg (by decide)]; omega)
  split
  ·have hm := bT raw 4 x.2
   have rT := cL raw 4 x.2 (by omega)
   generalize aV raw 4 x.2 = k at hm rT
   obtain ⟨m1, m2, m3, m4⟩ := hm
   split
   ·rename_i q hq
    have hq' := CA t ht k.1 rT q hq
    have ha := bU raw f q.2 k.2 hq'.2.1 (by omega) (by rw [m2, n2]; omega)
    generalize aP raw f q.2 k.2 = a at ha
    obtain ⟨a1, a2, a3, a4, a5, a6, a7, a8⟩ := ha
    rw [m2, n2] at a1 a2
    have hty : KT s.vars (.n1 q.1 a.1) t := by
     rcases hq'.2.2.1 with ⟨e1, e2⟩ | ⟨e1, e2⟩
     ·rw [e1, <- e2]; exact .fst hq'.1 hq'.2.1 a1
     ·rw [e1, <- e2]; exact .snd hq'.1 hq'.2.1 a1
    refine ⟨hty, a2, by simp only; omega, ?_, ?_, ?_, ?_, ?_⟩ <;> simp only [KE.len, KE.bJ, KE.cnt] <;> omega
   ·have ha := kQ raw 3 t k.2 ht (by unfold dep; split <;> (try split) <;> omega)
    generalize dB raw 3 t k.2 = a at ha
    obtain ⟨a1, a2, a3, a4, a5, a6, a7, a8⟩ := ha
    rw [m2, n2] at a1 a2
    exact ⟨a1, a2, by omega, by omega, by omega, by omega, by omega, by omega⟩
  split
  ·have hm := bT raw 4 x.2
   have rT := cL raw 4 x.2 (by omega)
   generalize aV raw 4 x.2 = n at hm rT
   obtain ⟨m1, m2, m3, m4⟩ := hm
   have ha := bU raw f t n.2 ht (by omega) (by rw [m2, n2]; omega)
   generalize aP raw f t n.2 = a at ha
   obtain ⟨a1, a2, a3, a4, a5, a6, a7, a8⟩ := ha
   have hb := rS (v := t) (bU raw f t { a.2 with vars := a.2.vars ++ [t] } ht (by simp only; omega) (by simp only [List.length_append, List.length_singleton, a2, m2, n2]; omega))
   generalize eT (aP raw f) t t a.2 = b at hb
   obtain ⟨b1, b2, b3, b4, b5, b6, b7, b8⟩ := hb
   rw [a2, m2, n2] at b1 b2
   rw [m2, n2] at a1
   rw [b2]
   refine ⟨.loop (by omega) (.num (by omega)) a1 b1, b2, by simp only; omega, ?_, ?_, ?_, ?_, ?_⟩ <;> simp only [KE.len, KE.bJ, KE.cnt, if_true] <;> omega
  split
  ·split
   ·rename_i h0
    subst h0
    have hm := bT raw 3 x.2
    generalize aV raw 3 x.2 = o at hm
    obtain ⟨m1, m2, m3, m4⟩ := hm
    have ha := bU raw f 0 o.2 ht (by omega) (by rw [m2, n2]; omega)
    generalize aP raw f 0 o.2 = a at ha
    obtain ⟨a1, a2, a3, a4, a5, a6, a7, a8⟩ := ha
    have hb := bU raw f 0 a.2 ht (by omega) (by rw [a2, m2, n2]; omega)
    generalize aP raw f 0 a.2 = b at hb
    obtain ⟨b1, b2, b3, b4, b5, b6, b7, b8⟩ := hb
    rw [a2, m2, n2] at b1 b2
    rw [m2, n2] at a1
    have hk : O3 o.1 = .add \/ O3 o.1 = .sub \/ O3 o.1 = .less := by unfold O3; split <;> (try split) <;> simp
    have hk1 : O3 o.1 ≠ .bb /\ O3 o.1 ≠ .pair := by rcases hk with h | h | h <;> rw [h] <;> decide
    have e0 : ng 0 = 3 /\ DH 0 = 0 /\ ni 0 = 1 /\ AF 0 = 2 := by decide
    refine ⟨.two hk a1 b1, b2, by simp only; omega, ?_, ?_, ?_, ?_, ?_⟩ <;> simp only [KE.len, KE.bJ, KE.cnt, if_neg hk1.1, if_neg hk1.2] <;> omega
   ·rename_i h0
    have hp := wQ ht h0
    have ha := bU raw f (fT t) x.2 hp.2.2.2.2.1 (by omega) (by rw [n2]; omega)
    generalize aP raw f (fT t) x.2 = a at ha
    obtain ⟨a1, a2, a3, a4, a5, a6, a7, a8⟩ := ha
    have hb := bU raw f (sT t) a.2 hp.2.2.2.2.2 (by omega) (by rw [a2, n2]; omega)
    generalize aP raw f (sT t) a.2 = b at hb
    obtain ⟨b1, b2, b3, b4, b5, b6, b7, b8⟩ := hb
    rw [a2, n2] at b1 b2
    rw [n2] at a1
    refine ⟨.pair h0 ht a1 b1, b2, by simp only; omega, ?_, ?_, ?_, ?_, ?_⟩ <;> simp only [KE.len, KE.bJ, KE.cnt, if_true] <;> first | omega | (rw [if_neg (by decide)]; omega)
  ·have ha := kQ raw 3 t x.2 ht (by unfold dep; split <;> (try split) <;> omega)
   generalize dB raw 3 t x.2 = a at ha
   obtain ⟨a1, a2, a3, a4, a5, a6, a7, a8⟩ := ha
   rw [n2] at a1 a2
   exact ⟨a1, a2, by omega, by omega, by omega, by omega, by omega, by omega⟩
theorem Ln (t : Int) (raw : List Int) : KT [] (qG t raw) (jM t 5) /\ (qG t raw).len <= 1308 /\ (qG t raw).bJ <= 75 /\ (qG t raw).cnt <= 223 := by
 have h := bU raw 25 (jM t 5) ⟨0, 24, []⟩ (oh t 5 (by omega)) (by simp) (by simp)
 have hW := @uy (jM t 5)
 have h2 := h.len
 have h3 := h.bJ
 have h4 := h.cnt
 simp only at h2 h3 h4
 exact ⟨h.ty, by show (aP raw 25 (jM t 5) ⟨0, 24, []⟩).1.len <= _; omega, by show (aP raw 25 (jM t 5) ⟨0, 24, []⟩).1.bJ <= _; omega, by show (aP raw 25 (jM t 5) ⟨0, 24, []⟩).1.cnt <= _; omega⟩
end Go.Proofs.YtpicaknklgccoaaGreatDoor
