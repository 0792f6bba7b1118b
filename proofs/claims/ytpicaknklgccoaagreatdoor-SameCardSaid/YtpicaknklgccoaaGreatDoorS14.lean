import Derived.Test.YtpicaknklgccoaaGreatDoorS13
set_option maxHeartbeats 16000000
set_option maxRecDepth 100000
namespace Go.Proofs.YtpicaknklgccoaaGreatDoor
def cC (E : List Nat) : Ty -> Ty -> List Nat
 | .p r a b, .p s c d => if Ty.p r a b = Ty.p s c d then E else cC (cC (iO E r s) a c) b d
 | _, _ => E
theorem cD : ∀ (a b : Ty) (E : List Nat), (cC E a b).length = E.length
 | .n, _, _ => by simp [cC]
 | .p _ _ _, .n, _ => by simp [cC]
 | .p r a b, .p s c d, E => by
  simp only [cC]
  split
  ·rfl
  ·rw [cD b d, cD a c, eW]
theorem vE {tb : List TP} {D : List Ty} {K : List Nat} {T : List Ty} (h : Rel tb D K T) : ∀ (f : Nat) (E : List Nat) (x y : Nat), x < f -> x <= tb.length -> y <= tb.length -> lK tb f E x y = cC E (cg D x) (cg D y)
 | 0, _, _, _, h1, _, _ => by omega
 | f + 1, E, x, y, h1, hx, hy => by
  simp only [lK]
  by_cases e : x = y
  ·rw [if_pos (Or.inl e), e]
   cases cg D y with
   | n => rfl
   | p r a b => simp [cC]
  ·by_cases x0 : x = 0
   ·rw [if_pos (Or.inr (Or.inl x0)), (h.num x hx).2 x0]; rfl
   ·by_cases y0 : y = 0
    ·rw [if_pos (Or.inr (Or.inr y0)), (h.num y hy).2 y0]
     cases cg D x <;> rfl
    ·rw [if_neg (by omega)]
     obtain ⟨p, _, p2, p3, p4, p5⟩ := h.pair x x0 hx
     obtain ⟨q, _, q2, q3, q4, q5⟩ := h.pair y y0 hy
     have hne : cg D x ≠ cg D y := fun e' => e ((h.Q2 hx hy).1 e')
     rw [p5, q5, vE h f _ p.a q.a (by omega) (by omega) (by omega), vE h f _ p.b q.b (by omega) (by omega) (by omega)]
     rw [p2, q2] at hne ⊢
     simp only [cC]
     rw [if_neg hne]
def gZ (f : Nat -> Nat) : Ty -> Ty
 | .n => .n
 | .p r a b => .p (f r) (gZ f a) (gZ f b)
theorem J3 (f : Nat -> Nat) (t : Ty) : gZ f (Bv t) = Bv (gZ f t) := by cases t <;> rfl
theorem J4 (f : Nat -> Nat) (t : Ty) : gZ f (Bw t) = Bw (gZ f t) := by cases t <;> rfl
theorem kG (f : Nat -> Nat) (T : List Ty) (i : Int) : ai (T.map (gZ f)) i = gZ f (ai T i) := by
 unfold ai
 split
 ·rw [List.getElem?_map]; cases T[i.toNat]? <;> rfl
 ·rfl
def fZ (c c' : Nat -> Nat) : Prop := ∀ i j, c i = c j -> c' i = c' j
theorem fZ.refl (c : Nat -> Nat) : fZ c c := fun _ _ h => h
theorem fZ.trans {a b c : Nat -> Nat} (h : fZ a b) (g : fZ b c) : fZ a c := fun i j e => g i j (h i j e)
theorem fZ.map {c c' : Nat -> Nat} (h : fZ c c') : ∀ (a b : Ty), gZ c a = gZ c b -> gZ c' a = gZ c' b
 | .n, .n, _ => rfl
 | .n, .p _ _ _, e => by simp [gZ] at e
 | .p _ _ _, .n, e => by simp [gZ] at e
 | .p r a b, .p s x y, e => by
  simp only [gZ, Ty.p.injEq] at e ⊢
  exact ⟨h r s e.1, h.map a x e.2.1, h.map b y e.2.2⟩
def mV (n : Nat) (t : Ty) : Prop := ∀ r ∈ t.xW, r < n
theorem mV.p {n r : Nat} {a b : Ty} (h : mV n (.p r a b)) : r < n /\ mV n a /\ mV n b :=
 ⟨h r (by simp [Ty.xW]), fun x hx => h x (by simp [Ty.xW, hx]), fun x hx => h x (by simp [Ty.xW, hx])⟩
theorem Bx (E : List Nat) (x y : Nat) (hx : x < E.length) (hy : y < E.length) : fZ (bg E) (bg (iO E x y)) := fun i j h => by
 rw [nD E x y hx hy, nD E x y hx hy]; exact GZ _ x y h
theorem ic : ∀ (a b : Ty) (E : List Nat), mV E.length a -> mV E.length b -> fZ (bg E) (bg (cC E a b))
 | .n, _, _, _, _ => by simp only [cC]; exact fZ.refl _
 | .p _ _ _, .n, _, _, _ => by simp only [cC]; exact fZ.refl _
 | .p r a b, .p s c d, E, h1, h2 => by
  simp only [cC]
  split
  ·exact fZ.refl _
  ·obtain ⟨r1, r2, r3⟩ := h1.p
   obtain ⟨s1, s2, s3⟩ := h2.p
   refine (Bx E r s r1 s1).trans ((ic a c _ ?_ ?_).trans (ic b d _ ?_ ?_))
   ·rw [eW]; exact r2
   ·rw [eW]; exact s2
   ·rw [cD, eW]; exact r3
   ·rw [cD, eW]; exact s3
theorem p8 : ∀ (a b : Ty) (E : List Nat), a.bare = b.bare -> mV E.length a -> mV E.length b -> gZ (bg (cC E a b)) a = gZ (bg (cC E a b)) b
 | .n, .n, _, _, _, _ => rfl
 | .n, .p _ _ _, _, h, _, _ => by simp [Ty.bare] at h
 | .p _ _ _, .n, _, h, _, _ => by simp [Ty.bare] at h
 | .p r a b, .p s c d, E, h, h1, h2 => by
  simp only [Ty.bare, Ty.p.injEq, true_and] at h
  simp only [cC]
  split
  ·rename_i e; rw [e]
  ·obtain ⟨r1, r2, r3⟩ := h1.p
   obtain ⟨s1, s2, s3⟩ := h2.p
   have l1 := eW E r s
   have l2 := cD a c (iO E r s)
   have k1 := ic a c (iO E r s) (by rw [l1]; exact r2) (by rw [l1]; exact s2)
   have k2 := ic b d (cC (iO E r s) a c) (by rw [l2, l1]; exact r3) (by rw [l2, l1]; exact s3)
   have m1 := p8 a c (iO E r s) h.1 (by rw [l1]; exact r2) (by rw [l1]; exact s2)
   have m2 := p8 b d (cC (iO E r s) a c) h.2 (by rw [l2, l1]; exact r3) (by rw [l2, l1]; exact s3)
   have hj : bg (iO E r s) r = bg (iO E r s) s := by rw [nD E r s r1 s1, nD E r s r1 s1]; exact JG _ r s
   simp only [gZ, Ty.p.injEq]
   exact ⟨k2 r s (k1 r s hj), k2.map a c m1, m2⟩
def atR (n : NR) : NR := { n with region := n.at_ }
def fC (n : NR) (r : Int) : NR := { n with region := r }
def rq : List Ty -> List Nat -> List NR -> List Nat
 | _, E, [] => E
 | T, E, n :: r => rq (T ++ [cH T (atR n)]) (if n.form = 7 \/ n.form = 11 then cC E (ai (T ++ [cH T (atR n)]) n.p1) (ai (T ++ [cH T (atR n)]) n.p2) else E) r
theorem FE : ∀ (ns : List NR) (T : List Ty) (E : List Nat), (rq T E ns).length = E.length
 | [], _, _ => rfl
 | n :: r, T, E => by
  simp only [rq]
  rw [FE r]
  split
  ·rw [cD]
  ·rfl
theorem gE {n : Nat} {T : List Ty} (h : ∀ t ∈ T, mV n t) (i : Int) : mV n (ai T i) := by
 unfold ai
 split
 ·cases e : T[i.toNat]? with
  | none => intro r hr; simp [Ty.xW] at hr
  | some t => exact h t (List.mem_of_getElem? e)
 ·intro r hr; simp [Ty.xW] at hr
theorem Bz {n : Nat} {T : List Ty} (h : ∀ t ∈ T, mV n t) (m : NR) (hm : m.region.toNat < n) : mV n (cH T m) := by
 have h0 := gE h m.p0
 have h1 := gE h m.p1
 have h2 := gE h m.source
 have hn : mV n .n := fun r hr => by simp [Ty.xW] at hr
 unfold cH
 split
 ·exact h2
 split
 ·exact h0
 split
 ·exact h1
 split
 ·exact h1
 split
 ·exact h1
 split
 ·intro r hr
  simp only [Ty.xW, List.mem_cons, List.mem_append] at hr
  rcases hr with hr | hr | hr
  ·omega
  ·exact h0 r hr
  ·exact h1 r hr
 split
 ·cases e : ai T m.p0 with
  | n => exact hn
  | p r a b => rw [e] at h0; exact h0.p.2.1
 split
 ·cases e : ai T m.p0 with
  | n => exact hn
  | p r a b => rw [e] at h0; exact h0.p.2.2
 ·exact hn
def sF : List Ty -> List NR -> Prop
 | _, [] => True
 | T, n :: r => (n.form = 7 \/ n.form = 11 -> (ai (T ++ [cH T n]) n.p1).bare = (ai (T ++ [cH T n]) n.p2).bare) /\ sF (T ++ [cH T n]) r
def J5 (c : Nat -> Nat) : List Ty -> List NR -> Prop
 | _, [] => True
 | T, n :: r => (n.form = 7 \/ n.form = 11 -> gZ c (ai (T ++ [cH T n]) n.p1) = gZ c (ai (T ++ [cH T n]) n.p2)) /\ J5 c (T ++ [cH T n]) r
theorem p9 : ∀ (ns : List NR) (T : List Ty) (E : List Nat), (∀ t ∈ T, mV E.length t) -> (∀ n ∈ ns, n.at_ < E.length) -> fZ (bg E) (bg (rq T E ns))
 | [], _, _, _, _ => fZ.refl _
 | n :: r, T, E, h, hn => by
  have hb : ∀ t ∈ T ++ [cH T (atR n)], mV E.length t := fun t ht => by
   rcases List.mem_append.1 ht with ht | ht
   ·exact h t ht
   ·simp only [List.mem_singleton] at ht; subst ht; exact Bz h _ (by simpa [atR] using hn n (by simp))
  simp only [rq]
  split
  ·refine (ic _ _ E (gE hb _) (gE hb _)).trans (p9 r _ _ ?_ ?_)
   ·rw [cD]; exact hb
   ·rw [cD]; exact fun m hm => hn m (by simp [hm])
  ·exact p9 r _ _ hb (fun m hm => hn m (by simp [hm]))
theorem zV : ∀ (ns : List NR) (T : List Ty) (E : List Nat), (∀ t ∈ T, mV E.length t) -> (∀ n ∈ ns, n.at_ < E.length) -> sF T (ns.map atR) -> J5 (bg (rq T E ns)) T (ns.map atR)
 | [], _, _, _, _, _ => trivial
 | n :: r, T, E, h, hn, ha => by
  have hb : ∀ t ∈ T ++ [cH T (atR n)], mV E.length t := fun t ht => by
   rcases List.mem_append.1 ht with ht | ht
   ·exact h t ht
   ·simp only [List.mem_singleton] at ht; subst ht; exact Bz h _ (by simpa [atR] using hn n (by simp))
  simp only [List.map_cons, sF] at ha
  simp only [List.map_cons, J5, rq]
  have hf : (atR n).form = n.form := rfl
  by_cases hc : n.form = 7 \/ n.form = 11
  ·rw [if_pos hc]
   have hb2 : ∀ t ∈ T ++ [cH T (atR n)], mV (cC E (ai (T ++ [cH T (atR n)]) n.p1) (ai (T ++ [cH T (atR n)]) n.p2)).length t := by rw [cD]; exact hb
   have lL : ∀ m ∈ r, m.at_ < (cC E (ai (T ++ [cH T (atR n)]) n.p1) (ai (T ++ [cH T (atR n)]) n.p2)).length := by rw [cD]; exact fun m hm => hn m (by simp [hm])
   refine ⟨fun _ => ?_, zV r _ _ hb2 lL ha.2⟩
   exact (p9 r _ _ hb2 lL).map _ _ (p8 _ _ E (ha.1 hc) (gE hb _) (gE hb _))
  ·rw [if_neg hc]
   exact ⟨fun h => absurd h hc, zV r _ _ hb (fun m hm => hn m (by simp [hm])) ha.2⟩
theorem NL (f : Nat -> Nat) (T : List Ty) (n m : NR) (hm : m = { n with region := m.region }) (hf : n.form = 4 -> m.region.toNat = f n.region.toNat) : cH (T.map (gZ f)) m = gZ f (cH T n) := by
 have e1 : m.form = n.form := by rw [hm]
 have e2 : m.source = n.source := by rw [hm]
 have e3 : m.p0 = n.p0 := by rw [hm]
 have e4 : m.p1 = n.p1 := by rw [hm]
 unfold cH
 rw [e1, e2, e3, e4, kG, kG, kG, <- J3, <- J4]
 by_cases h4 : n.form = 4
 ·rw [hf h4]; simp [h4, gZ]
 ·simp only [h4, if_false]
  repeat' split
  all_goals rfl
open Go.RowKit
theorem uo (w : World) (nv ov : Value) (ns : List NR) (op : List Int) (h : bh w nv ov ns op) (ho : vq ns op) (hl : ns.length <= 9000) (sj : ∀ n ∈ ns, n.small) (hrg : ∀ n ∈ ns, 0 <= n.region) (hsz : iY [] ns) :
  Calls Tryz.prog 90 #[aK nv ov] w fun v w' => v = .returned (.tuple #[.int .i64 (tM [] ns).1, .int .i64 (tM [] ns).2]) /\ Below w.heap.size w w' := by
 have hlen := fun (w' : World) (hb : Below w.heap.size w w') => gx w' nv ov ns op (h.below hb)
 have mi := fun (w' : World) (hb : Below w.heap.size w w') (k : Nat) (n : NR) (hk : ns[k]? = some n) => dZ w' nv ov ns op (h.below hb) k n hk hl
 obtain ⟨a0, jS, e0⟩ := aF h.nd
 obtain ⟨a1, kE, e1⟩ := aF h.op
 rw [ho.1] at e1
 obtain ⟨m, hm⟩ : ∃ m, m = ns.length := ⟨_, rfl⟩
 rw [<- hm] at e0 e1 hl
 subst e0
 subst e1
 unfold aK at hlen mi
 unfold aK
 unfold aI at mi
 rw [<- hm] at hlen
 have lH : Hid _ := hlen
 have DQ : Hid _ := mi
 have HM : Hid _ := hm
 have Q7 : Hid _ := sj
 have XD : Hid _ := hrg
 have Rg : Hid _ := hsz
 obtain ⟨ans, cN⟩ : ∃ ans, ans = tM [] ns := ⟨_, rfl⟩
 rw [<- cN]
 have HA : Hid _ := cN
 clear hlen mi ho h hm cN sj hrg hsz
 have A7 : Below w.heap.size w (w.alloc (.cells #[.slice a0 m jS, .slice a1 m kE] 59)) := (Below.refl _ w).alloc (Nat.le_refl _) _
 have dK : Hid _ := A7
 clear A7
 obtain ⟨wb, DB⟩ : ∃ wb, wb = w.alloc (.cells #[.slice a0 m jS, .slice a1 m kE] 59) := ⟨_, rfl⟩
 have Dx : Hid (∀ wr, Below wb.heap.size wb wr -> wr.cell? ⟨w.heap.size, 0, none⟩ = some (.slice a0 m jS) /\ wr.cell? ⟨w.heap.size, 1, none⟩ = some (.slice a1 m kE) /\ w.heap.size < wr.heap.size) := by
  intro wr hb
  rw [DB] at hb
  exact cX hb
 have xK : Hid (Below w.heap.size w wb) := by rw [DB]; exact dK.out
 have UC : Hid (zN wb.heap.size (wb.alloc (.cells #[.slice none 0 0, .slice none 0 0] 156)) (.slice none 0 0) (.slice none 0 0) [] []) := ⟨aj _ _, World.ownsRow_nil _ _ _ _, World.ownsRow_nil _ _ _ _, by simp [Value.ownBlock], by simp [Value.ownBlock], fun g hg => by simp [Value.ownBlock] at hg⟩
 have zO : w.heap.size <= wb.heap.size := xK.out.size
 have M5 : Hid _ := DB
 clear DB dK
 go_enter Tryz.func90, Tryz.ntmps90
 go_wp2
 rw [<- M5.out]
 have D2 : w.heap.size + 1 = wb.heap.size := by rw [M5.out]; simp
 rw [D2]
 clear D2 M5
 go_loopw [5, 6, 7] (fun i _ _ wr => ∃ k : Nat, k <= m /\ i = .int .i64 k /\ ∃ pv tv tb D K T, zN wb.heap.size wr pv tv tb K /\ Rel tb D K T /\ K.length = k /\ tb.length <= k /\ tM [] ns = tM T (ns.drop k) /\ iY T (ns.drop k) /\ Below wb.heap.size wb wr /\ wb.heap.size < wr.heap.size /\ (∀ g, pv.ownBlock = some g -> wb.heap.size <= g) /\ (∀ g, tv.ownBlock = some g -> wb.heap.size <= g)) (fun i _ _ _ => m - (intOf i).toNat)
 case atStart => exact ⟨0, by omega, rfl, _, _, [], [], [], [], UC.out, JO, rfl, by simp, by simp, Rg.out, (Below.refl _ wb).alloc (Nat.le_refl _) _, by simp, by simp [Value.ownBlock], by simp [Value.ownBlock]⟩
 case round =>
  obtain ⟨k, hk, rfl, pv, tv, tb, D, K, T, hC, jE, DP, htl, pW, yE, dw, hbs, qP, FA⟩ := hrel
  have pX : Below w.heap.size w wr := xK.out.trans (dw.mono zO)
  obtain ⟨x0, x1, xl⟩ := Dx.out _ dw
  have gQ := lH.out wr pX
  have Bp := dw.size
  by_cases hlt : k < m
  ·have hkl : k < ns.length := by have := HM.out; omega
   obtain ⟨n, hn⟩ : ∃ n, ns[k]? = some n := ⟨ns[k], List.getElem?_eq_getElem hkl⟩
   have dM := Q7.out n (List.mem_of_getElem? hn)
   have YI := XD.out n (List.mem_of_getElem? hn)
   have nn : ns.drop k = n :: ns.drop (k + 1) := by
    rw [List.drop_eq_getElem_cons hkl]; rw [List.getElem?_eq_getElem hkl] at hn; simp only [Option.some.injEq] at hn; rw [hn]
   rw [nn] at pW yE
   simp only [tM] at pW
   simp only [iY] at yE
   obtain ⟨r, hr⟩ : ∃ r, r = n.region.toNat := ⟨_, rfl⟩
   obtain ⟨D', gX⟩ := J2 jE n yE.1
   rw [<- hr] at gX
   have hok : Q1 tb K n := ⟨by omega, by omega, fun i => by have := (jE.known i).2.1; omega, fun j => by have := jE.Fx j; omega, ⟨by have := dM.1; omega, by have := dM.1; omega⟩, ⟨by have := dM.2.1; omega, by have := dM.2.1; omega⟩, ⟨by have := dM.2.2.1; omega, by have := dM.2.2.1; omega⟩, ⟨by have := dM.2.2.2; omega, by have := dM.2.2.2; omega⟩⟩
   have hpl := lV tb r (aq K n.p0) (aq K n.p1)
   have uj : (gM tb K n r).2.length <= k + 1 := by
    unfold gM
    repeat' split
    all_goals first | (simp only; omega) | omega
   have hvf := Rf gX n
   have hkn := (gX.known n.p0).2.1
   have hlow := gX.low
   have hty := fun (w' : World) (hb : Below wr.heap.size wr w') => Fz w' wb.heap.size pv tv tb K n n.region r (fun _ => by omega) (hC.below hb) hok
   have hfa := fun (w' : World) (mf pj : Value) (Yv : zN wb.heap.size w' mf pj (gM tb K n r).2 (K ++ [(gM tb K n r).1])) => zU w' wb.heap.size mf pj (gM tb K n r).2 (K ++ [(gM tb K n r).1]) n Yv hlow (by omega) (by simp; omega) hkn hok.p0 hok.p1 hok.p2
   rw [hvf] at hfa
   generalize oY (T ++ [cH T n]) n = F at *
   unfold ptr aI at hty hfa
   have Nz : Hid _ := hty
   have JS : Hid _ := hfa
   have HN : Hid _ := hn
   have UD : Hid _ := pW
   have Rh : Hid _ := yE.2
   have JT : Hid _ := gX
   have gW : Hid _ := dw
   have HC : Hid _ := hC
   have P4 : Hid _ := qP
   have Jt : Hid _ := FA
   have UE : Hid _ := DP
   have P5 : Hid _ := uj
   clear hn dM YI nn pW yE hok hty jE gX hC dw qP FA hkl DP htl hfa uj hpl hvf hkn hlow hr
   go_wp2_with fail
   refine gQ.mono ?_
   rintro _ w1 ⟨rfl, hb1⟩
   obtain ⟨d0, d1, dl⟩ := Dx.out _ (gW.out.trans (hb1.mono Bp))
   have hno := DQ.out w1 (xK.out.trans ((gW.out.trans (hb1.mono Bp)).mono zO)) k n HN.out
   have dF : Hid _ := hb1
   clear hb1 gQ x0 x1
   go_wp2_with fail
   refine hno.mono ?_
   rintro _ w2 ⟨rfl, hb2⟩
   have ez : Below wr.heap.size wr w2 := dF.out.trans (hb2.mono dF.out.size)
   have rm := ez.alloc ez.size (bR n)
   have hty := Nz.out _ rm
   have Dy : Hid _ := rm
   have Yw := ez.size
   clear hb2 ez hno d0 d1 rm Nz
   unfold bR xS at hty
   go_wp2_with fail
   refine hty.mono ?_
   rintro _ w3 ⟨rfl, Hc, M4, bM, Dv⟩
   have hnb : w3.heap[w2.heap.size]? = some (bR n) := by
    rw [bM.blk w2.heap.size (by simp) (by omega) (fun e => by have := (HC.out.lt.1 _ e); omega) (fun e => by have := (HC.out.lt.2.1 _ e); omega)]
    exact aj _ _
   have Dz : Below wb.heap.size wb (w2.alloc (bR n)) := gW.out.trans (Dy.out.mono Bp)
   obtain ⟨g1, g2, g3⟩ := bM.toBelow Dz (Nat.le_refl _) (by simp; omega) P4.out Jt.out
   have Q8 := bM.size
   have Yx : wb.heap.size < w3.heap.size := by simp at Q8; omega
   have hfa := JS.out w3 Hc M4 Dv
   obtain ⟨d0, d1, d2, d3, d4, d5, d6, d7, d8, d9⟩ := aC hnb
   have lg := af hnb
   have Hd : Hid _ := Dv
   have Q9 : Hid _ := g1
   have HG2 : Hid _ := g2
   have UG : Hid _ := g3
   have Ju : Hid _ := hnb
   clear bM Dv hnb Dz g1 g2 g3 hty Dy JS
   go_wp2_with fail
   refine hfa.mono ?_
   rintro _ w4 ⟨rfl, hb4⟩
   have c1 : w4.cell? ⟨w2.heap.size, 1, none⟩ = some (.int .i64 n.at_) := by rw [hb4.cell (p := ⟨w2.heap.size, 1, none⟩) lg]; exact d1
   have oF : Hid _ := hb4
   have Ra := hb4.size
   clear hb4 hfa d0 d1 d2 d3 d4 d5 d6 d7 d8 d9
   by_cases hf : F = 0
   ·have q2 : ((F : Int) != 0) = false := by simp; omega
    have pW := UD.out
    rw [if_neg (by omega)] at pW
    have UH : Hid _ := Hd.out.below oF.out
    have Rc : Hid _ := pW
    clear hf pW Hd
    go_wp2
    go_roundw
    case rel => exact ⟨k + 1, by omega, by go_num, Hc, M4, _, D', _, _, UH.out, JT.out, by simp [UE.out], P5.out, Rc.out, Rh.out, Q9.out.trans (oF.out.mono (by omega)), by omega, HG2.out, UG.out⟩
    case measure => simp [intOf]; omega
   ·have q2 : ((F : Int) != 0) = true := by simp; omega
    have pW := UD.out
    rw [if_pos hf] at pW
    have JU : Hid (ans = (F, n.at_)) := by rw [HA.out]; exact pW
    clear hf pW
    go_wp2
    go_quiet (fail)
    go_wp2
    refine bodyPost_ret (v := .tuple #[.int .i64 F, .int .i64 n.at_]) (by simp [results, Tryz.results90, go_sem]) rfl ⟨by rw [JU.out], ?_⟩
    exact (xK.out.trans ((Q9.out.trans (oF.out.mono (by omega))).mono zO)).trans ⟨rfl, rfl, rfl, Nat.le_refl _, fun _ _ => rfl⟩
  ·have JU : Hid (ans = (0, 0)) := by
    have hd : ns.drop k = [] := List.drop_eq_nil_of_le (by have := HM.out; omega)
    rw [hd] at pW
    rw [HA.out, pW]; exact rfl
   have gW : Hid _ := dw
   clear dw hC jE pW qP FA yE
   go_wp2_with fail
   refine gQ.mono ?_
   rintro _ w1 ⟨rfl, hb1⟩
   have dF : Hid _ := xK.out.trans ((gW.out.trans (hb1.mono Bp)).mono zO)
   clear hb1 gQ
   go_wp2
   refine bodyPost_ret (v := .tuple #[.int .i64 0, .int .i64 0]) (by simp [results, Tryz.results90, go_sem]) rfl ⟨by rw [JU.out]; rfl, dF.out⟩
def qd (ns : List NR) (op : List Int) : Nat × Nat :=
 if (dQ (bD ns op) []).2.1 ≠ 0 then (dQ (bD ns op) []).2
 else if (lX (dQ (bD ns op) []).1 (bD ns op)).1 ≠ 0 then lX (dQ (bD ns op) []).1 (bD ns op)
 else tM [] ns
theorem sG : ∀ (l acc : List NR), (dQ l acc).1.length <= acc.length + l.length
 | [], acc => by simp [dQ]
 | n :: r, acc => by
  simp only [dQ, List.length_cons]
  split
  ·split
   ·simp only; omega
   ·have := sG r (acc ++ [n]); simp at this; omega
  ·have := sG r acc; omega
theorem vF (w : World) (nv ov : Value) (ns : List NR) (op : List Int) (h : bh w nv ov ns op) (ho : vq ns op) (hl : ns.length <= 9000) (sj : ∀ n ∈ ns, n.small) (hrg : ∀ n ∈ ns, 0 <= n.region) (hsz : iY [] ns) :
  Calls Tryz.prog 56 #[aK nv ov] w fun v w' => v = .returned (.tuple #[.int .i64 (qd ns op).1, .int .i64 (qd ns op).2]) /\ Below w.heap.size w w' := by
 have hne := fun (w' : World) (hb : Below w.heap.size w w') => DU w' nv ov ns op (h.below hb) ho hl
 have UQ : (dQ (bD ns op) []).1.length <= 9000 := by
  have := sG (bD ns op) []
  rw [kF, ho.1] at this
  simp at this; omega
 have Ri := fun (w' : World) (hb : Below w.heap.size w w') (vv : Value) (base : Nat) (hown : w'.ownsRow base 160 10 vv (dQ (bD ns op) []).1.length ((dQ (bD ns op) []).1.flatMap pG)) => Bt w' nv ov vv ns op _ base (h.below hb) ho hl hown UQ
 have hpl := fun (w' : World) (hb : Below w.heap.size w w') => uo w' nv ov ns op (h.below hb) ho hl sj hrg hsz
 obtain ⟨a0, jS, e0⟩ := aF h.nd
 obtain ⟨a1, kE, e1⟩ := aF h.op
 rw [ho.1] at e1
 obtain ⟨m, hm⟩ : ∃ m, m = ns.length := ⟨_, rfl⟩
 rw [<- hm] at e0 e1 hl
 subst e0
 subst e1
 obtain ⟨ans, cN⟩ : ∃ ans, ans = qd ns op := ⟨_, rfl⟩
 rw [<- cN]
 unfold qd at cN
 have HA : Hid _ := cN
 unfold aK at hne Ri hpl
 unfold aK
 have Jy : Hid _ := hne
 have HOU : Hid _ := Ri
 have XE : Hid _ := hpl
 have dK : Hid (Below w.heap.size w (w.alloc (.cells #[.slice a0 m jS, .slice a1 m kE] 59))) := (Below.refl _ w).alloc (Nat.le_refl _) _
 clear hne Ri hpl ho h hm cN sj hrg hsz UQ
 generalize dQ (bD ns op) [] = N at *
 generalize lX N.1 (bD ns op) = O at *
 generalize tM [] ns = P at *
 go_enter Tryz.func56, Tryz.ntmps56
 go_wp2_with fail
 refine (Jy.out _ dK.out).mono ?_
 rintro _ w1 ⟨vv, rfl, hown1, hb1⟩
 obtain ⟨b0, b1, bl⟩ := cX hb1
 have Rj := dK.out.trans (hb1.mono (by simp))
 have Ri := HOU.out w1 Rj vv _ hown1
 have dF : Hid _ := Rj
 have UR : Hid _ := hb1
 clear hb1 Rj hown1
 by_cases h1 : N.2.1 = 0
 ·have q1 : ((N.2.1 : Int) != 0) = false := by rw [h1]; rfl
  have TK : Hid (ans = if O.1 ≠ 0 then O else P) := (show ans = _ by rw [HA.out, if_neg (by omega)])
  clear HA h1
  go_wp2_with fail
  refine Ri.mono ?_
  rintro _ w2 ⟨rfl, hb2⟩
  have UT := UR.out.trans (hb2.mono UR.out.size)
  obtain ⟨c0, c1, cl⟩ := cX UT
  have kZ := dF.out.trans (hb2.mono dF.out.size)
  have hpl := XE.out w2 kZ
  have dN : Hid _ := kZ
  clear hb2 UT kZ Ri b0 b1
  by_cases h2 : O.1 = 0
  ·have q2 : ((O.1 : Int) != 0) = false := by rw [h2]; rfl
   have Rd : Hid (ans = P) := (show ans = _ by rw [TK.out, if_neg (by omega)])
   clear TK h2
   go_wp2_with fail
   refine hpl.mono ?_
   rintro _ w3 ⟨rfl, hb3⟩
   have iI : Hid _ := dN.out.trans (hb3.mono dN.out.size)
   clear hb3 hpl
   go_wp2
   refine bodyPost_ret (v := .tuple #[.int .i64 P.1, .int .i64 P.2]) (by simp [results, Tryz.results56, go_sem]) rfl ⟨by rw [Rd.out], iI.out⟩
  ·have q2 : ((O.1 : Int) != 0) = true := by simp; omega
   have Rd : Hid (ans = O) := (show ans = _ by rw [TK.out, if_pos h2])
   clear TK h2 hpl
   go_wp2
   refine bodyPost_ret (v := .tuple #[.int .i64 O.1, .int .i64 O.2]) (by simp [results, Tryz.results56, go_sem]) rfl ⟨by rw [Rd.out], dN.out⟩
 ·have q1 : ((N.2.1 : Int) != 0) = true := by simp; omega
  have TK : Hid (ans = N.2) := (show ans = _ by rw [HA.out, if_pos h1])
  clear HA h1 Ri
  go_wp2
  refine bodyPost_ret (v := .tuple #[.int .i64 N.2.1, .int .i64 N.2.2]) (by simp [results, Tryz.results56, go_sem]) rfl ⟨by rw [TK.out], dF.out⟩
theorem rr (w : World) (nv ov : Value) (ns : List NR) (op : List Int) (h : bh w nv ov ns op) (hl : ns.length <= 9000) : Calls Tryz.prog 68 #[aK nv ov] w fun v w' => v = .returned (.int .i64 ((ns.length : Int) - 1)) /\ Below w.heap.size w w' := by
 obtain ⟨a, cap, rfl⟩ := aF h.nd
 obtain ⟨a', cap', rfl⟩ := aF h.op
 clear h
 unfold aK
 go_enter Tryz.func68, Tryz.ntmps68
 go_wp2
 go_ret
 exact ⟨rfl, (Below.refl _ _).alloc (Nat.le_refl _) _⟩
theorem sH {W w : World} {b : Nat} (h : Below b W w) : Below b W w.drew := h.trans ⟨rfl, rfl, rfl, Nat.le_refl _, fun _ _ => rfl⟩
theorem fK {W w : World} {n : Nat} {b : Nat} (h : Below b W w) : Below b W (w.drewN n) := h.trans ⟨rfl, rfl, rfl, Nat.le_refl _, fun _ _ => rfl⟩
theorem cz {w W : World} (h : Below w.heap.size w W) (o : Obj) : Below w.heap.size w (W.alloc o) := h.alloc h.size o
theorem kH {P : Program} {ops : Array Oper} {o : Oper} {a : Act} {w : World} {K : Act -> World -> Prop} {Q : Exit -> Act -> World -> Prop} {E : Prop} (hg : o.guard = none)
  (f : FuncId) (args : Array Value) (hrun : (execOp a.eval o).run P w = .ok (.enter f args) w) (h : Calls P f args w fun e w' => ∃ v, e = .returned v /\ K (a.put o.dst v) w') : if Region.wanted o (yielded ops a.tmps) = true then Oper.wp P o a w K Q else E := by
 have hw : Region.wanted o (yielded ops a.tmps) = true := by simp [Region.wanted, hg]
 rw [if_pos hw]
 unfold Oper.wp
 rw [hrun]
 refine Calls.mono h ?_
 rintro e w' ⟨v, rfl, hk⟩
 exact hk
abbrev nz : Array Value := #[.int .i64 0, .int .i64 0, .int .i64 0, .int .i64 0, .string ⟨#[]⟩, .int .i64 0, .int .i64 0, .int .i64 0, .int .i64 0, .int .i64 0]
theorem ru {w : World} {b : Nat} (h : w.heap[b]? = some (.cells nz 160 (0, 0))) : w.cell? ⟨b, 0, none⟩ = some (.int .i64 0) /\ w.cell? ⟨b, 1, none⟩ = some (.int .i64 0) /\ w.cell? ⟨b, 2, none⟩ = some (.int .i64 0) /\ w.cell? ⟨b, 3, none⟩ = some (.int .i64 0) /\ w.cell? ⟨b, 4, none⟩ = some (.string ⟨#[]⟩) /\ w.cell? ⟨b, 5, none⟩ = some (.int .i64 0) /\ w.cell? ⟨b, 6, none⟩ = some (.int .i64 0) /\ w.cell? ⟨b, 7, none⟩ = some (.int .i64 0) /\ w.cell? ⟨b, 8, none⟩ = some (.int .i64 0) /\ w.cell? ⟨b, 9, none⟩ = some (.int .i64 0) := by
 refine ⟨?_, ?_, ?_, ?_, ?_, ?_, ?_, ?_, ?_, ?_⟩ <;> (rw [aa h]; rfl)
theorem uG {w : World} {b : Nat} (h : w.heap[b]? = some (.cells nz 160 (0, 0))) : w.frozen? ⟨b, 0, none⟩ = false /\ w.frozen? ⟨b, 1, none⟩ = false /\ w.frozen? ⟨b, 2, none⟩ = false /\ w.frozen? ⟨b, 3, none⟩ = false /\ w.frozen? ⟨b, 4, none⟩ = false /\ w.frozen? ⟨b, 5, none⟩ = false /\ w.frozen? ⟨b, 6, none⟩ = false /\ w.frozen? ⟨b, 7, none⟩ = false /\ w.frozen? ⟨b, 8, none⟩ = false /\ w.frozen? ⟨b, 9, none⟩ = false :=
 ⟨ag h 0, ag h 1, ag h 2, ag h 3, ag h 4, ag h 5, ag h 6, ag h 7, ag h 8, ag h 9⟩
theorem eF {B b o : Nat} {w0 w : World} {v : Value} (h : Below B w0 w) (hb : B <= b) : Below B w0 (w.setCell ⟨b, o, none⟩ v) :=
 ⟨h.os, h.tape, h.output, by have := h.size; simp only [World.setCell, Array.size_modify]; omega, fun k hk => by rw [ak _ _ (by simp only; omega)]; exact h.block k hk⟩
theorem zW {B b : Nat} {w0 w : World} (v0 v1 v2 v3 v4 v5 v6 v7 v8 v9 : Value) (hw : Below B w0 w) (hb : B <= b) (h : w.heap[b]? = some (.cells nz 160 (0, 0))) :
  ((((((((((w.setCell ⟨b, 0, none⟩ v0).setCell ⟨b, 1, none⟩ v1).setCell ⟨b, 2, none⟩ v2).setCell ⟨b, 3, none⟩ v3).setCell ⟨b, 4, none⟩ v4).setCell ⟨b, 5, none⟩ v5).setCell ⟨b, 6, none⟩ v6).setCell ⟨b, 7, none⟩ v7).setCell ⟨b, 8, none⟩ v8).setCell ⟨b, 9, none⟩ v9).heap[b]? = some (.cells #[v0, v1, v2, v3, v4, v5, v6, v7, v8, v9] 160 (0, 0)) /\ Below B w0 ((((((((((w.setCell ⟨b, 0, none⟩ v0).setCell ⟨b, 1, none⟩ v1).setCell ⟨b, 2, none⟩ v2).setCell ⟨b, 3, none⟩ v3).setCell ⟨b, 4, none⟩ v4).setCell ⟨b, 5, none⟩ v5).setCell ⟨b, 6, none⟩ v6).setCell ⟨b, 7, none⟩ v7).setCell ⟨b, 8, none⟩ v8).setCell ⟨b, 9, none⟩ v9) := by
 have h0 : (w.setCell ⟨b, 0, none⟩ v0).heap[b]? = some (.cells #[v0, .int .i64 0, .int .i64 0, .int .i64 0, .string ⟨#[]⟩, .int .i64 0, .int .i64 0, .int .i64 0, .int .i64 0, .int .i64 0] 160 (0, 0)) := az h 0 _
 have h1 : ((w.setCell ⟨b, 0, none⟩ v0).setCell ⟨b, 1, none⟩ v1).heap[b]? = some (.cells #[v0, v1, .int .i64 0, .int .i64 0, .string ⟨#[]⟩, .int .i64 0, .int .i64 0, .int .i64 0, .int .i64 0, .int .i64 0] 160 (0, 0)) := az h0 1 _
 have h2 : (((w.setCell ⟨b, 0, none⟩ v0).setCell ⟨b, 1, none⟩ v1).setCell ⟨b, 2, none⟩ v2).heap[b]? = some (.cells #[v0, v1, v2, .int .i64 0, .string ⟨#[]⟩, .int .i64 0, .int .i64 0, .int .i64 0, .int .i64 0, .int .i64 0] 160 (0, 0)) := az h1 2 _
 have h3 : ((((w.setCell ⟨b, 0, none⟩ v0).setCell ⟨b, 1, none⟩ v1).setCell ⟨b, 2, none⟩ v2).setCell ⟨b, 3, none⟩ v3).heap[b]? = some (.cells #[v0, v1, v2, v3, .string ⟨#[]⟩, .int .i64 0, .int .i64 0, .int .i64 0, .int .i64 0, .int .i64 0] 160 (0, 0)) := az h2 3 _
 have h4 : (((((w.setCell ⟨b, 0, none⟩ v0).setCell ⟨b, 1, none⟩ v1).setCell ⟨b, 2, none⟩ v2).setCell ⟨b, 3, none⟩ v3).setCell ⟨b, 4, none⟩ v4).heap[b]? = some (.cells #[v0, v1, v2, v3, v4, .int .i64 0, .int .i64 0, .int .i64 0, .int .i64 0, .int .i64 0] 160 (0, 0)) := az h3 4 _
 have h5 : ((((((w.setCell ⟨b, 0, none⟩ v0).setCell ⟨b, 1, none⟩ v1).setCell ⟨b, 2, none⟩ v2).setCell ⟨b, 3, none⟩ v3).setCell ⟨b, 4, none⟩ v4).setCell ⟨b, 5, none⟩ v5).heap[b]? = some (.cells #[v0, v1, v2, v3, v4, v5, .int .i64 0, .int .i64 0, .int .i64 0, .int .i64 0] 160 (0, 0)) := az h4 5 _
 have h6 : (((((((w.setCell ⟨b, 0, none⟩ v0).setCell ⟨b, 1, none⟩ v1).setCell ⟨b, 2, none⟩ v2).setCell ⟨b, 3, none⟩ v3).setCell ⟨b, 4, none⟩ v4).setCell ⟨b, 5, none⟩ v5).setCell ⟨b, 6, none⟩ v6).heap[b]? = some (.cells #[v0, v1, v2, v3, v4, v5, v6, .int .i64 0, .int .i64 0, .int .i64 0] 160 (0, 0)) := az h5 6 _
 have h7 : ((((((((w.setCell ⟨b, 0, none⟩ v0).setCell ⟨b, 1, none⟩ v1).setCell ⟨b, 2, none⟩ v2).setCell ⟨b, 3, none⟩ v3).setCell ⟨b, 4, none⟩ v4).setCell ⟨b, 5, none⟩ v5).setCell ⟨b, 6, none⟩ v6).setCell ⟨b, 7, none⟩ v7).heap[b]? = some (.cells #[v0, v1, v2, v3, v4, v5, v6, v7, .int .i64 0, .int .i64 0] 160 (0, 0)) := az h6 7 _
 have h8 : (((((((((w.setCell ⟨b, 0, none⟩ v0).setCell ⟨b, 1, none⟩ v1).setCell ⟨b, 2, none⟩ v2).setCell ⟨b, 3, none⟩ v3).setCell ⟨b, 4, none⟩ v4).setCell ⟨b, 5, none⟩ v5).setCell ⟨b, 6, none⟩ v6).setCell ⟨b, 7, none⟩ v7).setCell ⟨b, 8, none⟩ v8).heap[b]? = some (.cells #[v0, v1, v2, v3, v4, v5, v6, v7, v8, .int .i64 0] 160 (0, 0)) := az h7 8 _
 have h9 : ((((((((((w.setCell ⟨b, 0, none⟩ v0).setCell ⟨b, 1, none⟩ v1).setCell ⟨b, 2, none⟩ v2).setCell ⟨b, 3, none⟩ v3).setCell ⟨b, 4, none⟩ v4).setCell ⟨b, 5, none⟩ v5).setCell ⟨b, 6, none⟩ v6).setCell ⟨b, 7, none⟩ v7).setCell ⟨b, 8, none⟩ v8).setCell ⟨b, 9, none⟩ v9).heap[b]? = some (.cells #[v0, v1, v2, v3, v4, v5, v6, v7, v8, v9] 160 (0, 0)) := az h8 9 _
 exact ⟨h9, eF (eF (eF (eF (eF (eF (eF (eF (eF (eF hw hb) hb) hb) hb) hb) hb) hb) hb) hb) hb⟩
theorem J6 {w W0 w' : World} {sb o : Nat} {A : Array Value} {T : TypeId} {ev nv : Value} (hy : w.heap[sb]? = some (.cells A T (0, 0))) (hW : Below w.heap.size w W0) (hg : W0.grownBy w' ev.ownBlock) (pI : ev.ownBlock ≠ some sb) :
  (w'.setCell ⟨sb, o, none⟩ nv).heap[sb]? = some (.cells (A.setIfInBounds o nv) T (0, 0)) /\ (∀ k, k < w.heap.size -> k ≠ sb -> ev.ownBlock ≠ some k -> (w'.setCell ⟨sb, o, none⟩ nv).heap[k]? = w.heap[k]?) /\ w.heap.size <= (w'.setCell ⟨sb, o, none⟩ nv).heap.size /\ (w'.setCell ⟨sb, o, none⟩ nv).os = w.os /\ (w'.setCell ⟨sb, o, none⟩ nv).tape = w.tape /\ (w'.setCell ⟨sb, o, none⟩ nv).output = w.output := by
 have hl := af hy
 have yW : W0.heap[sb]? = some (.cells A T (0, 0)) := by rw [hW.block sb hl]; exact hy
 have yw := cu hg yW pI
 refine ⟨az yw o _, fun k hk hks hke => ?_, ?_, hg.os.trans hW.os, hg.tape.trans hW.tape, hg.output.trans hW.output⟩
 ·rw [ak _ _ (by simpa using hks), hg.block k (by have := hW.size; omega) (fun e => hke e.symm), hW.block k hk]
 ·have := hW.size; have := hg.size; simp only [World.setCell, Array.size_modify]; omega
structure TL (w0 : World) (sb q : Nat) (n0 : NR) (wr : World) (ev : Value) (k : Nat) : Prop where
 b : Below sb w0 wr
 y : wr.heap[sb]? = some (.cells #[.slice none 0 0, .slice none 0 0, ev] 186 (0, 0))
 n : wr.heap[q]? = some (bR n0)
 r : wr.ownsRow 0 3 1 ev k (cA (List.range k))
 e : ∀ g, ev.ownBlock = some g -> sb < g /\ g ≠ q
 sq : sb < q
theorem TL.add {w0 wr W0 w' : World} {sb q : Nat} {n0 : NR} {ev : Value} {k g cap : Nat} (h : TL w0 sb q n0 wr ev k) (hW : Below wr.heap.size wr W0) (hg : W0.grownBy w' ev.ownBlock)
  (hown : w'.ownsRow 0 3 1 (.slice (some ⟨g, 0, none⟩) (k + 1) cap) (k + 1) (cA (List.range k) ++ [.int .i64 k])) (gP : ev.ownBlock = some g \/ W0.heap.size <= g) :
  TL w0 sb q n0 (w'.setCell ⟨sb, 2, none⟩ (.slice (some ⟨g, 0, none⟩) (k + 1) cap)) (.slice (some ⟨g, 0, none⟩) (k + 1) cap) (k + 1) := by
 have hsl := af h.y
 have TM := af h.n
 have zO := hW.size
 obtain ⟨h1, h2, h3, h4, h5, h6⟩ := J6 (o := 2) (nv := .slice (some ⟨g, 0, none⟩) (k + 1) cap) h.y hW hg (fun e => by have := (h.e _ e).1; omega)
 have hgs : sb < g /\ g ≠ q := by
  rcases gP with e | e
  ·exact h.e g e
  ·exact ⟨by omega, by omega⟩
 have YJ := h.sq
 have hbs := h.b.size
 refine ⟨⟨h4.trans h.b.os, h5.trans h.b.tape, h6.trans h.b.output, by omega, fun j hj => ?_⟩, h1, ?_, ?_, fun j hj => ?_, YJ⟩
 ·rw [h2 j (by omega) (by omega) (fun e => by have := (h.e j e).1; omega)]; exact h.b.block j hj
 ·rw [h2 q TM (by omega) (fun e => (h.e q e).2 rfl)]; exact h.n
 ·rw [List.range_succ]
  unfold cA at hown ⊢
  rw [List.map_append]
  exact ax hown (fun j hj => ak _ _ (by simp only [Value.ownBlock, Option.some.injEq] at hj; subst hj; simp only; omega))
 ·simp only [Value.ownBlock, Option.some.injEq] at hj; subst hj; exact hgs
structure DC (w0 : World) (sb g cap B : Nat) (wr : World) (pv tv : Value) (tb : List TP) (K E : List Nat) : Prop where
 b : Below sb w0 wr
 c : fA sb 0 #[pv, tv, .slice (some ⟨g, 0, none⟩) B cap] 186 wr pv tv tb K
 r : wr.ownsRow 0 3 1 (.slice (some ⟨g, 0, none⟩) B cap) B (cA E)
 gs : sb < g
 pg : pv.ownBlock ≠ some g
 tg : tv.ownBlock ≠ some g
 pb : ∀ j, pv.ownBlock = some j -> sb < j
 XF : ∀ j, tv.ownBlock = some j -> sb < j
theorem DC.below {w0 wr wr' : World} {sb g cap B : Nat} {pv tv : Value} {tb : List TP} {K E : List Nat} (h : DC w0 sb g cap B wr pv tv tb K E) (hb : Below wr.heap.size wr wr') : DC w0 sb g cap B wr' pv tv tb K E :=
 ⟨h.b.trans (hb.mono (Nat.le_of_lt (af h.c.y))), h.c.below hb, aA h.r hb, h.gs, h.pg, h.tg, h.pb, h.XF⟩
theorem DC.add {w0 wr wr' : World} {sb g cap B : Nat} {pv tv mf pj : Value} {tb tb2 : List TP} {K K2 E : List Nat} (h : DC w0 sb g cap B wr pv tv tb K E) (hf : tK sb wr wr' pv tv mf pj) (hc : fA sb 0 #[mf, pj, .slice (some ⟨g, 0, none⟩) B cap] 186 wr' mf pj tb2 K2) : DC w0 sb g cap B wr' mf pj tb2 K2 E := by
 have hgl : g < wr.heap.size := (h.r.lt g rfl).2
 have hgs := h.gs
 have hsl := af h.c.y
 have hbs := h.b.size
 refine ⟨⟨hf.os.trans h.b.os, hf.tape.trans h.b.tape, hf.output.trans h.b.output, by have := hf.size; omega, fun k hk => ?_⟩, hc, ax h.r (fun k hk => ?_), hgs, fun e => ?_, fun e => ?_, fun j hj => ?_, fun j hj => ?_⟩
 ·rw [hf.blk k (by omega) (by omega) (fun e => by have := h.pb k e; omega) (fun e => by have := h.XF k e; omega)]; exact h.b.block k hk
 ·simp only [Value.ownBlock, Option.some.injEq] at hk
  subst hk
  exact hf.blk g hgl (by omega) h.pg h.tg
 ·rcases hf.p g e with e | e
  ·exact h.pg e
  ·omega
 ·rcases hf.t g e with e | e
  ·exact h.tg e
  ·omega
 ·rcases hf.p j hj with e | e
  ·exact h.pb j e
  ·omega
 ·rcases hf.t j hj with e | e
  ·exact h.XF j e
  ·omega
theorem DC.XG {w0 wr wr' : World} {sb g cap B : Nat} {pv tv : Value} {tb : List TP} {K E E' : List Nat} (h : DC w0 sb g cap B wr pv tv tb K E) (hf : xL g wr wr') (hr : wr'.ownsRow 0 3 1 (.slice (some ⟨g, 0, none⟩) B cap) B (cA E')) : DC w0 sb g cap B wr' pv tv tb K E' := by
 have hgs := h.gs
 have hsl := af h.c.y
 have hbs := h.b.size
 refine ⟨⟨hf.os.trans h.b.os, hf.tape.trans h.b.tape, hf.output.trans h.b.output, by have := hf.size; omega, fun k hk => ?_⟩, ?_, hr, hgs, h.pg, h.tg, h.pb, h.XF⟩
 ·rw [hf.blk k (by omega) (by omega)]; exact h.b.block k hk
 ·exact ⟨by rw [hf.blk sb hsl (by omega)]; exact h.c.y, h.c.a, h.c.b, ax h.c.p (fun k hk => hf.blk k (h.c.p.lt k hk).2 (fun e => h.pg (by rw [hk, e]))), ax h.c.t (fun k hk => hf.blk k (h.c.t.lt k hk).2 (fun e => h.tg (by rw [hk, e]))), h.c.py, h.c.ty, h.c.pt⟩
def XH (B : Nat) (tb : List TP) : Prop := ∀ j, (fo tb j).r < B
theorem NM (tb : List TP) (x : TP) (j : Nat) : fo (tb ++ [x]) j = fo tb j \/ fo (tb ++ [x]) j = x := by
 unfold fo
 split
 ·exact Or.inl rfl
 ·by_cases h : j - 1 < tb.length
  ·rw [List.getElem?_append_left h]; exact Or.inl rfl
  ·rw [List.getElem?_append_right (by omega)]
   by_cases h2 : j - 1 - tb.length = 0
   ·rw [h2]; exact Or.inr rfl
   ·rw [List.getElem?_eq_none (by simp; omega), List.getElem?_eq_none (by omega)]; exact Or.inl rfl
theorem UU {B : Nat} {tb : List TP} (h : XH B tb) (K : List Nat) (n : NR) (r : Nat) (hr : r < B) : XH B (gM tb K n r).2 := by
 have hp : ∀ a b, XH B (cV tb r a b).2 := fun a b => by
  unfold cV
  split
  ·exact h
  ·intro j
   simp only
   rcases NM tb ⟨r, a, b, 1 + (fo tb a).sz + (fo tb b).sz⟩ j with e | e
   ·rw [e]; exact h j
   ·rw [e]; exact hr
 unfold gM
 repeat' split
 all_goals first | exact h | exact hp _ _
structure Hj (fb : Nat) (w : World) (nv ov pv tv : Value) (tb : List TP) (K : List Nat) (ns : List NR) (op : List Int) : Prop where
 c : fA fb 2 #[nv, ov, pv, tv] 191 w pv tv tb K
 t : bh w nv ov ns op
theorem Hj.below {fb : Nat} {w w' : World} {nv ov pv tv : Value} {tb : List TP} {K : List Nat} {ns : List NR} {op : List Int} (h : Hj fb w nv ov pv tv tb K ns op) (hb : Below w.heap.size w w') : Hj fb w' nv ov pv tv tb K ns op := ⟨h.c.below hb, h.t.below hb⟩
theorem pJ (fb : Nat) (w : World) (nv ov pv tv : Value) (tb : List TP) (K : List Nat) (ns : List NR) (op : List Int) (D : List Ty) (T : List Ty) (h : Hj fb w nv ov pv tv tb K ns op) (hR : Rel tb D K T) (hl : tb.length <= 9000) (hK : K.length <= 9000) (i rg : Nat) (hi : i <= 9000) :
  Calls Tryz.prog 137 #[ptr fb, .int .i64 i, .int .i64 rg] w fun v w' => v = .returned (.bool ((ai T i).has rg)) /\ Below w.heap.size w w' := by
 obtain ⟨k1, k2, k3⟩ := hR.known i
 have UW := gC w fb 2 tv K i h.c.c1 h.c.t hK (by omega)
 have hme := pH fb 2 pv tb hl hR.low rg (tb.length + 1) (aq K i) (by omega) (by omega) w h.c.c0 h.c.p
 rw [uF hR rg _ _ (by omega) k2, <- k1] at hme
 have HOF : Hid _ := UW
 have NJ : Hid _ := hme
 have hfl := af h.c.y
 generalize aq K i = kk at *
 generalize (ai T i).has rg = mm at *
 clear UW hme h hR k1 k2 k3
 show Calls _ _ #[Value.pointer (some ⟨fb, 0, none⟩), _, _] w _
 go_enter Tryz.func137, Tryz.ntmps137
 go_wp2_with fail
 refine Calls.mono HOF.out ?_
 rintro _ _ ⟨rfl, rfl⟩
 go_wp2_with fail
 refine Calls.mono NJ.out ?_
 rintro _ w2 ⟨rfl, hb2⟩
 have dN : Hid _ := hb2
 clear hb2
 go_wp2
 go_ret
 exact ⟨rfl, dN.out⟩
def dz (T : List Ty) (rg : Nat) : List NR -> Nat -> Nat -> Nat -> Nat × Nat
 | [], _, a, b => (a, b)
 | n :: r, i, a, b => if (ai T i).has rg = true then dz T rg r (i + 1) (if n.at_ < a then n.at_ else a) (if b < n.aO then n.aO else b) else dz T rg r (i + 1) a b
def eG (T : List Ty) (rg a b : Nat) : List NR -> Nat -> Int
 | [], _ => -1
 | n :: r, i => if n.at_ <= a /\ b <= n.aO /\ (ai T i).has rg = false then (i : Int) else eG T rg a b r (i + 1)
theorem J7 (fb : Nat) (w : World) (x1 : Option Addr) (n1 c1 : Nat) (x2 : Option Addr) (n2 c2 : Nat) (pv tv : Value) (tb : List TP) (K : List Nat) (ns : List NR) (op : List Int) (D : List Ty) (T : List Ty) (h : Hj fb w (.slice x1 n1 c1) (.slice x2 n2 c2) pv tv tb K ns op) (hR : Rel tb D K T) (hl : tb.length <= 9000) (hK : K.length <= 9000) (hn : ns.length <= 9000) (rg : Nat) (n0 : NR) (h0 : ns[ns.length - 1]? = some n0) :
  Calls Tryz.prog 136 #[ptr fb, .int .i64 rg] w fun v w' => v = .returned (.tuple #[.int .i64 (dz T rg ns 0 n0.aO n0.at_).1, .int .i64 (dz T rg ns 0 n0.aO n0.at_).2]) /\ Below w.heap.size w w' := by
 obtain ⟨m, hm⟩ : ∃ m, m = ns.length := ⟨_, rfl⟩
 have lQ : 1 <= m := by have := (List.getElem?_eq_some_iff.1 h0).1; omega
 have hfl := af h.c.y
 have TQ : ∀ W', Below w.heap.size w W' -> W'.cell? ⟨fb, 0, none⟩ = some (.slice x1 n1 c1) /\ W'.cell? ⟨fb, 1, none⟩ = some (.slice x2 n2 c2) /\ fb < W'.heap.size := fun W' hb => by
  have := (h.below hb).c.y
  exact ⟨by rw [aa this]; rfl, by rw [aa this]; rfl, af this⟩
 have UX : ∀ W', Below w.heap.size w W' -> Calls Tryz.prog 68 #[.agg #[.slice x1 n1 c1, .slice x2 n2 c2]] W' fun v w' => v = .returned (.int .i64 ((m - 1 : Nat) : Int)) /\ Below w.heap.size w w' /\ Below W'.heap.size W' w' := fun W' hb => by
  refine (rr W' _ _ ns op (h.below hb).t hn).mono ?_
  rintro _ w' ⟨rfl, hb'⟩
  exact ⟨by congr 2; omega, hb.trans (hb'.mono hb.size), hb'⟩
 have Hk : ∀ W', Below w.heap.size w W' -> ∀ (k : Nat) (n : NR), ns[k]? = some n -> Calls Tryz.prog 94 #[.agg #[.slice x1 n1 c1, .slice x2 n2 c2], .int .i64 k] W' fun v w' => v = .returned (aI n) /\ Below w.heap.size w w' /\ Below W'.heap.size W' w' := fun W' hb k n hk => by
  refine (dZ W' _ _ ns op (h.below hb).t k n hk hn).mono ?_
  rintro _ w' ⟨rfl, hb'⟩
  exact ⟨rfl, hb.trans (hb'.mono hb.size), hb'⟩
 have Rk := fun W' hb => Hk W' hb (m - 1) n0 (by rw [hm]; exact h0)
 have Qa : ∀ W', Below w.heap.size w W' -> Calls Tryz.prog 93 #[.agg #[.slice x1 n1 c1, .slice x2 n2 c2]] W' fun v w' => v = .returned (.int .i64 m) /\ Below w.heap.size w w' := fun W' hb => by
  have := gx W' _ _ ns op (h.below hb).t
  rw [<- hm] at this
  refine this.mono ?_
  rintro _ w' ⟨rfl, hb'⟩
  exact ⟨rfl, hb.trans (hb'.mono hb.size)⟩
 have UY : ∀ W', Below w.heap.size w W' -> ∀ i : Nat, i < m -> Calls Tryz.prog 137 #[.pointer (some ⟨fb, 0, none⟩), .int .i64 i, .int .i64 rg] W' fun v w' => v = .returned (.bool ((ai T i).has rg)) /\ Below w.heap.size w w' := fun W' hb i hi => by
  refine (pJ fb W' _ _ pv tv tb K ns op D T (h.below hb) hR hl hK i rg (by omega)).mono ?_
  rintro _ w' ⟨rfl, hb'⟩
  exact ⟨rfl, hb.trans (hb'.mono hb.size)⟩
 obtain ⟨R, Rl⟩ : ∃ R, R = dz T rg ns 0 n0.aO n0.at_ := ⟨_, rfl⟩
 rw [<- Rl]
 unfold aI at Rk Hk
 have Rm : Hid _ := TQ
 have Jz : Hid _ := UX
 have qQ : Hid _ := Hk
 have UZ : Hid _ := Rk
 have JA : Hid _ := Qa
 have NJ : Hid _ := UY
 have HM : Hid _ := hm
 have Qb : Hid _ := Rl
 obtain ⟨b0, b1, bl⟩ := TQ w (Below.refl _ _)
 rw [<- hm] at hn
 clear TQ UX Hk Rk Qa UY h hR hm Rl h0
 show Calls _ _ #[Value.pointer (some ⟨fb, 0, none⟩), _] w _
 go_enter Tryz.func136, Tryz.ntmps136
 go_upto_region 1 with fail
 go_cut [6] from 11 to 20 (fun t6 wx => ∃ q, t6 = .pointer (some ⟨q, 0, none⟩) /\ wx.heap[q]? = some (bR n0) /\ w.heap.size <= q /\ Below w.heap.size w wx)
 case first =>
  go_region_law (first
   | (refine kH rfl 68 #[.agg #[.slice x1 n1 c1, .slice x2 n2 c2]] ?_ ?_
      ·go_simp
      refine Calls.mono (Jz.out _ ?_) ?_
      ·repeat (first | with_reducible exact Below.refl _ _ | with_reducible refine cz ?_ _ | with_reducible refine sH ?_ | with_reducible refine fK ?_)
      rintro e w2 ⟨rfl, hb2, Rn⟩
      obtain ⟨b0, b1, bl⟩ := Rm.out _ hb2
      have J8 := hb2.size
      try (have hz : w2.heap[w.heap.size]? = some (.cells nz 160 (0, 0)) := (Rn.block _ (by simp)).trans (aj _ _))
      refine ⟨_, rfl, ?_⟩)
   | (refine kH rfl 94 #[.agg #[.slice x1 n1 c1, .slice x2 n2 c2], .int .i64 ((m - 1 : Nat) : Int)] ?_ ?_
      ·go_simp
      refine Calls.mono (UZ.out _ ?_) ?_
      ·repeat (first | with_reducible exact Below.refl _ _ | with_reducible exact hb2 | with_reducible refine cz ?_ _ | with_reducible refine sH ?_ | with_reducible refine fK ?_)
      rintro e w3 ⟨rfl, hb3, zX⟩
      try (have NN : w3.heap[w2.heap.size]? = some (.cells nz 160 (0, 0)) := (zX.block _ (by simp)).trans (aj _ _))
      try (have NP : w3.heap[w.heap.size]? = some (.cells nz 160 (0, 0)) := (zX.block _ (af hz)).trans hz)
      try (obtain ⟨z0, z1, z2, z3, z4, z5, z6, z7, z8, z9⟩ := ru NN; obtain ⟨f0, f1, f2, f3, f4, f5, f6, f7, f8, f9⟩ := uG NN; have hzl := af NN)
      try (obtain ⟨z0, z1, z2, z3, z4, z5, z6, z7, z8, z9⟩ := ru NP; obtain ⟨f0, f1, f2, f3, f4, f5, f6, f7, f8, f9⟩ := uG NP; have hzl := af NP)
      refine ⟨_, rfl, ?_⟩))
  all_goals (go_wp2_with fail; go_meet)
  all_goals first
   | (have hE := zW (.int .i64 n0.form) (.int .i64 n0.at_) (.int .i64 n0.aO) (.int .i64 n0.num) (.string (bs n0.word)) (.int .i64 n0.region) (.int .i64 n0.source) (.int .i64 n0.p0) (.int .i64 n0.p1) (.int .i64 n0.p2) hb3 J8 NN; exact ⟨_, rfl, hE.1, J8, hE.2⟩)
   | (have hE := zW (.int .i64 n0.form) (.int .i64 n0.at_) (.int .i64 n0.aO) (.int .i64 n0.num) (.string (bs n0.word)) (.int .i64 n0.region) (.int .i64 n0.source) (.int .i64 n0.p0) (.int .i64 n0.p1) (.int .i64 n0.p2) hb3 (Nat.le_refl _) NP; exact ⟨_, rfl, hE.1, Nat.le_refl _, hE.2⟩)
   | exact ⟨_, rfl, aj _ _, hb3.size, cz hb3 _⟩
   | skip
 case rest =>
  obtain ⟨q, rfl, hq, YJ, hbc⟩ := hcut
  obtain ⟨d0, d1, d2, _⟩ := aC hq
  have TM := af hq
  have NQ : Hid _ := hbc
  clear hq hbc b0 b1 Jz UZ
  go_wp2
  go_loopw [7, 8, 9, 10] (fun fa be i _ wr => ∃ (k a b : Nat), k <= m /\ i = .int .i64 k /\ fa = .int .i64 a /\ be = .int .i64 b /\ Hid (dz T rg ns 0 n0.aO n0.at_ = dz T rg (ns.drop k) k a b) /\ Below w.heap.size w wr) (fun _ _ i _ _ => m - (intOf i).toNat)
  case atStart => exact ⟨0, n0.aO, n0.at_, Nat.zero_le _, rfl, rfl, rfl, (rfl : dz T rg ns 0 n0.aO n0.at_ = dz T rg (ns.drop 0) 0 n0.aO n0.at_), NQ.out⟩
  case round =>
   obtain ⟨k, a, b, hk, rfl, rfl, rfl, HF, dw⟩ := hrel
   obtain ⟨b0, b1, bl⟩ := Rm.out _ dw
   have gQ := JA.out _ dw
   by_cases hlt : k < m
   ·have hkl : k < ns.length := by have := HM.out; omega
    obtain ⟨n, hn⟩ : ∃ n, ns[k]? = some n := ⟨ns[k], List.getElem?_eq_getElem hkl⟩
    have nn : ns.drop k = n :: ns.drop (k + 1) := by
     rw [List.drop_eq_getElem_cons hkl]; rw [List.getElem?_eq_getElem hkl] at hn; simp only [Option.some.injEq] at hn; rw [hn]
    have hst := HF.out
    rw [nn] at hst
    simp only [dz] at hst
    have iQ : Hid _ := hst
    have HN : Hid _ := hn
    clear hst nn hn HF dw hkl
    go_wp2_with fail
    refine gQ.mono ?_
    rintro _ w1 ⟨rfl, hb1⟩
    have hme := NJ.out w1 hb1 k hlt
    clear gQ b0 b1 bl
    obtain ⟨b0, b1, bl⟩ := Rm.out _ hb1
    have dF : Hid _ := hb1
    clear hb1
    go_wp2_with fail
    refine hme.mono ?_
    rintro _ w2 ⟨rfl, hb2⟩
    clear hme b0 b1 bl
    obtain ⟨b0, b1, bl⟩ := Rm.out _ hb2
    have hno := qQ.out w2 hb2 k n HN.out
    have dN : Hid _ := hb2
    clear hb2
    cases hmm : (ai T (k : Int)).has rg with
    | false =>
     have hst := iQ.out
     rw [hmm, if_neg (by decide)] at hst
     have ed : Hid _ := hst
     clear hst iQ hno hmm
     go_wp2
     go_roundw
     case rel => exact ⟨k + 1, a, b, by omega, by go_num, rfl, rfl, ed.out, dN.out⟩
     case measure => simp [intOf]; omega
    | true =>
     have hst := iQ.out
     rw [hmm, if_pos rfl] at hst
     have ed : Hid _ := hst
     clear hst iQ hmm
     go_wp2_with fail
     refine hno.mono ?_
     rintro _ w3 ⟨rfl, hb3, _⟩
     have iI : Hid _ := cz hb3 (bR n)
     unfold bR xS at iI
     clear hb3 hno
     by_cases ha : n.at_ < a
     ·have qa : (n.at_ : Int) < (a : Int) := by omega
      by_cases hb : b < n.aO
      ·have qb : (b : Int) < (n.aO : Int) := by omega
       have hst := ed.out
       rw [if_pos ha, if_pos hb] at hst
       have vG : Hid _ := hst
       clear hst ed ha hb
       go_wp2
       go_roundw
       case rel => exact ⟨k + 1, n.at_, n.aO, by omega, by go_num, rfl, rfl, vG.out, iI.out⟩
       case measure => simp [intOf]; omega
      ·have qb : ¬ (b : Int) < (n.aO : Int) := by omega
       have hst := ed.out
       rw [if_pos ha, if_neg hb] at hst
       have vG : Hid _ := hst
       clear hst ed ha hb
       go_wp2
       go_roundw
       case rel => exact ⟨k + 1, n.at_, b, by omega, by go_num, rfl, rfl, vG.out, iI.out⟩
       case measure => simp [intOf]; omega
     ·have qa : ¬ (n.at_ : Int) < (a : Int) := by omega
      by_cases hb : b < n.aO
      ·have qb : (b : Int) < (n.aO : Int) := by omega
       have hst := ed.out
       rw [if_neg ha, if_pos hb] at hst
       have vG : Hid _ := hst
       clear hst ed ha hb
       go_wp2
       go_roundw
       case rel => exact ⟨k + 1, a, n.aO, by omega, by go_num, rfl, rfl, vG.out, iI.out⟩
       case measure => simp [intOf]; omega
      ·have qb : ¬ (b : Int) < (n.aO : Int) := by omega
       have hst := ed.out
       rw [if_neg ha, if_neg hb] at hst
       have vG : Hid _ := hst
       clear hst ed ha hb
       go_wp2
       go_roundw
       case rel => exact ⟨k + 1, a, b, by omega, by go_num, rfl, rfl, vG.out, iI.out⟩
       case measure => simp [intOf]; omega
   ·have TJ : Hid (R = (a, b)) := by
     have hd : ns.drop k = [] := List.drop_eq_nil_of_le (by have := HM.out; omega)
     have hst := HF.out
     rw [hd] at hst
     rw [Qb.out, hst]; exact rfl
    have gW : Hid _ := dw
    clear dw HF
    go_wp2_with fail
    refine gQ.mono ?_
    rintro _ w1 ⟨rfl, hb1⟩
    have dF : Hid _ := hb1
    clear hb1 gQ
    go_wp2
    refine bodyPost_ret (v := .tuple #[.int .i64 a, .int .i64 b]) (by simp [results, Tryz.results136, go_sem]) rfl ⟨by rw [TJ.out], dF.out⟩
end Go.Proofs.YtpicaknklgccoaaGreatDoor
