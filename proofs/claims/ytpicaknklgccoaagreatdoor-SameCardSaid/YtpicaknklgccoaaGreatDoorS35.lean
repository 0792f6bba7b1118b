import Derived.Test.YtpicaknklgccoaaGreatDoorS34
set_option maxHeartbeats 8000000
set_option maxRecDepth 100000
namespace Go.Proofs.YtpicaknklgccoaaGreatDoor
theorem tf (E fs : List Nat) (ns : List NR) (i : Nat) (n : NR) (h : ns[i]? = some n) : jJ (dR E fs ns) i = if n.form = 4 then lj fs (bg E n.at_) else -1 := by
 unfold jJ dR
 rw [List.getElem?_map, h]; rfl
def j6 (E fs : List Nat) (ns : List NR) : List NR := ns.map (fun n => fC n (if n.form = 4 then lj fs (bg E n.at_) else -1))
theorem zy (T : List Ty) (rg a b : Nat) : ∀ (l : List NR) (k i : Nat), eG T rg a b l k = (i : Int) -> (ai T i).has rg = false
 | [], _, i, h => by simp only [eG] at h; omega
 | n :: r, k, i, h => by
  simp only [eG] at h
  split at h
  ·rename_i hc
   have : k = i := by omega
   rw [<- this]; exact hc.2.2
  ·exact zy T rg a b r (k + 1) i h
mutual
theorem NA.src : ∀ {scope : Sc} {t : PT} {base : Nat} {ns : List NR}, NA scope t base ns -> (∀ x ∈ scope, x.2 < (base : Int)) -> ∀ (j : Nat) (n : NR), ns[j]? = some n -> n.source < ((base + j : Nat) : Int)
 | _, .num p s, base, ns, h, _, j, n, hn => by
  simp only [NA] at h
  subst h
  have hj : j = 0 := by have := (List.getElem?_eq_some_iff.1 hn).1; simp at this; omega
  subst hj
  simp only [List.getElem?_cons_zero, Option.some.injEq] at hn; subst hn
  simp only; omega
 | scope, .name p s, base, ns, h, hs, j, n, hn => by
  simp only [NA] at h
  subst h
  have hj : j = 0 := by have := (List.getElem?_eq_some_iff.1 hn).1; simp at this; omega
  subst hj
  simp only [List.getElem?_cons_zero, Option.some.injEq] at hn; subst hn
  simp only [Nat.add_zero]
  unfold bL
  split
  ·rename_i x hx
   exact hs x (by have := List.mem_of_find?_eq_some hx; simpa using this)
  ·omega
 | scope, .node p k nm rg kids, base, ns, h, hs, j, n, hn => by
  simp only [NA] at h
  obtain ⟨ks, aO, h1, rfl⟩ := h
  by_cases hj : j < ks.length
  ·rw [List.getElem?_append_left hj] at hn
   exact cR.src h1 hs j n hn
  ·have Du : j = ks.length := by have := (List.getElem?_eq_some_iff.1 hn).1; simp at this; omega
   rw [List.getElem?_append_right (by omega), Du, Nat.sub_self] at hn
   simp only [List.getElem?_cons_zero, Option.some.injEq] at hn; subst hn
   simp only; omega
theorem cR.src : ∀ {scope : Sc} {nm : List UInt8} {ts : List PT} {bs : List Bool} {base : Nat} {ns : List NR}, cR scope nm ts bs base ns -> (∀ x ∈ scope, x.2 < (base : Int)) -> ∀ (j : Nat) (n : NR), ns[j]? = some n -> n.source < ((base + j : Nat) : Int)
 | _, _, [], _, _, _, h, _, j, n, hn => by simp only [cR] at h; rw [h.2] at hn; simp at hn
 | _, _, _ :: _, [], _, _, h, _, _, _, _ => by simp [cR] at h
 | scope, nm, t :: r, b :: bs, base, ns, h, hs, j, n, hn => by
  simp only [cR] at h
  obtain ⟨a, c, h1, h2, rfl⟩ := h
  have hl := NA.len h1
  by_cases hj : j < a.length
  ·rw [List.getElem?_append_left hj] at hn
   refine NA.src h1 (fun x hx => ?_) j n hn
   cases b with
   | false => exact hs x (by simpa using hx)
   | true =>
    simp only [if_true, List.mem_append, List.mem_singleton] at hx
    rcases hx with hx | hx
    ·exact hs x hx
    ·rw [hx]; simp only; omega
  ·rw [List.getElem?_append_right (by omega)] at hn
   have := cR.src h2 (fun x hx => by have := hs x hx; omega) (j - a.length) n hn
   rw [hl] at this hj
   rw [show base + t.cnt + (j - t.cnt) = base + j from by omega] at this
   exact this
end
theorem Pz {t : PT} {ns : List NR} (h : NA [] t 0 ns) (i : Nat) (n : NR) (hn : ns[i]? = some n) : lE i n := by
 have h1 := h.back i n hn
 have h2 := h.src (fun x hx => by simp at hx) i n hn
 rw [Nat.zero_add] at h1 h2
 exact ⟨h1.1, h1.2.1, h1.2.2, h2⟩
mutual
theorem AV : ∀ (t : PT) (base i : Nat), base <= i -> i < base + t.cnt -> (i : Int) ∈ opn t base
 | .num _ _, base, i, h1, h2 => by simp only [PT.cnt] at h2; simp only [opn, List.mem_singleton]; omega
 | .name _ _, base, i, h1, h2 => by simp only [PT.cnt] at h2; simp only [opn, List.mem_singleton]; omega
 | .node _ _ _ _ kids, base, i, h1, h2 => by
  simp only [PT.cnt] at h2
  simp only [opn, List.mem_cons]
  by_cases h : i = base + aB kids
  ·exact Or.inl (by rw [h])
  ·exact Or.inr (Dc kids base i h1 (by omega))
theorem Dc : ∀ (ts : List PT) (base i : Nat), base <= i -> i < base + aB ts -> (i : Int) ∈ lW ts base
 | [], base, i, h1, h2 => by simp only [aB] at h2; omega
 | t :: r, base, i, h1, h2 => by
  simp only [aB] at h2
  simp only [lW, List.mem_append]
  by_cases h : i < base + t.cnt
  ·exact Or.inl (AV t base i h1 h)
  ·exact Or.inr (Dc r (base + t.cnt) i (by omega) (by omega))
end
def th (P : Nat -> Prop) (t : Ty) : Prop := ∀ r ∈ t.xW, P r
theorem th.p {P : Nat -> Prop} {r : Nat} {a b : Ty} (h : th P (.p r a b)) : P r /\ th P a /\ th P b :=
 ⟨h r (by simp [Ty.xW]), fun x hx => h x (by simp [Ty.xW, hx]), fun x hx => h x (by simp [Ty.xW, hx])⟩
def xq (P : Nat -> Prop) (E : List Nat) : Prop := ∀ i, P i -> P (bg E i)
theorem Jb {P : Nat -> Prop} {E : List Nat} (hP : ∀ i, P i -> i < E.length) (h : xq P E) (x y : Nat) (hx : P x) (hy : P y) : xq P (iO E x y) := fun i hi => by
 rw [nD E x y (hP x hx) (hP y hy)]
 unfold GY
 split
 ·have h1 := h x hx
  have h2 := h y hy
  rcases Nat.le_total (bg E x) (bg E y) with e | e
  ·rw [Nat.min_eq_left e]; exact h1
  ·rw [Nat.min_eq_right e]; exact h2
 ·exact h i hi
theorem qL {P : Nat -> Prop} : ∀ (a b : Ty) (E : List Nat), (∀ i, P i -> i < E.length) -> xq P E -> th P a -> th P b -> xq P (cC E a b)
 | .n, _, _, _, h, _, _ => by simp only [cC]; exact h
 | .p _ _ _, .n, _, _, h, _, _ => by simp only [cC]; exact h
 | .p r a b, .p s c d, E, hP, h, h1, h2 => by
  simp only [cC]
  split
  ·exact h
  ·obtain ⟨r1, r2, r3⟩ := h1.p
   obtain ⟨s1, s2, s3⟩ := h2.p
   refine qL b d _ (by rw [cD, eW]; exact hP) (qL a c _ (by rw [eW]; exact hP) (Jb hP h r s r1 s1) r2 s2) r3 s3
theorem kX {P : Nat -> Prop} {T : List Ty} (h : ∀ t ∈ T, th P t) (i : Int) : th P (ai T i) := by
 unfold ai
 split
 ·cases e : T[i.toNat]? with
  | none => intro r hr; simp [Ty.xW] at hr
  | some t => exact h t (List.mem_of_getElem? e)
 ·intro r hr; simp [Ty.xW] at hr
theorem Md {P : Nat -> Prop} {T : List Ty} (h : ∀ t ∈ T, th P t) (m : NR) (hm : m.form = 4 -> P m.region.toNat) : th P (cH T m) := by
 have h0 := kX h m.p0
 have h1 := kX h m.p1
 have h2 := kX h m.source
 have hn : th P .n := fun r hr => by simp [Ty.xW] at hr
 unfold cH
 split
 ·exact h2
 split
 ·exact h0
 split
 ·exact h1
 split
 ·exact h1
 split
 ·exact h1
 split
 ·rename_i h4
  intro r hr
  simp only [Ty.xW, List.mem_cons, List.mem_append] at hr
  rcases hr with hr | hr | hr
  ·rw [hr]; exact hm h4
  ·exact h0 r hr
  ·exact h1 r hr
 split
 ·cases e : ai T m.p0 with
  | n => exact hn
  | p r a b => rw [e] at h0; exact h0.p.2.1
 split
 ·cases e : ai T m.p0 with
  | n => exact hn
  | p r a b => rw [e] at h0; exact h0.p.2.2
 ·exact hn
theorem xu {P : Nat -> Prop} : ∀ (ns : List NR) (T : List Ty) (E : List Nat), (∀ i, P i -> i < E.length) -> xq P E -> (∀ t ∈ T, th P t) -> (∀ n ∈ ns, n.form = 4 -> P n.at_) -> xq P (rq T E ns)
 | [], _, _, _, h, _, _ => h
 | n :: r, T, E, hP, h, hT, hn => by
  have hb : ∀ t ∈ T ++ [cH T (atR n)], th P t := fun t ht => by
   rcases List.mem_append.1 ht with ht | ht
   ·exact hT t ht
   ·simp only [List.mem_singleton] at ht; subst ht; exact Md hT _ (fun h4 => by simpa [atR] using hn n (by simp) h4)
  simp only [rq]
  split
  ·exact xu r _ _ (by rw [cD]; exact hP) (qL _ _ E hP h (kX hb _) (kX hb _)) hb (fun m hm => hn m (by simp [hm]))
  ·exact xu r _ _ hP h hb (fun m hm => hn m (by simp [hm]))
theorem Jc (B i : Nat) : bg (List.range B) i = i := by
 rw [gi]
 cases h : (List.range B)[i]? with
 | none => rfl
 | some x =>
  have := List.getElem?_eq_some_iff.1 h
  obtain ⟨_, h2⟩ := this
  simp only [List.getElem_range] at h2
  simp only
  rw [if_neg (by omega)]
theorem Me {row : List Nat} {x : Nat} (h : x ∈ row) : ∃ i : Nat, lj row x = (i : Int) /\ i < row.length := by
 unfold lj
 cases e : row.findIdx? (· == x) with
 | some i => exact ⟨i, rfl, (List.findIdx?_eq_some_iff_getElem.1 e).1⟩
 | none =>
  rw [List.findIdx?_eq_none_iff] at e
  have := e x h
  simp at this
theorem PA {e : PT} {ns : List NR} (h : NA [] e 0 ns) (n : NR) (hn : n ∈ ns) : n ∈ bD ns (opn e 0) := by
 obtain ⟨i, hi⟩ := List.getElem?_of_mem hn
 have lP := (List.getElem?_eq_some_iff.1 hi).1
 have := AV e 0 i (Nat.zero_le _) (by have := h.len; omega)
 unfold bD
 rw [List.mem_map]
 exact ⟨(i : Int), this, by rw [Int.toNat_natCast, hi]; rfl⟩
theorem PB {e : PT} {U : Ty} {ns : List NR} {n0 : NR} (E5 : WT [] e U) (hnn : cJ e) (bq : NA [] e 0 ns) (hat : ∀ n ∈ ns, n.at_ < n0.aO) (hfs : (aX (rq [] (List.range n0.aO) ns) (bD ns (opn e 0))).length <= 1000) :
  Da (dR (rq [] (List.range n0.aO) ns) (aX (rq [] (List.range n0.aO) ns) (bD ns (opn e 0))) ns)
   (ig (bz [] (j6 (rq [] (List.range n0.aO) ns) (aX (rq [] (List.range n0.aO) ns) (bD ns (opn e 0))) ns)) ns n0 (aX (rq [] (List.range n0.aO) ns) (bD ns (opn e 0))).length)
   ns (bz [] (j6 (rq [] (List.range n0.aO) ns) (aX (rq [] (List.range n0.aO) ns) (bD ns (opn e 0))) ns)) /\ iY [] (ns.map atR) /\ iY [] (j6 (rq [] (List.range n0.aO) ns) (aX (rq [] (List.range n0.aO) ns) (bD ns (opn e 0))) ns) := by
 have hbk := fun i n hn => Pz bq i n hn
 have hb1 : ∀ (i : Nat) n, (ns.map atR)[i]? = some n -> lE (([] : List Ty).length + i) n := fun i n hn => by
  rw [List.getElem?_map] at hn
  obtain ⟨m, hm, rfl⟩ := Option.map_eq_some_iff.1 hn
  simpa [lE, atR] using hbk i m hm
 have WZ : ∀ i n, ns[i]? = some n -> ai (bz [] (ns.map atR)) (i : Nat) = cH (bz [] (ns.map atR)) (fC n (((ns[i]?).map (fun m => (m.at_ : Int))).getD 0)) := fun i n hn => by
  have := AU (ns.map atR) [] hb1 i (atR n) (by rw [List.getElem?_map, hn]; rfl)
  rw [List.length_nil, Nat.zero_add] at this
  rw [this, hn]; rfl
 obtain ⟨_, Ti⟩ := Db (ρ := fun i => ((ns[i]?).map (fun m => (m.at_ : Int))).getD 0) WZ E5 hnn [] 0 [] ns [] bq (by simp) rfl (fun s U h => by simp [look] at h)
 rw [Nat.zero_add, <- bq.len] at Ti
 have NW : sF [] (ns.map atR) := zx _ _ hb1 (fun i n hn hf => by
  rw [List.getElem?_map] at hn
  obtain ⟨m, hm, rfl⟩ := Option.map_eq_some_iff.1 hn
  exact (Ti i m (Nat.zero_le _) (List.getElem?_eq_some_iff.1 hm).1 hm).1 hf)
 have D2 : iY [] (ns.map atR) := E9 _ _ hb1 (fun i n hn hf => by
  rw [List.getElem?_map] at hn
  obtain ⟨m, hm, rfl⟩ := Option.map_eq_some_iff.1 hn
  exact (Ti i m (Nat.zero_le _) (List.getElem?_eq_some_iff.1 hm).1 hm).2 hf)
 have hone := zV ns [] (List.range n0.aO) (fun t h => by simp at h) (by rw [List.length_range]; exact hat) NW
 have hkeep : xq (fun x => ∃ n ∈ ns, n.form = 4 /\ n.at_ = x) (rq [] (List.range n0.aO) ns) :=
  xu ns [] (List.range n0.aO) (fun i ⟨n, hn, _, he⟩ => by rw [List.length_range, <- he]; exact hat n hn) (fun i hi => by rw [Jc]; exact hi) (fun t h => by simp at h) (fun n hn h4 => ⟨n, hn, h4, rfl⟩)
 generalize rq [] (List.range n0.aO) ns = E at *
 have hmem : ∀ n ∈ ns, n.form = 4 -> bg E n.at_ ∈ aX E (bD ns (opn e 0)) := fun n hn h4 => by
  obtain ⟨m, hm, m4, XG⟩ := hkeep n.at_ ⟨n, hn, h4, rfl⟩
  unfold aX
  rw [List.mem_map]
  refine ⟨m, List.mem_filter.2 ⟨PA bq m hm, ?_⟩, XG⟩
  rw [XG, nC]
  simp [m4]
 generalize aX E (bD ns (opn e 0)) = fs at *
 obtain ⟨f, hf⟩ : ∃ f : Nat -> Nat, f = fun x => (lj fs (bg E x)).toNat := ⟨_, rfl⟩
 have qX : ∀ (l : List NR) (T : List Ty), bz (T.map (gZ f)) (j6 E fs l) = (bz T (l.map atR)).map (gZ f) := fun l => by
  induction l with
  | nil => intro T; simp [j6, bz]
  | cons n r ih =>
   intro T
   have e1 : cH (T.map (gZ f)) (fC n (if n.form = 4 then lj fs (bg E n.at_) else -1)) = gZ f (cH T (atR n)) := NL f T (atR n) _ rfl (fun h4 => by
    have h4' : n.form = 4 := h4
    simp only [fC, atR, if_pos h4', Int.toNat_natCast]; rw [hf])
   have ih2 := ih (T ++ [cH T (atR n)])
   rw [List.map_append, List.map_singleton, <- e1] at ih2
   simp only [j6, List.map_cons, bz] at ih2 ⊢
   exact ih2
 have W6 := qX ns []
 rw [List.map_nil] at W6
 have hb2 : ∀ (i : Nat) n, (j6 E fs ns)[i]? = some n -> lE (([] : List Ty).length + i) n := fun i n hn => by
  unfold j6 at hn
  rw [List.getElem?_map] at hn
  obtain ⟨m, hm, rfl⟩ := Option.map_eq_some_iff.1 hn
  simpa [lE, fC] using hbk i m hm
 have jm : Np (dR E fs ns) ns := fun i n hn => by
  rw [tf E fs ns i n hn]
  refine ⟨fun h4 => ?_, fun h4 => by rw [if_neg h4]⟩
  obtain ⟨j, hj, hjl⟩ := Me (hmem n (List.mem_of_getElem? hn) h4)
  rw [if_pos h4, hj]; omega
 have QQ : ∀ i n, ns[i]? = some n -> ai (bz [] (j6 E fs ns)) (i : Nat) = cH (bz [] (j6 E fs ns)) (fC n (jJ (dR E fs ns) i)) := fun i n hn => by
  have := AU (j6 E fs ns) [] hb2 i (fC n (if n.form = 4 then lj fs (bg E n.at_) else -1)) (by unfold j6; rw [List.getElem?_map, hn]; rfl)
  rw [List.length_nil, Nat.zero_add] at this
  rw [this, tf E fs ns i n hn]
 refine ⟨⟨QQ, jm, fun i n hn hfm => ?_, fun r i hr => ?_⟩, D2, ?_⟩
 ·have h1 := GA (bg E) (ns.map atR) [] hb1 hone i (atR n) (by rw [List.getElem?_map, hn]; rfl) hfm
  rw [W6, kG, kG]
  have hc : fZ (bg E) f := fun a b hab => by rw [hf]; simp only [hab]
  exact hc.map _ _ h1
 ·unfold ig at hr
  rw [List.getElem?_map] at hr
  obtain ⟨k, hk, hkr⟩ := Option.map_eq_some_iff.1 hr
  have : k = r := by
   have := (List.getElem?_eq_some_iff.1 hk).2
   simpa using this.symm
  subst this
  exact zy _ _ _ _ _ _ _ hkr
 ·obtain ⟨_, QR⟩ := Db (ρ := fun i => jJ (dR E fs ns) i) QQ E5 hnn [] 0 [] ns [] bq (by simp) rfl (fun s U h => by simp [look] at h)
  rw [Nat.zero_add, <- bq.len] at QR
  exact E9 _ _ hb2 (fun i n hn cT => by
   unfold j6 at hn
   rw [List.getElem?_map] at hn
   obtain ⟨m, hm, rfl⟩ := Option.map_eq_some_iff.1 hn
   exact (QR i m (Nat.zero_le _) (List.getElem?_eq_some_iff.1 hm).1 hm).2 cT)
open Go.RowKit
def AW (ns : List NR) (n0 : NR) : List Nat := rq [] (List.range n0.aO) ns
def uB (e : PT) (ns : List NR) (n0 : NR) : List Nat := aX (AW ns n0) (bD ns (opn e 0))
def gO (e : PT) (ns : List NR) (n0 : NR) : List Int := dR (AW ns n0) (uB e ns n0) ns
def tj (e : PT) (ns : List NR) (n0 : NR) : List Ty := bz [] (j6 (AW ns n0) (uB e ns n0) ns)
def jl (e : PT) (ns : List NR) (n0 : NR) : List Int := ig (tj e ns n0) ns n0 (uB e ns n0).length
structure Yk (e : PT) (ns : List NR) (n0 : NR) : Prop where
 na : NA [] e 0 ns
 last : ns[ns.length - 1]? = some n0
 aO : n0.aO <= 3000
 at_ : ∀ n ∈ ns, n.at_ < n0.aO
 pos : ∃ lo hi, dc e ns lo hi
mutual
theorem dc.all : ∀ {t : PT} {ns : List NR} {lo hi : Nat}, dc t ns lo hi -> ∀ n ∈ ns, lo <= n.at_ /\ n.at_ < hi
 | .num p _, ns, lo, hi, h, n, hn => by simp only [dc] at h; obtain ⟨m, rfl, h1, h2, h3, h4⟩ := h; simp only [List.mem_singleton] at hn; subst hn; omega
 | .name p _, ns, lo, hi, h, n, hn => by simp only [dc] at h; obtain ⟨m, rfl, h1, h2, h3, h4⟩ := h; simp only [List.mem_singleton] at hn; subst hn; omega
 | .node p _ _ _ kids, ns, lo, hi, h, n, hn => by
  simp only [dc] at h
  obtain ⟨ks, m, rfl, h1, h2, h3, h4, h5⟩ := h
  rcases List.mem_append.1 hn with hn | hn
  ·have := bV.all h3 n hn; omega
  ·simp only [List.mem_singleton] at hn; subst hn; omega
theorem bV.all : ∀ {ts : List PT} {ns : List NR} {lo hi : Nat}, bV ts ns lo hi -> ∀ n ∈ ns, lo <= n.at_ /\ n.at_ < hi
 | [], ns, lo, hi, h, n, hn => by simp only [bV] at h; rw [h.1] at hn; simp at hn
 | t :: r, ns, lo, hi, h, n, hn => by
  simp only [bV] at h
  obtain ⟨a, c, mid, rfl, h1, h2⟩ := h
  have hl := h1.lt
  have hr := h2.le
  rcases List.mem_append.1 hn with hn | hn
  ·have := dc.all h1 n hn; omega
  ·have := bV.all h2 n hn; omega
end
theorem Jd {t : PT} {ns : List NR} {lo hi : Nat} (h : dc t ns lo hi) : ∃ n0, ns[ns.length - 1]? = some n0 /\ n0.aO <= hi /\ ∀ n ∈ ns, n.at_ < n0.aO := by
 cases t with
 | num p s => simp only [dc] at h; obtain ⟨m, rfl, h1, h2, h3, h4⟩ := h; exact ⟨m, rfl, h4, fun n hn => by simp only [List.mem_singleton] at hn; subst hn; omega⟩
 | name p s => simp only [dc] at h; obtain ⟨m, rfl, h1, h2, h3, h4⟩ := h; exact ⟨m, rfl, h4, fun n hn => by simp only [List.mem_singleton] at hn; subst hn; omega⟩
 | node p k nm rg kids =>
  simp only [dc] at h
  obtain ⟨ks, m, rfl, h1, h2, h3, h4, h5⟩ := h
  refine ⟨m, by simp, h5, fun n hn => ?_⟩
  rcases List.mem_append.1 hn with hn | hn
  ·exact (h3.all n hn).2
  ·simp only [List.mem_singleton] at hn; subst hn; omega
theorem xw (E : List Nat) (ns : List NR) : ∀ op : List Int, (aX E (bD ns op)).length <= (op.filterMap (bP ns)).length
 | [] => by simp [bD, aX]
 | x :: r => by
  have ih := xw E ns r
  unfold aX at ih ⊢
  simp only [bD, List.map_cons] at ih ⊢
  rw [List.filter_cons, List.filterMap_cons]
  simp only [List.length_map] at ih ⊢
  cases h : ns[x.toNat]? with
  | none =>
   have hx : bP ns x = none := by unfold bP; rw [h]
   have h4 : (DT.form == 4 && bg E DT.at_ == DT.at_) = false := by simp [DT]
   rw [hx, Option.getD_none, h4]
   exact ih
  | some n =>
   rw [Option.getD_some]
   by_cases h4 : n.form = 4
   ·have hx : bP ns x = some n.at_ := by unfold bP; rw [h]; simp only; rw [if_pos h4]
    rw [hx]
    simp only [List.length_cons]
    split
    ·simp only [List.length_cons]; omega
    ·omega
   ·have hx : bP ns x = none := by unfold bP; rw [h]; simp only; rw [if_neg h4]
    have h5 : (n.form == 4 && bg E n.at_ == n.at_) = false := by simp [h4]
    rw [hx, h5]
    exact ih
theorem Dd {e : PT} {ns : List NR} {n0 : NR} (h : NA [] e 0 ns) : (uB e ns n0).length <= e.bJ := by
 have h1 := xw (AW ns n0) ns (opn e 0)
 rw [sK ns e [] 0 ns h (fun j _ => by rw [Nat.zero_add]), List.length_map, uI] at h1
 exact h1
theorem PD (row : List Nat) (x : Nat) : -1 <= lj row x /\ lj row x <= row.length := by
 unfold lj
 cases h : row.findIdx? (· == x) with
 | some i => have := (List.findIdx?_eq_some_iff_getElem.1 h).1; simp only; omega
 | none => simp only; omega
theorem GD (e : PT) (ns : List NR) (n0 : NR) (hl : (uB e ns n0).length <= 100) : (∀ i, jJ (gO e ns n0) i <= 9999) /\ ∀ i, -1 <= jJ (gO e ns n0) i := by
 have key : ∀ i, -1 <= jJ (gO e ns n0) i /\ jJ (gO e ns n0) i <= 100 := fun i => by
  unfold jJ gO dR
  rw [List.getElem?_map]
  cases ns[i]? with
  | none => simp
  | some n =>
   simp only [Option.map_some, Option.getD_some]
   split
   ·have := PD (uB e ns n0) (bg (AW ns n0) n.at_); omega
   ·omega
 exact ⟨fun i => by have := key i; omega, fun i => (key i).1⟩
theorem Je (E fs : List Nat) (ns : List NR) (k : Nat) (n : NR) (r : Int) (hn : ns[k]? = some n) (hr : (dR E fs ns)[k]? = some r) : (j6 E fs ns).drop k = fC n r :: (j6 E fs ns).drop (k + 1) := by
 have hk : k < (j6 E fs ns).length := by unfold j6; rw [List.length_map]; exact (List.getElem?_eq_some_iff.1 hn).1
 rw [List.drop_eq_getElem_cons hk]
 congr 1
 have h1 : (j6 E fs ns)[k]? = some (j6 E fs ns)[k] := List.getElem?_eq_getElem hk
 unfold j6 dR at *
 rw [List.getElem?_map, hn] at h1 hr
 simp only [Option.map_some, Option.some.injEq] at h1 hr
 rw [<- h1, hr]
theorem yo (s : ByteArray) (hs : s.size <= 3000) (e : PT) (hp : PE false (tokens s.data.toList) e []) (Mf : cx e = (0, 0)) :
  ∃ ns n0, Yk e ns n0 /\ Da (gO e ns n0) (jl e ns n0) ns (tj e ns n0) /\ ∀ w, Lib.TabIs Tryz.prog w "internal/strconv.uint64pow10" .u64 Lib.pow10Tab -> Calls Tryz.prog 16 #[.string s] w fun v w' => v = .returned (.tuple #[.string (bs (e.uJ (gO e ns n0) (jl e ns n0) 0)), .int .i64 (0 : Nat)]) /\ Below w.heap.size w w' := by
 obtain ⟨ns, bq, DA⟩ := rP (len := s.size) hp
 have hps := Ct (ae := false) (len := s.size) hp (wC s.data.toList)
 have W8 := DA
 rw [DA] at hps
 obtain ⟨n0, hlast, aae, hat⟩ := Jd hps
 have hN : Yk e ns n0 := ⟨bq, hlast, by omega, hat, _, _, hps⟩
 have hwf := hp.wf
 have hc1 : (cx e).1 = 0 := by rw [Mf]
 obtain ⟨U, E5, _⟩ := Ta hwf hc1
 obtain ⟨⟨aaf, hnn⟩, _⟩ := PE.plain hp (gI _)
 have jU := (hp.bN (gI _)).1
 have Jf : e.bJ <= 100 := by
  unfold cx at hc1
  split at hc1
  ·simp at hc1
  ·omega
 have hfl := Dd (n0 := n0) bq
 have hL : Da (gO e ns n0) (jl e ns n0) ns (tj e ns n0) /\ iY [] (ns.map atR) /\ iY [] (j6 (AW ns n0) (uB e ns n0) ns) := PB E5 hnn bq hat (by show (uB e ns n0).length <= 1000; omega)
 obtain ⟨Uq, D2, Eu⟩ := hL
 refine ⟨ns, n0, hN, Uq, fun w htab => ?_⟩
 have o6 := iZ hp
 have lg := bq.len
 obtain ⟨hb1, hb2⟩ := GD e ns n0 (by omega)
 have W9 : (jl e ns n0).length <= 150 := by unfold jl ig; rw [List.length_map, List.length_range]; omega
 have Qf := fun w => Aw s w hs e hp
 rw [Mf, W8] at Qf
 have jm := fun (W : World) (x1 : Option Addr) (n1 c1 : Nat) (x2 : Option Addr) (n2 c2 : Nat) (hT : bh W (.slice x1 n1 c1) (.slice x2 n2 c2) ns (opn e 0)) => Az W x1 n1 c1 x2 n2 c2 ns (opn e 0) hT (yI bq) (by omega) (bq.small (fun _ h => by simp at h) (by omega)) n0 hlast (by omega) hat D2 (AW ns n0) (uB e ns n0) rfl rfl (j6 (AW ns n0) (uB e ns n0) ns) (fun k n r hn hr => ⟨Je _ _ ns k n r hn hr, fun h4 => by
  have h1 := (Uq.pr k n hn).1 h4
  have h2 : jJ (gO e ns n0) k = r := by unfold jJ gO; rw [hr]; rfl
  rw [h2] at h1; exact h1.1⟩) (by unfold j6; rw [List.length_map]) Eu
 have hwp := fun (W : World) (hb : Below w.heap.size w W) (x1 : Option Addr) (n1 c1 : Nat) (x2 : Option Addr) (n2 c2 : Nat) (y1 : Option Addr) (m1 d1 : Nat) (y2 : Option Addr) (m2 d2 : Nat) (hT : bh W (.slice x1 n1 c1) (.slice x2 n2 c2) ns (opn e 0)) (hL : vQ W ⟨.slice y1 m1 d1, .slice y2 m2 d2, gO e ns n0, jl e ns n0⟩) => Ee W y1 m1 d1 y2 m2 d2 (gO e ns n0) (jl e ns n0) hL ⟨W9, hb1⟩ hb2 (by unfold gO dR; rw [List.length_map]; omega) x1 n1 c1 x2 n2 c2 ns (opn e 0) e hT (Lib.tabBelow_of_tabIs htab W hb) bq.D6 jU hwf lg.symm (by omega)
 unfold aK at Qf jm hwp
 have XQ : Hid _ := Qf
 have A6 : Hid (∀ (W : World) (x1 : Option Addr) (n1 c1 : Nat) (x2 : Option Addr) (n2 c2 : Nat), bh W (.slice x1 n1 c1) (.slice x2 n2 c2) ns (opn e 0) -> Calls Tryz.prog 35 #[.agg #[.slice x1 n1 c1, .slice x2 n2 c2]] W fun v w' => ∃ y1 m1 d1 y2 m2 d2, v = .returned (.agg #[.slice y1 m1 d1, .slice y2 m2 d2]) /\ vQ w' ⟨.slice y1 m1 d1, .slice y2 m2 d2, gO e ns n0, jl e ns n0⟩ /\ Below W.heap.size W w') := jm
 have HWP : Hid _ := hwp
 generalize e.uJ (gO e ns n0) (jl e ns n0) 0 = TX at *
 generalize gO e ns n0 = regs at *
 generalize jl e ns n0 = news at *
 clear hp hps DA W8 hlast aae hat hN hwf hc1 E5 aaf hnn jU Jf hfl Uq D2 Eu o6 lg hb1 hb2 W9 Qf jm hwp htab Mf bq
 go_enter Tryz.func16, Tryz.ntmps16
 go_wp2_with fail
 refine Calls.mono (XQ.out _) ?_
 rintro _ w1 ⟨x1, n1, c1, x2, n2, c2, ns', rfl, hb1, lS, _, hns⟩
 have aag : ns' = ns := hns.symm
 subst aag
 have hA : Below w.heap.size w (w1.alloc (.cells #[.slice x1 n1 c1, .slice x2 n2 c2] 59)) := hb1.alloc hb1.size _
 have qX := lS.below (show Below w1.heap.size w1 (w1.alloc (.cells #[.slice x1 n1 c1, .slice x2 n2 c2] 59)) from (Below.refl _ _).alloc (Nat.le_refl _) _)
 have hpc := A6.out _ x1 n1 c1 x2 n2 c2 qX
 have hk := aj w1 (.cells #[.slice x1 n1 c1, .slice x2 n2 c2] 59 (0, 0))
 have Cs : Hid _ := qX
 have HA : Hid _ := hA
 have HK : Hid _ := hk
 clear hb1 lS hA qX hk hns XQ A6
 go_wp2_with fail
 refine Calls.mono hpc ?_
 rintro _ w2 ⟨y1, m1, d1, y2, m2, d2, rfl, Uq, hb2⟩
 have kZ := HA.out.trans (hb2.mono HA.out.size)
 have hal : Below w2.heap.size w2 (w2.alloc (.cells #[.slice y1 m1 d1, .slice y2 m2 d2] 73)) := (Below.refl _ _).alloc (Nat.le_refl _) _
 have Dz : Below w.heap.size w (w2.alloc (.cells #[.slice y1 m1 d1, .slice y2 m2 d2] 73)) := kZ.alloc kZ.size _
 have hwc := HWP.out _ Dz x1 n1 c1 x2 n2 c2 y1 m1 d1 y2 m2 d2 ((Cs.out.below hb2).below hal) (Uq.below hal)
 have hk2 := (hb2.block _ (af HK.out)).trans HK.out
 have a0 : w2.cell? ⟨w1.heap.size, 0, none⟩ = some (.slice x1 n1 c1) := by rw [aa hk2]; rfl
 have a1 : w2.cell? ⟨w1.heap.size, 1, none⟩ = some (.slice x2 n2 c2) := by rw [aa hk2]; rfl
 have al := af hk2
 have an := Nat.ne_of_lt al
 have iI : Hid _ := Dz
 clear Uq hb2 kZ hal Dz hk2 hpc Cs HA HK HWP
 go_wp2_with fail
 refine Calls.mono hwc ?_
 rintro _ w3 ⟨rfl, hb3⟩
 have oF : Hid _ := iI.out.trans (hb3.mono iI.out.size)
 clear hb3 hwc iI a0 a1 al an
 go_wp2
 refine bodyPost_ret (v := .tuple #[.string (bs TX), .int .i64 0]) (by simp [results, Tryz.results16, go_sem]) rfl ⟨rfl, oF.out⟩
theorem AX : ∀ (X : Vl) (v : MV) (m : MM), m.fault = 0 -> (cK X v m).fault = 0 \/ (cK X v m).fault = 13
 | .n _, _, m, h => Or.inl h
 | .p a b, v, m, h => by
  simp only [cK]
  have hu : (m.use v).2.fault = 0 \/ (m.use v).2.fault = 13 := by
   unfold MM.use MM.stop
   split
   ·exact Or.inl h
   ·simp only; split
    ·exact Or.inl h
    ·first | exact Or.inr rfl | (rw [if_pos h]; exact Or.inr rfl)
  have h1 : (cK a (m.use v).1.a (m.use v).2).fault = 0 \/ (cK a (m.use v).1.a (m.use v).2).fault = 13 := by
   rcases hu with hu | hu
   ·exact AX a _ _ hu
   ·rw [jf a _ _ (by rw [hu]; decide)]; exact Or.inr hu
  rcases h1 with h1 | h1
  ·exact AX b _ _ h1
  ·rw [jf b _ _ (by rw [h1]; decide)]; exact Or.inr h1
theorem tk {m : MM} : ∀ {T : Ty} {X : Vl} {v : MV}, iv m.cells X v -> bW m T v -> cK X v m = m
 | _, .n _, _, _, _ => rfl
 | .n, .p a b, v, hr, hl => by
  simp only [iv] at hr
  simp only [bW] at hl
  rw [hr.1] at hl; exact absurd hl.1 (by decide)
 | .p r A B, .p a b, v, hr, hl => by
  obtain ⟨u1, u2, u3⟩ := E7 hl
  simp only [bW] at hl
  obtain ⟨hc, i, c, g, hv, hi, h3, h4, _, _, _⟩ := hl
  simp only [iv] at hr
  obtain ⟨_, i', c', hv', hi', ha, hb⟩ := hr
  have Z2 : i' = i := by omega
  subst Z2
  have hcc : c' = c := by rw [hi] at hi'; exact (Option.some.inj hi').symm
  subst hcc
  have e2 : m.cells.getD v.n.toNat c0 = c' := by rw [hv, Int.toNat_natCast, List.getD_eq_getElem?_getD, hi]; rfl
  have lP := (List.getElem?_eq_some_iff.1 hi).1
  have e1 : (m.use v).1 = c' := by
   unfold MM.use
   rw [if_neg (by rw [hc, hv]; simp; omega), e2]
  simp only [cK]
  rw [u1, e1]
  rw [e1] at u2 u3
  rw [tk ha u2, tk hb u3]
def GF (R : Vl × cd) (m : MM) (v : Value) (E : Nat) : Prop :=
 (E = 13 /\ v = .agg #[.string ⟨#[]⟩, .int .i64 0, .int .i64 0, .int .i64 0, .int .i64 0]) \/ (R.2.e = 12 /\ E = 12 /\ v = .agg #[.string ⟨#[]⟩, .int .i64 0, .int .i64 0, .int .i64 0, .int .i64 0]) \/
  (R.2.e = 0 /\ E = 0 /\ v = .agg #[.string (bs R.1.txt), .int .i64 R.2.steps, .int .i64 R.2.cells, .int .i64 m.most, .int .i64 m.live])
theorem PF (fuel k : Nat) {t : PT} {T : Ty} (E5 : WT [] t T) (hT : T.size <= 63) (hr : t.mZ) (hk : t.cnt <= k) :
  ∃ X, iv (mW fuel t [] 0 ((m0 k).opn (-1))).2.cells X (mW fuel t [] 0 ((m0 k).opn (-1))).1 /\ X.size <= 63 /\
   GF (ev fuel t.era [] ⟨0, 0, 0⟩) (mW fuel t [] 0 ((m0 k).opn (-1))).2 (wy (cK X (mW fuel t [] 0 ((m0 k).opn (-1))).1 (mW fuel t [] 0 ((m0 k).opn (-1))).2) X) (cK X (mW fuel t [] 0 ((m0 k).opn (-1))).1 (mW fuel t [] 0 ((m0 k).opn (-1))).2).fault /\
   (∀ T', mU [] t T' -> (cK X (mW fuel t [] 0 ((m0 k).opn (-1))).1 (mW fuel t [] 0 ((m0 k).opn (-1))).2).fault ≠ 13) := by
 have hlen : ((m0 k).opn (-1)).named.length = k := by simp [m0, MM.opn]
 have her : ER ((m0 k).opn (-1)).named ((m0 k).opn (-1)).cells [] [] [] 0 := fun s T h => by simp [look] at h
 have hs0 : Sw fuel ⟨0, 0, 0⟩ ((m0 k).opn (-1)) := ⟨rfl, rfl, rfl, Nat.zero_le _, rfl, by simp [m0, MM.opn]⟩
 have hf := jY fuel E5 [] 0 ((m0 k).opn (-1)) hr her.ef (by rw [hlen]; omega)
 have Jg := Mb fuel E5 [] 0 ((m0 k).opn (-1)) [] ⟨0, 0, 0⟩ hr her (by rw [hlen]; omega) hs0
 have hlv : ∀ T', mU [] t T' -> zt ((m0 k).opn (-1)) (mW fuel t [] 0 ((m0 k).opn (-1))) 0 t.cnt T' := fun T' h => Gx fuel h [] 0 ((m0 k).opn (-1)) (fun s U hs => by simp [look] at hs) (by rw [hlen]; omega) rfl (by simp [m0, MM.opn])
 generalize mW fuel t [] 0 ((m0 k).opn (-1)) = x at hf Jg hlv ⊢
 generalize ev fuel t.era [] ⟨0, 0, 0⟩ = y at Jg ⊢
 rcases Jg with ⟨h1, h2, h3⟩ | hB | hD
 ·refine ⟨y.1, h2, by rw [wz (cells := x.2.cells) h3]; exact hT, ?_, fun T' hw => ?_⟩
  ·obtain ⟨c1, _, _, c4, c5, c6⟩ := oO y.1 x.1 x.2
   rcases AX y.1 x.1 x.2 h1.f with h0 | Ur
   ·right; right
    refine ⟨h1.e, h0, ?_⟩
    unfold wy
    rw [if_neg (fun h => h h0), c4, c1, h1.s, h1.c, c5, c6]
   ·left
    refine ⟨Ur, ?_⟩
    unfold wy
    rw [if_pos (by rw [Ur]; decide)]
  ·rcases (hlv T' hw).ok with h12 | ⟨h0, hl⟩
   ·rw [h1.f] at h12; cases h12
   ·rw [tk h2 hl, h0]; decide
 ·obtain ⟨X, hX, Wc⟩ := uP hf.2
  have hne : x.2.fault ≠ 0 := by rw [hB.2]; decide
  refine ⟨X, hX, by omega, ?_, fun T' hw => ?_⟩
  ·right; left
   rw [jf X x.1 x.2 hne]
   refine ⟨hB.1, hB.2, ?_⟩
   unfold wy
   rw [if_pos hne]
  ·rw [jf X x.1 x.2 hne, hB.2]; decide
 ·obtain ⟨X, hX, Wc⟩ := uP hf.2
  have hne : x.2.fault ≠ 0 := by rw [hD]; decide
  refine ⟨X, hX, by omega, ?_, fun T' hw => ?_⟩
  ·left
   rw [jf X x.1 x.2 hne]
   refine ⟨hD, ?_⟩
   unfold wy
   rw [if_pos hne]
  ·rcases (hlv T' hw).ok with h12 | ⟨h0, _⟩
   ·rw [hD] at h12; cases h12
   ·rw [hD] at h0; cases h0
theorem tq (s : ByteArray) (hs : s.size <= 9000) (e : PT) (U : Ty) (hp : PE true (tokens s.data.toList) e []) (hc : cx e = (0, 0)) (E5 : WT [] e U) (hU : U.size <= 63) (fuel : Nat) (hf : fuel <= 20000) :
  ∃ (v : Value) (E : Nat), GF (ev fuel e.era [] ⟨0, 0, 0⟩) (mW fuel e [] 0 ((m0 e.cnt).opn (-1))).2 v E /\ (∀ T', mU [] e T' -> E ≠ 13) /\ ∀ w, Lib.TabIs Tryz.prog w "internal/strconv.uint64pow10" .u64 Lib.pow10Tab -> Calls Tryz.prog 18 #[.string s, .int .i64 fuel] w fun r w' => r = .returned (.tuple #[v, .int .i64 E]) /\ Below w.heap.size w w' := by
 have hwf := hp.wf
 have o6 := iZ hp
 have hrg := AP e (hp.bN (gI _)).1 (hp.uR (sU _)).1
 obtain ⟨X, hX, Wc, cN, Ur⟩ := PF fuel e.cnt E5 hU hrg (Nat.le_refl _)
 refine ⟨_, _, cN, Ur, fun w htab => ?_⟩
 obtain ⟨S, a, b, c, d, hV⟩ : ∃ S a b c d, wy (cK X (mW fuel e [] 0 ((m0 e.cnt).opn (-1))).1 (mW fuel e [] 0 ((m0 e.cnt).opn (-1))).2) X = .agg #[.string S, .int .i64 a, .int .i64 b, .int .i64 c, .int .i64 d] := by
  unfold wy; split
  ·exact ⟨_, _, _, _, _, rfl⟩
  ·exact ⟨_, _, _, _, _, rfl⟩
 rw [hV]
 refine CZ s fuel w e 0 S a b c d _ (fun w => ?_) (fun w' x1 n1 c1 x2 n2 c2 ns hb hTr bq => ?_)
 ·have := uA s w hs e hp
  rw [hc] at this
  exact this
 ·have lg := bq.len
  refine S9 w' x1 n1 c1 x2 n2 c2 fuel hf S a b c d _ (fun w'' Xa => ?_)
  have := OL x1 n1 c1 x2 n2 c2 fuel ns (opn e 0) hf (by omega) w'' (hTr.below Xa) (Lib.tabBelow_of_tabIs htab w'' (hb.trans (Xa.mono hb.size))) e bq.OC hwf hrg lg.symm _ rfl X (by rw [lg]; exact hX) Wc
  rw [lg] at this
  rw [hV] at this
  exact this
theorem Fa (ts : List PT) (j : Nat) (hj : j < ts.length) : aB (ts.take j) + ts[j].cnt <= aB ts := by
 have h := sM ts (j + 1)
 rw [List.take_succ_eq_append_getElem hj, yL] at h
 exact h
theorem yp (ts : List PT) : aB (ts.take 0) = 0 := by simp [aB]
mutual
theorem lab (cls : List Nat) (hc : ∀ x ∈ cls, x < 1000) : ∀ (t : PT) (scope : Sc) (ns : List NR) (env : aQ) (st : dD) (T : List Ty) (id site : Nat), NA scope t T.length ns -> kP T env scope -> jN env st -> rQ cls t.DE site -> id + t.cnt <= st.of.length -> (aD cls t id site env st).2.e = 0 ->
  ∃ T', Cx T t.cnt ns T' st.of (aD cls t id site env st).2.of id (t.subs id site) /\ T'[t.cnt - 1]? = some (aD cls t id site env st).1 /\ (aD cls t id site env st).2.of[id]? = some (aD cls t id site env st).1.txt
 | .num p s, scope, ns, env, st, T, id, site, hn, hr, ho, ui, hid, he => by
  simp only [NA] at hn
  subst hn
  simp only [PT.cnt] at hid
  simp only [aD] at he ⊢
  obtain ⟨f1, f2, f3⟩ := wM id p (Ty.n, st)
  rw [f1, f2]
  refine ⟨[.n], ?_, rfl, List.getElem?_set_self (show id < st.of.length by omega)⟩
  have := Cx.root (Cx.nil T st.of (id + 1)) ⟨1, p, p + s.length, au s, [], 0, -1, -1, -1, -1⟩ .n (.num p s, id, site) (by simp [cH]) lC (by simp) (by omega) rfl (fun TY _ => by simp [oY, iy])
  exact this
 | .name p s, scope, ns, env, st, T, id, site, hn, hr, ho, ui, hid, he => by
  simp only [NA] at hn
  subst hn
  have hres := eZ cls hc (.name p s) id site env st ho
  simp only [PT.cnt] at hid
  simp only [aD] at he hres ⊢
  rcases hr.look s with ⟨h1, h2⟩ | ⟨t, h1, h2, h3⟩
  ·rw [h1] at he
   simp only at he
   obtain ⟨_, _, f3⟩ := wM id p (Ty.n, cS st 4 p)
   have := (f3 he).1
   unfold cS at this
   split at this
   ·simp at this
   ·rename_i hh; exact absurd this hh
  ·rw [h1] at he hres ⊢
   simp only at he hres ⊢
   obtain ⟨f1, f2, f3⟩ := wM id p (t, st)
   have hfit := hres.1
   rw [f1] at hfit
   rw [f1, f2]
   refine ⟨[t], ?_, rfl, List.getElem?_set_self (show id < st.of.length by omega)⟩
   have := Cx.root (Cx.nil T st.of (id + 1)) ⟨2, p, p + s.length, 0, s, 0, bL scope s, -1, -1, -1⟩ t (.name p s, id, site) (by simp [cH, h3]) hfit (by simp) (by omega) rfl (fun TY _ => by simp [oY, iy])
   exact this
 | .node p k nm rg kids, scope, ns, env, st, T, id, site, hn, hr, ho, ui, hid, he => by
  simp only [NA] at hn
  obtain ⟨ks, aO, hks, rfl⟩ := hn
  have hb := hks.Tj
  have hres := eZ cls hc (.node p k nm rg kids) id site env st ho
  simp only [PT.cnt] at hid
  simp only [PT.DE] at ui
  have hlen : (mN cls nm kids (bX k) (id + 1) (site + if k = .pair then 1 else 0) env .n st).1.length = (bX k).length := AY cls nm kids (bX k) _ _ _ _ _ hb
  have Hv : rQ cls (sV kids) (site + if k = .pair then 1 else 0) := by
   have := ui.right
   by_cases hk : k = .pair
   ·simpa [hk] using this
   ·simpa [hk] using this
  have hK := Xb cls hc nm kids (bX k) scope ks env .n st T (id + 1) (site + if k = .pair then 1 else 0) hks hr ho lC (by simp [Ty.size]) (fun e => by revert e; cases k <;> simp [bX]) Hv (by omega)
  rw [De cls p k nm rg kids id site env .n st hb] at he hres ⊢
  generalize mN cls nm kids (bX k) (id + 1) (site + if k = .pair then 1 else 0) env .n st = x at hK hlen he hres ⊢
  have e0 : x.2.e = 0 := by
   have := ((wM id p _).2.2 he).1
   by_cases hh : x.2.e ≠ 0 /\ k ≠ .bb
   ·rw [if_pos hh] at this; exact this
   ·rw [if_neg hh] at this
    by_cases hk : k = .bb
    ·subst hk; simpa [aN] using this
    ·exact Classical.byContradiction fun h => hh ⟨h, hk⟩
  have Mg : ¬ (x.2.e ≠ 0 /\ k ≠ .bb) := fun h => h.1 e0
  rw [if_neg Mg] at he hres ⊢
  obtain ⟨T', hL, hP⟩ := hK e0
  obtain ⟨f1, f2, f3⟩ := wM id p (aN cls k p site x.1 x.2)
  obtain ⟨g1, g2⟩ := f3 he
  obtain ⟨m1, m2, m3, m4⟩ := Lf cls k p site id nm rg kids x.1 x.2 (T ++ T') aO (by rw [hb]) hlen e0 (fun hk => by
   subst hk
   have := ui 0 (p, rg) (by simp)
   simpa using this) T.length (fun j t ht => by obtain ⟨i, i1, i2, _⟩ := hP j t ht; exact ⟨i, i1, i2⟩) g1 g2
  have hfit := hres.1
  rw [f1] at hfit
  rw [f1, f2, m1]
  have UQ : id < x.2.of.length := by rw [hL.Sx]; omega
  refine ⟨T' ++ [(aN cls k p site x.1 x.2).1], ?_, ?_, by rw [List.getElem?_set_self UQ]⟩
  ·have := Cx.root hL _ _ (.node p k nm rg kids, id, site) m2 hfit m3 (by omega) rfl (fun TY hT => m4 TY _ (fun j t ht => by
    obtain ⟨i, _, _, i3⟩ := hP j t ht
    have hj : j < kids.length := by rw [<- hb, <- hlen]; exact (List.getElem?_eq_some_iff.1 ht).1
    have hcj : aB (kids.take j) < aB kids := by
     have h1 := Fa kids j hj
     have h2 := FU kids[j]
     omega
    have := hT (id + 1 + aB (kids.take j)) (by omega) (by omega)
    rw [i3] at this
    exact (OY (Option.some.inj this)).symm))
   simpa [PT.cnt, PT.subs] using this
  ·have hl := hL.len
   rw [List.getElem?_append_right (by simp [PT.cnt]; omega)]
   simp [PT.cnt, hl]
theorem Xb (cls : List Nat) (hc : ∀ x ∈ cls, x < 1000) (nm : List UInt8) : ∀ (ts : List PT) (bs : List Bool) (scope : Sc) (ns : List NR) (env : aQ) (prev : Ty) (st : dD) (T : List Ty) (id site : Nat), cR scope nm ts bs T.length ns -> kP T env scope -> jN env st -> prev.fit -> prev.size <= 63 -> (bs.head? = some true -> 0 < T.length /\ T[T.length - 1]? = some prev) ->
  rQ cls (sV ts) site -> id + aB ts <= st.of.length -> (mN cls nm ts bs id site env prev st).2.e = 0 ->
  ∃ T', Cx T (aB ts) ns T' st.of (mN cls nm ts bs id site env prev st).2.of id (Cv ts id site) /\ ∀ (j : Nat) (t : Ty), (mN cls nm ts bs id site env prev st).1[j]? = some t -> ∃ i : Nat, (ay ts T.length).getD j (-1) = (i : Int) /\ (T ++ T')[i]? = some t /\ (mN cls nm ts bs id site env prev st).2.of[id + aB (ts.take j)]? = some t.txt
 | [], bs, scope, ns, env, prev, st, T, id, site, hn, _, _, _, _, _, _, _, _ => by
  simp only [cR] at hn
  obtain ⟨rfl, rfl⟩ := hn
  simp only [mN, aB, Cv]
  exact ⟨[], Cx.nil _ _ _, fun j t h => by simp at h⟩
 | _ :: _, [], _, _, _, _, _, _, _, _, hn, _, _, _, _, _, _, _, _ => by simp [cR] at hn
 | a :: r, b :: bs, scope, ns, env, prev, st, T, id, site, hn, hr, ho, gu, uE, hp3, ui, hid, he => by
  simp only [cR] at hn
  obtain ⟨na, nc, h1, h2, rfl⟩ := hn
  have hr' : kP T (if b then env ++ [(nm, prev)] else env) (if b then scope ++ [(nm, (T.length : Int) - 1)] else scope) := by
   cases b with
   | false => exact hr
   | true =>
    obtain ⟨hT0, lS⟩ := hp3 rfl
    refine hr.app ⟨rfl, ?_, ?_, trivial⟩
    ·show (0 : Int) <= (T.length : Int) - 1; omega
    ·show T[((T.length : Int) - 1).toNat]? = _
     rw [show ((T.length : Int) - 1).toNat = T.length - 1 from by omega]; exact lS
  have BV : jN (if b then env ++ [(nm, prev)] else env) st := by
   cases b with
   | false => exact ho
   | true =>
    constructor
    ·intro x hx
     rcases List.mem_append.1 hx with hx | hx
     ·exact ho.1 x hx
     ·rw [List.mem_singleton] at hx; subst hx; exact gu
    ·intro e0 x hx
     rcases List.mem_append.1 hx with hx | hx
     ·exact ho.2 e0 x hx
     ·rw [List.mem_singleton] at hx; subst hx; exact uE
  simp only [aB] at hid
  simp only [sV] at ui
  have hA := lab cls hc a (if b then scope ++ [(nm, (T.length : Int) - 1)] else scope) na (if b then env ++ [(nm, prev)] else env) st T id site h1 hr' BV ui.left (by omega)
  have hR := eZ cls hc a id site (if b then env ++ [(nm, prev)] else env) st BV
  simp only [mN] at he ⊢
  generalize aD cls a id site (if b then env ++ [(nm, prev)] else env) st = x at hA hR he ⊢
  have e0 : x.2.e = 0 := Classical.byContradiction fun h => by
   have hs := xx cls nm r bs (id + a.cnt) (site + a.bJ) env x.1 x.2 h
   rw [hs.1] at he
   exact h he
  obtain ⟨T1, hL, lS, UW⟩ := hA e0
  have hl1 : (T ++ T1).length = T.length + a.cnt := by simp [hL.len]
  have hcp := FU a
  have aah : st.e = 0 := (hR.2.1 e0).1
  have hlast : (T ++ T1)[T.length + a.cnt - 1]? = some x.1 := by
   rw [List.getElem?_append_right (by omega), show T.length + a.cnt - 1 - T.length = a.cnt - 1 from by omega]; exact lS
  have hB := Xb cls hc nm r bs scope nc env x.1 x.2 (T ++ T1) (id + a.cnt) (site + a.bJ) (by rw [hl1]; exact h2) hr.more (ho.on (fun _ => aah)) hR.1 (hR.2.1 e0).2 (fun _ => ⟨by omega, by rw [hl1]; exact hlast⟩) (by have := ui.right; rwa [uI] at this) (by rw [hL.Sx]; omega)
  generalize mN cls nm r bs (id + a.cnt) (site + a.bJ) env x.1 x.2 = y at hB he ⊢
  obtain ⟨T2, hM, hP2⟩ := hB he
  refine ⟨T1 ++ T2, ?_, ?_⟩
  ·simp only [aB, Cv]
   exact hL.app hM
  ·intro j t hj
   cases j with
   | zero =>
    simp only [List.getElem?_cons_zero, Option.some.injEq] at hj
    subst hj
    refine ⟨T.length + a.cnt - 1, ?_, ?_, ?_⟩
    ·simp only [ay, List.getD_cons_zero]; omega
    ·rw [<- List.append_assoc, List.getElem?_append_left (by omega)]; exact hlast
    ·rw [yp, Nat.add_zero, hM.out id (by omega)]; exact UW
   | succ j =>
    simp only [List.getElem?_cons_succ] at hj
    obtain ⟨i, i1, i2, i3⟩ := hP2 j t hj
    rw [hl1] at i1
    refine ⟨i, ?_, by rw [<- List.append_assoc]; exact i2, ?_⟩
    ·simp only [ay, List.getD_cons_succ]; exact i1
    ·simp only [List.take_succ_cons, aB]
     rw [<- Nat.add_assoc]; exact i3
end
theorem Mh (e : PT) (ns : List NR) (bq : NA [] e 0 ns) (h3 : e.uR) (he : (aD (n8 e) e 0 0 [] (BF e)).2.e = 0) :
  iY [] ns /\ ∃ TY : List Ty, TY.length = e.cnt /\ (∀ T ∈ TY, T.fit) /\ (aD (n8 e) e 0 0 [] (BF e)).2.of = TY.map Ty.txt /\ tM [] ns = sW TY (e.subs 0 0) := by
 have O4 : (BF e).of.length = e.cnt := by simp [BF]
 obtain ⟨T', hL, _, _⟩ := lab (n8 e) (Lc h3) e [] ns [] (BF e) [] 0 0 bq trivial ⟨fun x hx => by simp at hx, fun _ x hx => by simp at hx⟩ (fun i x hx => by
  rw [Nat.zero_add]
  unfold n8
  rw [List.getD_eq_getElem?_getD, List.getElem?_map, hx]; rfl) (by omega) he
 refine ⟨hL.sz, ?_⟩
 generalize (aD (n8 e) e 0 0 [] (BF e)).2.of = of at hL
 have hch : ∀ k : Nat, ∃ U : Ty, U.fit /\ (k < e.cnt -> of[k]? = some U.txt) := by
  intro k
  by_cases hk : k < e.cnt
  ·obtain ⟨U, u1, u2⟩ := hL.X5 k (Nat.zero_le _) (by omega)
   exact ⟨U, u1, fun _ => u2⟩
  ·exact ⟨.n, lC, fun h => absurd h hk⟩
 have UW : of.length = e.cnt := by rw [hL.Sx, O4]
 let f : Nat -> Ty := fun k => Classical.choose (hch k)
 have hf : ∀ k, (f k).fit /\ (k < e.cnt -> of[k]? = some (f k).txt) := fun k => Classical.choose_spec (hch k)
 have hat : ∀ k, k < e.cnt -> AE ((List.range e.cnt).map f) k = f k := by
  intro k hk
  unfold AE
  rw [List.getElem?_map, List.getElem?_range hk]; rfl
 refine ⟨(List.range e.cnt).map f, by simp, ?_, ?_, ?_⟩
 ·intro T hT
  obtain ⟨k, _, rfl⟩ := List.mem_map.1 hT
  exact (hf k).1
 ·apply List.ext_getElem?
  intro k
  by_cases hk : k < e.cnt
  ·rw [(hf k).2 hk, List.getElem?_map, List.getElem?_map, List.getElem?_range hk]; rfl
  ·rw [List.getElem?_eq_none (by omega), List.getElem?_eq_none (by simp; omega)]
 ·refine hL.pl _ (fun k _ h2 => ?_)
  rw [Nat.zero_add] at h2
  rw [hat k h2]; exact (hf k).2 h2
mutual
theorem NA.Xc : ∀ {scope : Sc} {t : PT} {base : Nat} {ns : List NR}, NA scope t base ns -> t.uR -> ∀ n ∈ ns, 0 <= n.region
 | _, .num p s, _, _, h, _, n, hn => by simp only [NA] at h; subst h; rw [List.mem_singleton] at hn; subst hn; exact Int.le_refl _
 | _, .name p s, _, _, h, _, n, hn => by simp only [NA] at h; subst h; rw [List.mem_singleton] at hn; subst hn; exact Int.le_refl _
 | _, .node p k nm rg kids, _, _, h, h3, n, hn => by
  simp only [NA] at h
  obtain ⟨ks, aO, hk, rfl⟩ := h
  simp only [PT.uR] at h3
  rcases List.mem_append.1 hn with hn | hn
  ·exact hk.Xc h3.2 n hn
  ·rw [List.mem_singleton] at hn; subst hn; simp only; omega
theorem cR.Xc : ∀ {scope : Sc} {nm : List UInt8} {ts : List PT} {bs : List Bool} {base : Nat} {ns : List NR}, cR scope nm ts bs base ns -> wH ts -> ∀ n ∈ ns, 0 <= n.region
 | _, _, [], _, _, _, h, _, n, hn => by simp only [cR] at h; rw [h.2] at hn; simp at hn
 | _, _, _ :: _, [], _, _, h, _, n, hn => by simp [cR] at h
 | _, _, t :: r, b :: bs, _, _, h, h3, n, hn => by
  simp only [cR] at h
  obtain ⟨a, c, h1, h2, rfl⟩ := h
  simp only [wH] at h3
  rcases List.mem_append.1 hn with hn | hn
  ·exact h1.Xc h3.1 n hn
  ·exact h2.Xc h3.2 n hn
end
theorem Mi (e : PT) (hm : e.bJ <= 100) : (aD (n8 e) e 0 0 [] (BF e)).2.e = (cx e).1 /\ (aD (n8 e) e 0 0 [] (BF e)).2.at_ = (cx e).2 := by
 have h := (gG (n8 e) (List.range e.bJ) e 0 0 0 0 [] [] (BF e) (BF e) rfl ⟨rfl, rfl⟩).2
 unfold cx
 rw [if_neg (by omega)]
 exact h
open Go.Lib (decDigits)
mutual
theorem Mj : ∀ e : PT, e.era.np = e.np.era
 | .num _ _ => rfl
 | .name _ _ => rfl
 | .node p k nm rg kids => by
  simp only [PT.era, PT.np]
  split
  ·rw [<- AZ kids]
   cases j4 kids with
   | nil => rfl
   | cons a r => rfl
  ·simp only [PT.np, AZ kids]
theorem AZ : ∀ l : List PT, jZ (j4 l) = j4 (jZ l)
 | [] => rfl
 | t :: r => by simp only [j4, jZ, Mj t, AZ r]
end
mutual
theorem Mk : ∀ e : PT, e.np.yF = e.yF
 | .num _ _ => rfl
 | .name _ _ => rfl
 | .node p k nm rg kids => by simp only [PT.yF, PT.np, GG kids]
theorem GG : ∀ l : List PT, lZ (jZ l) = lZ l
 | [] => rfl
 | t :: r => by simp only [lZ, jZ, Mk t, GG r]
end
end Go.Proofs.YtpicaknklgccoaaGreatDoor
