import Derived.Test.YtpicaknklgccoaaGreatDoorX32
import Derived.Test.YtpicaknklgccoaaGreatDoorX17
import Derived.Test.YtpicaknklgccoaaGreatDoorX25
import Derived.Test.YtpicaknklgccoaaGreatDoorX30
import Derived.Test.YtpicaknklgccoaaGreatDoorX14
namespace Go.Proofs.YtpicaknklgccoaaGreatDoor
theorem rgV_regsL (E fs : List Nat) (ns : List NR) (i : Nat) (n : NR) (h : ns[i]? = some n) : rgV (regsL E fs ns) i = if n.form = 4 then idxF fs (fst' E n.at_) else -1 := by
 unfold rgV regsL
 rw [List.getElem?_map, h]; rfl
def rgdN (E fs : List Nat) (ns : List NR) : List NR := ns.map (fun n => setR n (if n.form = 4 then idxF fs (fst' E n.at_) else -1))
theorem aboutF_no (T : List Ty) (rg a b : Nat) : ∀ (l : List NR) (k i : Nat), aboutF T rg a b l k = (i : Int) → (knownT T i).has rg = false
 | [], _, i, h => by simp only [aboutF] at h; omega
 | n :: r, k, i, h => by
  simp only [aboutF] at h
  split at h
  ·rename_i hc
   have : k = i := by omega
   rw [← this]; exact hc.2.2
  ·exact aboutF_no T rg a b r (k + 1) i h
mutual
theorem NA.src : ∀ {scope : Sc} {t : PT} {base : Nat} {ns : List NR}, NA scope t base ns → (∀ x ∈ scope, x.2 < (base : Int)) → ∀ (j : Nat) (n : NR), ns[j]? = some n → n.source < ((base + j : Nat) : Int)
 | _, .num p s, base, ns, h, _, j, n, hn => by
  simp only [NA] at h
  subst h
  have hj : j = 0 := by have := (List.getElem?_eq_some_iff.1 hn).1; simp at this; omega
  subst hj
  simp only [List.getElem?_cons_zero, Option.some.injEq] at hn; subst hn
  simp only; omega
 | scope, .name p s, base, ns, h, hs, j, n, hn => by
  simp only [NA] at h
  subst h
  have hj : j = 0 := by have := (List.getElem?_eq_some_iff.1 hn).1; simp at this; omega
  subst hj
  simp only [List.getElem?_cons_zero, Option.some.injEq] at hn; subst hn
  simp only [Nat.add_zero]
  unfold findS
  split
  ·rename_i x hx
   exact hs x (by have := List.mem_of_find?_eq_some hx; simpa using this)
  ·omega
 | scope, .node p k nm rg kids, base, ns, h, hs, j, n, hn => by
  simp only [NA] at h
  obtain ⟨ks, beh, h1, rfl⟩ := h
  by_cases hj : j < ks.length
  ·rw [List.getElem?_append_left hj] at hn
   exact NAs.src h1 hs j n hn
  ·have hje : j = ks.length := by have := (List.getElem?_eq_some_iff.1 hn).1; simp at this; omega
   rw [List.getElem?_append_right (by omega), hje, Nat.sub_self] at hn
   simp only [List.getElem?_cons_zero, Option.some.injEq] at hn; subst hn
   simp only; omega
theorem NAs.src : ∀ {scope : Sc} {nm : List UInt8} {ts : List PT} {bs : List Bool} {base : Nat} {ns : List NR}, NAs scope nm ts bs base ns → (∀ x ∈ scope, x.2 < (base : Int)) → ∀ (j : Nat) (n : NR), ns[j]? = some n → n.source < ((base + j : Nat) : Int)
 | _, _, [], _, _, _, h, _, j, n, hn => by simp only [NAs] at h; rw [h.2] at hn; simp at hn
 | _, _, _ :: _, [], _, _, h, _, _, _, _ => by simp [NAs] at h
 | scope, nm, t :: r, b :: bs, base, ns, h, hs, j, n, hn => by
  simp only [NAs] at h
  obtain ⟨a, c, h1, h2, rfl⟩ := h
  have hl := NA.len h1
  by_cases hj : j < a.length
  ·rw [List.getElem?_append_left hj] at hn
   refine NA.src h1 (fun x hx => ?_) j n hn
   cases b with
   | false => exact hs x (by simpa using hx)
   | true =>
    simp only [if_true, List.mem_append, List.mem_singleton] at hx
    rcases hx with hx | hx
    ·exact hs x hx
    ·rw [hx]; simp only; omega
  ·rw [List.getElem?_append_right (by omega)] at hn
   have := NAs.src h2 (fun x hx => by have := hs x hx; omega) (j - a.length) n hn
   rw [hl] at this hj
   rw [show base + t.cnt + (j - t.cnt) = base + j from by omega] at this
   exact this
end
theorem na_back {t : PT} {ns : List NR} (h : NA [] t 0 ns) (i : Nat) (n : NR) (hn : ns[i]? = some n) : BackN i n := by
 have h1 := h.back i n hn
 have h2 := h.src (fun x hx => by simp at hx) i n hn
 rw [Nat.zero_add] at h1 h2
 exact ⟨h1.1, h1.2.1, h1.2.2, h2⟩
mutual
theorem opn_all : ∀ (t : PT) (base i : Nat), base ≤ i → i < base + t.cnt → (i : Int) ∈ opn t base
 | .num _ _, base, i, h1, h2 => by simp only [PT.cnt] at h2; simp only [opn, List.mem_singleton]; omega
 | .name _ _, base, i, h1, h2 => by simp only [PT.cnt] at h2; simp only [opn, List.mem_singleton]; omega
 | .node _ _ _ _ kids, base, i, h1, h2 => by
  simp only [PT.cnt] at h2
  simp only [opn, List.mem_cons]
  by_cases h : i = base + cntL kids
  ·exact Or.inl (by rw [h])
  ·exact Or.inr (opnL_all kids base i h1 (by omega))
theorem opnL_all : ∀ (ts : List PT) (base i : Nat), base ≤ i → i < base + cntL ts → (i : Int) ∈ opnL ts base
 | [], base, i, h1, h2 => by simp only [cntL] at h2; omega
 | t :: r, base, i, h1, h2 => by
  simp only [cntL] at h2
  simp only [opnL, List.mem_append]
  by_cases h : i < base + t.cnt
  ·exact Or.inl (opn_all t base i h1 h)
  ·exact Or.inr (opnL_all r (base + t.cnt) i (by omega) (by omega))
end
def AllT (P : Nat → Prop) (t : Ty) : Prop := ∀ r ∈ t.rgl, P r
theorem AllT.p {P : Nat → Prop} {r : Nat} {a b : Ty} (h : AllT P (.p r a b)) : P r ∧ AllT P a ∧ AllT P b :=
 ⟨h r (by simp [Ty.rgl]), fun x hx => h x (by simp [Ty.rgl, hx]), fun x hx => h x (by simp [Ty.rgl, hx])⟩
def KeepP (P : Nat → Prop) (E : List Nat) : Prop := ∀ i, P i → P (fst' E i)
theorem join_keep {P : Nat → Prop} {E : List Nat} (hP : ∀ i, P i → i < E.length) (h : KeepP P E) (x y : Nat) (hx : P x) (hy : P y) : KeepP P (joinF E x y) := fun i hi => by
 rw [fst_join E x y (hP x hx) (hP y hy)]
 unfold mrg
 split
 ·have h1 := h x hx
  have h2 := h y hy
  rcases Nat.le_total (fst' E x) (fst' E y) with e | e
  ·rw [Nat.min_eq_left e]; exact h1
  ·rw [Nat.min_eq_right e]; exact h2
 ·exact h i hi
theorem match_keep {P : Nat → Prop} : ∀ (a b : Ty) (E : List Nat), (∀ i, P i → i < E.length) → KeepP P E → AllT P a → AllT P b → KeepP P (matchT E a b)
 | .n, _, _, _, h, _, _ => by simp only [matchT]; exact h
 | .p _ _ _, .n, _, _, h, _, _ => by simp only [matchT]; exact h
 | .p r a b, .p s c d, E, hP, h, h1, h2 => by
  simp only [matchT]
  split
  ·exact h
  ·obtain ⟨r1, r2, r3⟩ := h1.p
   obtain ⟨s1, s2, s3⟩ := h2.p
   refine match_keep b d _ (by rw [matchT_len, joinF_len]; exact hP) (match_keep a c _ (by rw [joinF_len]; exact hP) (join_keep hP h r s r1 s1) r2 s2) r3 s3
theorem allT_known {P : Nat → Prop} {T : List Ty} (h : ∀ t ∈ T, AllT P t) (i : Int) : AllT P (knownT T i) := by
 unfold knownT
 split
 ·cases e : T[i.toNat]? with
  | none => intro r hr; simp [Ty.rgl] at hr
  | some t => exact h t (List.mem_of_getElem? e)
 ·intro r hr; simp [Ty.rgl] at hr
theorem allT_tyR {P : Nat → Prop} {T : List Ty} (h : ∀ t ∈ T, AllT P t) (m : NR) (hm : m.form = 4 → P m.region.toNat) : AllT P (tyR T m) := by
 have h0 := allT_known h m.p0
 have h1 := allT_known h m.p1
 have h2 := allT_known h m.source
 have hn : AllT P .n := fun r hr => by simp [Ty.rgl] at hr
 unfold tyR
 split
 ·exact h2
 split
 ·exact h0
 split
 ·exact h1
 split
 ·exact h1
 split
 ·exact h1
 split
 ·rename_i h4
  intro r hr
  simp only [Ty.rgl, List.mem_cons, List.mem_append] at hr
  rcases hr with hr | hr | hr
  ·rw [hr]; exact hm h4
  ·exact h0 r hr
  ·exact h1 r hr
 split
 ·cases e : knownT T m.p0 with
  | n => exact hn
  | p r a b => rw [e] at h0; exact h0.p.2.1
 split
 ·cases e : knownT T m.p0 with
  | n => exact hn
  | p r a b => rw [e] at h0; exact h0.p.2.2
 ·exact hn
theorem shE_keep {P : Nat → Prop} : ∀ (ns : List NR) (T : List Ty) (E : List Nat), (∀ i, P i → i < E.length) → KeepP P E → (∀ t ∈ T, AllT P t) → (∀ n ∈ ns, n.form = 4 → P n.at_) → KeepP P (shE T E ns)
 | [], _, _, _, h, _, _ => h
 | n :: r, T, E, hP, h, hT, hn => by
  have hb : ∀ t ∈ T ++ [tyR T (atR n)], AllT P t := fun t ht => by
   rcases List.mem_append.1 ht with ht | ht
   ·exact hT t ht
   ·simp only [List.mem_singleton] at ht; subst ht; exact allT_tyR hT _ (fun h4 => by simpa [atR] using hn n (by simp) h4)
  simp only [shE]
  split
  ·exact shE_keep r _ _ (by rw [matchT_len]; exact hP) (match_keep _ _ E hP h (allT_known hb _) (allT_known hb _)) hb (fun m hm => hn m (by simp [hm]))
  ·exact shE_keep r _ _ hP h hb (fun m hm => hn m (by simp [hm]))
theorem fst_range (B i : Nat) : fst' (List.range B) i = i := by
 rw [fst_step]
 cases h : (List.range B)[i]? with
 | none => rfl
 | some x =>
  have := List.getElem?_eq_some_iff.1 h
  obtain ⟨_, h2⟩ := this
  simp only [List.getElem_range] at h2
  simp only
  rw [if_neg (by omega)]
theorem idxF_mem {row : List Nat} {x : Nat} (h : x ∈ row) : ∃ i : Nat, idxF row x = (i : Int) ∧ i < row.length := by
 unfold idxF
 cases e : row.findIdx? (· == x) with
 | some i => exact ⟨i, rfl, (List.findIdx?_eq_some_iff_getElem.1 e).1⟩
 | none =>
  rw [List.findIdx?_eq_none_iff] at e
  have := e x h
  simp at this
theorem opNs_of {e : PT} {ns : List NR} (h : NA [] e 0 ns) (n : NR) (hn : n ∈ ns) : n ∈ opNs ns (opn e 0) := by
 obtain ⟨i, hi⟩ := List.getElem?_of_mem hn
 have hil := (List.getElem?_eq_some_iff.1 hi).1
 have := opn_all e 0 i (Nat.zero_le _) (by have := h.len; omega)
 unfold opNs
 rw [List.mem_map]
 exact ⟨(i : Int), this, by rw [Int.toNat_natCast, hi]; rfl⟩
theorem lay2_of {e : PT} {U : Ty} {ns : List NR} {n0 : NR} (hwt : WT [] e U) (hnn : NoNew e) (hna : NA [] e 0 ns) (hat : ∀ n ∈ ns, n.at_ < n0.beh) (hfs : (firstsL (shE [] (List.range n0.beh) ns) (opNs ns (opn e 0))).length ≤ 1000) :
  Lay2 (regsL (shE [] (List.range n0.beh) ns) (firstsL (shE [] (List.range n0.beh) ns) (opNs ns (opn e 0))) ns)
   (newsL (tyRun [] (rgdN (shE [] (List.range n0.beh) ns) (firstsL (shE [] (List.range n0.beh) ns) (opNs ns (opn e 0))) ns)) ns n0 (firstsL (shE [] (List.range n0.beh) ns) (opNs ns (opn e 0))).length)
   ns (tyRun [] (rgdN (shE [] (List.range n0.beh) ns) (firstsL (shE [] (List.range n0.beh) ns) (opNs ns (opn e 0))) ns)) ∧ SzOk [] (ns.map atR) ∧ SzOk [] (rgdN (shE [] (List.range n0.beh) ns) (firstsL (shE [] (List.range n0.beh) ns) (opNs ns (opn e 0))) ns) := by
 have hbk := fun i n hn => na_back hna i n hn
 have hb1 : ∀ (i : Nat) n, (ns.map atR)[i]? = some n → BackN (([] : List Ty).length + i) n := fun i n hn => by
  rw [List.getElem?_map] at hn
  obtain ⟨m, hm, rfl⟩ := Option.map_eq_some_iff.1 hn
  simpa [BackN, atR] using hbk i m hm
 have hfix1 : ∀ i n, ns[i]? = some n → knownT (tyRun [] (ns.map atR)) (i : Nat) = tyR (tyRun [] (ns.map atR)) (setR n (((ns[i]?).map (fun m => (m.at_ : Int))).getD 0)) := fun i n hn => by
  have := run_fix (ns.map atR) [] hb1 i (atR n) (by rw [List.getElem?_map, hn]; rfl)
  rw [List.length_nil, Nat.zero_add] at this
  rw [this, hn]; rfl
 obtain ⟨_, halk⟩ := wt_alike (ρ := fun i => ((ns[i]?).map (fun m => (m.at_ : Int))).getD 0) hfix1 hwt hnn [] 0 [] ns [] hna (by simp) rfl (fun s U h => by simp [look] at h)
 rw [Nat.zero_add, ← hna.len] at halk
 have hal1 : AlikeT [] (ns.map atR) := alike_rec _ _ hb1 (fun i n hn hf => by
  rw [List.getElem?_map] at hn
  obtain ⟨m, hm, rfl⟩ := Option.map_eq_some_iff.1 hn
  exact (halk i m (Nat.zero_le _) (List.getElem?_eq_some_iff.1 hm).1 hm).1 hf)
 have hsz1 : SzOk [] (ns.map atR) := sz_rec _ _ hb1 (fun i n hn hf => by
  rw [List.getElem?_map] at hn
  obtain ⟨m, hm, rfl⟩ := Option.map_eq_some_iff.1 hn
  exact (halk i m (Nat.zero_le _) (List.getElem?_eq_some_iff.1 hm).1 hm).2 hf)
 have hone := shE_one ns [] (List.range n0.beh) (fun t h => by simp at h) (by rw [List.length_range]; exact hat) hal1
 have hkeep : KeepP (fun x => ∃ n ∈ ns, n.form = 4 ∧ n.at_ = x) (shE [] (List.range n0.beh) ns) :=
  shE_keep ns [] (List.range n0.beh) (fun i ⟨n, hn, _, he⟩ => by rw [List.length_range, ← he]; exact hat n hn) (fun i hi => by rw [fst_range]; exact hi) (fun t h => by simp at h) (fun n hn h4 => ⟨n, hn, h4, rfl⟩)
 generalize shE [] (List.range n0.beh) ns = E at *
 have hmem : ∀ n ∈ ns, n.form = 4 → fst' E n.at_ ∈ firstsL E (opNs ns (opn e 0)) := fun n hn h4 => by
  obtain ⟨m, hm, m4, mat⟩ := hkeep n.at_ ⟨n, hn, h4, rfl⟩
  unfold firstsL
  rw [List.mem_map]
  refine ⟨m, List.mem_filter.2 ⟨opNs_of hna m hm, ?_⟩, mat⟩
  rw [mat, fst_idem]
  simp [m4]
 generalize firstsL E (opNs ns (opn e 0)) = fs at *
 obtain ⟨f, hf⟩ : ∃ f : Nat → Nat, f = fun x => (idxF fs (fst' E x)).toNat := ⟨_, rfl⟩
 have hT2 : ∀ (l : List NR) (T : List Ty), tyRun (T.map (mapT f)) (rgdN E fs l) = (tyRun T (l.map atR)).map (mapT f) := fun l => by
  induction l with
  | nil => intro T; simp [rgdN, tyRun]
  | cons n r ih =>
   intro T
   have e1 : tyR (T.map (mapT f)) (setR n (if n.form = 4 then idxF fs (fst' E n.at_) else -1)) = mapT f (tyR T (atR n)) := tyR_map f T (atR n) _ rfl (fun h4 => by
    have h4' : n.form = 4 := h4
    simp only [setR, atR, if_pos h4', Int.toNat_natCast]; rw [hf])
   have ih2 := ih (T ++ [tyR T (atR n)])
   rw [List.map_append, List.map_singleton, ← e1] at ih2
   simp only [rgdN, List.map_cons, tyRun] at ih2 ⊢
   exact ih2
 have hT20 := hT2 ns []
 rw [List.map_nil] at hT20
 have hb2 : ∀ (i : Nat) n, (rgdN E fs ns)[i]? = some n → BackN (([] : List Ty).length + i) n := fun i n hn => by
  unfold rgdN at hn
  rw [List.getElem?_map] at hn
  obtain ⟨m, hm, rfl⟩ := Option.map_eq_some_iff.1 hn
  simpa [BackN, setR] using hbk i m hm
 have hpr : LyT (regsL E fs ns) ns := fun i n hn => by
  rw [rgV_regsL E fs ns i n hn]
  refine ⟨fun h4 => ?_, fun h4 => by rw [if_neg h4]⟩
  obtain ⟨j, hj, hjl⟩ := idxF_mem (hmem n (List.mem_of_getElem? hn) h4)
  rw [if_pos h4, hj]; omega
 have hfix2 : ∀ i n, ns[i]? = some n → knownT (tyRun [] (rgdN E fs ns)) (i : Nat) = tyR (tyRun [] (rgdN E fs ns)) (setR n (rgV (regsL E fs ns) i)) := fun i n hn => by
  have := run_fix (rgdN E fs ns) [] hb2 i (setR n (if n.form = 4 then idxF fs (fst' E n.at_) else -1)) (by unfold rgdN; rw [List.getElem?_map, hn]; rfl)
  rw [List.length_nil, Nat.zero_add] at this
  rw [this, rgV_regsL E fs ns i n hn]
 refine ⟨⟨hfix2, hpr, fun i n hn hfm => ?_, fun r i hr => ?_⟩, hsz1, ?_⟩
 ·have h1 := one_rec (fst' E) (ns.map atR) [] hb1 hone i (atR n) (by rw [List.getElem?_map, hn]; rfl) hfm
  rw [hT20, knownT_map, knownT_map]
  have hc : Coarse (fst' E) f := fun a b hab => by rw [hf]; simp only [hab]
  exact hc.map _ _ h1
 ·unfold newsL at hr
  rw [List.getElem?_map] at hr
  obtain ⟨k, hk, hkr⟩ := Option.map_eq_some_iff.1 hr
  have : k = r := by
   have := (List.getElem?_eq_some_iff.1 hk).2
   simpa using this.symm
  subst this
  exact aboutF_no _ _ _ _ _ _ _ hkr
 ·obtain ⟨_, halk2⟩ := wt_alike (ρ := fun i => rgV (regsL E fs ns) i) hfix2 hwt hnn [] 0 [] ns [] hna (by simp) rfl (fun s U h => by simp [look] at h)
  rw [Nat.zero_add, ← hna.len] at halk2
  exact sz_rec _ _ hb2 (fun i n hn hf4 => by
   unfold rgdN at hn
   rw [List.getElem?_map] at hn
   obtain ⟨m, hm, rfl⟩ := Option.map_eq_some_iff.1 hn
   exact (halk2 i m (Nat.zero_le _) (List.getElem?_eq_some_iff.1 hm).1 hm).2 hf4)
end Go.Proofs.YtpicaknklgccoaaGreatDoor
namespace Go.Proofs.YtpicaknklgccoaaGreatDoor
open Go.RowKit
def layE (ns : List NR) (n0 : NR) : List Nat := shE [] (List.range n0.beh) ns
def layF (e : PT) (ns : List NR) (n0 : NR) : List Nat := firstsL (layE ns n0) (opNs ns (opn e 0))
def layR (e : PT) (ns : List NR) (n0 : NR) : List Int := regsL (layE ns n0) (layF e ns n0) ns
def layT (e : PT) (ns : List NR) (n0 : NR) : List Ty := tyRun [] (rgdN (layE ns n0) (layF e ns n0) ns)
def layN (e : PT) (ns : List NR) (n0 : NR) : List Int := newsL (layT e ns n0) ns n0 (layF e ns n0).length
structure Nds (e : PT) (ns : List NR) (n0 : NR) : Prop where
 na : NA [] e 0 ns
 last : ns[ns.length - 1]? = some n0
 beh : n0.beh ≤ 3000
 at_ : ∀ n ∈ ns, n.at_ < n0.beh
 pos : ∃ lo hi, PosN e ns lo hi
mutual
theorem PosN.all : ∀ {t : PT} {ns : List NR} {lo hi : Nat}, PosN t ns lo hi → ∀ n ∈ ns, lo ≤ n.at_ ∧ n.at_ < hi
 | .num p _, ns, lo, hi, h, n, hn => by simp only [PosN] at h; obtain ⟨m, rfl, h1, h2, h3, h4⟩ := h; simp only [List.mem_singleton] at hn; subst hn; omega
 | .name p _, ns, lo, hi, h, n, hn => by simp only [PosN] at h; obtain ⟨m, rfl, h1, h2, h3, h4⟩ := h; simp only [List.mem_singleton] at hn; subst hn; omega
 | .node p _ _ _ kids, ns, lo, hi, h, n, hn => by
  simp only [PosN] at h
  obtain ⟨ks, m, rfl, h1, h2, h3, h4, h5⟩ := h
  rcases List.mem_append.1 hn with hn | hn
  ·have := PosNs.all h3 n hn; omega
  ·simp only [List.mem_singleton] at hn; subst hn; omega
theorem PosNs.all : ∀ {ts : List PT} {ns : List NR} {lo hi : Nat}, PosNs ts ns lo hi → ∀ n ∈ ns, lo ≤ n.at_ ∧ n.at_ < hi
 | [], ns, lo, hi, h, n, hn => by simp only [PosNs] at h; rw [h.1] at hn; simp at hn
 | t :: r, ns, lo, hi, h, n, hn => by
  simp only [PosNs] at h
  obtain ⟨a, c, mid, rfl, h1, h2⟩ := h
  have hl := h1.lt
  have hr := h2.le
  rcases List.mem_append.1 hn with hn | hn
  ·have := PosN.all h1 n hn; omega
  ·have := PosNs.all h2 n hn; omega
end
theorem posN_last {t : PT} {ns : List NR} {lo hi : Nat} (h : PosN t ns lo hi) : ∃ n0, ns[ns.length - 1]? = some n0 ∧ n0.beh ≤ hi ∧ ∀ n ∈ ns, n.at_ < n0.beh := by
 cases t with
 | num p s => simp only [PosN] at h; obtain ⟨m, rfl, h1, h2, h3, h4⟩ := h; exact ⟨m, rfl, h4, fun n hn => by simp only [List.mem_singleton] at hn; subst hn; omega⟩
 | name p s => simp only [PosN] at h; obtain ⟨m, rfl, h1, h2, h3, h4⟩ := h; exact ⟨m, rfl, h4, fun n hn => by simp only [List.mem_singleton] at hn; subst hn; omega⟩
 | node p k nm rg kids =>
  simp only [PosN] at h
  obtain ⟨ks, m, rfl, h1, h2, h3, h4, h5⟩ := h
  refine ⟨m, by simp, h5, fun n hn => ?_⟩
  rcases List.mem_append.1 hn with hn | hn
  ·exact (h3.all n hn).2
  ·simp only [List.mem_singleton] at hn; subst hn; omega
theorem firsts_prs (E : List Nat) (ns : List NR) : ∀ op : List Int, (firstsL E (opNs ns op)).length ≤ (op.filterMap (pairAt ns)).length
 | [] => by simp [opNs, firstsL]
 | x :: r => by
  have ih := firsts_prs E ns r
  unfold firstsL at ih ⊢
  simp only [opNs, List.map_cons] at ih ⊢
  rw [List.filter_cons, List.filterMap_cons]
  simp only [List.length_map] at ih ⊢
  cases h : ns[x.toNat]? with
  | none =>
   have hx : pairAt ns x = none := by unfold pairAt; rw [h]
   have h4 : (nr0.form == 4 && fst' E nr0.at_ == nr0.at_) = false := by simp [nr0]
   rw [hx, Option.getD_none, h4]
   exact ih
  | some n =>
   rw [Option.getD_some]
   by_cases h4 : n.form = 4
   ·have hx : pairAt ns x = some n.at_ := by unfold pairAt; rw [h]; simp only; rw [if_pos h4]
    rw [hx]
    simp only [List.length_cons]
    split
    ·simp only [List.length_cons]; omega
    ·omega
   ·have hx : pairAt ns x = none := by unfold pairAt; rw [h]; simp only; rw [if_neg h4]
    have h5 : (n.form == 4 && fst' E n.at_ == n.at_) = false := by simp [h4]
    rw [hx, h5]
    exact ih
theorem layF_len {e : PT} {ns : List NR} {n0 : NR} (h : NA [] e 0 ns) : (layF e ns n0).length ≤ e.prs := by
 have h1 := firsts_prs (layE ns n0) ns (opn e 0)
 rw [opn_pairs ns e [] 0 ns h (fun j _ => by rw [Nat.zero_add]), List.length_map, prl_len] at h1
 exact h1
theorem idxF_le (row : List Nat) (x : Nat) : -1 ≤ idxF row x ∧ idxF row x ≤ row.length := by
 unfold idxF
 cases h : row.findIdx? (· == x) with
 | some i => have := (List.findIdx?_eq_some_iff_getElem.1 h).1; simp only; omega
 | none => simp only; omega
theorem layR_bd (e : PT) (ns : List NR) (n0 : NR) (hl : (layF e ns n0).length ≤ 100) : (∀ i, rgV (layR e ns n0) i ≤ 9999) ∧ ∀ i, -1 ≤ rgV (layR e ns n0) i := by
 have key : ∀ i, -1 ≤ rgV (layR e ns n0) i ∧ rgV (layR e ns n0) i ≤ 100 := fun i => by
  unfold rgV layR regsL
  rw [List.getElem?_map]
  cases ns[i]? with
  | none => simp
  | some n =>
   simp only [Option.map_some, Option.getD_some]
   split
   ·have := idxF_le (layF e ns n0) (fst' (layE ns n0) n.at_); omega
   ·omega
 exact ⟨fun i => by have := key i; omega, fun i => (key i).1⟩
theorem rgdN_drop (E fs : List Nat) (ns : List NR) (k : Nat) (n : NR) (r : Int) (hn : ns[k]? = some n) (hr : (regsL E fs ns)[k]? = some r) : (rgdN E fs ns).drop k = setR n r :: (rgdN E fs ns).drop (k + 1) := by
 have hk : k < (rgdN E fs ns).length := by unfold rgdN; rw [List.length_map]; exact (List.getElem?_eq_some_iff.1 hn).1
 rw [List.drop_eq_getElem_cons hk]
 congr 1
 have h1 : (rgdN E fs ns)[k]? = some (rgdN E fs ns)[k] := List.getElem?_eq_getElem hk
 unfold rgdN regsL at *
 rw [List.getElem?_map, hn] at h1 hr
 simp only [Option.map_some, Option.some.injEq] at h1 hr
 rw [← h1, hr]
set_option maxRecDepth 100000 in
set_option maxHeartbeats 8000000 in
theorem leasePlace_ok (s : ByteArray) (hs : s.size ≤ 3000) (e : PT) (hp : PE false (tokens s.data.toList) e []) (hchk : chkAns e = (0, 0)) :
  ∃ ns n0, Nds e ns n0 ∧ Lay2 (layR e ns n0) (layN e ns n0) ns (layT e ns n0) ∧ ∀ w, Lib.TabIs Tryz.prog w "internal/strconv.uint64pow10" .u64 Lib.pow10Tab → Calls Tryz.prog 16 #[.string s] w fun v w' => v = .returned (.tuple #[.string (bs (e.wtx (layR e ns n0) (layN e ns n0) 0)), .int .i64 (0 : Nat)]) ∧ Below w.heap.size w w' := by
 obtain ⟨ns, hna, hpg⟩ := prog_yes (len := s.size) hp
 have hps := prog_pos (placed := false) (len := s.size) hp (tokens_okU s.data.toList)
 have hpg2 := hpg
 rw [hpg] at hps
 obtain ⟨n0, hlast, hbeh, hat⟩ := posN_last hps
 have hN : Nds e ns n0 := ⟨hna, hlast, by omega, hat, _, _, hps⟩
 have hwf := hp.wf
 have hc1 : (chkAns e).1 = 0 := by rw [hchk]
 obtain ⟨U, hwt, _⟩ := chk_WT hwf hc1
 obtain ⟨⟨hrgd, hnn⟩, _⟩ := PE.plain hp (tokens_tame _)
 have hta := (hp.tame (tokens_tame _)).1
 have hprs : e.prs ≤ 100 := by
  unfold chkAns at hc1
  split at hc1
  ·simp at hc1
  ·omega
 have hfl := layF_len (n0 := n0) hna
 have hL : Lay2 (layR e ns n0) (layN e ns n0) ns (layT e ns n0) ∧ SzOk [] (ns.map atR) ∧ SzOk [] (rgdN (layE ns n0) (layF e ns n0) ns) := lay2_of hwt hnn hna hat (by show (layF e ns n0).length ≤ 1000; omega)
 obtain ⟨hL2, hsz1, hsz2⟩ := hL
 refine ⟨ns, n0, hN, hL2, fun w htab => ?_⟩
 have hcnt := Study_len hp
 have hnl := hna.len
 obtain ⟨hb1, hb2⟩ := layR_bd e ns n0 (by omega)
 have hnn2 : (layN e ns n0).length ≤ 150 := by unfold layN newsL; rw [List.length_map, List.length_range]; omega
 have hrp := fun w => readPlain_pg s w hs e hp
 rw [hchk, hpg2] at hrp
 have hpr := fun (W : World) (x1 : Option Addr) (n1 c1 : Nat) (x2 : Option Addr) (n2 c2 : Nat) (hT : TreeIn W (.slice x1 n1 c1) (.slice x2 n2 c2) ns (opn e 0)) => pProgram_any W x1 n1 c1 x2 n2 c2 ns (opn e 0) hT (op_ok hna) (by omega) (hna.small (fun _ h => by simp at h) (by omega)) n0 hlast (by omega) hat hsz1 (layE ns n0) (layF e ns n0) rfl rfl (rgdN (layE ns n0) (layF e ns n0) ns) (fun k n r hn hr => ⟨rgdN_drop _ _ ns k n r hn hr, fun h4 => by
  have h1 := (hL2.pr k n hn).1 h4
  have h2 : rgV (layR e ns n0) k = r := by unfold rgV layR; rw [hr]; rfl
  rw [h2] at h1; exact h1.1⟩) (by unfold rgdN; rw [List.length_map]) hsz2
 have hwp := fun (W : World) (hb : Below w.heap.size w W) (x1 : Option Addr) (n1 c1 : Nat) (x2 : Option Addr) (n2 c2 : Nat) (y1 : Option Addr) (m1 d1 : Nat) (y2 : Option Addr) (m2 d2 : Nat) (hT : TreeIn W (.slice x1 n1 c1) (.slice x2 n2 c2) ns (opn e 0)) (hL : LyIn W ⟨.slice y1 m1 d1, .slice y2 m2 d2, layR e ns n0, layN e ns n0⟩) => Placed_any W y1 m1 d1 y2 m2 d2 (layR e ns n0) (layN e ns n0) hL ⟨hnn2, hb1⟩ hb2 (by unfold layR regsL; rw [List.length_map]; omega) x1 n1 c1 x2 n2 c2 ns (opn e 0) e hT (Lib.tabBelow_of_tabIs htab W hb) hna.shows0 hta hwf hnl.symm (by omega)
 unfold treeV at hrp hpr hwp
 have HRP : Hid _ := hrp
 have HPR : Hid (∀ (W : World) (x1 : Option Addr) (n1 c1 : Nat) (x2 : Option Addr) (n2 c2 : Nat), TreeIn W (.slice x1 n1 c1) (.slice x2 n2 c2) ns (opn e 0) → Calls Tryz.prog 35 #[.agg #[.slice x1 n1 c1, .slice x2 n2 c2]] W fun v w' => ∃ y1 m1 d1 y2 m2 d2, v = .returned (.agg #[.slice y1 m1 d1, .slice y2 m2 d2]) ∧ LyIn w' ⟨.slice y1 m1 d1, .slice y2 m2 d2, layR e ns n0, layN e ns n0⟩ ∧ Below W.heap.size W w') := hpr
 have HWP : Hid _ := hwp
 generalize e.wtx (layR e ns n0) (layN e ns n0) 0 = TX at *
 generalize layR e ns n0 = regs at *
 generalize layN e ns n0 = news at *
 clear hp hps hpg hpg2 hlast hbeh hat hN hwf hc1 hwt hrgd hnn hta hprs hfl hL2 hsz1 hsz2 hcnt hnl hb1 hb2 hnn2 hrp hpr hwp htab hchk hna
 go_enter Tryz.func16, Tryz.ntmps16
 go_wp2_with fail
 refine Calls.mono (HRP.out _) ?_
 rintro _ w1 ⟨x1, n1, c1, x2, n2, c2, ns', rfl, hb1, hT1, _, hns⟩
 have hns' : ns' = ns := hns.symm
 subst hns'
 have hA : Below w.heap.size w (w1.alloc (.cells #[.slice x1 n1 c1, .slice x2 n2 c2] 59)) := hb1.alloc hb1.size _
 have hT2 := hT1.below (show Below w1.heap.size w1 (w1.alloc (.cells #[.slice x1 n1 c1, .slice x2 n2 c2] 59)) from (Below.refl _ _).alloc (Nat.le_refl _) _)
 have hpc := HPR.out _ x1 n1 c1 x2 n2 c2 hT2
 have hk := blk_new w1 (.cells #[.slice x1 n1 c1, .slice x2 n2 c2] 59 (0, 0))
 have HT2 : Hid _ := hT2
 have HA : Hid _ := hA
 have HK : Hid _ := hk
 clear hb1 hT1 hA hT2 hk hns HRP HPR
 go_wp2_with fail
 refine Calls.mono hpc ?_
 rintro _ w2 ⟨y1, m1, d1, y2, m2, d2, rfl, hL2, hb2⟩
 have hB2 := HA.out.trans (hb2.mono HA.out.size)
 have hal : Below w2.heap.size w2 (w2.alloc (.cells #[.slice y1 m1 d1, .slice y2 m2 d2] 73)) := (Below.refl _ _).alloc (Nat.le_refl _) _
 have hB3 : Below w.heap.size w (w2.alloc (.cells #[.slice y1 m1 d1, .slice y2 m2 d2] 73)) := hB2.alloc hB2.size _
 have hwc := HWP.out _ hB3 x1 n1 c1 x2 n2 c2 y1 m1 d1 y2 m2 d2 ((HT2.out.below hb2).below hal) (hL2.below hal)
 have hk2 := (hb2.block _ (blk_lt HK.out)).trans HK.out
 have a0 : w2.cell? ⟨w1.heap.size, 0, none⟩ = some (.slice x1 n1 c1) := by rw [blk_cell hk2]; rfl
 have a1 : w2.cell? ⟨w1.heap.size, 1, none⟩ = some (.slice x2 n2 c2) := by rw [blk_cell hk2]; rfl
 have al := blk_lt hk2
 have an := Nat.ne_of_lt al
 have HB3 : Hid _ := hB3
 clear hL2 hb2 hB2 hal hB3 hk2 hpc HT2 HA HK HWP
 go_wp2_with fail
 refine Calls.mono hwc ?_
 rintro _ w3 ⟨rfl, hb3⟩
 have HB4 : Hid _ := HB3.out.trans (hb3.mono HB3.out.size)
 clear hb3 hwc HB3 a0 a1 al an
 go_wp2
 refine bodyPost_ret (v := .tuple #[.string (bs TX), .int .i64 0]) (by simp [results, Tryz.results16, go_sem]) rfl ⟨rfl, HB4.out⟩
theorem text_13 : ∀ (X : Vl) (v : MV) (m : MM), m.fault = 0 → (mText X v m).fault = 0 ∨ (mText X v m).fault = 13
 | .n _, _, m, h => Or.inl h
 | .p a b, v, m, h => by
  simp only [mText]
  have hu : (m.use v).2.fault = 0 ∨ (m.use v).2.fault = 13 := by
   unfold MM.use MM.stop
   split
   ·exact Or.inl h
   ·simp only; split
    ·exact Or.inl h
    ·first | exact Or.inr rfl | (rw [if_pos h]; exact Or.inr rfl)
  have h1 : (mText a (m.use v).1.a (m.use v).2).fault = 0 ∨ (mText a (m.use v).1.a (m.use v).2).fault = 13 := by
   rcases hu with hu | hu
   ·exact text_13 a _ _ hu
   ·rw [text_keep a _ _ (by rw [hu]; decide)]; exact Or.inr hu
  rcases h1 with h1 | h1
  ·exact text_13 b _ _ h1
  ·rw [text_keep b _ _ (by rw [h1]; decide)]; exact Or.inr h1
theorem text_live {m : MM} : ∀ {T : Ty} {X : Vl} {v : MV}, Rep m.cells X v → LiveR m T v → mText X v m = m
 | _, .n _, _, _, _ => rfl
 | .n, .p a b, v, hr, hl => by
  simp only [Rep] at hr
  simp only [LiveR] at hl
  rw [hr.1] at hl; exact absurd hl.1 (by decide)
 | .p r A B, .p a b, v, hr, hl => by
  obtain ⟨u1, u2, u3⟩ := use_lv hl
  simp only [LiveR] at hl
  obtain ⟨hc, i, c, g, hv, hi, h3, h4, _, _, _⟩ := hl
  simp only [Rep] at hr
  obtain ⟨_, i', c', hv', hi', ha, hb⟩ := hr
  have hii : i' = i := by omega
  subst hii
  have hcc : c' = c := by rw [hi] at hi'; exact (Option.some.inj hi').symm
  subst hcc
  have e2 : m.cells.getD v.n.toNat c0 = c' := by rw [hv, Int.toNat_natCast, List.getD_eq_getElem?_getD, hi]; rfl
  have hil := (List.getElem?_eq_some_iff.1 hi).1
  have e1 : (m.use v).1 = c' := by
   unfold MM.use
   rw [if_neg (by rw [hc, hv]; simp; omega), e2]
  simp only [mText]
  rw [u1, e1]
  rw [e1] at u2 u3
  rw [text_live ha u2, text_live hb u3]
def RunAnsM (R : Vl × ESt) (m : MM) (v : Value) (E : Nat) : Prop :=
 (E = 13 ∧ v = .agg #[.string ⟨#[]⟩, .int .i64 0, .int .i64 0, .int .i64 0, .int .i64 0]) ∨ (R.2.e = 12 ∧ E = 12 ∧ v = .agg #[.string ⟨#[]⟩, .int .i64 0, .int .i64 0, .int .i64 0, .int .i64 0]) ∨
  (R.2.e = 0 ∧ E = 0 ∧ v = .agg #[.string (bs R.1.txt), .int .i64 R.2.steps, .int .i64 R.2.cells, .int .i64 m.most, .int .i64 m.live])
theorem run_any (fuel k : Nat) {t : PT} {T : Ty} (hwt : WT [] t T) (hT : T.size ≤ 63) (hr : t.rgd) (hk : t.cnt ≤ k) :
  ∃ X, Rep (mW fuel t [] 0 ((m0 k).opn (-1))).2.cells X (mW fuel t [] 0 ((m0 k).opn (-1))).1 ∧ X.size ≤ 63 ∧
   RunAnsM (ev fuel t.era [] ⟨0, 0, 0⟩) (mW fuel t [] 0 ((m0 k).opn (-1))).2 (runV (mText X (mW fuel t [] 0 ((m0 k).opn (-1))).1 (mW fuel t [] 0 ((m0 k).opn (-1))).2) X) (mText X (mW fuel t [] 0 ((m0 k).opn (-1))).1 (mW fuel t [] 0 ((m0 k).opn (-1))).2).fault ∧
   (∀ T', WTR [] t T' → (mText X (mW fuel t [] 0 ((m0 k).opn (-1))).1 (mW fuel t [] 0 ((m0 k).opn (-1))).2).fault ≠ 13) := by
 have hlen : ((m0 k).opn (-1)).named.length = k := by simp [m0, MM.opn]
 have her : ER ((m0 k).opn (-1)).named ((m0 k).opn (-1)).cells [] [] [] 0 := fun s T h => by simp [look] at h
 have hs0 : Sw fuel ⟨0, 0, 0⟩ ((m0 k).opn (-1)) := ⟨rfl, rfl, rfl, Nat.zero_le _, rfl, by simp [m0, MM.opn]⟩
 have hf := mW_fits fuel hwt [] 0 ((m0 k).opn (-1)) hr her.ef (by rw [hlen]; omega)
 have hsim := mW_evW fuel hwt [] 0 ((m0 k).opn (-1)) [] ⟨0, 0, 0⟩ hr her (by rw [hlen]; omega) hs0
 have hlv : ∀ T', WTR [] t T' → LvO ((m0 k).opn (-1)) (mW fuel t [] 0 ((m0 k).opn (-1))) 0 t.cnt T' := fun T' h => mW_live fuel h [] 0 ((m0 k).opn (-1)) (fun s U hs => by simp [look] at hs) (by rw [hlen]; omega) rfl (by simp [m0, MM.opn])
 generalize mW fuel t [] 0 ((m0 k).opn (-1)) = x at hf hsim hlv ⊢
 generalize ev fuel t.era [] ⟨0, 0, 0⟩ = y at hsim ⊢
 rcases hsim with ⟨h1, h2, h3⟩ | hB | hD
 ·refine ⟨y.1, h2, by rw [rep_size (cells := x.2.cells) h3]; exact hT, ?_, fun T' hw => ?_⟩
  ·obtain ⟨c1, _, _, c4, c5, c6⟩ := text_same y.1 x.1 x.2
   rcases text_13 y.1 x.1 x.2 h1.f with h0 | h13
   ·right; right
    refine ⟨h1.e, h0, ?_⟩
    unfold runV
    rw [if_neg (fun h => h h0), c4, c1, h1.s, h1.c, c5, c6]
   ·left
    refine ⟨h13, ?_⟩
    unfold runV
    rw [if_pos (by rw [h13]; decide)]
  ·rcases (hlv T' hw).ok with h12 | ⟨h0, hl⟩
   ·rw [h1.f] at h12; cases h12
   ·rw [text_live h2 hl, h0]; decide
 ·obtain ⟨X, hX, hXs⟩ := fits_rp hf.2
  have hne : x.2.fault ≠ 0 := by rw [hB.2]; decide
  refine ⟨X, hX, by omega, ?_, fun T' hw => ?_⟩
  ·right; left
   rw [text_keep X x.1 x.2 hne]
   refine ⟨hB.1, hB.2, ?_⟩
   unfold runV
   rw [if_pos hne]
  ·rw [text_keep X x.1 x.2 hne, hB.2]; decide
 ·obtain ⟨X, hX, hXs⟩ := fits_rp hf.2
  have hne : x.2.fault ≠ 0 := by rw [hD]; decide
  refine ⟨X, hX, by omega, ?_, fun T' hw => ?_⟩
  ·left
   rw [text_keep X x.1 x.2 hne]
   refine ⟨hD, ?_⟩
   unfold runV
   rw [if_pos hne]
  ·rcases (hlv T' hw).ok with h12 | ⟨h0, _⟩
   ·rw [hD] at h12; cases h12
   ·rw [hD] at h0; cases h0
theorem leaseRun_placedM (s : ByteArray) (hs : s.size ≤ 9000) (e : PT) (U : Ty) (hp : PE true (tokens s.data.toList) e []) (hc : chkAns e = (0, 0)) (hwt : WT [] e U) (hU : U.size ≤ 63) (fuel : Nat) (hf : fuel ≤ 20000) :
  ∃ (v : Value) (E : Nat), RunAnsM (ev fuel e.era [] ⟨0, 0, 0⟩) (mW fuel e [] 0 ((m0 e.cnt).opn (-1))).2 v E ∧ (∀ T', WTR [] e T' → E ≠ 13) ∧ ∀ w, Lib.TabIs Tryz.prog w "internal/strconv.uint64pow10" .u64 Lib.pow10Tab → Calls Tryz.prog 18 #[.string s, .int .i64 fuel] w fun r w' => r = .returned (.tuple #[v, .int .i64 E]) ∧ Below w.heap.size w w' := by
 have hwf := hp.wf
 have hcnt := Study_len hp
 have hrg := rgdO_of e (hp.tame (tokens_tame _)).1 (hp.rg3 (tokens_rg _)).1
 obtain ⟨X, hX, hXs, hans, h13⟩ := run_any fuel e.cnt hwt hU hrg (Nat.le_refl _)
 refine ⟨_, _, hans, h13, fun w htab => ?_⟩
 obtain ⟨S, a, b, c, d, hV⟩ : ∃ S a b c d, runV (mText X (mW fuel e [] 0 ((m0 e.cnt).opn (-1))).1 (mW fuel e [] 0 ((m0 e.cnt).opn (-1))).2) X = .agg #[.string S, .int .i64 a, .int .i64 b, .int .i64 c, .int .i64 d] := by
  unfold runV; split
  ·exact ⟨_, _, _, _, _, rfl⟩
  ·exact ⟨_, _, _, _, _, rfl⟩
 rw [hV]
 refine leaseRun_ok s fuel w e 0 S a b c d _ (fun w => ?_) (fun w' x1 n1 c1 x2 n2 c2 ns hb hTr hna => ?_)
 ·have := readPlaced_full s w hs e hp
  rw [hc] at this
  exact this
 ·have hnl := hna.len
  refine run_ok w' x1 n1 c1 x2 n2 c2 fuel hf S a b c d _ (fun w'' hb'' => ?_)
  have := Run_any x1 n1 c1 x2 n2 c2 fuel ns (opn e 0) hf (by omega) w'' (hTr.below hb'') (Lib.tabBelow_of_tabIs htab w'' (hb.trans (hb''.mono hb.size))) e hna.showsM0 hwf hrg hnl.symm _ rfl X (by rw [hnl]; exact hX) hXs
  rw [hnl] at this
  rw [hV] at this
  exact this
end Go.Proofs.YtpicaknklgccoaaGreatDoor
namespace Go.Proofs.YtpicaknklgccoaaGreatDoor
open Go.Lib (decDigits)
mutual
theorem np_era : ∀ e : PT, e.era.np = e.np.era
 | .num _ _ => rfl
 | .name _ _ => rfl
 | .node p k nm rg kids => by
  simp only [PT.era, PT.np]
  split
  ·rw [← npL_era kids]
   cases eraL kids with
   | nil => rfl
   | cons a r => rfl
  ·simp only [PT.np, npL_era kids]
theorem npL_era : ∀ l : List PT, npL (eraL l) = eraL (npL l)
 | [] => rfl
 | t :: r => by simp only [eraL, npL, np_era t, npL_era r]
end
mutual
theorem np_ptx : ∀ e : PT, e.np.ptx = e.ptx
 | .num _ _ => rfl
 | .name _ _ => rfl
 | .node p k nm rg kids => by simp only [PT.ptx, PT.np, npL_ptx kids]
theorem npL_ptx : ∀ l : List PT, ptxL (npL l) = ptxL l
 | [] => rfl
 | t :: r => by simp only [ptxL, npL, np_ptx t, npL_ptx r]
end
mutual
theorem np_WTR : ∀ (e : PT) {G : TEnv} {T : Ty}, WTR G e.np T → WTR G e T
 | .num _ _, _, _, h => by cases h with | num h => exact .num h
 | .name _ _, _, _, h => by cases h with | name h => exact .name h
 | .node p k nm rg kids, G, T, h => by
  match kids with
  | [] => simp only [PT.np, npL] at h; cases h
  | [a] =>
   simp only [PT.np, npL] at h
   cases h with
   | fst h => exact .fst (np_WTR a h)
   | snd h => exact .snd (np_WTR a h)
   | new h hm => exact .new (np_WTR a h) hm
  | [a, b] =>
   simp only [PT.np, npL] at h
   cases h with
   | let_ h1 h2 => exact .let_ (np_WTR a h1) (np_WTR b h2)
   | pair hr h1 h2 => exact .pair hr (np_WTR a h1) (np_WTR b h2)
   | two hk h1 h2 => exact .two hk (np_WTR a h1) (np_WTR b h2)
  | [a, b, c] =>
   simp only [PT.np, npL] at h
   cases h with
   | if_ h1 h2 h3 => exact .if_ (np_WTR a h1) (np_WTR b h2) (np_WTR c h3)
   | loop h1 h2 h3 => exact .loop (np_WTR a h1) (np_WTR b h2) (np_WTR c h3)
  | _ :: _ :: _ :: _ :: _ => simp only [PT.np, npL] at h; cases h
end
mutual
theorem np_okY {b : Bool} : ∀ e : PT, e.np.ok b → e.ok b
 | .num _ _, h => h
 | .name _ _, h => h
 | .node _ k nm rg kids, h => by
  simp only [PT.np, PT.ok, npL_lenY] at h ⊢
  exact ⟨h.1, h.2.1, h.2.2.1, h.2.2.2.1, npL_okY kids h.2.2.2.2⟩
theorem npL_okY {b : Bool} : ∀ l : List PT, okL b (npL l) → okL b l
 | [], h => h
 | t :: r, h => by
  simp only [npL, okL] at h ⊢
  exact ⟨np_okY t h.1, npL_okY r h.2⟩
theorem npL_lenY : ∀ l : List PT, (npL l).length = l.length
 | [] => rfl
 | t :: r => by simp only [npL, List.length_cons, npL_lenY r]
end
mutual
theorem lay_evE (fuel : Nat) (regs news : List Int) : ∀ (e : PT) (b : Nat) (env : VEnv) (st : ESt), NoNew e → e.tame → ev fuel (e.lay0 regs news b).era env st = ev fuel e env st
 | .num p s, _, env, st, _, ht => by
  simp only [PT.tame] at ht
  simp only [PT.lay0, PT.era, ev]
  rw [value_dec, Int.toNat_of_nonneg ht.1]
 | .name _ _, _, _, _, _, _ => rfl
 | .node _ k nm rg kids, b, env, st, hn, ht => by
  cases hn with
  | node hk hn =>
  simp only [PT.tame] at ht
  simp only [PT.lay0, PT.era, if_neg hk, ev]
  congr 1
  funext st
  rw [lay_evLet fuel regs news nm kids b env st hn ht.2, lay_evIf fuel regs news kids b env st hn ht.2, lay_evLoop fuel regs news nm kids b env st hn ht.2, lay_evKids fuel regs news kids b env st hn ht.2]
theorem lay_evKids (fuel : Nat) (regs news : List Int) : ∀ (l : List PT) (b : Nat) (env : VEnv) (st : ESt), (∀ x ∈ l, NoNew x) → tameL l → evKids fuel (eraL (layL regs news l b)) env st = evKids fuel l env st
 | [], _, _, _, _, _ => rfl
 | t :: r, b, env, st, hn, ht => by
  simp only [tameL] at ht
  simp only [layL, eraL, wrapN_era, evKids, lay_evE fuel regs news t b env st (hn t (by simp)) ht.1]
  simp only [lay_evKids fuel regs news r (b + t.cnt) _ _ (fun x hx => hn x (by simp [hx])) ht.2]
theorem lay_evLet (fuel : Nat) (regs news : List Int) (nm : List UInt8) : ∀ (l : List PT) (b : Nat) (env : VEnv) (st : ESt), (∀ x ∈ l, NoNew x) → tameL l → evLet fuel nm (eraL (layL regs news l b)) env st = evLet fuel nm l env st
 | [], _, _, _, _, _ => rfl
 | [_], _, _, _, _, _ => rfl
 | [x, y], b, env, st, hn, ht => by
  simp only [tameL] at ht
  simp only [layL, eraL, wrapN_era, evLet]
  simp only [lay_evE fuel regs news x _ _ _ (hn x (by simp)) ht.1, lay_evE fuel regs news y _ _ _ (hn y (by simp)) ht.2.1]
 | _ :: _ :: _ :: _, _, _, _, _, _ => rfl
theorem lay_evIf (fuel : Nat) (regs news : List Int) : ∀ (l : List PT) (b : Nat) (env : VEnv) (st : ESt), (∀ x ∈ l, NoNew x) → tameL l → evIf fuel (eraL (layL regs news l b)) env st = evIf fuel l env st
 | [], _, _, _, _, _ => rfl
 | [_], _, _, _, _, _ => rfl
 | [_, _], _, _, _, _, _ => rfl
 | [x, y, z], b, env, st, hn, ht => by
  simp only [tameL] at ht
  simp only [layL, eraL, wrapN_era, evIf]
  simp only [lay_evE fuel regs news x _ _ _ (hn x (by simp)) ht.1, lay_evE fuel regs news y _ _ _ (hn y (by simp)) ht.2.1, lay_evE fuel regs news z _ _ _ (hn z (by simp)) ht.2.2.1]
 | _ :: _ :: _ :: _ :: _, _, _, _, _, _ => rfl
theorem lay_evLoop (fuel : Nat) (regs news : List Int) (nm : List UInt8) : ∀ (l : List PT) (b : Nat) (env : VEnv) (st : ESt), (∀ x ∈ l, NoNew x) → tameL l → evLoop fuel nm (eraL (layL regs news l b)) env st = evLoop fuel nm l env st
 | [], _, _, _, _, _ => rfl
 | [_], _, _, _, _, _ => rfl
 | [_, _], _, _, _, _, _ => rfl
 | [x, y, z], b, env, st, hn, ht => by
  simp only [tameL] at ht
  simp only [layL, eraL, wrapN_era, evLoop]
  simp only [lay_evE fuel regs news x _ _ _ (hn x (by simp)) ht.1, lay_evE fuel regs news y _ _ _ (hn y (by simp)) ht.2.1, lay_evE fuel regs news z _ _ _ (hn z (by simp)) ht.2.2.1]
 | _ :: _ :: _ :: _ :: _, _, _, _, _, _ => rfl
end
def cntR (news : List Int) (lo hi : Nat) : Nat := (news.filter (fun a => decide ((lo : Int) ≤ a) && decide (a < (hi : Int)))).length
theorem cntR_split (news : List Int) {a b c : Nat} (h1 : a ≤ b) (h2 : b ≤ c) : cntR news a c = cntR news a b + cntR news b c := by
 unfold cntR
 induction news with
 | nil => rfl
 | cons x r ih =>
  simp only [List.filter_cons]
  by_cases g1 : (a : Int) ≤ x
  ·by_cases g2 : x < (b : Int)
   ·have e1 : ¬ (b : Int) ≤ x := by omega
    have e2 : x < (c : Int) := by omega
    simp only [g1, g2, e1, e2, decide_true, decide_false, Bool.and_self, Bool.false_and, if_true, Bool.false_eq_true, if_false, List.length_cons]
    omega
   ·have e1 : (b : Int) ≤ x := by omega
    by_cases g3 : x < (c : Int)
    ·simp only [g1, g2, e1, g3, decide_true, decide_false, Bool.and_self, Bool.and_false, if_true, Bool.false_eq_true, if_false, List.length_cons]
     omega
    ·simp only [g1, g2, e1, g3, decide_true, decide_false, Bool.and_false, Bool.false_eq_true, if_false]
     exact ih
  ·have e1 : ¬ (b : Int) ≤ x := by omega
   simp only [g1, e1, decide_false, Bool.false_and, Bool.false_eq_true, if_false]
   exact ih
theorem cntR_one (news : List Int) (i : Nat) : cntR news i (i + 1) = clN news i := by
 unfold cntR clN
 congr 1
 apply List.filter_congr
 intro x _
 by_cases h : x = (i : Int)
 ·subst h; simp; omega
 ·have : (x == (i : Int)) = false := by rw [beq_eq_false_iff_ne]; exact h
  rw [this, Bool.and_eq_false_iff]
  by_cases g : (i : Int) ≤ x
  ·right; simp; omega
  ·left; simp; omega
theorem cntR_le (news : List Int) (lo hi : Nat) : cntR news lo hi ≤ news.length := List.length_filter_le _ _
theorem opT_cl (i : Int) : ∀ (l : List Int) (r : Nat), r + l.length ≤ 9999 → (opT l r i).length ≤ 11 * clN l i
 | [], _, _ => by simp [opT]
 | a :: l, r, h => by
  simp only [List.length_cons] at h
  have h1 := opT_cl i l (r + 1) (by omega)
  have h2 := opR_len r (by omega)
  unfold clN at h1 ⊢
  simp only [opT, List.length_append, List.filter_cons]
  by_cases e : a = i
  ·have : (a == i) = true := by simp [e]
   rw [if_pos e, this]
   simp only [if_true, List.length_cons]; omega
  ·have : (a == i) = false := by rw [beq_eq_false_iff_ne]; exact e
   rw [if_neg e, this]
   simp only [List.length_nil, Bool.false_eq_true, if_false]; omega
theorem joinT_more (k : Kw) (nm : List UInt8) : ∀ (l l' : List (List UInt8)) (i B : Nat), l.length = l'.length → (l.map List.length).sum ≤ (l'.map List.length).sum + B → (joinT k nm i l).length ≤ (joinT k nm i l').length + B
 | [], [], _, _, _, _ => by simp [joinT]
 | [], _ :: _, _, _, h, _ => by simp at h
 | _ :: _, [], _, _, h, _ => by simp at h
 | x :: r, y :: s, i, B, h, hb => by
  simp only [List.length_cons, Nat.add_right_cancel_iff] at h
  have key : ∀ (a b : List (List UInt8)) (j : Nat), a.length = b.length → (joinT k nm j a).length + (b.map List.length).sum = (joinT k nm j b).length + (a.map List.length).sum := by
   intro a
   induction a with
   | nil => intro b j hl; cases b with | nil => rfl | cons _ _ => simp at hl
   | cons u v ih =>
    intro b j hl
    cases b with
    | nil => simp at hl
    | cons w z =>
     have := ih z (j + 1) (by simpa using hl)
     simp only [joinT, List.map_cons, List.sum_cons, List.length_append, pieceT]
     simp only [List.length_cons] at *
     omega
  have := key (x :: r) (y :: s) i (by simp [h])
  omega
mutual
theorem ftx_more {regs news : List Int} (hr : ∀ i, rgV regs i ≤ 9999) (hn : news.length ≤ 150) {ns : List NR} (H : LyT regs ns) : ∀ (t : PT) (b : Nat), Shows ns t b → NoNew t → (t.ftx regs news b).length ≤ t.ptx.length + 6 * t.prs + 12 * cntR news b (b + t.cnt - 1)
 | .num _ _, _, _, _ => by simp only [PT.ftx, PT.ptx]; omega
 | .name _ _, _, _, _ => by simp only [PT.ftx, PT.ptx]; omega
 | .node p k nm rg kids, b, hs, hw => by
  cases hw with
  | node hk hw =>
  simp only [Shows] at hs
  obtain ⟨⟨n, hn1, hf, _⟩, hks⟩ := hs
  have h1 := wtxL_more hr hn H kids b hks hw
  have h2 : (rgT regs (b + cntL kids)).length ≤ 6 * (if k = .pair then 1 else 0) := by
   by_cases hp : k = .pair
   ·rw [if_pos hp]; exact rgT_len regs _ (hr _)
   ·have := (H _ _ hn1).2 (fun e => hp ((form4 k).1 (hf ▸ e)))
    unfold rgT
    rw [if_pos this]; simp
  have h3 := joinT_more k nm (wtxL regs news kids b) (ptxL kids) 0 _ (by rw [wtxL_length, ptxL_len]) h1
  simp only [PT.ftx, PT.ptx, if_neg hk, PT.prs, PT.cnt, List.length_cons, List.length_append, List.length_nil]
  rw [show b + (1 + cntL kids) - 1 = b + cntL kids by omega]
  omega
theorem wtxL_more {regs news : List Int} (hr : ∀ i, rgV regs i ≤ 9999) (hn : news.length ≤ 150) {ns : List NR} (H : LyT regs ns) : ∀ (ts : List PT) (b : Nat), ShowsL ns ts b → (∀ x ∈ ts, NoNew x) → ((wtxL regs news ts b).map List.length).sum ≤ ((ptxL ts).map List.length).sum + (6 * prsL ts + 12 * cntR news b (b + cntL ts))
 | [], b, _, _ => by simp [wtxL, ptxL]
 | t :: r, b, hs, hw => by
  simp only [ShowsL] at hs
  have h1 := ftx_more hr hn H t b hs.1 (hw t (by simp))
  have h2 := wtxL_more hr hn H r (b + t.cnt) hs.2 (fun x hx => hw x (by simp [hx]))
  have hc := cnt_pos' t
  have hidx : (((b + t.cnt : Nat) : Int) - 1) = ((b + t.cnt - 1 : Nat) : Int) := by omega
  have h3 := opT_cl ((b + t.cnt - 1 : Nat) : Int) news 0 (by omega)
  have h4 := cntR_one news (b + t.cnt - 1)
  rw [show b + t.cnt - 1 + 1 = b + t.cnt by omega] at h4
  have h5 := cntR_split news (a := b) (b := b + t.cnt - 1) (c := b + t.cnt) (by omega) (by omega)
  have h6 := cntR_split news (a := b) (b := b + t.cnt) (c := b + t.cnt + cntL r) (by omega) (by omega)
  simp only [wtxL, ptxL, List.map_cons, List.sum_cons, prsL, cntL, List.length_append, hidx, clT, List.length_replicate]
  rw [show b + (t.cnt + cntL r) = b + t.cnt + cntL r by omega]
  omega
end
theorem wtx_more {regs news : List Int} (hr : ∀ i, rgV regs i ≤ 9999) (hn : news.length ≤ 150) {ns : List NR} (H : LyT regs ns) (t : PT) (hs : Shows ns t 0) (hw : NoNew t) : (t.wtx regs news 0).length ≤ t.ptx.length + 6 * t.prs + 12 * news.length := by
 have h1 := wtxL_more hr hn H [t] 0 (by simp only [ShowsL, and_true]; exact hs) (by simpa using hw)
 have h2 := cntR_le news 0 (0 + cntL [t])
 simp only [wtxL, ptxL, List.map_cons, List.map_nil, List.sum_cons, List.sum_nil, prsL, Nat.add_zero] at h1
 unfold PT.wtx
 omega
theorem pt_ptx {rg : List UInt8} : ∀ {vs : List Nat} {x : KE} {t : Nat}, KT vs x t → (x.pt rg).ptx = (x.pt []).tidy := by
 intro vs x t h
 induction h with
 | num h => simp [KE.pt, PT.ptx, PT.tidy, value_dec]
 | var _ => simp [KE.pt, PT.ptx, PT.tidy]
 | let_ _ _ _ _ ha hb => simp [KE.pt, PT.ptx, ptxL, PT.tidy, tidyL, regT, ha, hb]
 | if_ _ _ _ ha hb hc => simp [KE.pt, PT.ptx, ptxL, PT.tidy, tidyL, regT, ha, hb, hc]
 | loop _ _ _ _ ha hb hc => simp [KE.pt, PT.ptx, ptxL, PT.tidy, tidyL, regT, ha, hb, hc]
 | pair _ _ _ _ ha hb => simp [KE.pt, PT.ptx, ptxL, PT.tidy, tidyL, regT, ha, hb]
 | fst _ _ _ ha => simp [KE.pt, PT.ptx, ptxL, PT.tidy, tidyL, regT, ha]
 | snd _ _ _ ha => simp [KE.pt, PT.ptx, ptxL, PT.tidy, tidyL, regT, ha]
 | two hk _ _ ha hb => rcases hk with rfl | rfl | rfl <;> simp [KE.pt, PT.ptx, ptxL, PT.tidy, tidyL, regT, ha, hb]
theorem laid_PE {x : KE} {t : Nat} (h : KT [] x t) (hpr : x.prs ≤ 75) (hlen : x.len ≤ 1308) {e : PT} {ns : List NR} {n0 : NR} (hnp : e.np = x.pt []) (hta : e.tame) (hnn : NoNew e) (hN : Nds e ns n0) (hL : Lay2 (layR e ns n0) (layN e ns n0) ns (layT e ns n0)) :
  ∃ e2 T', PE true (tokens (e.wtx (layR e ns n0) (layN e ns n0) 0)) e2 [] ∧ chkAns e2 = (0, 0) ∧ WT [] e2 (tyZ t) ∧ WTR [] e2 T' ∧ (∀ f, ev f e2.era [] ⟨0, 0, 0⟩ = ev f (x.pt []) [] ⟨0, 0, 0⟩) ∧ (e.wtx (layR e ns n0) (layN e ns n0) 0).length ≤ 9000 ∧ e2.np = e.lay (layR e ns n0) (layN e ns n0) 0 := by
 have hprs : e.prs ≤ 75 := by rw [← np_prs, hnp, pt_prs _ h]; exact hpr
 have hfl := layF_len (n0 := n0) hN.na
 have hnl : (layN e ns n0).length ≤ 75 := by unfold layN newsL; rw [List.length_map, List.length_range]; omega
 obtain ⟨hb1, hb2⟩ := layR_bd e ns n0 (by omega)
 have hwt : WT [] e (tyZ t) := np_WT e (by rw [hnp]; exact pt_WT h (by simp))
 have hok : e.ok false := np_okY e (by rw [hnp]; exact pt_ok (placed := false) rfl h)
 have hshow := hN.na.shows0
 have hok2 := lay_ok hL.pr (show (layN e ns n0).length ≤ 999 by omega) e 0 hshow hta hok
 obtain ⟨e2, hpe, he2⟩ := tidy_PE _ hok2
 rw [lay_np] at he2
 rw [lay_tidy _ _ e 0 hnn] at hpe
 have hwt2 : WT [] e2 (tyZ t) := np_WT e2 (by rw [he2]; exact lay_WT hwt hnn 0)
 obtain ⟨hwr, _⟩ := lay_wtr hL hwt hnn hta [] [] 0 [] ns [] hN.na (by simp) rfl (fun s U hs => by simp [look] at hs)
 refine ⟨e2, _, hpe, chk_ok hwt2 ?_, hwt2, np_WTR e2 (by rw [he2]; exact hwr), fun f => ?_, ?_, he2⟩
 ·rw [← np_prs, he2, lay_prs]; omega
 ·rw [← np_ev, np_era, he2]
  unfold PT.lay
  rw [wrapN_era, lay_evE f _ _ e 0 [] _ hnn hta, ← np_ev, hnp]
 ·have h1 := wtx_more hb1 (show (layN e ns n0).length ≤ 150 by omega) hL.pr e hshow hnn
  have h2 : e.ptx.length ≤ 1308 + 75 * 1 := by
   rw [← np_ptx, hnp, pt_ptx h]
   have := pt_len (rg := []) h
   simp at this; omega
  omega
end Go.Proofs.YtpicaknklgccoaaGreatDoor
namespace Go.Proofs.YtpicaknklgccoaaGreatDoor
mutual
def Closed : List Int → PT → Prop
 | _, .num _ _ => True
 | _, .name _ _ => True
 | rs, .node _ k _ rg kids => (k = .pair → valueL rg ∈ rs) ∧ ClosedL (if k = .new then valueL rg :: rs else rs) kids
def ClosedL : List Int → List PT → Prop
 | _, [] => True
 | rs, t :: r => Closed rs t ∧ ClosedL rs r
end
theorem ClosedL.mem {rs : List Int} : ∀ {l : List PT}, ClosedL rs l → ∀ x ∈ l, Closed rs x
 | [], _, x, hx => by simp at hx
 | t :: r, h, x, hx => by
  simp only [ClosedL] at h
  rcases List.mem_cons.1 hx with hx | hx
  ·rw [hx]; exact h.1
  ·exact ClosedL.mem h.2 x hx
def Rt (m m' : MM) : Prop := SameR m m' ∧ m'.regs[0]? = m.regs[0]?
theorem Rt.of {m m' : MM} (h : m'.regs = m.regs) : Rt m m' := ⟨SameR.of h, by rw [h]⟩
theorem Rt.trans {a b c : MM} (h : Rt a b) (g : Rt b c) : Rt a c := ⟨h.1.trans g.1, g.2.trans h.2⟩
def OpenIn (rs : List Int) (m : MM) : Prop := 0 < m.regs.length ∧ ∀ r ∈ rs, ∃ (i : Nat) (g : MR), 1 ≤ i ∧ m.regs[i]? = some g ∧ g.num = r
theorem OpenIn.on {rs : List Int} {m m' : MM} (h : OpenIn rs m) (hs : SameR m m') : OpenIn rs m' := by
 refine ⟨by rw [hs.len]; exact h.1, fun r hr => ?_⟩
 obtain ⟨i, g, h1, h2, h3⟩ := h.2 r hr
 obtain ⟨g', h4, h5, _⟩ := hs.at h2
 exact ⟨i, g', h1, h4, h5.trans h3⟩
theorem OpenIn.opn {rs : List Int} {m : MM} (h : OpenIn rs m) (k : Int) : OpenIn (k :: rs) (m.opn k) := by
 have hl := h.1
 refine ⟨by simp [MM.opn], fun r hr => ?_⟩
 rcases List.mem_cons.1 hr with hr | hr
 ·exact ⟨m.regs.length, ⟨k, m.opened, 0⟩, by omega, by simp [MM.opn], hr.symm⟩
 ·obtain ⟨i, g, h1, h2, h3⟩ := h.2 r hr
  exact ⟨i, g, h1, by simp only [MM.opn]; rw [List.getElem?_append_left (List.getElem?_eq_some_iff.1 h2).1]; exact h2, h3⟩
theorem begun_rt {fuel : Nat} {m : MM} {f : MM → MV × MM} (h : ∀ m', m'.regs = m.regs → Rt m' (f m').2) : Rt m (mBegun fuel m f).2 := by
 unfold mBegun
 have hst : (m.stop 12).regs = m.regs := by unfold MM.stop; split <;> rfl
 by_cases hq : fuel ≤ m.steps
 ·simp only [if_pos hq]
  split
  ·exact Rt.of hst
  ·exact (Rt.of (m := m) (m' := { m.stop 12 with steps := (m.stop 12).steps + 1 }) hst).trans (h { m.stop 12 with steps := (m.stop 12).steps + 1 } hst)
 ·simp only [if_neg hq]
  split
  ·exact Rt.of rfl
  ·exact (Rt.of (m := m) (m' := { m with steps := m.steps + 1 }) rfl).trans (h { m with steps := m.steps + 1 } rfl)
theorem fin_rt {m m1 : MM} (k : Int) (hl : 0 < m.regs.length) (h : Rt (m.opn k) m1) : Rt m m1.fin := by
 have hlen : m1.regs.length = m.regs.length + 1 := by rw [h.1.len]; simp [MM.opn]
 have hr : m1.fin.regs = m1.regs.dropLast := by
  unfold MM.fin
  cases e : m1.regs.getLast? with
  | none => rw [List.getLast?_eq_none_iff] at e; rw [e] at hlen; simp at hlen
  | some r => rfl
 refine ⟨h.1.new, ?_⟩
 ·rw [hr, List.getElem?_dropLast, if_pos (by omega), h.2]
  simp only [MM.opn]
  rw [List.getElem?_append_left hl]
theorem homeF_pos {l : List MR} {k : Int} : ∀ (n i : Nat) (g : MR), 1 ≤ i → i ≤ n → l[i]? = some g → g.num = k → 1 ≤ homeF l k n
 | 0, i, g, h1, h2, _, _ => by omega
 | n + 1, i, g, h1, h2, hg, hk => by
  simp only [homeF]
  split
  ·omega
  ·rename_i hne
   refine homeF_pos n i g h1 ?_ hg hk
   rcases Nat.lt_succ_iff_lt_or_eq.1 (Nat.lt_succ_of_le h2) with h | h
   ·omega
   ·exfalso; apply hne; rw [← h, hg]; simp [hk]
theorem cell_rt {rs : List Int} {m : MM} (h : OpenIn rs m) {k : Int} (hk : k ∈ rs) (a b : MV) : Rt m (m.newCell k a b).2 := by
 obtain ⟨i, g, h1, h2, h3⟩ := h.2 k hk
 have hp : 1 ≤ m.home k := homeF_pos _ i g h1 (by have := (List.getElem?_eq_some_iff.1 h2).1; omega) h2 h3
 unfold MM.newCell
 cases e : m.regs[m.home k]? with
 | none => exact Rt.of rfl
 | some r =>
  refine ⟨?_, ?_⟩
  ·unfold SameR
   simp only
   rw [List.map_set]
   have hr : rkey { r with cells := r.cells + 1 } = rkey r := rfl
   rw [hr]
   apply List.ext_getElem?
   intro j
   by_cases hj : m.home k = j
   ·subst hj
    have hlt := (List.getElem?_eq_some_iff.1 e).1
    rw [List.getElem?_set_self (by rw [List.length_map]; exact hlt), List.getElem?_map, e]; rfl
   ·rw [List.getElem?_set_ne hj]
  ·simp only
   rw [List.getElem?_set_ne (by omega)]
theorem turns_rt {i : Int} {f : MM → MV × MM} {rs : List Int} (hf : ∀ m, OpenIn rs m → Rt m (f m).2) : ∀ (k : Nat) (v : MV) (m : MM), OpenIn rs m → Rt m (mTurns i f k v m).2
 | 0, v, m, _ => Rt.of rfl
 | k + 1, v, m, h => by
  simp only [mTurns]
  split
  ·exact Rt.of rfl
  ·have h0 : Rt m (m.name i v) := Rt.of (by unfold MM.name; split <;> rfl)
   have h1 := hf (m.name i v) (h.on h0.1)
   have h2 := turns_rt (i := i) hf k (f (m.name i v)).1 (f (m.name i v)).2 (h.on (h0.trans h1).1)
   exact (h0.trans h1).trans h2
theorem mW_root (fuel : Nat) (t : PT) : ∀ (rs : List Int) (sc : Sc) (base : Nat) (m : MM), Closed rs t → OpenIn rs m → Rt m (mW fuel t sc base m).2 := by
 induction t using PT.ind with
 | h1 p s => intro rs sc base m _ _; simp only [mW]; exact begun_rt (fun m' _ => Rt.of rfl)
 | h2 p s => intro rs sc base m _ _; simp only [mW]; exact begun_rt (fun m' _ => Rt.of rfl)
 | h3 p k nm rg kids ih =>
  intro rs sc base m hc ho
  simp only [Closed] at hc
  simp only [mW]
  split
  ·rename_i hk
   rw [if_pos hk] at hc
   match kids, ih, hc with
   | [], _, _ => exact Rt.of rfl
   | [a], ih, hc =>
    simp only [mNew]
    exact fin_rt (valueL rg) ho.1 (ih a (by simp) _ sc base (m.opn (valueL rg)) (hc.2.mem a (by simp)) (ho.opn _))
   | _ :: _ :: _, _, _ => exact Rt.of rfl
  ·rename_i hk
   rw [if_neg hk] at hc
   refine begun_rt (fun m' hm' => ?_)
   have ho' : OpenIn rs m' := ho.on (SameR.of hm')
   clear hm' ho m
   split
   ·match kids, ih, hc with
    | [], _, _ => exact Rt.of rfl
    | [_], _, _ => exact Rt.of rfl
    | [a, b], ih, hc =>
     simp only [mLet]
     have h1 := ih a (by simp) rs sc base m' (hc.2.mem a (by simp)) ho'
     have h2 : Rt (mW fuel a sc base m').2 ((mW fuel a sc base m').2.name (((base + a.cnt : Nat) : Int) - 1) (mW fuel a sc base m').1) := Rt.of (by unfold MM.name; split <;> rfl)
     exact (h1.trans h2).trans (ih b (by simp) rs _ _ _ (hc.2.mem b (by simp)) (ho'.on (h1.trans h2).1))
    | _ :: _ :: _ :: _, _, _ => exact Rt.of rfl
   ·split
    ·match kids, ih, hc with
     | [], _, _ => exact Rt.of rfl
     | [_], _, _ => exact Rt.of rfl
     | [_, _], _, _ => exact Rt.of rfl
     | [a, b, c], ih, hc =>
      simp only [mIf]
      have h1 := ih a (by simp) rs sc base m' (hc.2.mem a (by simp)) ho'
      split
      ·exact h1.trans (ih b (by simp) rs _ _ _ (hc.2.mem b (by simp)) (ho'.on h1.1))
      ·exact h1.trans (ih c (by simp) rs _ _ _ (hc.2.mem c (by simp)) (ho'.on h1.1))
     | _ :: _ :: _ :: _ :: _, _, _ => exact Rt.of rfl
    ·split
     ·match kids, ih, hc with
      | [], _, _ => exact Rt.of rfl
      | [_], _, _ => exact Rt.of rfl
      | [_, _], _, _ => exact Rt.of rfl
      | [a, b, c], ih, hc =>
       simp only [mLoop]
       have h1 := ih a (by simp) rs sc base m' (hc.2.mem a (by simp)) ho'
       have h2 := ih b (by simp) rs sc (base + a.cnt) _ (hc.2.mem b (by simp)) (ho'.on h1.1)
       exact (h1.trans h2).trans (turns_rt (fun m'' hm'' => ih c (by simp) rs _ _ m'' (hc.2.mem c (by simp)) hm'') _ _ _ (ho'.on (h1.trans h2).1))
      | _ :: _ :: _ :: _ :: _, _, _ => exact Rt.of rfl
     ·match kids, ih, hc with
      | [], _, _ => exact Rt.of rfl
      | [a], ih, hc =>
       simp only [mOps]
       have h1 := ih a (by simp) rs sc base m' (hc.2.mem a (by simp)) ho'
       exact h1.trans (Rt.of (by
        unfold MM.use MM.stop
        split
        ·rfl
        ·simp only
         split
         ·rfl
         ·split <;> rfl))
      | [a, b], ih, hc =>
       simp only [mOps]
       have h1 := ih a (by simp) rs sc base m' (hc.2.mem a (by simp)) ho'
       have h2 := ih b (by simp) rs sc (base + a.cnt) _ (hc.2.mem b (by simp)) (ho'.on h1.1)
       split
       ·rename_i hp
        exact (h1.trans h2).trans (cell_rt (ho'.on (h1.trans h2).1) (hc.1 hp) _ _)
       ·exact h1.trans h2
      | _ :: _ :: _ :: _, _, _ => exact Rt.of rfl
theorem left_none (fuel : Nat) (hfu : fuel ≤ 20000) (t : PT) (hwf : t.wf) (hrg : t.rgd) (hcn : t.cnt ≤ 9000) (hc : Closed [] t) : (mW fuel t [] 0 ((m0 t.cnt).opn (-1))).2.live = 0 := by
 have hbd := MM.opn_bd (m0_bd fuel t.cnt) (-1) (by omega) (by simp [m0])
 have hk := mW_keeps fuel hfu t [] 0 ((m0 t.cnt).opn (-1)) hwf hrg hbd (by simp [m0, MM.opn]; omega)
 have hr := mW_root fuel t [] [] 0 ((m0 t.cnt).opn (-1)) hc ⟨by simp [m0, MM.opn], fun r h => by simp at h⟩
 have hl := hk.1.live
 generalize (mW fuel t [] 0 ((m0 t.cnt).opn (-1))).2 = x at hr hl
 have hlen := hr.1.len
 have h0 := hr.2
 simp only [m0, MM.opn, List.nil_append, List.length_singleton] at hlen
 match hx : x.regs, hlen with
 | [r], _ =>
  rw [hx] at h0 hl
  simp only [m0, MM.opn, List.nil_append, List.getElem?_cons_zero, Option.some.injEq] at h0
  rw [hl, h0]; rfl
end Go.Proofs.YtpicaknklgccoaaGreatDoor
