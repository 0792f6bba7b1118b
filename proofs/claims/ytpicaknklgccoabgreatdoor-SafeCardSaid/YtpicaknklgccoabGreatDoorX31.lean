import Derived.Test.YtpicaknklgccoabGreatDoorX17
import Derived.Test.YtpicaknklgccoabGreatDoorX30
import Derived.Test.YtpicaknklgccoabGreatDoorX1
import Derived.Test.YtpicaknklgccoabGreatDoorX29
namespace Go.Proofs.YtpicaknklgccoabGreatDoor
theorem cntL_split (ts : List PT) (j : Nat) (hj : j < ts.length) : cntL (ts.take j) + ts[j].cnt ≤ cntL ts := by
 have h := cntL_take ts (j + 1)
 rw [List.take_succ_eq_append_getElem hj, cntL_snoc] at h
 exact h
theorem take_zero_cnt (ts : List PT) : cntL (ts.take 0) = 0 := by simp [cntL]
mutual
theorem lab (cls : List Nat) (hc : ∀ x ∈ cls, x < 1000) : ∀ (t : PT) (scope : Sc) (ns : List NR) (env : TEnv) (st : TSt) (T : List Ty) (id site : Nat), NA scope t T.length ns → envL T env scope → envOk env st → clsIn cls t.prl site → id + t.cnt ≤ st.of.length → (tyFind cls t id site env st).2.e = 0 →
  ∃ T', Lab T t.cnt ns T' st.of (tyFind cls t id site env st).2.of id (t.subs id site) ∧ T'[t.cnt - 1]? = some (tyFind cls t id site env st).1 ∧ (tyFind cls t id site env st).2.of[id]? = some (tyFind cls t id site env st).1.txt
 | .num p s, scope, ns, env, st, T, id, site, hn, hr, ho, hcl, hid, he => by
  simp only [NA] at hn
  subst hn
  simp only [PT.cnt] at hid
  simp only [tyFind] at he ⊢
  obtain ⟨f1, f2, f3⟩ := fin_of id p (Ty.n, st)
  rw [f1, f2]
  refine ⟨[.n], ?_, rfl, List.getElem?_set_self (show id < st.of.length by omega)⟩
  have := Lab.root (Lab.nil T st.of (id + 1)) ⟨1, p, p + s.length, valueL s, [], 0, -1, -1, -1, -1⟩ .n (.num p s, id, site) (by simp [tyR]) fit_n (by simp) (by omega) rfl (fun TY _ => by simp [vfT, vStep])
  exact this
 | .name p s, scope, ns, env, st, T, id, site, hn, hr, ho, hcl, hid, he => by
  simp only [NA] at hn
  subst hn
  have hres := tyFind_ok cls hc (.name p s) id site env st ho
  simp only [PT.cnt] at hid
  simp only [tyFind] at he hres ⊢
  rcases hr.look s with ⟨h1, h2⟩ | ⟨t, h1, h2, h3⟩
  ·rw [h1] at he
   simp only at he
   obtain ⟨_, _, f3⟩ := fin_of id p (Ty.n, errS st 4 p)
   have := (f3 he).1
   unfold errS at this
   split at this
   ·simp at this
   ·rename_i hh; exact absurd this hh
  ·rw [h1] at he hres ⊢
   simp only at he hres ⊢
   obtain ⟨f1, f2, f3⟩ := fin_of id p (t, st)
   have hfit := hres.1
   rw [f1] at hfit
   rw [f1, f2]
   refine ⟨[t], ?_, rfl, List.getElem?_set_self (show id < st.of.length by omega)⟩
   have := Lab.root (Lab.nil T st.of (id + 1)) ⟨2, p, p + s.length, 0, s, 0, findS scope s, -1, -1, -1⟩ t (.name p s, id, site) (by simp [tyR, h3]) hfit (by simp) (by omega) rfl (fun TY _ => by simp [vfT, vStep])
   exact this
 | .node p k nm rg kids, scope, ns, env, st, T, id, site, hn, hr, ho, hcl, hid, he => by
  simp only [NA] at hn
  obtain ⟨ks, beh, hks, rfl⟩ := hn
  have hb := hks.bods
  have hres := tyFind_ok cls hc (.node p k nm rg kids) id site env st ho
  simp only [PT.cnt] at hid
  simp only [PT.prl] at hcl
  have hlen : (tyB cls nm kids (bodK k) (id + 1) (site + if k = .pair then 1 else 0) env .n st).1.length = (bodK k).length := tyB_len cls nm kids (bodK k) _ _ _ _ _ hb
  have hcr : clsIn cls (prlL kids) (site + if k = .pair then 1 else 0) := by
   have := hcl.right
   by_cases hk : k = .pair
   ·simpa [hk] using this
   ·simpa [hk] using this
  have hK := labs cls hc nm kids (bodK k) scope ks env .n st T (id + 1) (site + if k = .pair then 1 else 0) hks hr ho fit_n (by simp [Ty.size]) (fun e => by revert e; cases k <;> simp [bodK]) hcr (by omega)
  rw [node_tyB cls p k nm rg kids id site env .n st hb] at he hres ⊢
  generalize tyB cls nm kids (bodK k) (id + 1) (site + if k = .pair then 1 else 0) env .n st = x at hK hlen he hres ⊢
  have e0 : x.2.e = 0 := by
   have := ((fin_of id p _).2.2 he).1
   by_cases hh : x.2.e ≠ 0 ∧ k ≠ .let_
   ·rw [if_pos hh] at this; exact this
   ·rw [if_neg hh] at this
    by_cases hk : k = .let_
    ·subst hk; simpa [nodeT2] using this
    ·exact Classical.byContradiction fun h => hh ⟨h, hk⟩
  have hcond : ¬ (x.2.e ≠ 0 ∧ k ≠ .let_) := fun h => h.1 e0
  rw [if_neg hcond] at he hres ⊢
  obtain ⟨T', hL, hP⟩ := hK e0
  obtain ⟨f1, f2, f3⟩ := fin_of id p (nodeT2 cls k p site x.1 x.2)
  obtain ⟨g1, g2⟩ := f3 he
  obtain ⟨m1, m2, m3, m4⟩ := made_lab cls k p site id nm rg kids x.1 x.2 (T ++ T') beh (by rw [hb]) hlen e0 (fun hk => by
   subst hk
   have := hcl 0 (p, rg) (by simp)
   simpa using this) T.length (fun j t ht => by obtain ⟨i, i1, i2, _⟩ := hP j t ht; exact ⟨i, i1, i2⟩) g1 g2
  have hfit := hres.1
  rw [f1] at hfit
  rw [f1, f2, m1]
  have hol : id < x.2.of.length := by rw [hL.ofl]; omega
  refine ⟨T' ++ [(nodeT2 cls k p site x.1 x.2).1], ?_, ?_, by rw [List.getElem?_set_self hol]⟩
  ·have := Lab.root hL _ _ (.node p k nm rg kids, id, site) m2 hfit m3 (by omega) rfl (fun TY hT => m4 TY _ (fun j t ht => by
    obtain ⟨i, _, _, i3⟩ := hP j t ht
    have hj : j < kids.length := by rw [← hb, ← hlen]; exact (List.getElem?_eq_some_iff.1 ht).1
    have hcj : cntL (kids.take j) < cntL kids := by
     have h1 := cntL_split kids j hj
     have h2 := cnt_pos kids[j]
     omega
    have := hT (id + 1 + cntL (kids.take j)) (by omega) (by omega)
    rw [i3] at this
    exact (txt_inj (Option.some.inj this)).symm))
   simpa [PT.cnt, PT.subs] using this
  ·have hl := hL.len
   rw [List.getElem?_append_right (by simp [PT.cnt]; omega)]
   simp [PT.cnt, hl]
theorem labs (cls : List Nat) (hc : ∀ x ∈ cls, x < 1000) (nm : List UInt8) : ∀ (ts : List PT) (bs : List Bool) (scope : Sc) (ns : List NR) (env : TEnv) (prev : Ty) (st : TSt) (T : List Ty) (id site : Nat), NAs scope nm ts bs T.length ns → envL T env scope → envOk env st → prev.fit → prev.size ≤ 63 → (bs.head? = some true → 0 < T.length ∧ T[T.length - 1]? = some prev) →
  clsIn cls (prlL ts) site → id + cntL ts ≤ st.of.length → (tyB cls nm ts bs id site env prev st).2.e = 0 →
  ∃ T', Lab T (cntL ts) ns T' st.of (tyB cls nm ts bs id site env prev st).2.of id (subsL ts id site) ∧ ∀ (j : Nat) (t : Ty), (tyB cls nm ts bs id site env prev st).1[j]? = some t → ∃ i : Nat, (partsL ts T.length).getD j (-1) = (i : Int) ∧ (T ++ T')[i]? = some t ∧ (tyB cls nm ts bs id site env prev st).2.of[id + cntL (ts.take j)]? = some t.txt
 | [], bs, scope, ns, env, prev, st, T, id, site, hn, _, _, _, _, _, _, _, _ => by
  simp only [NAs] at hn
  obtain ⟨rfl, rfl⟩ := hn
  simp only [tyB, cntL, subsL]
  exact ⟨[], Lab.nil _ _ _, fun j t h => by simp at h⟩
 | _ :: _, [], _, _, _, _, _, _, _, _, hn, _, _, _, _, _, _, _, _ => by simp [NAs] at hn
 | a :: r, b :: bs, scope, ns, env, prev, st, T, id, site, hn, hr, ho, hp1, hp2, hp3, hcl, hid, he => by
  simp only [NAs] at hn
  obtain ⟨na, nc, h1, h2, rfl⟩ := hn
  have hr' : envL T (if b then env ++ [(nm, prev)] else env) (if b then scope ++ [(nm, (T.length : Int) - 1)] else scope) := by
   cases b with
   | false => exact hr
   | true =>
    obtain ⟨hT0, hT1⟩ := hp3 rfl
    refine hr.app ⟨rfl, ?_, ?_, trivial⟩
    ·show (0 : Int) ≤ (T.length : Int) - 1; omega
    ·show T[((T.length : Int) - 1).toNat]? = _
     rw [show ((T.length : Int) - 1).toNat = T.length - 1 from by omega]; exact hT1
  have ho' : envOk (if b then env ++ [(nm, prev)] else env) st := by
   cases b with
   | false => exact ho
   | true =>
    constructor
    ·intro x hx
     rcases List.mem_append.1 hx with hx | hx
     ·exact ho.1 x hx
     ·rw [List.mem_singleton] at hx; subst hx; exact hp1
    ·intro e0 x hx
     rcases List.mem_append.1 hx with hx | hx
     ·exact ho.2 e0 x hx
     ·rw [List.mem_singleton] at hx; subst hx; exact hp2
  simp only [cntL] at hid
  simp only [prlL] at hcl
  have hA := lab cls hc a (if b then scope ++ [(nm, (T.length : Int) - 1)] else scope) na (if b then env ++ [(nm, prev)] else env) st T id site h1 hr' ho' hcl.left (by omega)
  have hR := tyFind_ok cls hc a id site (if b then env ++ [(nm, prev)] else env) st ho'
  simp only [tyB] at he ⊢
  generalize tyFind cls a id site (if b then env ++ [(nm, prev)] else env) st = x at hA hR he ⊢
  have e0 : x.2.e = 0 := Classical.byContradiction fun h => by
   have hs := tyB_stay cls nm r bs (id + a.cnt) (site + a.prs) env x.1 x.2 h
   rw [hs.1] at he
   exact h he
  obtain ⟨T1, hL, hT1, hof⟩ := hA e0
  have hl1 : (T ++ T1).length = T.length + a.cnt := by simp [hL.len]
  have hcp := cnt_pos a
  have hst0 : st.e = 0 := (hR.2.1 e0).1
  have hlast : (T ++ T1)[T.length + a.cnt - 1]? = some x.1 := by
   rw [List.getElem?_append_right (by omega), show T.length + a.cnt - 1 - T.length = a.cnt - 1 from by omega]; exact hT1
  have hB := labs cls hc nm r bs scope nc env x.1 x.2 (T ++ T1) (id + a.cnt) (site + a.prs) (by rw [hl1]; exact h2) hr.more (ho.on (fun _ => hst0)) hR.1 (hR.2.1 e0).2 (fun _ => ⟨by omega, by rw [hl1]; exact hlast⟩) (by have := hcl.right; rwa [prl_len] at this) (by rw [hL.ofl]; omega)
  generalize tyB cls nm r bs (id + a.cnt) (site + a.prs) env x.1 x.2 = y at hB he ⊢
  obtain ⟨T2, hM, hP2⟩ := hB he
  refine ⟨T1 ++ T2, ?_, ?_⟩
  ·simp only [cntL, subsL]
   exact hL.app hM
  ·intro j t hj
   cases j with
   | zero =>
    simp only [List.getElem?_cons_zero, Option.some.injEq] at hj
    subst hj
    refine ⟨T.length + a.cnt - 1, ?_, ?_, ?_⟩
    ·simp only [partsL, List.getD_cons_zero]; omega
    ·rw [← List.append_assoc, List.getElem?_append_left (by omega)]; exact hlast
    ·rw [take_zero_cnt, Nat.add_zero, hM.out id (by omega)]; exact hof
   | succ j =>
    simp only [List.getElem?_cons_succ] at hj
    obtain ⟨i, i1, i2, i3⟩ := hP2 j t hj
    rw [hl1] at i1
    refine ⟨i, ?_, by rw [← List.append_assoc]; exact i2, ?_⟩
    ·simp only [partsL, List.getD_cons_succ]; exact i1
    ·simp only [List.take_succ_cons, cntL]
     rw [← Nat.add_assoc]; exact i3
end
theorem lab_root (e : PT) (ns : List NR) (hna : NA [] e 0 ns) (h3 : e.rg3) (he : (tyFind (clsOf e) e 0 0 [] (st0 e)).2.e = 0) :
  SzOk [] ns ∧ ∃ TY : List Ty, TY.length = e.cnt ∧ (∀ T ∈ TY, T.fit) ∧ (tyFind (clsOf e) e 0 0 [] (st0 e)).2.of = TY.map Ty.txt ∧ plT [] ns = vetL TY (e.subs 0 0) := by
 have hl0 : (st0 e).of.length = e.cnt := by simp [st0]
 obtain ⟨T', hL, _, _⟩ := lab (clsOf e) (clsOf_lt h3) e [] ns [] (st0 e) [] 0 0 hna trivial ⟨fun x hx => by simp at hx, fun _ x hx => by simp at hx⟩ (fun i x hx => by
  rw [Nat.zero_add]
  unfold clsOf
  rw [List.getD_eq_getElem?_getD, List.getElem?_map, hx]; rfl) (by omega) he
 refine ⟨hL.sz, ?_⟩
 generalize (tyFind (clsOf e) e 0 0 [] (st0 e)).2.of = of at hL
 have hch : ∀ k : Nat, ∃ U : Ty, U.fit ∧ (k < e.cnt → of[k]? = some U.txt) := by
  intro k
  by_cases hk : k < e.cnt
  ·obtain ⟨U, u1, u2⟩ := hL.inn k (Nat.zero_le _) (by omega)
   exact ⟨U, u1, fun _ => u2⟩
  ·exact ⟨.n, fit_n, fun h => absurd h hk⟩
 have hof : of.length = e.cnt := by rw [hL.ofl, hl0]
 let f : Nat → Ty := fun k => Classical.choose (hch k)
 have hf : ∀ k, (f k).fit ∧ (k < e.cnt → of[k]? = some (f k).txt) := fun k => Classical.choose_spec (hch k)
 have hat : ∀ k, k < e.cnt → tyAt ((List.range e.cnt).map f) k = f k := by
  intro k hk
  unfold tyAt
  rw [List.getElem?_map, List.getElem?_range hk]; rfl
 refine ⟨(List.range e.cnt).map f, by simp, ?_, ?_, ?_⟩
 ·intro T hT
  obtain ⟨k, _, rfl⟩ := List.mem_map.1 hT
  exact (hf k).1
 ·apply List.ext_getElem?
  intro k
  by_cases hk : k < e.cnt
  ·rw [(hf k).2 hk, List.getElem?_map, List.getElem?_map, List.getElem?_range hk]; rfl
  ·rw [List.getElem?_eq_none (by omega), List.getElem?_eq_none (by simp; omega)]
 ·refine hL.pl _ (fun k _ h2 => ?_)
  rw [Nat.zero_add] at h2
  rw [hat k h2]; exact (hf k).2 h2
end Go.Proofs.YtpicaknklgccoabGreatDoor
namespace Go.Proofs.YtpicaknklgccoabGreatDoor
open Go.RowKit
mutual
theorem NA.rgn : ∀ {scope : Sc} {t : PT} {base : Nat} {ns : List NR}, NA scope t base ns → t.rg3 → ∀ n ∈ ns, 0 ≤ n.region
 | _, .num p s, _, _, h, _, n, hn => by simp only [NA] at h; subst h; rw [List.mem_singleton] at hn; subst hn; exact Int.le_refl _
 | _, .name p s, _, _, h, _, n, hn => by simp only [NA] at h; subst h; rw [List.mem_singleton] at hn; subst hn; exact Int.le_refl _
 | _, .node p k nm rg kids, _, _, h, h3, n, hn => by
  simp only [NA] at h
  obtain ⟨ks, beh, hk, rfl⟩ := h
  simp only [PT.rg3] at h3
  rcases List.mem_append.1 hn with hn | hn
  ·exact hk.rgn h3.2 n hn
  ·rw [List.mem_singleton] at hn; subst hn; simp only; omega
theorem NAs.rgn : ∀ {scope : Sc} {nm : List UInt8} {ts : List PT} {bs : List Bool} {base : Nat} {ns : List NR}, NAs scope nm ts bs base ns → rg3L ts → ∀ n ∈ ns, 0 ≤ n.region
 | _, _, [], _, _, _, h, _, n, hn => by simp only [NAs] at h; rw [h.2] at hn; simp at hn
 | _, _, _ :: _, [], _, _, h, _, n, hn => by simp [NAs] at h
 | _, _, t :: r, b :: bs, _, _, h, h3, n, hn => by
  simp only [NAs] at h
  obtain ⟨a, c, h1, h2, rfl⟩ := h
  simp only [rg3L] at h3
  rcases List.mem_append.1 hn with hn | hn
  ·exact h1.rgn h3.1 n hn
  ·exact h2.rgn h3.2 n hn
end
theorem map_txt_inj : ∀ {A B : List Ty}, A.map Ty.txt = B.map Ty.txt → A = B
 | [], [], _ => rfl
 | [], _ :: _, h => by simp at h
 | _ :: _, [], h => by simp at h
 | a :: A, b :: B, h => by
  simp only [List.map_cons, List.cons.injEq] at h
  rw [txt_inj h.1, map_txt_inj h.2]
theorem cls_ansV (e : PT) (hm : e.prs ≤ 100) : (tyFind (clsOf e) e 0 0 [] (st0 e)).2.e = (chkAns e).1 ∧ (tyFind (clsOf e) e 0 0 [] (st0 e)).2.at_ = (chkAns e).2 := by
 have h := (tyFind_cls (clsOf e) (List.range e.prs) e 0 0 0 0 [] [] (st0 e) (st0 e) rfl ⟨rfl, rfl⟩).2
 unfold chkAns
 rw [if_neg (by omega)]
 exact h
theorem newsK_code : ∀ (l acc : List NR), (newsK l acc).2.1 = 0 ∨ (newsK l acc).2.1 = 7
 | [], _ => Or.inl rfl
 | n :: r, acc => by
  simp only [newsK]
  split
  ·split
   ·exact Or.inr rfl
   ·exact newsK_code r _
  ·exact newsK_code r _
theorem outK_code (L : List NR) : ∀ (l : List NR), (outK L l).1 = 0 ∨ (outK L l).1 = 8
 | [] => Or.inl rfl
 | n :: r => by
  simp only [outK]
  split
  ·split
   ·split
    ·exact Or.inr rfl
    ·exact outK_code L r
   ·exact outK_code L r
  ·exact outK_code L r
theorem vfT_code (T : List Ty) (n : NR) : vfT T n = 0 ∨ vfT T n = 9 ∨ vfT T n = 10 := by
 unfold vfT
 split
 ·split
  ·exact Or.inl rfl
  ·exact Or.inr (Or.inl rfl)
 ·split
  ·split
   ·exact Or.inr (Or.inr rfl)
   ·exact Or.inl rfl
  ·exact Or.inl rfl
theorem plT_code : ∀ (ns : List NR) (T : List Ty), plT T ns = (0, 0) ∨ (plT T ns).1 = 9 ∨ (plT T ns).1 = 10
 | [], _ => Or.inl rfl
 | n :: r, T => by
  simp only [plT]
  split
  ·rename_i h
   rcases vfT_code (T ++ [tyR T n]) n with h0 | h0 | h0
   ·exact absurd h0 h
   ·exact Or.inr (Or.inl h0)
   ·exact Or.inr (Or.inr h0)
  ·exact plT_code r _
theorem vetAns_code (ns : List NR) (op : List Int) : ((vetAns ns op).1 = 0 ∧ plT [] ns = (0, 0)) ∨ (vetAns ns op).1 = 7 ∨ (vetAns ns op).1 = 8 ∨ (vetAns ns op).1 = 9 ∨ (vetAns ns op).1 = 10 := by
 unfold vetAns
 split
 ·rename_i h
  rcases newsK_code (opNs ns op) [] with h0 | h0
  ·exact absurd h0 h
  ·exact Or.inr (Or.inl h0)
 ·split
  ·rename_i h
   rcases outK_code (newsK (opNs ns op) []).1 (opNs ns op) with h0 | h0
   ·exact absurd h0 h
   ·exact Or.inr (Or.inr (Or.inl h0))
  ·rcases plT_code ns [] with h0 | h0 | h0
   ·exact Or.inl ⟨by rw [h0], h0⟩
   ·exact Or.inr (Or.inr (Or.inr (Or.inl h0)))
   ·exact Or.inr (Or.inr (Or.inr (Or.inr h0)))
theorem leaseVet_placed (s : ByteArray) (hs : s.size ≤ 9000) (e : PT) (U : Ty) (hp : PE true (tokens s.data.toList) e []) (hc : chkAns e = (0, 0)) (hwt : WT [] e U) :
  ∃ c a : Nat, (c = 0 ∨ c = 7 ∨ c = 8 ∨ c = 9 ∨ c = 10) ∧ (c = 0 → ∃ T', WTR [] e T') ∧
   ∀ w, Calls Tryz.prog 12 #[.string s] w fun v w' => v = .returned (.tuple #[.int .i64 c, .int .i64 a]) ∧ Below w.heap.size w w' := by
 have h3 := (hp.rg3 (tokens_rg _)).1
 have hrg := rgdO_of e (hp.tame (tokens_tame _)).1 h3
 have hcnt := Study_len hp
 have hc1 : (chkAns e).1 = 0 := by rw [hc]
 have hprs : e.prs ≤ 100 := by
  unfold chkAns at hc1
  split at hc1
  ·simp at hc1
  ·omega
 have h0 : (tyFind (clsOf e) e 0 0 [] (st0 e)).2.e = 0 := (cls_ansV e hprs).1.trans hc1
 obtain ⟨ns0, hna0, hpg⟩ := prog_yes (len := s.size) hp
 have hps := prog_pos (placed := true) (len := s.size) hp (tokens_okU s.data.toList)
 rw [hpg] at hps
 obtain ⟨_, TY, hTl, hfit, hof, hpl0⟩ := lab_root e ns0 hna0 h3 h0
 have hva := vet_eq hna0 hps hpl0
 have hcd := vetAns_code ns0 (opn e 0)
 rw [hva] at hcd
 refine ⟨(vetAnsR e TY).1, (vetAnsR e TY).2, ?_, fun h => ?_, fun w => leaseVet_ok s w e (chkAns e).2 (vetAnsR e TY) (fun w => ?_) (fun w' x1 n1 c1 x2 n2 c2 ns hTr hna => ?_)⟩
 ·rcases hcd with h | h
  ·exact Or.inl h.1
  ·exact Or.inr h
 ·rcases hcd with h' | h' | h' | h' | h'
  ·obtain ⟨_, T', _, _, _, hw⟩ := hwt.wtr [] [] [] ns0 hna0 (fun s U h => by simp [look] at h) hrg h3 h'.2
   exact ⟨T', hw⟩
  all_goals (rw [h'] at h; cases h)
 ·have := readPlaced_pos s w hs e hp
  rw [hc1] at this
  exact this
 ·obtain ⟨hsz, TY', _, _, hof', hpl⟩ := lab_root e ns hna.1 h3 h0
  have hTT : TY' = TY := map_txt_inj (by rw [← hof', ← hof])
  subst hTT
  rw [← vet_eq hna.1 hna.2 hpl]
  exact vetProgram_any w' _ _ ns (opn e 0) hTr (op_ok hna.1) (by have := hna.1.len; omega) (hna.1.small (fun _ h => by simp at h) (by omega)) (hna.1.rgn h3) hsz
end Go.Proofs.YtpicaknklgccoabGreatDoor
namespace Go.Proofs.YtpicaknklgccoabGreatDoor
open Go.Lib (decDigits)
def rgL (k : Nat) : List UInt8 := 35 :: decDigits k
def wrapF (raw : List Int) (e : PT) (s : MkS) : PT × MkS :=
 (if (nextF raw 12 s).1 < 4 then .node 0 .new [] (rgL (nextF raw 12 s).1) [e] else e, (nextF raw 12 s).2)
def rgF (raw : List Int) (k : Kw) (s : MkS) : List UInt8 × MkS := if k = .pair then (rgL (nextF raw 4 s).1, (nextF raw 4 s).2) else ([], s)
def anyF (raw : List Int) : KE → MkS → PT × MkS
 | .num n, s => wrapF raw (.num 0 (decDigits n)) s
 | .var n, s => wrapF raw (.name 0 (nameL n)) s
 | .n1 k a, s => wrapF raw (.node 0 k [] (rgF raw k s).1 [(anyF raw a (rgF raw k s).2).1]) (anyF raw a (rgF raw k s).2).2
 | .n2 k n a b, s =>
  let z := rgF raw k s
  let x := anyF raw a z.2
  let y := anyF raw b x.2
  wrapF raw (.node 0 k (bindN k n) z.1 [x.1, y.1]) y.2
 | .n3 k n a b c, s =>
  let z := rgF raw k s
  let x := anyF raw a z.2
  let y := anyF raw b x.2
  let u := anyF raw c y.2
  wrapF raw (.node 0 k (bindN k n) z.1 [x.1, y.1, u.1]) u.2
structure AnyO (vs : List Nat) (x : KE) (t : Nat) (e : PT) (L : Nat) : Prop where
 ok : e.ok true
 np : e.np = e
 prs : e.prs = x.prs
 wt : WT (envT vs) e (tyZ t)
 ev : ∀ fuel, ev fuel e.era = ev fuel (x.pt [])
 ptx : e.ptx = (x.pt []).tidy
 len : e.tidy.length ≤ L
theorem rgL_len {k : Nat} (h : k < 12) : (rgL k).length ≤ 3 := by unfold rgL; have := dec_len2 k (by omega); simp; omega
theorem rgL_ok {k : Nat} (h : k < 12) : ∃ d, rgL k = 35 :: d ∧ GoodD d 3 := ⟨decDigits k, rfl, dec_good k 3 (Nat.le_trans (dec_len2 k (by omega)) (by omega))⟩
theorem any_wrap (raw : List Int) (s : MkS) {vs : List Nat} {x : KE} {t : Nat} {e : PT} {L M : Nat} (h : AnyO vs x t e L) (hL : L + 10 ≤ M) : AnyO vs x t (wrapF raw e s).1 M := by
 have hk := nextF_lt raw 12 s (by omega)
 unfold wrapF
 simp only
 generalize (nextF raw 12 s).1 = k at hk ⊢
 split
 ·have hr := rgL_ok hk
  have hl := rgL_len hk
  refine ⟨?_, ?_, ?_, .new h.wt, fun fuel => ?_, ?_, ?_⟩
  ·simp [PT.ok, okL, wantsK, arity, h.ok, hr]
  ·simp [PT.np, npL, h.np]
  ·simp [PT.prs, prsL, h.prs]
  ·simp only [PT.era, eraL, if_true, List.headD_cons]; exact h.ev fuel
  ·simp only [PT.ptx, ptxL, if_true, List.headD_cons]; exact h.ptx
  ·have := h.len
   have hne : rgL k ≠ [] := by unfold rgL; simp
   simp [PT.tidy, tidyL, joinT, pieceT, regT, Kw.bytes, hne]; omega
 ·exact ⟨h.ok, h.np, h.prs, h.wt, h.ev, h.ptx, by have := h.len; omega⟩
theorem rgF_no (raw : List Int) {k : Kw} (h : k ≠ .pair) (s : MkS) : rgF raw k s = ([], s) := by unfold rgF; rw [if_neg h]
theorem any_ok (raw : List Int) : ∀ {vs : List Nat} {x : KE} {t : Nat}, KT vs x t → vs.length ≤ 100 → ∀ s, AnyO vs x t (anyF raw x s).1 (x.len + 4 * x.prs + 10 * x.cnt) := by
 intro vs x t h
 induction h with
 | @num vs n h =>
  intro _ s
  simp only [anyF]
  refine any_wrap raw s (L := 3) ⟨?_, rfl, rfl, .num, fun _ => rfl, ?_, ?_⟩ (by simp [KE.len, KE.prs, KE.cnt])
  ·simp only [PT.ok]; exact dec_good _ 4 (Nat.le_trans (dec_len2 _ (by omega)) (by omega))
  ·simp only [PT.ptx, KE.pt, PT.tidy, value_dec]; rfl
  ·simp only [PT.tidy]; exact Nat.le_trans (dec_len2 _ (by omega)) (by omega)
 | @var vs n t h =>
  intro hl s
  simp only [anyF]
  refine any_wrap raw s (L := 3) ⟨?_, rfl, rfl, .name (look_envT _ _ _ h (by omega)), fun _ => rfl, rfl, ?_⟩ (by simp [KE.len, KE.prs, KE.cnt])
  ·simp only [PT.ok]; exact nameL_good _
  ·simp [PT.tidy, nameL]
 | @let_ vs a b v t _ hl _ _ ha hb =>
  intro _ s
  simp only [anyF]
  have A := ha (by omega) (rgF raw .let_ s).2
  have B := hb (by simp; omega) (anyF raw a (rgF raw .let_ s).2).2
  rw [rgF_no raw (by decide)] at A B ⊢
  simp only at A B ⊢
  generalize (anyF raw b (anyF raw a s).2) = y at B ⊢
  generalize (anyF raw a s) = x at A ⊢
  refine any_wrap raw _ (L := 11 + (a.len + 4 * a.prs + 10 * a.cnt) + (b.len + 4 * b.prs + 10 * b.cnt)) ⟨?_, ?_, ?_, ?_, fun fuel => ?_, ?_, ?_⟩ (by simp [KE.len, KE.prs, KE.cnt]; omega)
  ·simp [PT.ok, okL, bindN, wantsK, arity, nameL_good, A.ok, B.ok]
  ·simp [PT.np, npL, A.np, B.np]
  ·simp [PT.prs, prsL, KE.prs, A.prs, B.prs]
  ·exact .let_ A.wt (by have := B.wt; rw [envT_snoc] at this; simpa [bindN] using this)
  ·simp only [PT.era, eraL, KE.pt]
   refine ev_congr ?_ rfl rfl ?_
   ·funext env st; simp only [evLet, A.ev fuel, B.ev fuel]
   ·funext env st; simp only [evKids, A.ev fuel, B.ev fuel]
  ·simp [PT.ptx, ptxL, KE.pt, PT.tidy, tidyL, A.ptx, B.ptx, regT]
  ·have := A.len; have := B.len
   simp [PT.tidy, tidyL, joinT, pieceT, regT, bindN, nameL, Kw.bytes]; omega
 | @if_ vs a b c t _ _ _ ha hb hc =>
  intro hl s
  simp only [anyF]
  have A := ha hl (rgF raw .if_ s).2
  have B := hb hl (anyF raw a (rgF raw .if_ s).2).2
  have C := hc hl (anyF raw b (anyF raw a (rgF raw .if_ s).2).2).2
  rw [rgF_no raw (by decide)] at A B C ⊢
  simp only at A B C ⊢
  generalize (anyF raw c (anyF raw b (anyF raw a s).2).2) = u at C ⊢
  generalize (anyF raw b (anyF raw a s).2) = y at B ⊢
  generalize (anyF raw a s) = x at A ⊢
  refine any_wrap raw _ (L := 7 + (a.len + 4 * a.prs + 10 * a.cnt) + (b.len + 4 * b.prs + 10 * b.cnt) + (c.len + 4 * c.prs + 10 * c.cnt)) ⟨?_, ?_, ?_, ?_, fun fuel => ?_, ?_, ?_⟩ (by simp [KE.len, KE.prs, KE.cnt]; omega)
  ·simp [PT.ok, okL, bindN, wantsK, arity, A.ok, B.ok, C.ok]
  ·simp [PT.np, npL, A.np, B.np, C.np]
  ·simp [PT.prs, prsL, KE.prs, A.prs, B.prs, C.prs]; omega
  ·exact .if_ A.wt B.wt C.wt
  ·simp only [PT.era, eraL, KE.pt]
   refine ev_congr rfl ?_ ?_ ?_
   ·funext env st; simp only [evIf, A.ev fuel, B.ev fuel, C.ev fuel]
   ·funext env st; simp only [evLoop, A.ev fuel, B.ev fuel, C.ev fuel]
   ·funext env st; simp only [evKids, A.ev fuel, B.ev fuel, C.ev fuel]
  ·simp [PT.ptx, ptxL, KE.pt, PT.tidy, tidyL, A.ptx, B.ptx, C.ptx, regT]
  ·have := A.len; have := B.len; have := C.len
   simp [PT.tidy, tidyL, joinT, pieceT, regT, bindN, Kw.bytes]; omega
 | @loop vs a b c t hl _ _ _ ha hb hc =>
  intro _ s
  simp only [anyF]
  have A := ha (by omega) (rgF raw .loop s).2
  have B := hb (by omega) (anyF raw a (rgF raw .loop s).2).2
  have C := hc (by simp; omega) (anyF raw b (anyF raw a (rgF raw .loop s).2).2).2
  rw [rgF_no raw (by decide)] at A B C ⊢
  simp only at A B C ⊢
  generalize (anyF raw c (anyF raw b (anyF raw a s).2).2) = u at C ⊢
  generalize (anyF raw b (anyF raw a s).2) = y at B ⊢
  generalize (anyF raw a s) = x at A ⊢
  refine any_wrap raw _ (L := 13 + (a.len + 4 * a.prs + 10 * a.cnt) + (b.len + 4 * b.prs + 10 * b.cnt) + (c.len + 4 * c.prs + 10 * c.cnt)) ⟨?_, ?_, ?_, ?_, fun fuel => ?_, ?_, ?_⟩ (by simp [KE.len, KE.prs, KE.cnt]; omega)
  ·simp [PT.ok, okL, bindN, wantsK, arity, nameL_good, A.ok, B.ok, C.ok]
  ·simp [PT.np, npL, A.np, B.np, C.np]
  ·simp [PT.prs, prsL, KE.prs, A.prs, B.prs, C.prs]; omega
  ·exact .loop A.wt B.wt (by have := C.wt; rw [envT_snoc] at this; simpa [bindN] using this)
  ·simp only [PT.era, eraL, KE.pt]
   refine ev_congr rfl ?_ ?_ ?_
   ·funext env st; simp only [evIf, A.ev fuel, B.ev fuel, C.ev fuel]
   ·funext env st; simp only [evLoop, A.ev fuel, B.ev fuel, C.ev fuel]
   ·funext env st; simp only [evKids, A.ev fuel, B.ev fuel, C.ev fuel]
  ·simp [PT.ptx, ptxL, KE.pt, PT.tidy, tidyL, A.ptx, B.ptx, C.ptx, regT]
  ·have := A.len; have := B.len; have := C.len
   simp [PT.tidy, tidyL, joinT, pieceT, regT, bindN, nameL, Kw.bytes]; omega
 | @pair vs a b t h0 ht _ _ ha hb =>
  intro hl s
  simp only [anyF]
  have A := ha hl (rgF raw .pair s).2
  have B := hb hl (anyF raw a (rgF raw .pair s).2).2
  have hk := nextF_lt raw 4 s (by omega)
  have hrg : (rgF raw .pair s).1 = rgL (nextF raw 4 s).1 := rfl
  rw [hrg]
  generalize (nextF raw 4 s).1 = k at hk ⊢
  generalize (anyF raw b (anyF raw a (rgF raw .pair s).2).2) = y at B ⊢
  generalize (anyF raw a (rgF raw .pair s).2) = x at A ⊢
  have hr := rgL_ok (k := k) (by omega)
  have hll := rgL_len (k := k) (by omega)
  refine any_wrap raw _ (L := 12 + (a.len + 4 * a.prs + 10 * a.cnt) + (b.len + 4 * b.prs + 10 * b.cnt)) ⟨?_, ?_, ?_, ?_, fun fuel => ?_, ?_, ?_⟩ (by simp [KE.len, KE.prs, KE.cnt]; omega)
  ·simp [PT.ok, okL, bindN, wantsK, arity, A.ok, B.ok, hr]
  ·simp [PT.np, npL, A.np, B.np]
  ·simp [PT.prs, prsL, KE.prs, A.prs, B.prs]; omega
  ·rw [tyZ_pair ht h0]
   exact .pair A.wt B.wt (by rw [← tyZ_pair ht h0]; have := tyZ_size t; omega)
  ·simp only [PT.era, eraL, KE.pt]
   refine ev_congr ?_ rfl rfl ?_
   ·funext env st; simp only [evLet, A.ev fuel, B.ev fuel]
   ·funext env st; simp only [evKids, A.ev fuel, B.ev fuel]
  ·simp [PT.ptx, ptxL, KE.pt, PT.tidy, tidyL, A.ptx, B.ptx, regT]
  ·have := A.len; have := B.len
   have hne : rgL k ≠ [] := by unfold rgL; simp
   simp [PT.tidy, tidyL, joinT, pieceT, regT, bindN, Kw.bytes, hne]; omega
 | @fst vs a p h0 hp _ ha =>
  intro hl s
  simp only [anyF]
  have A := ha hl (rgF raw .fst s).2
  rw [rgF_no raw (by decide)] at A ⊢
  simp only at A ⊢
  generalize (anyF raw a s) = x at A ⊢
  refine any_wrap raw _ (L := 6 + (a.len + 4 * a.prs + 10 * a.cnt)) ⟨?_, ?_, ?_, ?_, fun fuel => ?_, ?_, ?_⟩ (by simp [KE.len, KE.prs, KE.cnt]; omega)
  ·simp [PT.ok, okL, wantsK, arity, A.ok]
  ·simp [PT.np, npL, A.np]
  ·simp [PT.prs, prsL, KE.prs, A.prs]
  ·have := A.wt; rw [tyZ_pair hp h0] at this; exact .fst this
  ·simp only [PT.era, eraL, KE.pt]
   refine ev_congr rfl rfl rfl ?_
   funext env st; simp only [evKids, A.ev fuel]
  ·simp [PT.ptx, ptxL, KE.pt, PT.tidy, tidyL, A.ptx, regT]
  ·have := A.len
   simp [PT.tidy, tidyL, joinT, pieceT, regT, Kw.bytes]; omega
 | @snd vs a p h0 hp _ ha =>
  intro hl s
  simp only [anyF]
  have A := ha hl (rgF raw .snd s).2
  rw [rgF_no raw (by decide)] at A ⊢
  simp only at A ⊢
  generalize (anyF raw a s) = x at A ⊢
  refine any_wrap raw _ (L := 6 + (a.len + 4 * a.prs + 10 * a.cnt)) ⟨?_, ?_, ?_, ?_, fun fuel => ?_, ?_, ?_⟩ (by simp [KE.len, KE.prs, KE.cnt]; omega)
  ·simp [PT.ok, okL, wantsK, arity, A.ok]
  ·simp [PT.np, npL, A.np]
  ·simp [PT.prs, prsL, KE.prs, A.prs]
  ·have := A.wt; rw [tyZ_pair hp h0] at this; exact .snd this
  ·simp only [PT.era, eraL, KE.pt]
   refine ev_congr rfl rfl rfl ?_
   funext env st; simp only [evKids, A.ev fuel]
  ·simp [PT.ptx, ptxL, KE.pt, PT.tidy, tidyL, A.ptx, regT]
  ·have := A.len
   simp [PT.tidy, tidyL, joinT, pieceT, regT, Kw.bytes]; omega
 | @two vs k a b hk _ _ ha hb =>
  intro hl s
  have hkp : k ≠ .pair := by rcases hk with rfl | rfl | rfl <;> decide
  have hkn : k ≠ .new := by rcases hk with rfl | rfl | rfl <;> decide
  simp only [anyF]
  have A := ha hl (rgF raw k s).2
  have B := hb hl (anyF raw a (rgF raw k s).2).2
  rw [rgF_no raw hkp] at A B ⊢
  simp only at A B ⊢
  generalize (anyF raw b (anyF raw a s).2) = y at B ⊢
  generalize (anyF raw a s) = x at A ⊢
  refine any_wrap raw _ (L := 8 + (a.len + 4 * a.prs + 10 * a.cnt) + (b.len + 4 * b.prs + 10 * b.cnt)) ⟨?_, ?_, ?_, ?_, fun fuel => ?_, ?_, ?_⟩ (by rcases hk with rfl | rfl | rfl <;> simp [KE.len, KE.prs, KE.cnt] <;> omega)
  ·rcases hk with rfl | rfl | rfl <;> simp [PT.ok, okL, bindN, wantsK, arity, A.ok, B.ok]
  ·simp [PT.np, npL, A.np, B.np]
  ·rcases hk with rfl | rfl | rfl <;> simp [PT.prs, prsL, KE.prs, A.prs, B.prs]
  ·exact .two hk A.wt B.wt
  ·simp only [PT.era, eraL, KE.pt, if_neg hkn, if_neg hkp]
   refine ev_congr ?_ rfl rfl ?_
   ·funext env st; simp only [evLet, A.ev fuel, B.ev fuel]
   ·funext env st; simp only [evKids, A.ev fuel, B.ev fuel]
  ·rcases hk with rfl | rfl | rfl <;> simp [PT.ptx, ptxL, KE.pt, PT.tidy, tidyL, A.ptx, B.ptx, regT]
  ·have := A.len; have := B.len
   rcases hk with rfl | rfl | rfl <;> simp [PT.tidy, tidyL, joinT, pieceT, regT, bindN, Kw.bytes] <;> omega
theorem rgF_st (raw : List Int) (k : Kw) (s : MkS) : (rgF raw k s).2.vars = s.vars ∧ s.at_ ≤ (rgF raw k s).2.at_ ∧ (rgF raw k s).2.at_ ≤ s.at_ + 1 := by
 unfold rgF
 split
 ·obtain ⟨_, h2, h3, h4⟩ := nextF_st raw 4 s
  exact ⟨h2, h3, h4⟩
 ·exact ⟨rfl, Nat.le_refl _, Nat.le_succ _⟩
theorem anyF_at (raw : List Int) : ∀ (x : KE) (s : MkS), (anyF raw x s).2.at_ ≤ s.at_ + 2 * x.cnt
 | .num _, s => by have := (nextF_st raw 12 s).2.2.2; simp only [anyF, wrapF, KE.cnt]; omega
 | .var _, s => by have := (nextF_st raw 12 s).2.2.2; simp only [anyF, wrapF, KE.cnt]; omega
 | .n1 k a, s => by
  have h1 := (rgF_st raw k s).2.2
  have h2 := anyF_at raw a (rgF raw k s).2
  have h3 := (nextF_st raw 12 (anyF raw a (rgF raw k s).2).2).2.2.2
  simp only [anyF, wrapF, KE.cnt]; omega
 | .n2 k n a b, s => by
  have h1 := (rgF_st raw k s).2.2
  have h2 := anyF_at raw a (rgF raw k s).2
  have h3 := anyF_at raw b (anyF raw a (rgF raw k s).2).2
  have h4 := (nextF_st raw 12 (anyF raw b (anyF raw a (rgF raw k s).2).2).2).2.2.2
  simp only [anyF, wrapF, KE.cnt]; omega
 | .n3 k n a b c, s => by
  have h1 := (rgF_st raw k s).2.2
  have h2 := anyF_at raw a (rgF raw k s).2
  have h3 := anyF_at raw b (anyF raw a (rgF raw k s).2).2
  have h4 := anyF_at raw c (anyF raw b (anyF raw a (rgF raw k s).2).2).2
  have h5 := (nextF_st raw 12 (anyF raw c (anyF raw b (anyF raw a (rgF raw k s).2).2).2).2).2.2.2
  simp only [anyF, wrapF, KE.cnt]; omega
mutual
theorem np_era : ∀ e : PT, e.era.np = e.np.era
 | .num _ _ => rfl
 | .name _ _ => rfl
 | .node p k nm rg kids => by
  simp only [PT.era, PT.np]
  split
  ·rw [← npL_era kids]
   cases eraL kids with
   | nil => rfl
   | cons a r => rfl
  ·simp only [PT.np, npL_era kids]
theorem npL_era : ∀ l : List PT, npL (eraL l) = eraL (npL l)
 | [] => rfl
 | t :: r => by simp only [eraL, npL, np_era t, npL_era r]
end
mutual
theorem np_ptx : ∀ e : PT, e.np.ptx = e.ptx
 | .num _ _ => rfl
 | .name _ _ => rfl
 | .node p k nm rg kids => by simp only [PT.ptx, PT.np, npL_ptx kids]
theorem npL_ptx : ∀ l : List PT, ptxL (npL l) = ptxL l
 | [] => rfl
 | t :: r => by simp only [ptxL, npL, np_ptx t, npL_ptx r]
end
theorem any_PE (raw : List Int) (s : MkS) {x : KE} {t : Nat} (h : KT [] x t) (hp : x.prs ≤ 100) :
  ∃ e, PE true (tokens (anyF raw x s).1.tidy) e [] ∧ chkAns e = (0, 0) ∧ WT [] e (tyZ t) ∧ (∀ fuel, ev fuel e.era [] ⟨0, 0, 0⟩ = ev fuel (x.pt []) [] ⟨0, 0, 0⟩) ∧ e.ptx = (x.pt []).tidy := by
 have A := any_ok raw h (by simp) s
 obtain ⟨e, he, hnp⟩ := tidy_PE _ A.ok
 rw [A.np] at hnp
 have hwt : WT [] e (tyZ t) := np_WT e (by rw [hnp]; exact A.wt)
 refine ⟨e, he, chk_ok hwt ?_, hwt, fun fuel => ?_, ?_⟩
 ·rw [← np_prs, hnp, A.prs]; exact hp
 ·rw [← np_ev, np_era, hnp, A.ev]
 ·rw [← np_ptx, hnp, A.ptx]
end Go.Proofs.YtpicaknklgccoabGreatDoor
