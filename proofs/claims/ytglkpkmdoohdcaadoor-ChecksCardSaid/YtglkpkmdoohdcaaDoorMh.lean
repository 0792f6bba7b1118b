import Derived.Test.YtglkpkmdoohdcaaDoorMg
/- Plain mathematics: what tyFind keeps: sizes, regions, the length of Of, the first error. -/
namespace Go.Proofs.YtglkpkmdoohdcaaDoor

/-- what is known of the names' types ahead of a call -/
def envOk (env : TEnv) (st : TSt) : Prop := (∀ x ∈ env, x.2.fit) ∧ (st.e = 0 → ∀ x ∈ env, x.2.size ≤ 63)
/-- and of a type behind it -/
def resOk (st : TSt) (x : Ty × TSt) : Prop := x.1.fit ∧ (x.2.e = 0 → st.e = 0 ∧ x.1.size ≤ 63) ∧ x.2.of.length = st.of.length
/-- the same ahead of the bound on its size -/
def preOk (st : TSt) (x : Ty × TSt) : Prop := x.1.fit ∧ (x.2.e = 0 → st.e = 0) ∧ x.2.of.length = st.of.length

theorem fit_n : Ty.n.fit := ⟨by simp [Ty.size], trivial⟩
theorem errS_len (st : TSt) (e p : Nat) : (errS st e p).of.length = st.of.length := by unfold errS; split <;> rfl
theorem errS_e (st : TSt) (e p : Nat) (he : e ≠ 0) : (errS st e p).e ≠ 0 := by unfold errS; split <;> simp_all

theorem fin_ok {id p : Nat} {st : TSt} {x : Ty × TSt} (h : preOk st x) : resOk st (fin id p x) := by
  obtain ⟨h1, h2, h3⟩ := h
  unfold resOk
  by_cases hb : x.2.e = 0 ∧ 63 < x.1.size
  · have e : fin id p x = (x.1, { (errS x.2 6 p) with of := (errS x.2 6 p).of.set id x.1.txt }) := by simp only [fin]; rw [if_pos hb]
    rw [e]
    refine ⟨h1, fun h0 => absurd h0 (errS_e _ _ _ (by decide)), ?_⟩
    simp only [List.length_set]; rw [errS_len]; exact h3
  · have e : fin id p x = (x.1, { x.2 with of := x.2.of.set id x.1.txt }) := by simp only [fin]; rw [if_neg hb]
    rw [e]
    refine ⟨h1, fun h0 => ⟨h2 h0, ?_⟩, by simp only [List.length_set]; exact h3⟩
    simp only at h0 ⊢
    exact Nat.le_of_not_lt (fun h => hb ⟨h0, h⟩)

theorem look_mem {env : TEnv} {s : List UInt8} {t : Ty} (h : look env s = some t) : ∃ x ∈ env, x.2 = t := by
  unfold look at h
  rw [Option.map_eq_some_iff] at h
  obtain ⟨x, hx, rfl⟩ := h
  exact ⟨x, by have := List.mem_of_find?_eq_some hx; simpa using this, rfl⟩

theorem made_pre {cls : List Nat} {k : Kw} {p site : Nat} {ks : List Ty} {st : TSt} (hc : ∀ x ∈ cls, x < 100) (hk : ∀ t ∈ ks, t.fit ∧ t.size ≤ 63) : preOk st (madeT cls k p site ks st) := by
  have hr : cls.getD site 0 < 100 := by
    rw [List.getD_eq_getElem?_getD]
    cases h : cls[site]? with
    | none => simp
    | some x => exact hc x (List.mem_of_getElem? h)
  have err : preOk st (Ty.n, errS st 5 p) := ⟨fit_n, fun h => absurd h (errS_e _ _ _ (by decide)), errS_len _ _ _⟩
  unfold madeT
  split
  · rename_i a _; exact ⟨(hk a (by simp)).1, fun h => h, rfl⟩
  · rename_i a b
    have ha := hk a (by simp)
    have hb := hk b (by simp)
    exact ⟨⟨by simp only [Ty.size]; omega, ⟨hr, ha.1.2, hb.1.2⟩⟩, fun h => h, rfl⟩
  · rename_i r a b _
    have ha := hk (.p r a b) (by simp)
    exact ⟨⟨by show a.size ≤ 127; have := ha.2; simp only [Ty.size] at this; omega, ha.1.2.2.1⟩, fun h => h, rfl⟩
  · rename_i r a b _
    have ha := hk (.p r a b) (by simp)
    exact ⟨⟨by show b.size ≤ 127; have := ha.2; simp only [Ty.size] at this; omega, ha.1.2.2.2⟩, fun h => h, rfl⟩
  · rename_i a b c
    split
    · exact ⟨(hk b (by simp)).1, fun h => h, rfl⟩
    · exact err
  · rename_i a b c
    split
    · exact ⟨(hk b (by simp)).1, fun h => h, rfl⟩
    · exact err
  · split
    · exact ⟨fit_n, fun h => h, rfl⟩
    · exact err
  · split
    · exact ⟨fit_n, fun h => h, rfl⟩
    · exact err
  · split
    · exact ⟨fit_n, fun h => h, rfl⟩
    · exact err
  · exact err

theorem tyKids_snoc (cls : List Nat) (ts : List PT) (t : PT) : ∀ (id site : Nat) (env : TEnv) (st : TSt), tyKids cls (ts ++ [t]) id site env st =
    ((tyKids cls ts id site env st).1 ++ [(tyFind cls t (id + cntL ts) (site + prsL ts) env (tyKids cls ts id site env st).2).1], (tyFind cls t (id + cntL ts) (site + prsL ts) env (tyKids cls ts id site env st).2).2) := by
  induction ts with
  | nil => intro id site env st; simp [tyKids, cntL, prsL]
  | cons a r ih =>
    intro id site env st
    simp only [List.cons_append, tyKids, ih, cntL, prsL]
    rw [Nat.add_assoc id, Nat.add_assoc site]
theorem tyKids_len (cls : List Nat) (ts : List PT) : ∀ (id site : Nat) (env : TEnv) (st : TSt), (tyKids cls ts id site env st).1.length = ts.length := by
  induction ts with
  | nil => intro id site env st; simp [tyKids]
  | cons a r ih => intro id site env st; simp [tyKids, ih]

theorem envOk.on {env : TEnv} {st st' : TSt} (h : envOk env st) (hs : st'.e = 0 → st.e = 0) : envOk env st' := ⟨h.1, fun h0 => h.2 (hs h0)⟩
theorem envOk.snoc {env : TEnv} {st : TSt} {nm : List UInt8} {x : Ty × TSt} (h : envOk env st) (hx : resOk st x) : envOk (env ++ [(nm, x.1)]) x.2 := by
  constructor
  · intro y hy
    rcases List.mem_append.1 hy with hy | hy
    · exact h.1 y hy
    · rw [List.mem_singleton] at hy; subst hy; exact hx.1
  · intro h0 y hy
    rcases List.mem_append.1 hy with hy | hy
    · exact h.2 (hx.2.1 h0).1 y hy
    · rw [List.mem_singleton] at hy; subst hy; exact (hx.2.1 h0).2

/-- of a row of types -/
def ksOk (st : TSt) (x : List Ty × TSt) : Prop := (∀ t ∈ x.1, t.fit) ∧ (x.2.e = 0 → st.e = 0 ∧ ∀ t ∈ x.1, t.size ≤ 63) ∧ x.2.of.length = st.of.length

mutual
theorem tyFind_ok (cls : List Nat) (hc : ∀ x ∈ cls, x < 100) : ∀ (t : PT) (id site : Nat) (env : TEnv) (st : TSt), envOk env st → resOk st (tyFind cls t id site env st)
  | .num p s, id, site, env, st, h => by simp only [tyFind]; exact fin_ok ⟨fit_n, fun h => h, rfl⟩
  | .name p s, id, site, env, st, h => by
    simp only [tyFind]
    refine fin_ok ?_
    split
    · rename_i t ht
      obtain ⟨x, hx, rfl⟩ := look_mem ht
      exact ⟨h.1 x hx, fun h => h, rfl⟩
    · exact ⟨fit_n, fun h => absurd h (errS_e _ _ _ (by decide)), errS_len _ _ _⟩
  | .node p k nm rg kids, id, site, env, st, h => by
    simp only [tyFind]
    refine fin_ok ?_
    split
    · have := tyLet_ok cls hc nm kids (id + 1) site env st h
      exact ⟨this.1, fun h0 => (this.2.1 h0), this.2.2⟩
    · have hx : ksOk st (if k = .loop then tyLoop cls nm kids (id + 1) site env st else tyKids cls kids (id + 1) (site + if k = .pair then 1 else 0) env st) := by
        split
        · exact tyLoop_ok cls hc nm kids _ _ env st h
        · exact tyKids_ok cls hc kids _ _ env st h
      generalize (if k = .loop then tyLoop cls nm kids (id + 1) site env st else tyKids cls kids (id + 1) (site + if k = .pair then 1 else 0) env st) = x at hx
      split
      · rename_i hne
        exact ⟨fit_n, fun h0 => absurd h0 hne, hx.2.2⟩
      · rename_i hne
        have h0 : x.2.e = 0 := by simpa using hne
        have hm := made_pre (k := k) (p := p) (site := site) (st := x.2) hc (fun t ht => ⟨hx.1 t ht, (hx.2.1 h0).2 t ht⟩)
        exact ⟨hm.1, fun h1 => (hx.2.1 (hm.2.1 h1)).1, hm.2.2.trans hx.2.2⟩
theorem tyKids_ok (cls : List Nat) (hc : ∀ x ∈ cls, x < 100) : ∀ (ts : List PT) (id site : Nat) (env : TEnv) (st : TSt), envOk env st → ksOk st (tyKids cls ts id site env st)
  | [], _, _, _, st, _ => by simp only [tyKids]; exact ⟨by simp, fun h => ⟨h, by simp⟩, rfl⟩
  | a :: r, id, site, env, st, h => by
    simp only [tyKids]
    have h1 := tyFind_ok cls hc a id site env st h
    have h2 := tyKids_ok cls hc r (id + a.cnt) (site + a.prs) env (tyFind cls a id site env st).2 (h.on (fun h0 => (h1.2.1 h0).1))
    refine ⟨?_, ?_, h2.2.2.trans h1.2.2⟩
    · intro t ht
      rcases List.mem_cons.1 ht with rfl | ht
      · exact h1.1
      · exact h2.1 t ht
    · intro h0
      have q := h2.2.1 h0
      have q1 := h1.2.1 q.1
      refine ⟨q1.1, ?_⟩
      intro t ht
      rcases List.mem_cons.1 ht with rfl | ht
      · exact q1.2
      · exact q.2 t ht
theorem tyLet_ok (cls : List Nat) (hc : ∀ x ∈ cls, x < 100) (nm : List UInt8) : ∀ (ts : List PT) (id site : Nat) (env : TEnv) (st : TSt), envOk env st → preOk st (tyLet cls nm ts id site env st)
  | [a, b], id, site, env, st, h => by
    simp only [tyLet]
    have h1 := tyFind_ok cls hc a id site env st h
    have h2 := tyFind_ok cls hc b (id + a.cnt) (site + a.prs) (env ++ [(nm, (tyFind cls a id site env st).1)]) (tyFind cls a id site env st).2 (h.snoc h1)
    exact ⟨h2.1, fun h0 => (h1.2.1 (h2.2.1 h0).1).1, h2.2.2.trans h1.2.2⟩
  | [], _, _, _, st, _ => by simp only [tyLet]; exact ⟨fit_n, fun h => h, rfl⟩
  | [_], _, _, _, st, _ => by simp only [tyLet]; exact ⟨fit_n, fun h => h, rfl⟩
  | _ :: _ :: _ :: _, _, _, _, st, _ => by simp only [tyLet]; exact ⟨fit_n, fun h => h, rfl⟩
theorem tyLoop_ok (cls : List Nat) (hc : ∀ x ∈ cls, x < 100) (nm : List UInt8) : ∀ (ts : List PT) (id site : Nat) (env : TEnv) (st : TSt), envOk env st → ksOk st (tyLoop cls nm ts id site env st)
  | [a, b, c], id, site, env, st, h => by
    simp only [tyLoop]
    have h1 := tyFind_ok cls hc a id site env st h
    have h2 := tyFind_ok cls hc b (id + a.cnt) (site + a.prs) env (tyFind cls a id site env st).2 (h.on (fun h0 => (h1.2.1 h0).1))
    have h3 := tyFind_ok cls hc c (id + a.cnt + b.cnt) (site + a.prs + b.prs) (env ++ [(nm, (tyFind cls b (id + a.cnt) (site + a.prs) env (tyFind cls a id site env st).2).1)]) (tyFind cls b (id + a.cnt) (site + a.prs) env (tyFind cls a id site env st).2).2 ((h.on (fun h0 => (h1.2.1 h0).1)).snoc h2)
    refine ⟨?_, ?_, h3.2.2.trans (h2.2.2.trans h1.2.2)⟩
    · intro t ht
      simp only [List.mem_cons, List.not_mem_nil, or_false] at ht
      rcases ht with rfl | rfl | rfl
      · exact h1.1
      · exact h2.1
      · exact h3.1
    · intro h0
      have q3 := h3.2.1 h0
      have q2 := h2.2.1 q3.1
      have q1 := h1.2.1 q2.1
      refine ⟨q1.1, ?_⟩
      intro t ht
      simp only [List.mem_cons, List.not_mem_nil, or_false] at ht
      rcases ht with rfl | rfl | rfl
      · exact q1.2
      · exact q2.2
      · exact q3.2
  | [], _, _, _, st, _ => by simp only [tyLoop]; exact ⟨by simp, fun h => ⟨h, by simp⟩, rfl⟩
  | [_], _, _, _, st, _ => by simp only [tyLoop]; exact ⟨by simp, fun h => ⟨h, by simp⟩, rfl⟩
  | [_, _], _, _, _, st, _ => by simp only [tyLoop]; exact ⟨by simp, fun h => ⟨h, by simp⟩, rfl⟩
  | _ :: _ :: _ :: _ :: _, _, _, _, st, _ => by simp only [tyLoop]; exact ⟨by simp, fun h => ⟨h, by simp⟩, rfl⟩
end
end Go.Proofs.YtglkpkmdoohdcaaDoor
