import Derived.Test.YtpicaknklgccoaaGreatDoorP34
namespace Go.Proofs.YtpicaknklgccoaaGreatDoor
theorem fin_okA (id p : Nat) (V : Ty) (st : TSt) (_he : st.e = 0) (hs : V.size ≤ 63) : fin id p (V, st) = (V, { st with of := st.of.set id V.txt }) := by
 unfold fin
 simp only
 rw [if_neg (by omega)]
def clsP (cls : List Nat) (c : Nat → Nat) (l : List (Nat × List UInt8)) (site : Nat) : Prop := ∀ (i : Nat) (x : Nat × List UInt8), l[i]? = some x → cls.getD (site + i) 0 = c x.1
theorem clsP.left {cls : List Nat} {c : Nat → Nat} {a b : List (Nat × List UInt8)} {site : Nat} (h : clsP cls c (a ++ b) site) : clsP cls c a site :=
 fun i x hx => h i x (by rw [List.getElem?_append_left (List.getElem?_eq_some_iff.1 hx).1]; exact hx)
theorem clsP.right {cls : List Nat} {c : Nat → Nat} {a b : List (Nat × List UInt8)} {site : Nat} (h : clsP cls c (a ++ b) site) : clsP cls c b (site + a.length) := fun i x hx => by
 have := h (a.length + i) x (by rw [List.getElem?_append_right (by omega), Nat.add_sub_cancel_left]; exact hx)
 rw [← Nat.add_assoc] at this
 exact this
structure FT (c : Nat → Nat) (T1 : List Ty) (o o' : List (List UInt8)) (id n : Nat) (xs : List (PT × Nat × Nat)) (b : Nat) : Prop where
 out : ∀ k, k < id ∨ id + n ≤ k → o'[k]? = o[k]?
 len : o'.length = o.length
 ids : ∀ x ∈ xs, id ≤ x.2.1 ∧ x.2.1 < id + n
 at_ : ∀ (j : Nat) (x : PT × Nat × Nat), xs[j]? = some x → o'[x.2.1]? = some (mapT c (knownT T1 ((b + j : Nat) : Int))).txt
theorem FT.app {c : Nat → Nat} {T1 : List Ty} {o o1 o2 : List (List UInt8)} {id n m b : Nat} {xs ys : List (PT × Nat × Nat)} (h : FT c T1 o o1 id n xs b) (g : FT c T1 o1 o2 (id + n) m ys (b + xs.length)) : FT c T1 o o2 id (n + m) (xs ++ ys) b := by
 refine ⟨fun k hk => ?_, by rw [g.len, h.len], fun x hx => ?_, fun j x hx => ?_⟩
 ·rw [g.out k (by omega), h.out k (by omega)]
 ·rcases List.mem_append.1 hx with hx | hx
  ·have := h.ids x hx; omega
  ·have := g.ids x hx; omega
 ·rcases get_app hx with ⟨h1, h2⟩ | ⟨h1, h2⟩
  ·have := h.ids x (List.mem_of_getElem? h2)
   rw [g.out _ (by omega)]
   exact h.at_ j x h2
  ·have := g.at_ _ x h2
   rw [show b + xs.length + (j - xs.length) = b + j by omega] at this
   exact this
theorem FT.root {c : Nat → Nat} {T1 : List Ty} {o o1 : List (List UInt8)} {id n b : Nat} {xs : List (PT × Nat × Nat)} (h : FT c T1 o o1 (id + 1) n xs b) (hid : id < o.length) (x : PT × Nat × Nat) (hx : x.2.1 = id) {V : Ty} (hV : V = mapT c (knownT T1 ((b + xs.length : Nat) : Int))) : FT c T1 o (o1.set id V.txt) id (1 + n) (xs ++ [x]) b := by
 refine ⟨fun k hk => ?_, by rw [List.length_set, h.len], fun y hy => ?_, fun j y hy => ?_⟩
 ·rw [List.getElem?_set_ne (by omega), h.out k (by omega)]
 ·rcases List.mem_append.1 hy with hy | hy
  ·have := h.ids y hy; omega
  ·simp only [List.mem_singleton] at hy
   subst hy; omega
 ·rcases get_app hy with ⟨h1, h2⟩ | ⟨h1, h2⟩
  ·have := h.ids y (List.mem_of_getElem? h2)
   rw [List.getElem?_set_ne (by omega)]
   exact h.at_ j y h2
  ·have hj : j - xs.length = 0 := by
    have := (List.getElem?_eq_some_iff.1 h2).1
    simp only [List.length_singleton] at this; omega
   rw [hj] at h2
   simp only [List.getElem?_cons_zero, Option.some.injEq] at h2
   subst h2
   rw [hx, List.getElem?_set_self (by rw [h.len]; exact hid), hV, show b + xs.length = b + j by omega]
theorem FT.nil (c : Nat → Nat) (T1 : List Ty) (o : List (List UInt8)) (id b : Nat) : FT c T1 o o id 0 [] b := ⟨fun _ _ => rfl, rfl, fun x hx => by simp at hx, fun j x hx => by simp at hx⟩
def EnvF (c : Nat → Nat) (T1 : List Ty) (G env : TEnv) (sc : Sc) : Prop := ∀ s U, look G s = some U → U.size ≤ 63 ∧ ∃ i : Nat, findS sc s = (i : Int) ∧ look env s = some (mapT c (knownT T1 i)) ∧ (knownT T1 i).bare = U
theorem EnvF.snoc {c : Nat → Nat} {T1 : List Ty} {G env : TEnv} {sc : Sc} {nm : List UInt8} {U : Ty} {z : Int} (h : EnvF c T1 G env sc) (hz : 0 ≤ z) (hs : U.size ≤ 63) {V : Ty} (hv : V = mapT c (knownT T1 z)) (hu : (knownT T1 z).bare = U) : EnvF c T1 (G ++ [(nm, U)]) (env ++ [(nm, V)]) (sc ++ [(nm, z)]) := fun s W hw => by
 rw [look_snoc'] at hw ⊢
 rw [findS_snocO]
 by_cases e : nm = s
 ·rw [if_pos e] at hw ⊢
  rw [if_pos e]
  simp only [Option.some.injEq] at hw
  subst hw
  exact ⟨hs, z.toNat, by omega, by rw [Int.toNat_of_nonneg hz, hv], by rw [Int.toNat_of_nonneg hz]; exact hu⟩
 ·rw [if_neg e] at hw ⊢
  rw [if_neg e]
  exact h s W hw
structure FO (c : Nat → Nat) (T1 : List Ty) (e : PT) (U : Ty) (id site b : Nat) (st : TSt) (x : Ty × TSt) : Prop where
 ty : x.1 = mapT c (knownT T1 (((b + e.cnt : Nat) : Int) - 1))
 e0 : x.2.e = 0
 ft : FT c T1 st.of x.2.of id e.cnt (e.subs id site) b
 ba : (knownT T1 (((b + e.cnt : Nat) : Int) - 1)).bare = U
 sz : U.size ≤ 63
theorem bare_sizeA {T U : Ty} (h : T.bare = U) : T.size = U.size := by rw [← h, bare_sizeE]
set_option maxHeartbeats 2000000 in
theorem find_types {c : Nat → Nat} {cls : List Nat} {ns : List NR} {T1 : List Ty} (H : ∀ i n, ns[i]? = some n → knownT T1 (i : Nat) = tyR T1 (atR n)) {G : TEnv} {e : PT} {U : Ty} (h : WT G e U) : NoNew e → ∀ (id site : Nat) (env : TEnv) (st : TSt) (sc : Sc) (b : Nat) (pre ms post : List NR), NA sc e b ms → ns = pre ++ (ms ++ post) → pre.length = b → EnvF c T1 G env sc → clsP cls c e.prl site → id + e.cnt ≤ st.of.length → st.e = 0 →
  FO c T1 e U id site b st (tyFind cls e id site env st) := by
 induction h with
 | @num G p s =>
  intro _ id site env st sc b pre ms post hna hns hb hE hc hl he
  simp only [NA] at hna
  subst hna
  have hn := at_root (ks := []) hns
  rw [hb] at hn
  have hty := H _ _ hn
  simp only [List.length_nil, Nat.add_zero] at hn hty
  have hk : knownT T1 (b : Nat) = .n := by rw [hty]; simp [tyR, atR]
  simp only [PT.cnt] at hl
  have hV : Ty.n = mapT c (knownT T1 ((b + 0 : Nat) : Int)) := by rw [Nat.add_zero, hk]; rfl
  simp only [tyFind]
  rw [fin_okA id p _ st he (by simp [Ty.size])]
  refine ⟨?_, he, ?_, ?_, by simp [Ty.size]⟩
  ·simp only [PT.cnt, show (((b + 1 : Nat) : Int) - 1) = ((b + 0 : Nat) : Int) by omega]; exact hV
  ·exact (FT.nil c T1 st.of (id + 1) b).root (by omega) (.num p s, id, site) rfl hV
  ·simp only [PT.cnt, show (((b + 1 : Nat) : Int) - 1) = (b : Int) by omega, hk]; rfl
 | @name G p s U hs =>
  intro _ id site env st sc b pre ms post hna hns hb hE hc hl he
  simp only [NA] at hna
  subst hna
  have hn := at_root (ks := []) hns
  rw [hb] at hn
  have hty := H _ _ hn
  simp only [List.length_nil, Nat.add_zero] at hn hty
  obtain ⟨hsz, i, h1, h2, h3⟩ := hE _ _ hs
  have hk : knownT T1 (b : Nat) = knownT T1 (i : Nat) := by rw [hty]; simp [tyR, atR, h1]
  simp only [PT.cnt] at hl
  have hV : mapT c (knownT T1 (i : Nat)) = mapT c (knownT T1 ((b + 0 : Nat) : Int)) := by rw [Nat.add_zero, hk]
  simp only [tyFind, h2]
  rw [fin_okA id p _ st he (by rw [mapT_size, bare_sizeA h3]; exact hsz)]
  refine ⟨?_, he, ?_, ?_, hsz⟩
  ·simp only [PT.cnt, show (((b + 1 : Nat) : Int) - 1) = ((b + 0 : Nat) : Int) by omega]; exact hV
  ·exact (FT.nil c T1 st.of (id + 1) b).root (by omega) (.name p s, id, site) rfl hV
  ·simp only [PT.cnt, show (((b + 1 : Nat) : Int) - 1) = (b : Int) by omega, hk]; exact h3
 | @let_ G p nm rg a b UA UB ha hb iha ihb =>
  intro hnn id site env st sc bs pre ms post hna hns hbs hE hc hl he
  cases hnn with
  | node _ hnn =>
  simp only [NA, bodK, NAs, Bool.false_eq_true, if_false, if_true] at hna
  obtain ⟨ks, beh, ⟨a1, c1, hn1, ⟨a2, c2, hn2, ⟨_, rfl⟩, rfl⟩, rfl⟩, rfl⟩ := hna
  rw [List.append_nil] at hns
  have la := NA.len hn1
  have lb := NA.len hn2
  have hroot := at_root hns
  rw [hbs, List.length_append, la, lb] at hroot
  have hty := H _ _ hroot
  simp only [PT.prl, prlL, reduceCtorEq, if_false, List.nil_append, List.append_nil] at hc
  simp only [PT.cnt, cntL, Nat.add_zero] at hl
  have o1 := iha (hnn _ (by simp)) (id + 1) site env st sc bs pre a1 (a2 ++ ([_] ++ post)) hn1 (by rw [hns]; simp only [List.append_assoc]; rfl) hbs hE hc.left (by omega) he
  have hcr := hc.right
  rw [prl_len] at hcr
  have o2 := ihb (hnn _ (by simp)) (id + 1 + a.cnt) (site + a.prs) _ _ _ (bs + a.cnt) (pre ++ a1) a2 ([_] ++ post) hn2 (by rw [hns]; simp only [List.append_assoc]; rfl) (by rw [List.length_append, hbs, la]) (hE.snoc (idx_nn bs a) o1.sz o1.ty o1.ba) hcr (by rw [o1.ft.len]; omega) o1.e0
  have hV : knownT T1 ((bs + (a.cnt + b.cnt) : Nat) : Int) = knownT T1 (((bs + a.cnt + b.cnt : Nat) : Int) - 1) := by
   rw [hty]
   simp only [tyR, atR, fk_let, partsL, List.getD_cons_succ, List.getD_cons_zero]
   simp
  simp only [tyFind, if_true, tyLet]
  generalize tyFind cls a (id + 1) site env st = x at o1 o2 ⊢
  generalize tyFind cls b (id + 1 + a.cnt) (site + a.prs) (env ++ [(nm, x.1)]) x.2 = y at o2 ⊢
  obtain ⟨y1, y2⟩ := y
  have hy1 : y1 = mapT c (knownT T1 (((bs + a.cnt + b.cnt : Nat) : Int) - 1)) := o2.ty
  rw [fin_okA id p _ _ o2.e0 (by rw [hy1, mapT_size, bare_sizeA o2.ba]; exact o2.sz)]
  have hft := o1.ft
  have hg := o2.ft
  have := (hft.app (by rw [subs_len]; exact hg)).root (by omega) (.node p .let_ nm rg [a, b], id, site) rfl (V := y1) (by rw [List.length_append, subs_len, subs_len, hV]; exact hy1)
  refine ⟨?_, o2.e0, ?_, ?_, o2.sz⟩
  ·simp only [PT.cnt, cntL, Nat.add_zero, idx_cnt, hV]; exact hy1
  ·simpa [PT.cnt, cntL, PT.subs, subsL] using this
  ·simp only [PT.cnt, cntL, Nat.add_zero, idx_cnt, hV]; exact o2.ba
 | @pair G p nm rg a b UA UB ha hb hsz iha ihb =>
  intro hnn id site env st sc bs pre ms post hna hns hbs hE hc hl he
  cases hnn with
  | node _ hnn =>
  simp only [NA, bodK, NAs, Bool.false_eq_true, if_false] at hna
  obtain ⟨ks, beh, ⟨a1, c1, hn1, ⟨a2, c2, hn2, ⟨_, rfl⟩, rfl⟩, rfl⟩, rfl⟩ := hna
  rw [List.append_nil] at hns
  have la := NA.len hn1
  have lb := NA.len hn2
  have hroot := at_root hns
  rw [hbs, List.length_append, la, lb] at hroot
  have hty := H _ _ hroot
  simp only [PT.prl, prlL, if_true, List.append_nil, List.singleton_append] at hc
  have hc0 : cls.getD site 0 = c p := by have := hc 0 _ rfl; rwa [Nat.add_zero] at this
  have hc1 : clsP cls c (a.prl ++ b.prl) (site + 1) := fun i x hx => by
   have := hc (i + 1) x (by simpa using hx)
   rwa [show site + (i + 1) = site + 1 + i by omega] at this
  simp only [PT.cnt, cntL, Nat.add_zero] at hl
  have o1 := iha (hnn _ (by simp)) (id + 1) (site + 1) env st sc bs pre a1 (a2 ++ ([_] ++ post)) hn1 (by rw [hns]; simp only [List.append_assoc]; rfl) hbs hE hc1.left (by omega) he
  have hcr := hc1.right
  rw [prl_len] at hcr
  have o2 := ihb (hnn _ (by simp)) (id + 1 + a.cnt) (site + 1 + a.prs) env _ sc (bs + a.cnt) (pre ++ a1) a2 ([_] ++ post) hn2 (by rw [hns]; simp only [List.append_assoc]; rfl) (by rw [List.length_append, hbs, la]) hE hcr (by rw [o1.ft.len]; omega) o1.e0
  have hV : knownT T1 ((bs + (a.cnt + b.cnt) : Nat) : Int) = .p p (knownT T1 (((bs + a.cnt : Nat) : Int) - 1)) (knownT T1 (((bs + a.cnt + b.cnt : Nat) : Int) - 1)) := by
   rw [hty]
   simp only [tyR, atR, fk_pair, partsL, List.getD_cons_succ, List.getD_cons_zero]
   simp
  simp only [tyFind, reduceCtorEq, if_false, if_true, tyKids]
  generalize tyFind cls a (id + 1) (site + 1) env st = x at o1 o2 ⊢
  generalize tyFind cls b (id + 1 + a.cnt) (site + 1 + a.prs) env x.2 = y at o2 ⊢
  rw [if_neg (fun h => h o2.e0)]
  simp only [madeT, hc0]
  have hW : Ty.p (c p) x.1 y.1 = mapT c (knownT T1 ((bs + (a.cnt + b.cnt) : Nat) : Int)) := by rw [hV, o1.ty, o2.ty]; rfl
  have hsz2 : (Ty.p (c p) x.1 y.1).size ≤ 63 := by
   have s1 := bare_sizeA o1.ba
   have s2 := bare_sizeA o2.ba
   simp only [Ty.size] at hsz ⊢
   rw [o1.ty, o2.ty, mapT_size, mapT_size]; omega
  rw [fin_okA id p _ _ o2.e0 hsz2]
  have := (o1.ft.app (by rw [subs_len]; exact o2.ft)).root (by omega) (.node p .pair nm rg [a, b], id, site) rfl (V := Ty.p (c p) x.1 y.1) (by rw [List.length_append, subs_len, subs_len]; exact hW)
  refine ⟨?_, o2.e0, ?_, ?_, hsz⟩
  ·simp only [PT.cnt, cntL, Nat.add_zero, idx_cnt]; exact hW
  ·simpa [PT.cnt, cntL, PT.subs, subsL] using this
  ·simp only [PT.cnt, cntL, Nat.add_zero, idx_cnt, hV, Ty.bare, o1.ba, o2.ba]
 | @fst G p nm rg a UA UB ha iha =>
  intro hnn id site env st sc bs pre ms post hna hns hbs hE hc hl he
  cases hnn with
  | node _ hnn =>
  simp only [NA, bodK, NAs, Bool.false_eq_true, if_false] at hna
  obtain ⟨ks, beh, ⟨a1, c1, hn1, ⟨_, rfl⟩, rfl⟩, rfl⟩ := hna
  rw [List.append_nil] at hns
  have la := NA.len hn1
  have hroot := at_root hns
  rw [hbs, la] at hroot
  have hty := H _ _ hroot
  simp only [PT.prl, prlL, reduceCtorEq, if_false, List.nil_append, List.append_nil] at hc
  simp only [PT.cnt, cntL, Nat.add_zero] at hl
  have o1 := iha (hnn _ (by simp)) (id + 1) site env st sc bs pre a1 ([_] ++ post) hn1 (by rw [hns]; simp only [List.append_assoc]; rfl) hbs hE hc (by omega) he
  have hV : knownT T1 ((bs + a.cnt : Nat) : Int) = fstT (knownT T1 (((bs + a.cnt : Nat) : Int) - 1)) := by
   rw [hty]
   simp only [tyR, atR, fk_fst, partsL, List.getD_cons_succ, List.getD_cons_zero]
   simp
  obtain ⟨r, u, v, hp, hu, hv⟩ := bare_pair o1.ba
  simp only [tyFind, reduceCtorEq, if_false, tyKids, Nat.add_zero]
  generalize tyFind cls a (id + 1) site env st = x at o1 ⊢
  rw [if_neg (fun h => h o1.e0)]
  have hx1 : x.1 = .p (c r) (mapT c u) (mapT c v) := by rw [o1.ty, hp]; rfl
  rw [hx1]
  simp only [madeT]
  rw [hp] at hV
  have hsz := o1.sz
  have hus := bare_sizeA hu
  have hU : UA.size ≤ 63 := by simp only [Ty.size] at hsz; omega
  rw [fin_okA id p _ _ o1.e0 (by rw [mapT_size, hus]; exact hU)]
  have := o1.ft.root (by omega) (.node p .fst nm rg [a], id, site) rfl (V := mapT c u) (by rw [subs_len, hV]; rfl)
  refine ⟨?_, o1.e0, ?_, ?_, hU⟩
  ·simp only [PT.cnt, cntL, Nat.add_zero, idx_cnt, hV]; rfl
  ·simpa [PT.cnt, cntL, PT.subs, subsL] using this
  ·simp only [PT.cnt, cntL, Nat.add_zero, idx_cnt, hV]; exact hu
 | @snd G p nm rg a UA UB ha iha =>
  intro hnn id site env st sc bs pre ms post hna hns hbs hE hc hl he
  cases hnn with
  | node _ hnn =>
  simp only [NA, bodK, NAs, Bool.false_eq_true, if_false] at hna
  obtain ⟨ks, beh, ⟨a1, c1, hn1, ⟨_, rfl⟩, rfl⟩, rfl⟩ := hna
  rw [List.append_nil] at hns
  have la := NA.len hn1
  have hroot := at_root hns
  rw [hbs, la] at hroot
  have hty := H _ _ hroot
  simp only [PT.prl, prlL, reduceCtorEq, if_false, List.nil_append, List.append_nil] at hc
  simp only [PT.cnt, cntL, Nat.add_zero] at hl
  have o1 := iha (hnn _ (by simp)) (id + 1) site env st sc bs pre a1 ([_] ++ post) hn1 (by rw [hns]; simp only [List.append_assoc]; rfl) hbs hE hc (by omega) he
  have hV : knownT T1 ((bs + a.cnt : Nat) : Int) = sndT (knownT T1 (((bs + a.cnt : Nat) : Int) - 1)) := by
   rw [hty]
   simp only [tyR, atR, fk_snd, partsL, List.getD_cons_succ, List.getD_cons_zero]
   simp
  obtain ⟨r, u, v, hp, hu, hv⟩ := bare_pair o1.ba
  simp only [tyFind, reduceCtorEq, if_false, tyKids, Nat.add_zero]
  generalize tyFind cls a (id + 1) site env st = x at o1 ⊢
  rw [if_neg (fun h => h o1.e0)]
  have hx1 : x.1 = .p (c r) (mapT c u) (mapT c v) := by rw [o1.ty, hp]; rfl
  rw [hx1]
  simp only [madeT]
  rw [hp] at hV
  have hsz := o1.sz
  have hus := bare_sizeA hv
  have hU : UB.size ≤ 63 := by simp only [Ty.size] at hsz; omega
  rw [fin_okA id p _ _ o1.e0 (by rw [mapT_size, hus]; exact hU)]
  have := o1.ft.root (by omega) (.node p .snd nm rg [a], id, site) rfl (V := mapT c v) (by rw [subs_len, hV]; rfl)
  refine ⟨?_, o1.e0, ?_, ?_, hU⟩
  ·simp only [PT.cnt, cntL, Nat.add_zero, idx_cnt, hV]; rfl
  ·simpa [PT.cnt, cntL, PT.subs, subsL] using this
  ·simp only [PT.cnt, cntL, Nat.add_zero, idx_cnt, hV]; exact hv
 | @if_ G p nm rg a b d U ha hb hd iha ihb ihd =>
  intro hnn id site env st sc bs pre ms post hna hns hbs hE hc hl he
  cases hnn with
  | node _ hnn =>
  simp only [NA, bodK, NAs, Bool.false_eq_true, if_false] at hna
  obtain ⟨ks, beh, ⟨a1, c1, hn1, ⟨a2, c2, hn2, ⟨a3, c3, hn3, ⟨_, rfl⟩, rfl⟩, rfl⟩, rfl⟩, rfl⟩ := hna
  rw [List.append_nil] at hns
  have la := NA.len hn1
  have lb := NA.len hn2
  have lc := NA.len hn3
  have hroot := at_root hns
  rw [hbs, List.length_append, List.length_append, la, lb, lc] at hroot
  have hty := H _ _ hroot
  simp only [PT.prl, prlL, reduceCtorEq, if_false, List.nil_append, List.append_nil] at hc
  simp only [PT.cnt, cntL, Nat.add_zero] at hl
  have o1 := iha (hnn _ (by simp)) (id + 1) site env st sc bs pre a1 (a2 ++ (a3 ++ ([_] ++ post))) hn1 (by rw [hns]; simp only [List.append_assoc]; rfl) hbs hE hc.left (by omega) he
  have hcr := hc.right
  rw [prl_len] at hcr
  have o2 := ihb (hnn _ (by simp)) (id + 1 + a.cnt) (site + a.prs) env _ sc (bs + a.cnt) (pre ++ a1) a2 (a3 ++ ([_] ++ post)) hn2 (by rw [hns]; simp only [List.append_assoc]; rfl) (by rw [List.length_append, hbs, la]) hE hcr.left (by rw [o1.ft.len]; omega) o1.e0
  have hcr2 := hcr.right
  rw [prl_len] at hcr2
  have o3 := ihd (hnn _ (by simp)) (id + 1 + a.cnt + b.cnt) (site + a.prs + b.prs) env _ sc (bs + a.cnt + b.cnt) (pre ++ a1 ++ a2) a3 ([_] ++ post) hn3 (by rw [hns]; simp only [List.append_assoc]; rfl) (by rw [List.length_append, List.length_append, hbs, la, lb]) hE hcr2 (by rw [o2.ft.len, o1.ft.len]; omega) o2.e0
  have hV : knownT T1 ((bs + (a.cnt + (b.cnt + d.cnt)) : Nat) : Int) = knownT T1 (((bs + a.cnt + b.cnt : Nat) : Int) - 1) := by
   rw [hty]
   simp only [tyR, atR, fk_if, partsL, List.getD_cons_succ, List.getD_cons_zero]
   simp
  simp only [tyFind, reduceCtorEq, if_false, tyKids, Nat.add_zero]
  generalize tyFind cls a (id + 1) site env st = x at o1 o2 o3 ⊢
  generalize tyFind cls b (id + 1 + a.cnt) (site + a.prs) env x.2 = y at o2 o3 ⊢
  generalize tyFind cls d (id + 1 + a.cnt + b.cnt) (site + a.prs + b.prs) env y.2 = z at o3 ⊢
  rw [if_neg (fun h => h o3.e0)]
  have hx1 : x.1 = .n := by rw [o1.ty, bare_num o1.ba]; rfl
  have hyz : y.1.bare = z.1.bare := by rw [o2.ty, o3.ty, mapT_bare, mapT_bare, o2.ba, o3.ba]
  simp only [madeT, hx1, hyz, and_self, if_true]
  rw [fin_okA id p _ _ o3.e0 (by rw [o2.ty, mapT_size, bare_sizeA o2.ba]; exact o2.sz)]
  have := ((o1.ft.app (by rw [subs_len]; exact o2.ft)).app (by rw [List.length_append, subs_len, subs_len, ← Nat.add_assoc, ← Nat.add_assoc]; exact o3.ft)).root (by omega) (.node p .if_ nm rg [a, b, d], id, site) rfl (V := y.1) (by rw [List.length_append, List.length_append, subs_len, subs_len, subs_len, Nat.add_assoc, hV]; exact o2.ty)
  refine ⟨?_, o3.e0, ?_, ?_, o2.sz⟩
  ·simp only [PT.cnt, cntL, Nat.add_zero, idx_cnt, hV]; exact o2.ty
  ·simpa [PT.cnt, cntL, PT.subs, subsL, Nat.add_assoc] using this
  ·simp only [PT.cnt, cntL, Nat.add_zero, idx_cnt, hV]; exact o2.ba
 | @two G p k nm rg a b hkk ha hb iha ihb =>
  intro hnn id site env st sc bs pre ms post hna hns hbs hE hc hl he
  have hkb : bodK k = [false, false] := by rcases hkk with rfl | rfl | rfl <;> rfl
  have hkf : formK k = 8 ∨ formK k = 9 ∨ formK k = 10 := by rcases hkk with rfl | rfl | rfl <;> decide
  have hkp : k ≠ .pair := by rcases hkk with rfl | rfl | rfl <;> decide
  have hkl : k ≠ .let_ := by rcases hkk with rfl | rfl | rfl <;> decide
  have hko : k ≠ .loop := by rcases hkk with rfl | rfl | rfl <;> decide
  cases hnn with
  | node _ hnn =>
  simp only [NA, hkb, NAs, Bool.false_eq_true, if_false] at hna
  obtain ⟨ks, beh, ⟨a1, c1, hn1, ⟨a2, c2, hn2, ⟨_, rfl⟩, rfl⟩, rfl⟩, rfl⟩ := hna
  rw [List.append_nil] at hns
  have la := NA.len hn1
  have lb := NA.len hn2
  have hroot := at_root hns
  rw [hbs, List.length_append, la, lb] at hroot
  have hty := H _ _ hroot
  simp only [PT.prl, prlL, if_neg hkp, List.nil_append, List.append_nil] at hc
  simp only [PT.cnt, cntL, Nat.add_zero] at hl
  have o1 := iha (hnn _ (by simp)) (id + 1) site env st sc bs pre a1 (a2 ++ ([_] ++ post)) hn1 (by rw [hns]; simp only [List.append_assoc]; rfl) hbs hE hc.left (by omega) he
  have hcr := hc.right
  rw [prl_len] at hcr
  have o2 := ihb (hnn _ (by simp)) (id + 1 + a.cnt) (site + a.prs) env _ sc (bs + a.cnt) (pre ++ a1) a2 ([_] ++ post) hn2 (by rw [hns]; simp only [List.append_assoc]; rfl) (by rw [List.length_append, hbs, la]) hE hcr (by rw [o1.ft.len]; omega) o1.e0
  have hV : knownT T1 ((bs + (a.cnt + b.cnt) : Nat) : Int) = .n := by
   rw [hty]
   simp only [tyR, atR]
   rcases hkf with h | h | h <;> simp [h]
  simp only [tyFind, if_neg hkl, if_neg hko, if_neg hkp, tyKids, Nat.add_zero]
  generalize tyFind cls a (id + 1) site env st = x at o1 o2 ⊢
  generalize tyFind cls b (id + 1 + a.cnt) (site + a.prs) env x.2 = y at o2 ⊢
  rw [if_neg (fun h => h o2.e0)]
  have hx1 : x.1 = .n := by rw [o1.ty, bare_num o1.ba]; rfl
  have hy1 : y.1 = .n := by rw [o2.ty, bare_num o2.ba]; rfl
  have hm : madeT cls k p site [x.1, y.1] y.2 = (.n, y.2) := by rcases hkk with rfl | rfl | rfl <;> simp [madeT, hx1, hy1]
  rw [hm, fin_okA id p _ _ o2.e0 (by simp [Ty.size])]
  have := (o1.ft.app (by rw [subs_len]; exact o2.ft)).root (by omega) (.node p k nm rg [a, b], id, site) rfl (V := Ty.n) (by rw [List.length_append, subs_len, subs_len, hV]; rfl)
  refine ⟨?_, o2.e0, ?_, ?_, by simp [Ty.size]⟩
  ·simp only [PT.cnt, cntL, Nat.add_zero, idx_cnt, hV]; rfl
  ·simpa [PT.cnt, cntL, PT.subs, subsL, hkp] using this
  ·simp only [PT.cnt, cntL, Nat.add_zero, idx_cnt, hV]; rfl
 | @loop G p nm rg a b d U ha hb hd iha ihb ihd =>
  intro hnn id site env st sc bs pre ms post hna hns hbs hE hc hl he
  cases hnn with
  | node _ hnn =>
  simp only [NA, bodK, NAs, Bool.false_eq_true, if_false, if_true] at hna
  obtain ⟨ks, beh, ⟨a1, c1, hn1, ⟨a2, c2, hn2, ⟨a3, c3, hn3, ⟨_, rfl⟩, rfl⟩, rfl⟩, rfl⟩, rfl⟩ := hna
  rw [List.append_nil] at hns
  have la := NA.len hn1
  have lb := NA.len hn2
  have lc := NA.len hn3
  have hroot := at_root hns
  rw [hbs, List.length_append, List.length_append, la, lb, lc] at hroot
  have hty := H _ _ hroot
  simp only [PT.prl, prlL, reduceCtorEq, if_false, List.nil_append, List.append_nil] at hc
  simp only [PT.cnt, cntL, Nat.add_zero] at hl
  have o1 := iha (hnn _ (by simp)) (id + 1) site env st sc bs pre a1 (a2 ++ (a3 ++ ([_] ++ post))) hn1 (by rw [hns]; simp only [List.append_assoc]; rfl) hbs hE hc.left (by omega) he
  have hcr := hc.right
  rw [prl_len] at hcr
  have o2 := ihb (hnn _ (by simp)) (id + 1 + a.cnt) (site + a.prs) env _ sc (bs + a.cnt) (pre ++ a1) a2 (a3 ++ ([_] ++ post)) hn2 (by rw [hns]; simp only [List.append_assoc]; rfl) (by rw [List.length_append, hbs, la]) hE hcr.left (by rw [o1.ft.len]; omega) o1.e0
  have hcr2 := hcr.right
  rw [prl_len] at hcr2
  have o3 := ihd (hnn _ (by simp)) (id + 1 + a.cnt + b.cnt) (site + a.prs + b.prs) _ _ _ (bs + a.cnt + b.cnt) (pre ++ a1 ++ a2) a3 ([_] ++ post) hn3 (by rw [hns]; simp only [List.append_assoc]; rfl) (by rw [List.length_append, List.length_append, hbs, la, lb]) (hE.snoc (idx_nn (bs + a.cnt) b) o2.sz o2.ty o2.ba) hcr2 (by rw [o2.ft.len, o1.ft.len]; omega) o2.e0
  have hV : knownT T1 ((bs + (a.cnt + (b.cnt + d.cnt)) : Nat) : Int) = knownT T1 (((bs + a.cnt + b.cnt : Nat) : Int) - 1) := by
   rw [hty]
   simp only [tyR, atR, fk_loop, partsL, List.getD_cons_succ, List.getD_cons_zero]
   simp
  simp only [tyFind, reduceCtorEq, if_false, if_true, tyLoop]
  generalize tyFind cls a (id + 1) site env st = x at o1 o2 o3 ⊢
  generalize tyFind cls b (id + 1 + a.cnt) (site + a.prs) env x.2 = y at o2 o3 ⊢
  generalize tyFind cls d (id + 1 + a.cnt + b.cnt) (site + a.prs + b.prs) (env ++ [(nm, y.1)]) y.2 = z at o3 ⊢
  rw [if_neg (fun h => h o3.e0)]
  have hx1 : x.1 = .n := by rw [o1.ty, bare_num o1.ba]; rfl
  have hyz : y.1.bare = z.1.bare := by rw [o2.ty, o3.ty, mapT_bare, mapT_bare, o2.ba, o3.ba]
  simp only [madeT, hx1, hyz, and_self, if_true]
  rw [fin_okA id p _ _ o3.e0 (by rw [o2.ty, mapT_size, bare_sizeA o2.ba]; exact o2.sz)]
  have := ((o1.ft.app (by rw [subs_len]; exact o2.ft)).app (by rw [List.length_append, subs_len, subs_len, ← Nat.add_assoc, ← Nat.add_assoc]; exact o3.ft)).root (by omega) (.node p .loop nm rg [a, b, d], id, site) rfl (V := y.1) (by rw [List.length_append, List.length_append, subs_len, subs_len, subs_len, Nat.add_assoc, hV]; exact o2.ty)
  refine ⟨?_, o3.e0, ?_, ?_, o2.sz⟩
  ·simp only [PT.cnt, cntL, Nat.add_zero, idx_cnt, hV]; exact o2.ty
  ·simpa [PT.cnt, cntL, PT.subs, subsL, Nat.add_assoc] using this
  ·simp only [PT.cnt, cntL, Nat.add_zero, idx_cnt, hV]; exact o2.ba
 | new _ _ =>
  intro hnn
  cases hnn with
  | node hk _ => exact absurd rfl hk
theorem allT_run {P : Nat → Prop} : ∀ (ns : List NR) (T : List Ty), (∀ t ∈ T, AllT P t) → (∀ n ∈ ns, n.form = 4 → P n.region.toNat) → ∀ t ∈ tyRun T ns, AllT P t
 | [], _, h, _ => h
 | n :: r, T, h, hn => by
  simp only [tyRun]
  refine allT_run r _ (fun t ht => ?_) (fun m hm => hn m (by simp [hm]))
  rcases List.mem_append.1 ht with ht | ht
  ·exact h t ht
  ·simp only [List.mem_singleton] at ht
   subst ht
   exact allT_tyR h n (hn n (by simp))
theorem subs_last (t : PT) (id site : Nat) : (t.subs id site)[t.cnt - 1]? = some (t, id, site) := by
 cases t with
 | num p s => rfl
 | name p s => rfl
 | node p k nm rg kids =>
  simp only [PT.subs, PT.cnt]
  rw [List.getElem?_append_right (by rw [subsL_len]; omega), subsL_len, show 1 + cntL kids - 1 - cntL kids = 0 by omega]; rfl
def KidAt (L : List (PT × Nat × Nat)) (b : Nat) (x : PT × Nat × Nat) (n : NR) : Prop := ∀ p k nm rg u v z, x.1 = .node p k nm rg [u, v, z] → n.form = formK k ∧ ∃ i1 i2 s1 s2, n.p1 = ((b + i1 : Nat) : Int) ∧ n.p2 = ((b + i2 : Nat) : Int) ∧ L[i1]? = some (v, x.2.1 + 1 + u.cnt, s1) ∧ L[i2]? = some (z, x.2.1 + 1 + u.cnt + v.cnt, s2)
theorem KidAt.more {L M : List (PT × Nat × Nat)} {b : Nat} {x : PT × Nat × Nat} {n : NR} (h : KidAt L b x n) : KidAt (L ++ M) b x n := fun p k nm rg u v z hx => by
 obtain ⟨h1, i1, i2, s1, s2, e1, e2, e3, e4⟩ := h p k nm rg u v z hx
 exact ⟨h1, i1, i2, s1, s2, e1, e2, by rw [List.getElem?_append_left (List.getElem?_eq_some_iff.1 e3).1]; exact e3, by rw [List.getElem?_append_left (List.getElem?_eq_some_iff.1 e4).1]; exact e4⟩
theorem KidAt.off {L M : List (PT × Nat × Nat)} {b : Nat} {x : PT × Nat × Nat} {n : NR} (h : KidAt L (b + M.length) x n) : KidAt (M ++ L) b x n := fun p k nm rg u v z hx => by
 obtain ⟨h1, i1, i2, s1, s2, e1, e2, e3, e4⟩ := h p k nm rg u v z hx
 refine ⟨h1, M.length + i1, M.length + i2, s1, s2, by rw [e1, Nat.add_assoc], by rw [e2, Nat.add_assoc], ?_, ?_⟩
 ·rw [List.getElem?_append_right (by omega), Nat.add_sub_cancel_left]; exact e3
 ·rw [List.getElem?_append_right (by omega), Nat.add_sub_cancel_left]; exact e4
mutual
theorem kid_at : ∀ {sc : Sc} {t : PT} {b : Nat} {ms : List NR}, NA sc t b ms → ∀ (id site j : Nat) (x : PT × Nat × Nat) (n : NR), (t.subs id site)[j]? = some x → ms[j]? = some n → KidAt (t.subs id site) b x n
 | _, .num p s, b, ms, h, id, site, j, x, n, hx, hn => by
  have := List.mem_of_getElem? hx
  simp only [PT.subs, List.mem_singleton] at this
  subst this
  intro p k nm rg u v z e; cases e
 | _, .name p s, b, ms, h, id, site, j, x, n, hx, hn => by
  have := List.mem_of_getElem? hx
  simp only [PT.subs, List.mem_singleton] at this
  subst this
  intro p k nm rg u v z e; cases e
 | _, .node p k nm rg kids, b, ms, h, id, site, j, x, n, hx, hn => by
  simp only [NA] at h
  obtain ⟨ks, beh, h1, rfl⟩ := h
  have hkl := NAs.len h1
  have hsl := subsL_len kids (id + 1) (site + if k = .pair then 1 else 0)
  simp only [PT.subs] at hx ⊢
  rcases get_app hx with ⟨x1, x2⟩ | ⟨x1, x2⟩
  ·rw [List.getElem?_append_left (by omega)] at hn
   exact (kids_at h1 _ _ j x n x2 hn).more
  ·rw [List.getElem?_append_right (by omega)] at hn
   have hj : j = cntL kids := by
    have := (List.getElem?_eq_some_iff.1 x2).1
    simp only [List.length_singleton] at this; omega
   rw [hj, hsl, Nat.sub_self] at x2
   rw [hj, hkl, Nat.sub_self] at hn
   simp only [List.getElem?_cons_zero, Option.some.injEq] at x2 hn
   subst x2 hn
   intro p' k' nm' rg' u v z e
   simp only [PT.node.injEq] at e
   obtain ⟨rfl, rfl, rfl, rfl, rfl⟩ := e
   have hu := cnt_pos u
   have hv := cnt_pos v
   have hz := cnt_pos z
   refine ⟨rfl, u.cnt + v.cnt - 1, u.cnt + v.cnt + z.cnt - 1, site + (if k = .pair then 1 else 0) + u.prs, site + (if k = .pair then 1 else 0) + u.prs + v.prs, ?_, ?_, ?_, ?_⟩
   ·simp only [partsL, List.getD, List.getElem?_cons_succ, List.getElem?_cons_zero, Option.getD_some]; omega
   ·simp only [partsL, List.getD, List.getElem?_cons_succ, List.getElem?_cons_zero, Option.getD_some]; omega
   ·simp only [subsL, List.append_nil]
    rw [List.getElem?_append_left (by simp only [List.length_append, subs_len]; omega), List.getElem?_append_right (by rw [subs_len]; omega), subs_len, List.getElem?_append_left (by rw [subs_len]; omega), show u.cnt + v.cnt - 1 - u.cnt = v.cnt - 1 by omega, subs_last]
   ·simp only [subsL, List.append_nil]
    rw [List.getElem?_append_left (by simp only [List.length_append, subs_len]; omega), List.getElem?_append_right (by rw [subs_len]; omega), subs_len, List.getElem?_append_right (by rw [subs_len]; omega), subs_len, show u.cnt + v.cnt + z.cnt - 1 - u.cnt - v.cnt = z.cnt - 1 by omega, subs_last]
theorem kids_at : ∀ {sc : Sc} {nm : List UInt8} {ts : List PT} {bs : List Bool} {b : Nat} {ms : List NR}, NAs sc nm ts bs b ms → ∀ (id site j : Nat) (x : PT × Nat × Nat) (n : NR), (subsL ts id site)[j]? = some x → ms[j]? = some n → KidAt (subsL ts id site) b x n
 | _, _, [], _, _, _, _, _, _, _, _, _, hx, _ => by simp [subsL] at hx
 | _, _, _ :: _, [], _, _, h, _, _, _, _, _, _, _ => by simp [NAs] at h
 | _, _, t :: r, bb :: bs, b, ms, h, id, site, j, x, n, hx, hn => by
  simp only [NAs] at h
  obtain ⟨a, c, h1, h2, rfl⟩ := h
  have hal := NA.len h1
  have hsl := subs_len t id site
  simp only [subsL] at hx ⊢
  rcases get_app hx with ⟨x1, x2⟩ | ⟨x1, x2⟩
  ·rw [List.getElem?_append_left (by omega)] at hn
   exact (kid_at h1 _ _ j x n x2 hn).more
  ·rw [List.getElem?_append_right (by omega), hal, ← hsl] at hn
   have := kids_at h2 (id + t.cnt) (site + t.prs) _ x n x2 hn
   refine KidAt.off ?_
   rw [hsl]; exact this
end
mutual
theorem subs_ord : ∀ (t : PT) (id site : Nat) (i j : Nat) (x y : PT × Nat × Nat), (t.subs id site)[i]? = some x → (t.subs id site)[j]? = some y → i < j → x.2.1 + x.1.cnt ≤ y.2.1 ∨ (y.2.1 < x.2.1 ∧ x.2.1 + x.1.cnt ≤ y.2.1 + y.1.cnt)
 | .num p s, id, site, i, j, x, y, hx, hy, hij => by
  have := (List.getElem?_eq_some_iff.1 hy).1
  simp only [PT.subs, List.length_singleton] at this; omega
 | .name p s, id, site, i, j, x, y, hx, hy, hij => by
  have := (List.getElem?_eq_some_iff.1 hy).1
  simp only [PT.subs, List.length_singleton] at this; omega
 | .node p k nm rg kids, id, site, i, j, x, y, hx, hy, hij => by
  simp only [PT.subs] at hx hy
  have hsl := subsL_len kids (id + 1) (site + if k = .pair then 1 else 0)
  rcases get_app hy with ⟨y1, y2⟩ | ⟨y1, y2⟩
  ·rcases get_app hx with ⟨x1, x2⟩ | ⟨x1, x2⟩
   ·exact subsL_ord kids _ _ i j x y x2 y2 hij
   ·omega
  ·have hj : j - cntL kids = 0 := by
    have := (List.getElem?_eq_some_iff.1 y2).1
    simp only [List.length_singleton] at this; omega
   rw [hsl, hj] at y2
   simp only [List.getElem?_cons_zero, Option.some.injEq] at y2
   subst y2
   rcases get_app hx with ⟨x1, x2⟩ | ⟨x1, x2⟩
   ·have := subsL_ids kids _ _ x (List.mem_of_getElem? x2)
    right
    simp only [PT.cnt]; omega
   ·omega
theorem subsL_ord : ∀ (ts : List PT) (id site : Nat) (i j : Nat) (x y : PT × Nat × Nat), (subsL ts id site)[i]? = some x → (subsL ts id site)[j]? = some y → i < j → x.2.1 + x.1.cnt ≤ y.2.1 ∨ (y.2.1 < x.2.1 ∧ x.2.1 + x.1.cnt ≤ y.2.1 + y.1.cnt)
 | [], _, _, _, _, _, _, hx, _, _ => by simp [subsL] at hx
 | t :: r, id, site, i, j, x, y, hx, hy, hij => by
  simp only [subsL] at hx hy
  rcases get_app hx with ⟨x1, x2⟩ | ⟨x1, x2⟩
  ·rcases get_app hy with ⟨y1, y2⟩ | ⟨y1, y2⟩
   ·exact subs_ord t _ _ i j x y x2 y2 hij
   ·have e1 := subs_ids t _ _ x (List.mem_of_getElem? x2)
    have e2 := subsL_ids r _ _ y (List.mem_of_getElem? y2)
    left; omega
  ·rcases get_app hy with ⟨y1, y2⟩ | ⟨y1, y2⟩
   ·omega
   ·exact subsL_ord r _ _ _ _ x y x2 y2 (by omega)
end
mutual
theorem subs_head : ∀ (t : PT) (id site : Nat) (x : PT × Nat × Nat), (t.subs id site)[0]? = some x → x.1.cnt = 1
 | .num _ _, _, _, x, h => by simp only [PT.subs, List.getElem?_cons_zero, Option.some.injEq] at h; subst h; rfl
 | .name _ _, _, _, x, h => by simp only [PT.subs, List.getElem?_cons_zero, Option.some.injEq] at h; subst h; rfl
 | .node p k nm rg kids, id, site, x, h => by
  simp only [PT.subs] at h
  rcases get_app h with ⟨h1, h2⟩ | ⟨h1, h2⟩
  ·exact subsL_head kids _ _ x h2
  ·have hl : cntL kids = 0 := by rw [subsL_len] at h1; omega
   rw [subsL_len, hl, Nat.sub_self] at h2
   simp only [List.getElem?_cons_zero, Option.some.injEq] at h2
   subst h2
   simp only [PT.cnt]; omega
theorem subsL_head : ∀ (ts : List PT) (id site : Nat) (x : PT × Nat × Nat), (subsL ts id site)[0]? = some x → x.1.cnt = 1
 | [], _, _, _, h => by simp [subsL] at h
 | t :: r, id, site, x, h => by
  simp only [subsL] at h
  have hp := cnt_pos t
  rw [List.getElem?_append_left (by rw [subs_len]; exact hp)] at h
  exact subs_head t _ _ x h
end
mutual
theorem posN_two : ∀ {t : PT} {ms : List NR} {lo hi : Nat}, PosN t ms lo hi → ∀ (i j : Nat) (m n : NR), ms[i]? = some m → ms[j]? = some n → i < j → m.beh ≤ n.at_ ∨ (n.at_ < m.at_ ∧ m.beh ≤ n.beh)
 | .num p _, ms, lo, hi, h, i, j, m, n, hm, hn, hij => by
  simp only [PosN] at h
  obtain ⟨x, rfl, _⟩ := h
  have := (List.getElem?_eq_some_iff.1 hn).1
  simp only [List.length_singleton] at this
  omega
 | .name p _, ms, lo, hi, h, i, j, m, n, hm, hn, hij => by
  simp only [PosN] at h
  obtain ⟨x, rfl, _⟩ := h
  have := (List.getElem?_eq_some_iff.1 hn).1
  simp only [List.length_singleton] at this
  omega
 | .node p _ _ _ kids, ms, lo, hi, h, i, j, m, n, hm, hn, hij => by
  simp only [PosN] at h
  obtain ⟨ks, x, rfl, h1, h2, h3, h4, h5⟩ := h
  rcases get_app hn with ⟨n1, n2⟩ | ⟨n1, n2⟩
  ·rcases get_app hm with ⟨m1, m2⟩ | ⟨m1, m2⟩
   ·exact posNs_two h3 i j m n m2 n2 hij
   ·omega
  ·have hj : j - ks.length = 0 := by
    have := (List.getElem?_eq_some_iff.1 n2).1
    simp only [List.length_singleton] at this; omega
   rw [hj] at n2
   simp only [List.getElem?_cons_zero, Option.some.injEq] at n2
   subst n2
   rcases get_app hm with ⟨m1, m2⟩ | ⟨m1, m2⟩
   ·have := PosNs.in_ h3 m (List.mem_of_getElem? m2)
    right; omega
   ·omega
theorem posNs_two : ∀ {ts : List PT} {ms : List NR} {lo hi : Nat}, PosNs ts ms lo hi → ∀ (i j : Nat) (m n : NR), ms[i]? = some m → ms[j]? = some n → i < j → m.beh ≤ n.at_ ∨ (n.at_ < m.at_ ∧ m.beh ≤ n.beh)
 | [], ms, lo, hi, h, i, j, m, n, hm, hn, hij => by
  simp only [PosNs] at h
  obtain ⟨rfl, _⟩ := h
  simp at hm
 | t :: r, ms, lo, hi, h, i, j, m, n, hm, hn, hij => by
  simp only [PosNs] at h
  obtain ⟨a, c, mid, rfl, h1, h2⟩ := h
  rcases get_app hm with ⟨m1, m2⟩ | ⟨m1, m2⟩
  ·rcases get_app hn with ⟨n1, n2⟩ | ⟨n1, n2⟩
   ·exact posN_two h1 i j m n m2 n2 hij
   ·have e1 := PosN.in_ h1 m (List.mem_of_getElem? m2)
    have e2 := PosNs.in_ h2 n (List.mem_of_getElem? n2)
    left; omega
  ·rcases get_app hn with ⟨n1, n2⟩ | ⟨n1, n2⟩
   ·omega
   ·exact posNs_two h2 _ _ m n m2 n2 (by omega)
end
mutual
theorem prl_rise : ∀ (t : PT) (ms : List NR) (lo hi : Nat), PosN t ms lo hi → (t.prl.map (·.1)).Pairwise (· < ·) ∧ ∀ x ∈ t.prl.map (·.1), lo ≤ x ∧ x < hi
 | .num _ _, _, _, _, _ => by simp [PT.prl]
 | .name _ _, _, _, _, _ => by simp [PT.prl]
 | .node p k nm rg kids, ms, lo, hi, h => by
  simp only [PosN] at h
  obtain ⟨ks, n, rfl, h1, h2, h3, h4, h5⟩ := h
  obtain ⟨g1, g2⟩ := prlL_rise kids ks _ _ h3
  simp only [PT.prl, List.map_append]
  by_cases hk : k = .pair
  ·rw [if_pos hk]
   simp only [List.map_cons, List.map_nil, List.singleton_append, List.pairwise_cons, List.mem_cons]
   refine ⟨⟨fun x hx => by have := g2 x hx; omega, g1⟩, fun x hx => ?_⟩
   rcases hx with rfl | hx
   ·omega
   ·have := g2 x hx; omega
  ·rw [if_neg hk]
   simp only [List.map_nil, List.nil_append]
   exact ⟨g1, fun x hx => by have := g2 x hx; omega⟩
theorem prlL_rise : ∀ (ts : List PT) (ms : List NR) (lo hi : Nat), PosNs ts ms lo hi → ((prlL ts).map (·.1)).Pairwise (· < ·) ∧ ∀ x ∈ (prlL ts).map (·.1), lo ≤ x ∧ x < hi
 | [], _, _, _, _ => by simp [prlL]
 | t :: r, ms, lo, hi, h => by
  simp only [PosNs] at h
  obtain ⟨a, c, mid, rfl, h1, h2⟩ := h
  obtain ⟨g1, g2⟩ := prl_rise t a _ _ h1
  obtain ⟨k1, k2⟩ := prlL_rise r c _ _ h2
  have hmh : mid ≤ hi := posNs_le h2
  have hlo : lo ≤ mid := by
   obtain ⟨n0, hn0, _⟩ := posN_last h1
   have := PosN.in_ h1 n0 (List.mem_of_getElem? hn0)
   omega
  simp only [prlL, List.map_append]
  rw [List.pairwise_append]
  refine ⟨⟨g1, k1, fun x hx y hy => ?_⟩, fun x hx => ?_⟩
  ·have := g2 x hx; have := k2 y hy; omega
  ·rcases List.mem_append.1 hx with hx | hx
   ·have := g2 x hx; omega
   ·have := k2 x hx; omega
end
def plc (e : PT) : List Nat := e.prl.map (·.1)
def isPl (ns : List NR) (x : Nat) : Prop := ∃ n ∈ ns, n.form = 4 ∧ n.at_ = x
theorem plc_len (e : PT) : (plc e).length = e.prs := by unfold plc; rw [List.length_map, prl_len]
theorem plc_is {e : PT} {ns : List NR} (hna : NA [] e 0 ns) (x : Nat) : isPl ns x ↔ x ∈ plc e := by
 obtain ⟨_, hp2, hp3⟩ := recs_pairs e 0 0
 have hl := hna.len
 have hrl := recs_len e 0 0
 constructor
 ·rintro ⟨n, hn, h4, rfl⟩
  obtain ⟨j, hj⟩ := List.getElem?_of_mem hn
  have hjl := (List.getElem?_eq_some_iff.1 hj).1
  have hr : (e.recs 0 0)[j]? = some (e.recs 0 0)[j] := List.getElem?_eq_getElem (by omega)
  have hb := hna.bri 0 0 _ (zip_mem hr hj)
  have hpr : ((e.recs 0 0)[j]).isPair = true := by unfold Rec.isPair; rw [hb.pr.1 h4]; simp
  obtain ⟨_, _, rg, h3, _⟩ := hp2 _ (List.mem_of_getElem? hr) hpr
  unfold plc
  rw [← hb.p]
  exact List.mem_map.2 ⟨_, List.mem_of_getElem? h3, rfl⟩
 ·intro hx
  obtain ⟨i, hi⟩ := List.getElem?_of_mem hx
  have hil := (List.getElem?_eq_some_iff.1 hi).1
  rw [plc_len] at hil
  obtain ⟨r, hr, hpr, hs⟩ := hp3 i (Nat.zero_le _) (by omega)
  obtain ⟨_, _, rg, h3, _⟩ := hp2 r hr hpr
  obtain ⟨j, hj⟩ := List.getElem?_of_mem hr
  have hjl := (List.getElem?_eq_some_iff.1 hj).1
  have hn : ns[j]? = some ns[j] := List.getElem?_eq_getElem (by omega)
  have hb := hna.bri 0 0 _ (zip_mem hj hn)
  refine ⟨ns[j], List.mem_of_getElem? hn, hb.pr.2 (by unfold Rec.isPair at hpr; simpa using hpr), ?_⟩
  unfold plc at hi
  rw [List.getElem?_map, ← hs, show r.site = r.site - 0 by omega, h3] at hi
  simp only [Option.map_some, Option.some.injEq] at hi
  rw [← hb.p, hi]
theorem sz_run : ∀ (ns : List NR) (T : List Ty), (∀ t ∈ T, t.size ≤ 63) → SzOk T ns → ∀ t ∈ tyRun T ns, t.size ≤ 63
 | [], _, h, _ => h
 | n :: r, T, h, hs => by
  simp only [SzOk] at hs
  simp only [tyRun]
  refine sz_run r _ (fun t ht => ?_) hs.2
  rcases List.mem_append.1 ht with ht | ht
  ·exact h t ht
  ·simp only [List.mem_singleton] at ht
   subst ht
   have hk : ∀ i, (knownT T i).size ≤ 63 := fun i => by
    unfold knownT
    split
    ·cases e : T[i.toNat]? with
     | none => simp [Ty.size]
     | some t => exact h t (List.mem_of_getElem? e)
    ·simp [Ty.size]
   have h0 := hk n.p0
   have h1 := hk n.p1
   have h2 := hk n.source
   unfold tyR
   split
   ·exact h2
   split
   ·exact h0
   split
   ·exact h1
   split
   ·exact h1
   split
   ·exact h1
   split
   ·rename_i h4
    have := hs.1 (by assumption)
    simp only [Ty.size] at this ⊢; exact this
   split
   ·cases e : knownT T n.p0 with
    | n => simp [fstT, Ty.size]
    | p r a b => rw [e] at h0; simp only [fstT, Ty.size] at h0 ⊢; omega
   split
   ·cases e : knownT T n.p0 with
    | n => simp [sndT, Ty.size]
    | p r a b => rw [e] at h0; simp only [sndT, Ty.size] at h0 ⊢; omega
   ·simp [Ty.size]
abbrev ty1 (ns : List NR) : List Ty := tyRun [] (ns.map atR)
structure ClsF (e : PT) (ns : List NR) (n0 : NR) : Prop where
 fix : ∀ (i : Nat) (n : NR), ns[i]? = some n → knownT (ty1 ns) (i : Nat) = tyR (ty1 ns) (atR n)
 bare : ∀ (i : Nat) (n : NR), ns[i]? = some n → n.form = 7 ∨ n.form = 11 → (knownT (ty1 ns) n.p1).bare = (knownT (ty1 ns) n.p2).bare
 one : ∀ (i : Nat) (n : NR), ns[i]? = some n → n.form = 7 ∨ n.form = 11 → mapT (fst' (layE ns n0)) (knownT (ty1 ns) n.p1) = mapT (fst' (layE ns n0)) (knownT (ty1 ns) n.p2)
 min : ∀ q : Nat → Nat, (∀ (i : Nat) (n : NR), ns[i]? = some n → n.form = 7 ∨ n.form = 11 → mapT q (knownT (ty1 ns) n.p1) = mapT q (knownT (ty1 ns) n.p2)) → ∀ x, q (fst' (layE ns n0) x) = q x
 all : ∀ i, AllT (isPl ns) (knownT (ty1 ns) i)
 keep : ∀ x, isPl ns x → isPl ns (fst' (layE ns n0) x)
 sz : ∀ i, (knownT (ty1 ns) i).size ≤ 63
theorem cls_facts {e : PT} {U : Ty} {ns : List NR} {n0 : NR} (hwt : WT [] e U) (hna : NA [] e 0 ns) (hat : ∀ n ∈ ns, n.at_ < n0.beh) : ClsF e ns n0 := by
 have hbk := fun i n hn => na_back hna i n hn
 have hb1 : ∀ (i : Nat) n, (ns.map atR)[i]? = some n → BackN (([] : List Ty).length + i) n := fun i n hn => by
  rw [List.getElem?_map] at hn
  obtain ⟨m, hm, rfl⟩ := Option.map_eq_some_iff.1 hn
  simpa [BackN, atR] using hbk i m hm
 have hfix0 : ∀ i n, ns[i]? = some n → knownT (tyRun [] (ns.map atR)) (i : Nat) = tyR (tyRun [] (ns.map atR)) (atR n) := fun i n hn => by
  have := run_fix (ns.map atR) [] hb1 i (atR n) (by rw [List.getElem?_map, hn]; rfl)
  rw [List.length_nil, Nat.zero_add] at this
  exact this
 have hfix1 : ∀ i n, ns[i]? = some n → knownT (tyRun [] (ns.map atR)) (i : Nat) = tyR (tyRun [] (ns.map atR)) (setR n (((ns[i]?).map (fun m => (m.at_ : Int))).getD 0)) := fun i n hn => by
  rw [hfix0 i n hn, hn]; rfl
 obtain ⟨_, halk⟩ := wt_alike (ρ := fun i => ((ns[i]?).map (fun m => (m.at_ : Int))).getD 0) hfix1 hwt [] 0 [] ns [] hna (by simp) rfl (fun s U h => by simp [look] at h)
 rw [Nat.zero_add, ← hna.len] at halk
 have hal1 : AlikeT [] (ns.map atR) := alike_rec _ _ hb1 (fun i n hn hf => by
  rw [List.getElem?_map] at hn
  obtain ⟨m, hm, rfl⟩ := Option.map_eq_some_iff.1 hn
  exact (halk i m (Nat.zero_le _) (List.getElem?_eq_some_iff.1 hm).1 hm).1 hf)
 have hsz1 : SzOk [] (ns.map atR) := sz_rec _ _ hb1 (fun i n hn hf => by
  rw [List.getElem?_map] at hn
  obtain ⟨m, hm, rfl⟩ := Option.map_eq_some_iff.1 hn
  exact (halk i m (Nat.zero_le _) (List.getElem?_eq_some_iff.1 hm).1 hm).2 hf)
 have hone := shE_one ns [] (List.range n0.beh) (fun t h => by simp at h) (by rw [List.length_range]; exact hat) hal1
 have hrun := allT_run (P := isPl ns) (ns.map atR) [] (fun t h => by simp at h) (fun n hn h4 => by
  obtain ⟨m, hm, rfl⟩ := List.mem_map.1 hn
  exact ⟨m, hm, h4, by simp [atR]⟩)
 refine ⟨hfix0, fun i n hn hf => (halk i n (Nat.zero_le _) (List.getElem?_eq_some_iff.1 hn).1 hn).1 hf, fun i n hn hf => ?_, fun q hq => ?_, fun i => allT_known hrun i, ?_, fun i => ?_⟩
 ·exact one_rec _ (ns.map atR) [] hb1 hone i (atR n) (by rw [List.getElem?_map, hn]; rfl) hf
 ·refine shE_min ns [] (List.range n0.beh) (fun t h => by simp at h) (by rw [List.length_range]; exact hat) (one_of q (ns.map atR) [] hb1 (fun i n hn hf => ?_)) (fun x => by rw [fst_range])
  rw [List.getElem?_map] at hn
  obtain ⟨m, hm, rfl⟩ := Option.map_eq_some_iff.1 hn
  exact hq i m hm hf
 ·exact shE_keep ns [] (List.range n0.beh) (fun i ⟨n, hn, _, he⟩ => by rw [List.length_range, ← he]; exact hat n hn) (fun i hi => by rw [fst_range]; exact hi) (fun t h => by simp at h) (fun n hn h4 => ⟨n, hn, h4, rfl⟩)
 ·have hs := sz_run (ns.map atR) [] (fun t h => by simp at h) hsz1
  unfold knownT
  split
  ·cases e : (ty1 ns)[i.toNat]? with
   | none => simp [Ty.size]
   | some t => exact hs t (List.mem_of_getElem? e)
  ·simp [Ty.size]
def PT.frm : PT → Nat
 | .num _ _ => 1
 | .name _ _ => 2
 | .node _ k _ _ _ => formK k
mutual
theorem form_at : ∀ {sc : Sc} {t : PT} {b : Nat} {ms : List NR}, NA sc t b ms → ∀ (id site j : Nat) (x : PT × Nat × Nat) (n : NR), (t.subs id site)[j]? = some x → ms[j]? = some n → n.form = x.1.frm
 | _, .num p s, b, ms, h, id, site, j, x, n, hx, hn => by
  simp only [NA] at h
  subst h
  have h1 := List.mem_of_getElem? hx
  have h2 := List.mem_of_getElem? hn
  simp only [PT.subs, List.mem_singleton] at h1 h2
  subst h1 h2; rfl
 | _, .name p s, b, ms, h, id, site, j, x, n, hx, hn => by
  simp only [NA] at h
  subst h
  have h1 := List.mem_of_getElem? hx
  have h2 := List.mem_of_getElem? hn
  simp only [PT.subs, List.mem_singleton] at h1 h2
  subst h1 h2; rfl
 | _, .node p k nm rg kids, b, ms, h, id, site, j, x, n, hx, hn => by
  simp only [NA] at h
  obtain ⟨ks, beh, h1, rfl⟩ := h
  have hkl := NAs.len h1
  have hsl := subsL_len kids (id + 1) (site + if k = .pair then 1 else 0)
  simp only [PT.subs] at hx
  rcases get_app hx with ⟨x1, x2⟩ | ⟨x1, x2⟩
  ·rw [List.getElem?_append_left (by omega)] at hn
   exact forms_at h1 _ _ j x n x2 hn
  ·rw [List.getElem?_append_right (by omega)] at hn
   have h3 := List.mem_of_getElem? x2
   have h4 := List.mem_of_getElem? hn
   simp only [List.mem_singleton] at h3 h4
   subst h3 h4; rfl
theorem forms_at : ∀ {sc : Sc} {nm : List UInt8} {ts : List PT} {bs : List Bool} {b : Nat} {ms : List NR}, NAs sc nm ts bs b ms → ∀ (id site j : Nat) (x : PT × Nat × Nat) (n : NR), (subsL ts id site)[j]? = some x → ms[j]? = some n → n.form = x.1.frm
 | _, _, [], _, _, _, _, _, _, _, _, _, hx, _ => by simp [subsL] at hx
 | _, _, _ :: _, [], _, _, h, _, _, _, _, _, _, _ => by simp [NAs] at h
 | _, _, t :: r, bb :: bs, b, ms, h, id, site, j, x, n, hx, hn => by
  simp only [NAs] at h
  obtain ⟨a, c, h1, h2, rfl⟩ := h
  have hal := NA.len h1
  have hsl := subs_len t id site
  simp only [subsL] at hx
  rcases get_app hx with ⟨x1, x2⟩ | ⟨x1, x2⟩
  ·rw [List.getElem?_append_left (by omega)] at hn
   exact form_at h1 _ _ j x n x2 hn
  ·rw [List.getElem?_append_right (by omega), hal, ← hsl] at hn
   exact forms_at h2 _ _ _ x n x2 hn
end
theorem ptd_some : ∀ {A B : List Nat} {x y : Nat}, ptd A B = some (x, y) → ∃ i : Nat, A[i]? = some x ∧ B[i]? = some y ∧ x ≠ y
 | [], _, _, _, h => by simp [ptd] at h
 | _ :: _, [], _, _, h => by simp [ptd] at h
 | a :: l, b :: m, x, y, h => by
  simp only [ptd] at h
  by_cases e : a = b
  ·rw [if_pos e] at h
   obtain ⟨i, h1, h2, h3⟩ := ptd_some h
   exact ⟨i + 1, by simpa using h1, by simpa using h2, h3⟩
  ·rw [if_neg e] at h
   simp only [Option.some.injEq, Prod.mk.injEq] at h
   exact ⟨0, by simp [h.1], by simp [h.2], by rw [← h.1, ← h.2]; exact e⟩
theorem ptd_none : ∀ {A B : List Nat}, A.length = B.length → ptd A B = none → A = B
 | [], [], _, _ => rfl
 | [], _ :: _, h, _ => by simp at h
 | _ :: _, [], h, _ => by simp at h
 | a :: l, b :: m, hl, h => by
  simp only [ptd] at h
  by_cases e : a = b
  ·rw [if_pos e] at h
   rw [e, ptd_none (by simpa using hl) h]
  ·rw [if_neg e] at h; simp at h
theorem rgl_map (f : Nat → Nat) : ∀ t : Ty, (mapT f t).rgl = t.rgl.map f
 | .n => rfl
 | .p r a b => by simp [mapT, Ty.rgl, rgl_map f a, rgl_map f b]
theorem map_rgl (f : Nat → Nat) : ∀ (a b : Ty), a.bare = b.bare → a.rgl.map f = b.rgl.map f → mapT f a = mapT f b
 | .n, .n, _, _ => rfl
 | .n, .p _ _ _, h, _ => by simp [Ty.bare] at h
 | .p _ _ _, .n, h, _ => by simp [Ty.bare] at h
 | .p r a b, .p s c d, h, e => by
  simp only [Ty.bare, Ty.p.injEq, true_and] at h
  have hsz : a.rgl.length = c.rgl.length := by rw [rgl_len, rgl_len, ← bare_sizeE a, ← bare_sizeE c, h.1]
  simp only [Ty.rgl, List.map_cons, List.map_append, List.cons.injEq] at e
  obtain ⟨e1, e2⟩ := List.append_inj e.2 (by simpa using hsz)
  simp only [mapT, Ty.p.injEq]
  exact ⟨e.1, map_rgl f a c h.1 e1, map_rgl f b d h.2 e2⟩
theorem ptdL_some {TY : List Ty} {q : Nat × Nat} : ∀ {l : List (PT × Nat × Nat)}, ptdL TY l = some q → ∃ x ∈ l, ptdX TY x = some q
 | [], h => by simp [ptdL] at h
 | x :: r, h => by
  simp only [ptdL] at h
  cases e : ptdX TY x with
  | some q' => rw [e] at h; simp only [Option.some.injEq] at h; exact ⟨x, by simp, by rw [e, h]⟩
  | none =>
   rw [e] at h
   obtain ⟨y, h1, h2⟩ := ptdL_some h
   exact ⟨y, by simp [h1], h2⟩
theorem ptdL_none {TY : List Ty} : ∀ {l : List (PT × Nat × Nat)}, ptdL TY l = none → ∀ x ∈ l, ptdX TY x = none
 | [], _, x, hx => by simp at hx
 | y :: r, h, x, hx => by
  simp only [ptdL] at h
  cases e : ptdX TY y with
  | some q' => rw [e] at h; simp at h
  | none =>
   rw [e] at h
   rcases List.mem_cons.1 hx with rfl | hx
   ·exact e
   ·exact ptdL_none h x hx
def cF (e : PT) (c : List Nat) (x : Nat) : Nat := c.getD ((plc e).idxOf x) 0
def tyC (e : PT) (ns : List NR) (c : List Nat) : List Ty := (opn e 0).map fun z => mapT (cF e c) (knownT (ty1 ns) z)
theorem idx_at {l : List Nat} (h : l.Pairwise (· < ·)) {i x : Nat} (hx : l[i]? = some x) : l.idxOf x = i := by
 obtain ⟨hl, he⟩ := List.getElem?_eq_some_iff.1 hx
 have hnd : l.Nodup := h.imp (fun hab => Nat.ne_of_lt hab)
 rw [← he]
 exact hnd.idxOf_getElem i hl
theorem cF_at {e : PT} {ns : List NR} {lo hi : Nat} (hpos : PosN e ns lo hi) (c : List Nat) {i x : Nat} (hx : (plc e)[i]? = some x) : cF e c x = c.getD i 0 := by
 unfold cF; rw [idx_at (l := plc e) (prl_rise e ns lo hi hpos).1 hx]
theorem tyC_len (e : PT) (ns : List NR) (c : List Nat) : (tyC e ns c).length = e.cnt := by unfold tyC; rw [List.length_map, opn_len]
theorem tyC_at (e : PT) (ns : List NR) (c : List Nat) {j : Nat} {x : PT × Nat × Nat} (hx : (e.subs 0 0)[j]? = some x) : (tyC e ns c)[x.2.1]? = some (mapT (cF e c) (knownT (ty1 ns) (j : Nat))) := by
 have hi := subs_ids e 0 0 x (List.mem_of_getElem? hx)
 have hp := cnt_pos x.1
 obtain ⟨j', r, g1, g2, g3⟩ := opn_ids e 0 0 0 x.2.1 (by omega)
 have hr : (e.recs 0 0)[j]? = some (recOf x) := by rw [recs_subs, List.getElem?_map, hx]; rfl
 have hjj : j' = j := recs_inj e 0 0 g2 hr (by rw [g3, recOf_id]; omega)
 subst hjj
 unfold tyC
 rw [List.getElem?_map, g1, Nat.zero_add]; rfl
theorem tyAt_C (e : PT) (ns : List NR) (c : List Nat) {j : Nat} {x : PT × Nat × Nat} (hx : (e.subs 0 0)[j]? = some x) : tyAt (tyC e ns c) x.2.1 = mapT (cF e c) (knownT (ty1 ns) (j : Nat)) := by
 unfold tyAt; rw [tyC_at e ns c hx]; rfl
theorem sh_any {e : PT} {U : Ty} {ns : List NR} {n0 : NR} {lo hi : Nat} (hC : ClsF e ns n0) (hwt : WT [] e U) (hnn : NoNew e) (hna : NA [] e 0 ns) (hpos : PosN e ns lo hi) (c : List Nat) (hl : c.length = e.prs) (hs : ∀ x ∈ c, x < 100) : ShI e (tyC e ns) e.prs c := by
 have hcls : clsP c (cF e c) e.prl 0 := fun i x hx => by
  rw [Nat.zero_add, cF_at hpos c (i := i) (by unfold plc; rw [List.getElem?_map, hx]; rfl)]
 have hfo := find_types (c := cF e c) (cls := c) hC.fix hwt hnn 0 0 [] (st0 e) [] 0 [] ns [] hna (by simp) rfl (fun s U h => by simp [look] at h) hcls (by simp [st0]) rfl
 have hcs : ∀ x, cF e c x < 100 := fun x => by
  unfold cF
  rw [List.getD]
  cases h : c[(plc e).idxOf x]? with
  | none => simp
  | some y => exact hs y (List.mem_of_getElem? h)
 refine ⟨hl, hs, Nat.le_refl _, tyC_len e ns c, fun T hT => ?_, ?_⟩
 ·unfold tyC at hT
  obtain ⟨z, _, rfl⟩ := List.mem_map.1 hT
  refine ⟨by rw [mapT_size]; have := hC.sz z; omega, ?_⟩
  generalize knownT (ty1 ns) z = t
  induction t with
  | n => exact trivial
  | p r a b iha ihb => exact ⟨by have := hcs r; omega, iha, ihb⟩
 ·apply List.ext_getElem?
  intro k
  by_cases hk : k < e.cnt
  ·obtain ⟨j, r, g1, g2, g3⟩ := opn_ids e 0 0 0 k hk
   rw [recs_subs, List.getElem?_map] at g2
   obtain ⟨x, hx, rfl⟩ := Option.map_eq_some_iff.1 g2
   rw [recOf_id] at g3
   have h1 := hfo.ft.at_ j x hx
   have h2 := tyC_at e ns c hx
   rw [show x.2.1 = k by omega, Nat.zero_add] at h1
   rw [show x.2.1 = k by omega] at h2
   rw [h1, List.getElem?_map, h2]; rfl
  ·rw [List.getElem?_eq_none (by rw [hfo.ft.len]; simp [st0]; omega), List.getElem?_eq_none (by rw [List.length_map, tyC_len]; omega)]
theorem ptdX_node {e : PT} {ns : List NR} (hna : NA [] e 0 ns) (hwf : e.wf) (c : List Nat) {j : Nat} {x : PT × Nat × Nat} {n : NR} (hx : (e.subs 0 0)[j]? = some x) (hn : ns[j]? = some n) :
  ((n.form = 7 ∨ n.form = 11) ∧ ptdX (tyC e ns c) x = ptd ((knownT (ty1 ns) n.p1).rgl.map (cF e c)) ((knownT (ty1 ns) n.p2).rgl.map (cF e c))) ∨ (¬ (n.form = 7 ∨ n.form = 11) ∧ ptdX (tyC e ns c) x = none) := by
 have hf := form_at hna 0 0 j x n hx hn
 have hk := kid_at hna 0 0 j x n hx hn
 have hw := subs_wf e 0 0 hwf x (List.mem_of_getElem? hx)
 rcases pcase (tyC e ns c) x hw with ⟨hop, p, k, nm, rg, u, v, z, hxe, hpx⟩ | ⟨h1, h2, hpx⟩
 ·left
  obtain ⟨f1, i1, i2, s1, s2, e1, e2, e3, e4⟩ := hk p k nm rg u v z hxe
  have q1 := tyAt_C e ns c e3
  have q2 := tyAt_C e ns c e4
  rw [Nat.zero_add] at e1 e2
  refine ⟨?_, ?_⟩
  ·rw [f1]
   obtain ⟨t, i, s⟩ := x
   simp only at hxe
   subst hxe
   simp only [recOf] at hop
   cases k <;> simp [Kw.bytes] at hop <;> decide
  ·rw [hpx]
   simp only at q1 q2
   rw [q1, q2, e1, e2, rgl_map, rgl_map]
 ·right
  refine ⟨?_, hpx⟩
  intro h
  rw [hf] at h
  obtain ⟨t, i, s⟩ := x
  cases t with
  | num p s => simp [PT.frm] at h
  | name p s => simp [PT.frm] at h
  | node p k nm rg kids =>
   simp only [recOf] at h1 h2
   simp only [PT.frm] at h
   cases k <;> first | exact h1 rfl | exact h2 rfl | (revert h; decide)
end Go.Proofs.YtpicaknklgccoaaGreatDoor
