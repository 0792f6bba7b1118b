import Derived.Test.YtpicaknklgccoaaGreatDoorX32
import Derived.Test.YtpicaknklgccoaaGreatDoorX33
import Derived.Test.YtpicaknklgccoaaGreatDoorX17
import Derived.Test.YtpicaknklgccoaaGreatDoorX26
namespace Go.Proofs.YtpicaknklgccoaaGreatDoor
open Go.Lib (decDigits)
structure Lay2 (regs news : List Int) (ns : List NR) (T2 : List Ty) : Prop where
 ty : ∀ i n, ns[i]? = some n → knownT T2 (i : Nat) = tyR T2 (setR n (rgV regs i))
 pr : LyT regs ns
 one : ∀ (i : Nat) n, ns[i]? = some n → n.form = 7 ∨ n.form = 11 → knownT T2 n.p1 = knownT T2 n.p2
 nw : ∀ r i : Nat, news[r]? = some (i : Int) → (knownT T2 i).has r = false
def EnvM (T2 : List Ty) (G GR : TEnv) (sc : Sc) : Prop := ∀ s U, look G s = some U → ∃ i : Nat, findS sc s = (i : Int) ∧ look GR s = some (knownT T2 i) ∧ (knownT T2 i).bare = U
theorem EnvM.snoc {T2 : List Ty} {G GR : TEnv} {sc : Sc} {nm : List UInt8} {U : Ty} {i : Nat} (h : EnvM T2 G GR sc) (hu : (knownT T2 i).bare = U) (z : Int) (hz : z = (i : Int)) : EnvM T2 (G ++ [(nm, U)]) (GR ++ [(nm, knownT T2 i)]) (sc ++ [(nm, z)]) := fun s V hs => by
 subst hz
 rw [look_snoc'] at hs
 rw [findS_snocO, look_snoc']
 by_cases e : nm = s
 ·rw [if_pos e] at hs
  rw [if_pos e, if_pos e]
  simp only [Option.some.injEq] at hs
  subst hs
  exact ⟨i, rfl, rfl, hu⟩
 ·rw [if_neg e] at hs
  rw [if_neg e, if_neg e]
  exact h s V hs
theorem valueH (r : Nat) : valueL (35 :: decDigits r) = (r : Int) := by
 have : valueL (35 :: decDigits r) = valueL (decDigits r) := by unfold valueL; rw [List.foldl_cons]; rfl
 rw [this, value_dec]
theorem wrap_wtr {GR : TEnv} {t : PT} {V : Ty} (i : Int) (h : WTR GR t V) : ∀ (l : List Int) (r : Nat), (∀ j, l[j]? = some i → V.has ((r + j : Nat) : Int) = false) → WTR GR (wrapN l r i t) V
 | [], _, _ => h
 | a :: l, r, hh => by
  have ih := wrap_wtr i h l (r + 1) (fun j hj => by rw [show r + 1 + j = r + (j + 1) by omega]; exact hh (j + 1) (by simpa using hj))
  simp only [wrapN]
  split
  ·rename_i e
   refine .new ih ?_
   rw [valueH]
   exact hh 0 (by simp [e])
  ·exact ih
theorem at_root {ns pre ks post : List NR} {n : NR} (h : ns = pre ++ ((ks ++ [n]) ++ post)) : ns[pre.length + ks.length]? = some n := by
 rw [h]
 exact at_mid pre _ post ks.length n (by rw [List.getElem?_append_right (Nat.le_refl _), Nat.sub_self]; rfl)
theorem Lay2.nw0 {regs news : List Int} {ns : List NR} {T2 : List Ty} (H : Lay2 regs news ns T2) (i : Nat) : ∀ j, news[j]? = some (i : Int) → (knownT T2 i).has ((0 + j : Nat) : Int) = false := fun j hj => by rw [Nat.zero_add]; exact H.nw j i hj
theorem idx_cnt (b c : Nat) : (((b + (1 + c) : Nat) : Int) - 1) = ((b + c : Nat) : Int) := by omega
theorem idx_pos (b : Nat) (t : PT) : ∃ i : Nat, (((b + t.cnt : Nat) : Int) - 1) = (i : Int) ∧ i = b + t.cnt - 1 := ⟨b + t.cnt - 1, by have := cnt_pos' t; omega, rfl⟩
theorem lay_wtr {regs news : List Int} {ns : List NR} {T2 : List Ty} (H : Lay2 regs news ns T2) {G : TEnv} {e : PT} {U : Ty} (h : WT G e U) : NoNew e → e.tame → ∀ (GR : TEnv) (sc : Sc) (b : Nat) (pre ms post : List NR), NA sc e b ms → ns = pre ++ (ms ++ post) → pre.length = b → EnvM T2 G GR sc →
  WTR GR (e.lay regs news b) (knownT T2 (((b + e.cnt : Nat) : Int) - 1)) ∧ (knownT T2 (((b + e.cnt : Nat) : Int) - 1)).bare = U := by
 induction h with
 | @num G p s =>
  intro _ ht GR sc b pre ms post hna hns hb hE
  simp only [NA] at hna
  subst hna
  simp only [PT.tame] at ht
  have hn := at_root (ks := []) hns
  rw [hb] at hn
  have hty := H.ty _ _ hn
  have hV : knownT T2 (((b + (PT.num p s).cnt : Nat) : Int) - 1) = .n := by
   rw [show (((b + (PT.num p s).cnt : Nat) : Int) - 1) = ((b + ([] : List NR).length : Nat) : Int) from by simp only [PT.cnt, List.length_nil]; omega, hty]
   simp [tyR, setR]
  rw [hV]
  refine ⟨?_, rfl⟩
  have hnw := H.nw0 b
  have hb2 : (((b + (PT.num p s).cnt : Nat) : Int) - 1) = (b : Int) := by simp only [PT.cnt]; omega
  rw [hb2] at hV
  rw [hV] at hnw
  unfold PT.lay
  rw [hb2]
  refine wrap_wtr _ (.num ?_) news 0 hnw
  rw [value_dec]; omega
 | @name G p s T hs =>
  intro _ ht GR sc b pre ms post hna hns hb hE
  simp only [NA] at hna
  subst hna
  have hn := at_root (ks := []) hns
  rw [hb] at hn
  have hty := H.ty _ _ hn
  obtain ⟨i, h1, h2, h3⟩ := hE _ _ hs
  have hb2 : (((b + (PT.name p s).cnt : Nat) : Int) - 1) = (b : Int) := by simp only [PT.cnt]; omega
  have hV : knownT T2 (b : Int) = knownT T2 (i : Int) := by
   rw [show (b : Int) = ((b + ([] : List NR).length : Nat) : Int) by simp, hty]
   simp [tyR, setR, h1]
  have hnw := H.nw0 b
  rw [hb2, hV]
  rw [hV] at hnw
  refine ⟨?_, h3⟩
  unfold PT.lay
  rw [hb2]
  exact wrap_wtr _ (.name h2) news 0 hnw
 | @let_ G p nm rg a b UA UB ha hb iha ihb =>
  intro hn ht GR sc bs pre ms post hna hns hbs hE
  cases hn with
  | node _ hn =>
  simp only [PT.tame, tameL] at ht
  simp only [NA, bodK, NAs, Bool.false_eq_true, if_false, if_true] at hna
  obtain ⟨ks, beh, ⟨a1, c1, hn1, ⟨a2, c2, hn2, ⟨_, rfl⟩, rfl⟩, rfl⟩, rfl⟩ := hna
  rw [List.append_nil] at hns
  have la := NA.len hn1
  have lb := NA.len hn2
  have hroot := at_root hns
  rw [hbs, List.length_append, la, lb] at hroot
  have hty := H.ty _ _ hroot
  obtain ⟨hwa, hba⟩ := iha (hn _ (by simp)) ht.2.1 GR sc bs pre a1 (a2 ++ ([_] ++ post)) hn1 (by rw [hns]; simp only [List.append_assoc]; rfl) hbs hE
  obtain ⟨ia, hia, hia2⟩ := idx_pos bs a
  rw [hia] at hwa hba
  obtain ⟨hwb, hbb⟩ := ihb (hn _ (by simp)) ht.2.2.1 (GR ++ [(nm, knownT T2 ia)]) _ (bs + a.cnt) (pre ++ a1) a2 ([_] ++ post) hn2 (by rw [hns]; simp only [List.append_assoc]; rfl) (by rw [List.length_append, hbs, la]) (hE.snoc hba _ (by omega))
  have hV : knownT T2 ((bs + (a.cnt + b.cnt) : Nat) : Int) = knownT T2 (((bs + a.cnt + b.cnt : Nat) : Int) - 1) := by
   rw [hty]
   simp only [tyR, setR, fk_let, partsL, List.getD_cons_succ, List.getD_cons_zero]
   simp
  have hnw := H.nw0 (bs + (a.cnt + b.cnt))
  simp only [PT.lay, PT.cnt, cntL, Nat.add_zero, idx_cnt, PT.lay0]
  rw [hV] at hnw ⊢
  exact ⟨wrap_wtr _ (.let_ hwa hwb) news 0 hnw, hbb⟩
 | @pair G p nm rg a b UA UB ha hb hsz iha ihb =>
  intro hn ht GR sc bs pre ms post hna hns hbs hE
  cases hn with
  | node _ hn =>
  simp only [PT.tame, tameL] at ht
  simp only [NA, bodK, NAs, Bool.false_eq_true, if_false] at hna
  obtain ⟨ks, beh, ⟨a1, c1, hn1, ⟨a2, c2, hn2, ⟨_, rfl⟩, rfl⟩, rfl⟩, rfl⟩ := hna
  rw [List.append_nil] at hns
  have la := NA.len hn1
  have lb := NA.len hn2
  have hroot := at_root hns
  rw [hbs, List.length_append, la, lb] at hroot
  have hty := H.ty _ _ hroot
  have hpr := (H.pr _ _ hroot).1 rfl
  obtain ⟨hwa, hba⟩ := iha (hn _ (by simp)) ht.2.1 GR sc bs pre a1 (a2 ++ ([_] ++ post)) hn1 (by rw [hns]; simp only [List.append_assoc]; rfl) hbs hE
  obtain ⟨hwb, hbb⟩ := ihb (hn _ (by simp)) ht.2.2.1 GR sc (bs + a.cnt) (pre ++ a1) a2 ([_] ++ post) hn2 (by rw [hns]; simp only [List.append_assoc]; rfl) (by rw [List.length_append, hbs, la]) hE
  have hV : knownT T2 ((bs + (a.cnt + b.cnt) : Nat) : Int) = .p (rgV regs (bs + (a.cnt + b.cnt))).toNat (knownT T2 (((bs + a.cnt : Nat) : Int) - 1)) (knownT T2 (((bs + a.cnt + b.cnt : Nat) : Int) - 1)) := by
   rw [hty]
   simp only [tyR, setR, fk_pair, partsL, List.getD_cons_succ, List.getD_cons_zero]
   simp
  have hnw := H.nw0 (bs + (a.cnt + b.cnt))
  simp only [PT.lay, PT.cnt, cntL, Nat.add_zero, idx_cnt, PT.lay0]
  rw [hV] at hnw ⊢
  refine ⟨wrap_wtr _ (.pair ?_ hwa hwb) news 0 hnw, by simp only [Ty.bare, hba, hbb]⟩
  unfold rgW
  rw [if_neg (by omega), valueH]
 | @fst G p nm rg a UA UB ha iha =>
  intro hn ht GR sc bs pre ms post hna hns hbs hE
  cases hn with
  | node _ hn =>
  simp only [PT.tame, tameL] at ht
  simp only [NA, bodK, NAs, Bool.false_eq_true, if_false] at hna
  obtain ⟨ks, beh, ⟨a1, c1, hn1, ⟨_, rfl⟩, rfl⟩, rfl⟩ := hna
  rw [List.append_nil] at hns
  have la := NA.len hn1
  have hroot := at_root hns
  rw [hbs, la] at hroot
  have hty := H.ty _ _ hroot
  obtain ⟨hwa, hba⟩ := iha (hn _ (by simp)) ht.2.1 GR sc bs pre a1 ([_] ++ post) hn1 (by rw [hns]; simp only [List.append_assoc]; rfl) hbs hE
  have hV : knownT T2 ((bs + a.cnt : Nat) : Int) = fstT (knownT T2 (((bs + a.cnt : Nat) : Int) - 1)) := by
   rw [hty]
   simp only [tyR, setR, fk_fst, partsL, List.getD_cons_succ, List.getD_cons_zero]
   simp
  obtain ⟨r, u, v, hp, hu, hv⟩ := bare_pair hba
  rw [hp] at hwa hV
  have hnw := H.nw0 (bs + a.cnt)
  simp only [PT.lay, PT.cnt, cntL, Nat.add_zero, idx_cnt, PT.lay0]
  rw [hV] at hnw ⊢
  exact ⟨wrap_wtr _ (.fst hwa) news 0 hnw, hu⟩
 | @snd G p nm rg a UA UB ha iha =>
  intro hn ht GR sc bs pre ms post hna hns hbs hE
  cases hn with
  | node _ hn =>
  simp only [PT.tame, tameL] at ht
  simp only [NA, bodK, NAs, Bool.false_eq_true, if_false] at hna
  obtain ⟨ks, beh, ⟨a1, c1, hn1, ⟨_, rfl⟩, rfl⟩, rfl⟩ := hna
  rw [List.append_nil] at hns
  have la := NA.len hn1
  have hroot := at_root hns
  rw [hbs, la] at hroot
  have hty := H.ty _ _ hroot
  obtain ⟨hwa, hba⟩ := iha (hn _ (by simp)) ht.2.1 GR sc bs pre a1 ([_] ++ post) hn1 (by rw [hns]; simp only [List.append_assoc]; rfl) hbs hE
  have hV : knownT T2 ((bs + a.cnt : Nat) : Int) = sndT (knownT T2 (((bs + a.cnt : Nat) : Int) - 1)) := by
   rw [hty]
   simp only [tyR, setR, fk_snd, partsL, List.getD_cons_succ, List.getD_cons_zero]
   simp
  obtain ⟨r, u, v, hp, hu, hv⟩ := bare_pair hba
  rw [hp] at hwa hV
  have hnw := H.nw0 (bs + a.cnt)
  simp only [PT.lay, PT.cnt, cntL, Nat.add_zero, idx_cnt, PT.lay0]
  rw [hV] at hnw ⊢
  exact ⟨wrap_wtr _ (.snd hwa) news 0 hnw, hv⟩
 | @if_ G p nm rg a b c U ha hb hc iha ihb ihc =>
  intro hn ht GR sc bs pre ms post hna hns hbs hE
  cases hn with
  | node _ hn =>
  simp only [PT.tame, tameL] at ht
  simp only [NA, bodK, NAs, Bool.false_eq_true, if_false] at hna
  obtain ⟨ks, beh, ⟨a1, c1, hn1, ⟨a2, c2, hn2, ⟨a3, c3, hn3, ⟨_, rfl⟩, rfl⟩, rfl⟩, rfl⟩, rfl⟩ := hna
  rw [List.append_nil] at hns
  have la := NA.len hn1
  have lb := NA.len hn2
  have lc := NA.len hn3
  have hroot := at_root hns
  rw [hbs, List.length_append, List.length_append, la, lb, lc] at hroot
  have hty := H.ty _ _ hroot
  have hone := H.one _ _ hroot (Or.inl rfl)
  simp only [partsL, List.getD_cons_succ, List.getD_cons_zero] at hone
  obtain ⟨hwa, hba⟩ := iha (hn _ (by simp)) ht.2.1 GR sc bs pre a1 (a2 ++ (a3 ++ ([_] ++ post))) hn1 (by rw [hns]; simp only [List.append_assoc]; rfl) hbs hE
  obtain ⟨hwb, hbb⟩ := ihb (hn _ (by simp)) ht.2.2.1 GR sc (bs + a.cnt) (pre ++ a1) a2 (a3 ++ ([_] ++ post)) hn2 (by rw [hns]; simp only [List.append_assoc]; rfl) (by rw [List.length_append, hbs, la]) hE
  obtain ⟨hwc, hbc⟩ := ihc (hn _ (by simp)) ht.2.2.2.1 GR sc (bs + a.cnt + b.cnt) (pre ++ a1 ++ a2) a3 ([_] ++ post) hn3 (by rw [hns]; simp only [List.append_assoc]; rfl) (by rw [List.length_append, List.length_append, hbs, la, lb]) hE
  have hV : knownT T2 ((bs + (a.cnt + (b.cnt + c.cnt)) : Nat) : Int) = knownT T2 (((bs + a.cnt + b.cnt : Nat) : Int) - 1) := by
   rw [hty]
   simp only [tyR, setR, fk_if, partsL, List.getD_cons_succ, List.getD_cons_zero]
   simp
  rw [bare_num hba] at hwa
  rw [← hone] at hwc
  have hnw := H.nw0 (bs + (a.cnt + (b.cnt + c.cnt)))
  simp only [PT.lay, PT.cnt, cntL, Nat.add_zero, idx_cnt, PT.lay0]
  rw [hV] at hnw ⊢
  exact ⟨wrap_wtr _ (.if_ hwa hwb hwc) news 0 hnw, hbb⟩
 | @two G p k nm rg a b hkk ha hb iha ihb =>
  intro hn ht GR sc bs pre ms post hna hns hbs hE
  have hkb : bodK k = [false, false] := by rcases hkk with rfl | rfl | rfl <;> rfl
  have hkf : formK k = 8 ∨ formK k = 9 ∨ formK k = 10 := by rcases hkk with rfl | rfl | rfl <;> decide
  cases hn with
  | node _ hn =>
  simp only [PT.tame, tameL] at ht
  simp only [NA, hkb, NAs, Bool.false_eq_true, if_false] at hna
  obtain ⟨ks, beh, ⟨a1, c1, hn1, ⟨a2, c2, hn2, ⟨_, rfl⟩, rfl⟩, rfl⟩, rfl⟩ := hna
  rw [List.append_nil] at hns
  have la := NA.len hn1
  have lb := NA.len hn2
  have hroot := at_root hns
  rw [hbs, List.length_append, la, lb] at hroot
  have hty := H.ty _ _ hroot
  obtain ⟨hwa, hba⟩ := iha (hn _ (by simp)) ht.2.1 GR sc bs pre a1 (a2 ++ ([_] ++ post)) hn1 (by rw [hns]; simp only [List.append_assoc]; rfl) hbs hE
  obtain ⟨hwb, hbb⟩ := ihb (hn _ (by simp)) ht.2.2.1 GR sc (bs + a.cnt) (pre ++ a1) a2 ([_] ++ post) hn2 (by rw [hns]; simp only [List.append_assoc]; rfl) (by rw [List.length_append, hbs, la]) hE
  have hV : knownT T2 ((bs + (a.cnt + b.cnt) : Nat) : Int) = .n := by
   rw [hty]
   simp only [tyR, setR]
   rcases hkf with h | h | h <;> simp [h]
  rw [bare_num hba] at hwa
  rw [bare_num hbb] at hwb
  have hnw := H.nw0 (bs + (a.cnt + b.cnt))
  simp only [PT.lay, PT.cnt, cntL, Nat.add_zero, idx_cnt, PT.lay0]
  rw [hV] at hnw ⊢
  exact ⟨wrap_wtr _ (.two hkk hwa hwb) news 0 hnw, rfl⟩
 | @loop G p nm rg a b c U ha hb hc iha ihb ihc =>
  intro hn ht GR sc bs pre ms post hna hns hbs hE
  cases hn with
  | node _ hn =>
  simp only [PT.tame, tameL] at ht
  simp only [NA, bodK, NAs, Bool.false_eq_true, if_false, if_true] at hna
  obtain ⟨ks, beh, ⟨a1, c1, hn1, ⟨a2, c2, hn2, ⟨a3, c3, hn3, ⟨_, rfl⟩, rfl⟩, rfl⟩, rfl⟩, rfl⟩ := hna
  rw [List.append_nil] at hns
  have la := NA.len hn1
  have lb := NA.len hn2
  have lc := NA.len hn3
  have hroot := at_root hns
  rw [hbs, List.length_append, List.length_append, la, lb, lc] at hroot
  have hty := H.ty _ _ hroot
  have hone := H.one _ _ hroot (Or.inr rfl)
  simp only [partsL, List.getD_cons_succ, List.getD_cons_zero] at hone
  obtain ⟨hwa, hba⟩ := iha (hn _ (by simp)) ht.2.1 GR sc bs pre a1 (a2 ++ (a3 ++ ([_] ++ post))) hn1 (by rw [hns]; simp only [List.append_assoc]; rfl) hbs hE
  obtain ⟨hwb, hbb⟩ := ihb (hn _ (by simp)) ht.2.2.1 GR sc (bs + a.cnt) (pre ++ a1) a2 (a3 ++ ([_] ++ post)) hn2 (by rw [hns]; simp only [List.append_assoc]; rfl) (by rw [List.length_append, hbs, la]) hE
  obtain ⟨ib, hib, hib2⟩ := idx_pos (bs + a.cnt) b
  rw [hib] at hwb hbb hone
  obtain ⟨hwc, hbc⟩ := ihc (hn _ (by simp)) ht.2.2.2.1 (GR ++ [(nm, knownT T2 ib)]) _ (bs + a.cnt + b.cnt) (pre ++ a1 ++ a2) a3 ([_] ++ post) hn3 (by rw [hns]; simp only [List.append_assoc]; rfl) (by rw [List.length_append, List.length_append, hbs, la, lb]) (hE.snoc hbb _ (by omega))
  have hV : knownT T2 ((bs + (a.cnt + (b.cnt + c.cnt)) : Nat) : Int) = knownT T2 (ib : Int) := by
   rw [hty, ← hib]
   simp only [tyR, setR, fk_loop, partsL, List.getD_cons_succ, List.getD_cons_zero]
   simp
  rw [bare_num hba] at hwa
  rw [← hone] at hwc
  have hnw := H.nw0 (bs + (a.cnt + (b.cnt + c.cnt)))
  simp only [PT.lay, PT.cnt, cntL, Nat.add_zero, idx_cnt, PT.lay0]
  rw [hV] at hnw ⊢
  exact ⟨wrap_wtr _ (.loop hwa hwb hwc) news 0 hnw, hbb⟩
 | new _ _ =>
  intro hn
  cases hn with
  | node hk _ => exact absurd rfl hk
end Go.Proofs.YtpicaknklgccoaaGreatDoor
namespace Go.Proofs.YtpicaknklgccoaaGreatDoor
theorem knownT_pre {T X : List Ty} {p : Int} (h : p < T.length) : knownT (T ++ X) p = knownT T p := by
 unfold knownT
 split
 ·rw [List.getElem?_append_left (by omega)]
 ·rfl
theorem run_pre : ∀ (ns : List NR) (T : List Ty), ∃ X, tyRun T ns = T ++ X ∧ X.length = ns.length
 | [], T => ⟨[], by simp [tyRun], rfl⟩
 | n :: r, T => by
  obtain ⟨X, h1, h2⟩ := run_pre r (T ++ [tyR T n])
  exact ⟨tyR T n :: X, by simp only [tyRun, h1, List.append_assoc, List.singleton_append], by simp [h2]⟩
def BackN (k : Nat) (n : NR) : Prop := n.p0 < k ∧ n.p1 < k ∧ n.p2 < k ∧ n.source < k
theorem tyR_pre {T X : List Ty} {n : NR} (h : BackN T.length n) : tyR (T ++ X) n = tyR T n := by
 unfold tyR
 rw [knownT_pre h.1, knownT_pre h.2.1, knownT_pre h.2.2.2]
theorem run_fix : ∀ (ns : List NR) (T : List Ty), (∀ (i : Nat) n, ns[i]? = some n → BackN (T.length + i) n) → ∀ (i : Nat) n, ns[i]? = some n → knownT (tyRun T ns) ((T.length + i : Nat) : Int) = tyR (tyRun T ns) n
 | [], _, _, i, n, h => by simp at h
 | m :: r, T, hb, i, n, h => by
  simp only [tyRun]
  cases i with
  | zero =>
   simp only [List.getElem?_cons_zero, Option.some.injEq] at h
   subst h
   obtain ⟨X, h1, _⟩ := run_pre r (T ++ [tyR T m])
   have hbm : BackN T.length m := by simpa using hb 0 m (by simp)
   rw [h1, List.append_assoc, tyR_pre hbm]
   unfold knownT
   rw [if_pos (by omega), Int.toNat_natCast, Nat.add_zero, List.getElem?_append_right (Nat.le_refl _), Nat.sub_self]; rfl
  | succ j =>
   have := run_fix r (T ++ [tyR T m]) (fun k x hx => by have := hb (k + 1) x (by simpa using hx); rw [List.length_append, List.length_singleton]; rwa [show T.length + 1 + k = T.length + (k + 1) by omega]) j n (by simpa using h)
   rw [List.length_append, List.length_singleton, show T.length + 1 + j = T.length + (j + 1) by omega] at this
   exact this
theorem alike_rec : ∀ (ns : List NR) (T : List Ty), (∀ (i : Nat) n, ns[i]? = some n → BackN (T.length + i) n) → (∀ (i : Nat) n, ns[i]? = some n → n.form = 7 ∨ n.form = 11 → (knownT (tyRun T ns) n.p1).bare = (knownT (tyRun T ns) n.p2).bare) → AlikeT T ns
 | [], _, _, _ => trivial
 | m :: r, T, hb, ha => by
  obtain ⟨X, h1, _⟩ := run_pre r (T ++ [tyR T m])
  have hbm : BackN T.length m := by simpa using hb 0 m (by simp)
  simp only [AlikeT]
  refine ⟨fun hf => ?_, alike_rec r _ (fun k x hx => ?_) (fun k x hx => ?_)⟩
  ·have := ha 0 m (by simp) hf
   simp only [tyRun] at this
   rw [h1, List.append_assoc, knownT_pre hbm.2.1, knownT_pre hbm.2.2.1] at this
   rw [knownT_pre hbm.2.1, knownT_pre hbm.2.2.1]; exact this
  ·have := hb (k + 1) x (by simpa using hx)
   rw [List.length_append, List.length_singleton, show T.length + 1 + k = T.length + (k + 1) by omega]; exact this
  ·have := ha (k + 1) x (by simpa using hx)
   simp only [tyRun] at this; exact this
theorem one_rec (c : Nat → Nat) : ∀ (ns : List NR) (T : List Ty), (∀ (i : Nat) n, ns[i]? = some n → BackN (T.length + i) n) → OneT c T ns → ∀ (i : Nat) n, ns[i]? = some n → n.form = 7 ∨ n.form = 11 → mapT c (knownT (tyRun T ns) n.p1) = mapT c (knownT (tyRun T ns) n.p2)
 | [], _, _, _, i, n, h => by simp at h
 | m :: r, T, hb, ho, i, n, h => by
  obtain ⟨X, h1, _⟩ := run_pre r (T ++ [tyR T m])
  have hbm : BackN T.length m := by simpa using hb 0 m (by simp)
  simp only [OneT] at ho
  simp only [tyRun]
  cases i with
  | zero =>
   simp only [List.getElem?_cons_zero, Option.some.injEq] at h
   subst h
   intro hf
   have := ho.1 hf
   rw [knownT_pre hbm.2.1, knownT_pre hbm.2.2.1] at this
   rw [h1, List.append_assoc, knownT_pre hbm.2.1, knownT_pre hbm.2.2.1]; exact this
  | succ j =>
   exact one_rec c r _ (fun k x hx => by have := hb (k + 1) x (by simpa using hx); rw [List.length_append, List.length_singleton, show T.length + 1 + k = T.length + (k + 1) by omega]; exact this) ho.2 j n (by simpa using h)
theorem sz_rec : ∀ (ns : List NR) (T : List Ty), (∀ (i : Nat) n, ns[i]? = some n → BackN (T.length + i) n) → (∀ (i : Nat) n, ns[i]? = some n → n.form = 4 → (Ty.p 0 (knownT (tyRun T ns) n.p0) (knownT (tyRun T ns) n.p1)).size ≤ 63) → SzOk T ns
 | [], _, _, _ => trivial
 | m :: r, T, hb, ha => by
  obtain ⟨X, h1, _⟩ := run_pre r (T ++ [tyR T m])
  have hbm : BackN T.length m := by simpa using hb 0 m (by simp)
  simp only [SzOk]
  refine ⟨fun hf => ?_, sz_rec r _ (fun k x hx => ?_) (fun k x hx => ?_)⟩
  ·have := ha 0 m (by simp) hf
   simp only [tyRun] at this
   rw [h1, List.append_assoc, knownT_pre hbm.1, knownT_pre hbm.2.1] at this
   exact this
  ·have := hb (k + 1) x (by simpa using hx)
   rw [List.length_append, List.length_singleton, show T.length + 1 + k = T.length + (k + 1) by omega]; exact this
  ·have := ha (k + 1) x (by simpa using hx)
   simp only [tyRun] at this; exact this
def EnvB (T : List Ty) (G : TEnv) (sc : Sc) : Prop := ∀ s U, look G s = some U → ∃ i : Nat, findS sc s = (i : Int) ∧ (knownT T i).bare = U
theorem EnvB.snoc {T : List Ty} {G : TEnv} {sc : Sc} {nm : List UInt8} {U : Ty} {z : Int} (h : EnvB T G sc) (hz : 0 ≤ z) (hu : (knownT T z).bare = U) : EnvB T (G ++ [(nm, U)]) (sc ++ [(nm, z)]) := fun s V hs => by
 rw [look_snoc'] at hs
 rw [findS_snocO]
 by_cases e : nm = s
 ·rw [if_pos e] at hs ⊢
  simp only [Option.some.injEq] at hs
  subst hs
  exact ⟨z.toNat, by omega, by rw [Int.toNat_of_nonneg hz]; exact hu⟩
 ·rw [if_neg e] at hs ⊢
  exact h s V hs
def AlkO (T : List Ty) (ns : List NR) (lo hi : Nat) : Prop := ∀ (i : Nat) n, lo ≤ i → i < hi → ns[i]? = some n → (n.form = 7 ∨ n.form = 11 → (knownT T n.p1).bare = (knownT T n.p2).bare) ∧ (n.form = 4 → (Ty.p 0 (knownT T n.p0) (knownT T n.p1)).size ≤ 63)
theorem AlkO.join {T : List Ty} {ns : List NR} {a b c : Nat} (h : AlkO T ns a b) (g : AlkO T ns b c) : AlkO T ns a c := fun i n h1 h2 hn => by
 by_cases e : i < b
 ·exact h i n h1 e hn
 ·exact g i n (by omega) h2 hn
theorem AlkO.root {T : List Ty} {ns : List NR} {k : Nat} {n : NR} (hn : ns[k]? = some n) (h1 : n.form = 7 ∨ n.form = 11 → (knownT T n.p1).bare = (knownT T n.p2).bare) (h2 : n.form = 4 → (Ty.p 0 (knownT T n.p0) (knownT T n.p1)).size ≤ 63) : AlkO T ns k (k + 1) := fun i m a b hm => by
 have : i = k := by omega
 subst this
 rw [hn] at hm
 simp only [Option.some.injEq] at hm
 subst hm
 exact ⟨h1, h2⟩
theorem idx_nn (b : Nat) (t : PT) : (0 : Int) ≤ ((b + t.cnt : Nat) : Int) - 1 := by have := cnt_pos' t; omega
theorem wt_alike {ns : List NR} {T : List Ty} {ρ : Nat → Int} (H : ∀ i n, ns[i]? = some n → knownT T (i : Nat) = tyR T (setR n (ρ i))) {G : TEnv} {e : PT} {U : Ty} (h : WT G e U) : NoNew e → ∀ (sc : Sc) (b : Nat) (pre ms post : List NR), NA sc e b ms → ns = pre ++ (ms ++ post) → pre.length = b → EnvB T G sc →
  (knownT T (((b + e.cnt : Nat) : Int) - 1)).bare = U ∧ AlkO T ns b (b + e.cnt) := by
 induction h with
 | @num G p s =>
  intro _ sc b pre ms post hna hns hb hE
  simp only [NA] at hna
  subst hna
  have hn := at_root (ks := []) hns
  rw [hb] at hn
  have hty := H _ _ hn
  simp only [List.length_nil, Nat.add_zero] at hn hty
  simp only [PT.cnt, show (((b + 1 : Nat) : Int) - 1) = (b : Int) by omega]
  rw [hty]
  exact ⟨by simp [tyR, setR, Ty.bare], AlkO.root hn (by simp) (by simp)⟩
 | @name G p s U hs =>
  intro _ sc b pre ms post hna hns hb hE
  simp only [NA] at hna
  subst hna
  have hn := at_root (ks := []) hns
  rw [hb] at hn
  have hty := H _ _ hn
  simp only [List.length_nil, Nat.add_zero] at hn hty
  obtain ⟨i, h1, h2⟩ := hE _ _ hs
  simp only [PT.cnt, show (((b + 1 : Nat) : Int) - 1) = (b : Int) by omega]
  rw [hty]
  exact ⟨by simp [tyR, setR, h1, h2], AlkO.root hn (by simp) (by simp)⟩
 | @let_ G p nm rg a b UA UB ha hb iha ihb =>
  intro hn sc bs pre ms post hna hns hbs hE
  cases hn with
  | node _ hn =>
  simp only [NA, bodK, NAs, Bool.false_eq_true, if_false, if_true] at hna
  obtain ⟨ks, beh, ⟨a1, c1, hn1, ⟨a2, c2, hn2, ⟨_, rfl⟩, rfl⟩, rfl⟩, rfl⟩ := hna
  rw [List.append_nil] at hns
  have la := NA.len hn1
  have lb := NA.len hn2
  have hroot := at_root hns
  rw [hbs, List.length_append, la, lb] at hroot
  have hty := H _ _ hroot
  obtain ⟨hba, oa⟩ := iha (hn _ (by simp)) sc bs pre a1 (a2 ++ ([_] ++ post)) hn1 (by rw [hns]; simp only [List.append_assoc]; rfl) hbs hE
  obtain ⟨hbb, ob⟩ := ihb (hn _ (by simp)) _ (bs + a.cnt) (pre ++ a1) a2 ([_] ++ post) hn2 (by rw [hns]; simp only [List.append_assoc]; rfl) (by rw [List.length_append, hbs, la]) (hE.snoc (idx_nn bs a) hba)
  simp only [PT.cnt, cntL, Nat.add_zero, idx_cnt]
  refine ⟨?_, ?_⟩
  ·rw [hty]
   simp only [tyR, setR, fk_let, partsL, List.getD_cons_succ, List.getD_cons_zero]
   simpa using hbb
  ·have := (oa.join ob).join (AlkO.root (by rw [Nat.add_assoc]; exact hroot) (by simp [fk_let]) (by simp [fk_let]))
   rwa [show bs + a.cnt + b.cnt + 1 = bs + (1 + (a.cnt + b.cnt)) by omega] at this
 | @pair G p nm rg a b UA UB ha hb hsz iha ihb =>
  intro hn sc bs pre ms post hna hns hbs hE
  cases hn with
  | node _ hn =>
  simp only [NA, bodK, NAs, Bool.false_eq_true, if_false] at hna
  obtain ⟨ks, beh, ⟨a1, c1, hn1, ⟨a2, c2, hn2, ⟨_, rfl⟩, rfl⟩, rfl⟩, rfl⟩ := hna
  rw [List.append_nil] at hns
  have la := NA.len hn1
  have lb := NA.len hn2
  have hroot := at_root hns
  rw [hbs, List.length_append, la, lb] at hroot
  have hty := H _ _ hroot
  obtain ⟨hba, oa⟩ := iha (hn _ (by simp)) sc bs pre a1 (a2 ++ ([_] ++ post)) hn1 (by rw [hns]; simp only [List.append_assoc]; rfl) hbs hE
  obtain ⟨hbb, ob⟩ := ihb (hn _ (by simp)) sc (bs + a.cnt) (pre ++ a1) a2 ([_] ++ post) hn2 (by rw [hns]; simp only [List.append_assoc]; rfl) (by rw [List.length_append, hbs, la]) hE
  simp only [PT.cnt, cntL, Nat.add_zero, idx_cnt]
  refine ⟨?_, ?_⟩
  ·rw [hty]
   simp only [tyR, setR, fk_pair, partsL, List.getD_cons_succ, List.getD_cons_zero]
   simp only [Nat.reduceEqDiff, if_false, if_true, Ty.bare, hba, hbb]
  ·have hs2 : (Ty.p 0 (knownT T (((bs + a.cnt : Nat) : Int) - 1)) (knownT T (((bs + a.cnt + b.cnt : Nat) : Int) - 1))).size ≤ 63 := by
    rw [← bare_sizeE]
    simp only [Ty.bare, hba, hbb]
    exact hsz
   have := (oa.join ob).join (AlkO.root (by rw [Nat.add_assoc]; exact hroot) (by simp [fk_pair]) (fun _ => by simpa only [partsL, List.getD_cons_succ, List.getD_cons_zero] using hs2))
   rwa [show bs + a.cnt + b.cnt + 1 = bs + (1 + (a.cnt + b.cnt)) by omega] at this
 | @fst G p nm rg a UA UB ha iha =>
  intro hn sc bs pre ms post hna hns hbs hE
  cases hn with
  | node _ hn =>
  simp only [NA, bodK, NAs, Bool.false_eq_true, if_false] at hna
  obtain ⟨ks, beh, ⟨a1, c1, hn1, ⟨_, rfl⟩, rfl⟩, rfl⟩ := hna
  rw [List.append_nil] at hns
  have la := NA.len hn1
  have hroot := at_root hns
  rw [hbs, la] at hroot
  have hty := H _ _ hroot
  obtain ⟨hba, oa⟩ := iha (hn _ (by simp)) sc bs pre a1 ([_] ++ post) hn1 (by rw [hns]; simp only [List.append_assoc]; rfl) hbs hE
  simp only [PT.cnt, cntL, Nat.add_zero, idx_cnt]
  obtain ⟨r, u, v, hp, hu, hv⟩ := bare_pair hba
  refine ⟨?_, ?_⟩
  ·rw [hty]
   simp only [tyR, setR, fk_fst, partsL, List.getD_cons_succ, List.getD_cons_zero]
   simp only [Nat.reduceEqDiff, if_false, if_true]
   rw [hp]; exact hu
  ·have := oa.join (AlkO.root hroot (by simp [fk_fst]) (by simp [fk_fst]))
   rwa [show bs + a.cnt + 1 = bs + (1 + a.cnt) by omega] at this
 | @snd G p nm rg a UA UB ha iha =>
  intro hn sc bs pre ms post hna hns hbs hE
  cases hn with
  | node _ hn =>
  simp only [NA, bodK, NAs, Bool.false_eq_true, if_false] at hna
  obtain ⟨ks, beh, ⟨a1, c1, hn1, ⟨_, rfl⟩, rfl⟩, rfl⟩ := hna
  rw [List.append_nil] at hns
  have la := NA.len hn1
  have hroot := at_root hns
  rw [hbs, la] at hroot
  have hty := H _ _ hroot
  obtain ⟨hba, oa⟩ := iha (hn _ (by simp)) sc bs pre a1 ([_] ++ post) hn1 (by rw [hns]; simp only [List.append_assoc]; rfl) hbs hE
  simp only [PT.cnt, cntL, Nat.add_zero, idx_cnt]
  obtain ⟨r, u, v, hp, hu, hv⟩ := bare_pair hba
  refine ⟨?_, ?_⟩
  ·rw [hty]
   simp only [tyR, setR, fk_snd, partsL, List.getD_cons_succ, List.getD_cons_zero]
   simp only [Nat.reduceEqDiff, if_false, if_true]
   rw [hp]; exact hv
  ·have := oa.join (AlkO.root hroot (by simp [fk_snd]) (by simp [fk_snd]))
   rwa [show bs + a.cnt + 1 = bs + (1 + a.cnt) by omega] at this
 | @if_ G p nm rg a b c U ha hb hc iha ihb ihc =>
  intro hn sc bs pre ms post hna hns hbs hE
  cases hn with
  | node _ hn =>
  simp only [NA, bodK, NAs, Bool.false_eq_true, if_false] at hna
  obtain ⟨ks, beh, ⟨a1, c1, hn1, ⟨a2, c2, hn2, ⟨a3, c3, hn3, ⟨_, rfl⟩, rfl⟩, rfl⟩, rfl⟩, rfl⟩ := hna
  rw [List.append_nil] at hns
  have la := NA.len hn1
  have lb := NA.len hn2
  have lc := NA.len hn3
  have hroot := at_root hns
  rw [hbs, List.length_append, List.length_append, la, lb, lc] at hroot
  have hty := H _ _ hroot
  obtain ⟨hba, oa⟩ := iha (hn _ (by simp)) sc bs pre a1 (a2 ++ (a3 ++ ([_] ++ post))) hn1 (by rw [hns]; simp only [List.append_assoc]; rfl) hbs hE
  obtain ⟨hbb, ob⟩ := ihb (hn _ (by simp)) sc (bs + a.cnt) (pre ++ a1) a2 (a3 ++ ([_] ++ post)) hn2 (by rw [hns]; simp only [List.append_assoc]; rfl) (by rw [List.length_append, hbs, la]) hE
  obtain ⟨hbc, oc⟩ := ihc (hn _ (by simp)) sc (bs + a.cnt + b.cnt) (pre ++ a1 ++ a2) a3 ([_] ++ post) hn3 (by rw [hns]; simp only [List.append_assoc]; rfl) (by rw [List.length_append, List.length_append, hbs, la, lb]) hE
  simp only [PT.cnt, cntL, Nat.add_zero, idx_cnt]
  refine ⟨?_, ?_⟩
  ·rw [hty]
   simp only [tyR, setR, fk_if, partsL, List.getD_cons_succ, List.getD_cons_zero]
   simpa using hbb
  ·have := ((oa.join ob).join oc).join (AlkO.root (by rw [Nat.add_assoc, Nat.add_assoc]; exact hroot) (fun _ => by simp only [partsL, List.getD_cons_succ, List.getD_cons_zero]; rw [hbb, hbc]) (by simp [fk_if]))
   rwa [show bs + a.cnt + b.cnt + c.cnt + 1 = bs + (1 + (a.cnt + (b.cnt + c.cnt))) by omega] at this
 | @two G p k nm rg a b hkk ha hb iha ihb =>
  intro hn sc bs pre ms post hna hns hbs hE
  have hkb : bodK k = [false, false] := by rcases hkk with rfl | rfl | rfl <;> rfl
  have hkf : formK k = 8 ∨ formK k = 9 ∨ formK k = 10 := by rcases hkk with rfl | rfl | rfl <;> decide
  cases hn with
  | node _ hn =>
  simp only [NA, hkb, NAs, Bool.false_eq_true, if_false] at hna
  obtain ⟨ks, beh, ⟨a1, c1, hn1, ⟨a2, c2, hn2, ⟨_, rfl⟩, rfl⟩, rfl⟩, rfl⟩ := hna
  rw [List.append_nil] at hns
  have la := NA.len hn1
  have lb := NA.len hn2
  have hroot := at_root hns
  rw [hbs, List.length_append, la, lb] at hroot
  have hty := H _ _ hroot
  obtain ⟨hba, oa⟩ := iha (hn _ (by simp)) sc bs pre a1 (a2 ++ ([_] ++ post)) hn1 (by rw [hns]; simp only [List.append_assoc]; rfl) hbs hE
  obtain ⟨hbb, ob⟩ := ihb (hn _ (by simp)) sc (bs + a.cnt) (pre ++ a1) a2 ([_] ++ post) hn2 (by rw [hns]; simp only [List.append_assoc]; rfl) (by rw [List.length_append, hbs, la]) hE
  simp only [PT.cnt, cntL, Nat.add_zero, idx_cnt]
  refine ⟨?_, ?_⟩
  ·rw [hty]
   simp only [tyR, setR]
   rcases hkf with h | h | h <;> simp [h, Ty.bare]
  ·have := (oa.join ob).join (AlkO.root (by rw [Nat.add_assoc]; exact hroot) (fun h => by simp only at h; omega) (fun h => by simp only at h; omega))
   rwa [show bs + a.cnt + b.cnt + 1 = bs + (1 + (a.cnt + b.cnt)) by omega] at this
 | @loop G p nm rg a b c U ha hb hc iha ihb ihc =>
  intro hn sc bs pre ms post hna hns hbs hE
  cases hn with
  | node _ hn =>
  simp only [NA, bodK, NAs, Bool.false_eq_true, if_false, if_true] at hna
  obtain ⟨ks, beh, ⟨a1, c1, hn1, ⟨a2, c2, hn2, ⟨a3, c3, hn3, ⟨_, rfl⟩, rfl⟩, rfl⟩, rfl⟩, rfl⟩ := hna
  rw [List.append_nil] at hns
  have la := NA.len hn1
  have lb := NA.len hn2
  have lc := NA.len hn3
  have hroot := at_root hns
  rw [hbs, List.length_append, List.length_append, la, lb, lc] at hroot
  have hty := H _ _ hroot
  obtain ⟨hba, oa⟩ := iha (hn _ (by simp)) sc bs pre a1 (a2 ++ (a3 ++ ([_] ++ post))) hn1 (by rw [hns]; simp only [List.append_assoc]; rfl) hbs hE
  obtain ⟨hbb, ob⟩ := ihb (hn _ (by simp)) sc (bs + a.cnt) (pre ++ a1) a2 (a3 ++ ([_] ++ post)) hn2 (by rw [hns]; simp only [List.append_assoc]; rfl) (by rw [List.length_append, hbs, la]) hE
  obtain ⟨hbc, oc⟩ := ihc (hn _ (by simp)) _ (bs + a.cnt + b.cnt) (pre ++ a1 ++ a2) a3 ([_] ++ post) hn3 (by rw [hns]; simp only [List.append_assoc]; rfl) (by rw [List.length_append, List.length_append, hbs, la, lb]) (hE.snoc (idx_nn (bs + a.cnt) b) hbb)
  simp only [PT.cnt, cntL, Nat.add_zero, idx_cnt]
  refine ⟨?_, ?_⟩
  ·rw [hty]
   simp only [tyR, setR, fk_loop, partsL, List.getD_cons_succ, List.getD_cons_zero]
   simpa using hbb
  ·have := ((oa.join ob).join oc).join (AlkO.root (by rw [Nat.add_assoc, Nat.add_assoc]; exact hroot) (fun _ => by simp only [partsL, List.getD_cons_succ, List.getD_cons_zero]; rw [hbb, hbc]) (by simp [fk_loop]))
   rwa [show bs + a.cnt + b.cnt + c.cnt + 1 = bs + (1 + (a.cnt + (b.cnt + c.cnt))) by omega] at this
 | new _ _ =>
  intro hn
  cases hn with
  | node hk _ => exact absurd rfl hk
theorem rgV_regsL (E fs : List Nat) (ns : List NR) (i : Nat) (n : NR) (h : ns[i]? = some n) : rgV (regsL E fs ns) i = if n.form = 4 then idxF fs (fst' E n.at_) else -1 := by
 unfold rgV regsL
 rw [List.getElem?_map, h]; rfl
def rgdN (E fs : List Nat) (ns : List NR) : List NR := ns.map (fun n => setR n (if n.form = 4 then idxF fs (fst' E n.at_) else -1))
theorem aboutF_no (T : List Ty) (rg a b : Nat) : ∀ (l : List NR) (k i : Nat), aboutF T rg a b l k = (i : Int) → (knownT T i).has rg = false
 | [], _, i, h => by simp only [aboutF] at h; omega
 | n :: r, k, i, h => by
  simp only [aboutF] at h
  split at h
  ·rename_i hc
   have : k = i := by omega
   rw [← this]; exact hc.2.2
  ·exact aboutF_no T rg a b r (k + 1) i h
mutual
theorem NA.src : ∀ {scope : Sc} {t : PT} {base : Nat} {ns : List NR}, NA scope t base ns → (∀ x ∈ scope, x.2 < (base : Int)) → ∀ (j : Nat) (n : NR), ns[j]? = some n → n.source < ((base + j : Nat) : Int)
 | _, .num p s, base, ns, h, _, j, n, hn => by
  simp only [NA] at h
  subst h
  have hj : j = 0 := by have := (List.getElem?_eq_some_iff.1 hn).1; simp at this; omega
  subst hj
  simp only [List.getElem?_cons_zero, Option.some.injEq] at hn; subst hn
  simp only; omega
 | scope, .name p s, base, ns, h, hs, j, n, hn => by
  simp only [NA] at h
  subst h
  have hj : j = 0 := by have := (List.getElem?_eq_some_iff.1 hn).1; simp at this; omega
  subst hj
  simp only [List.getElem?_cons_zero, Option.some.injEq] at hn; subst hn
  simp only [Nat.add_zero]
  unfold findS
  split
  ·rename_i x hx
   exact hs x (by have := List.mem_of_find?_eq_some hx; simpa using this)
  ·omega
 | scope, .node p k nm rg kids, base, ns, h, hs, j, n, hn => by
  simp only [NA] at h
  obtain ⟨ks, beh, h1, rfl⟩ := h
  by_cases hj : j < ks.length
  ·rw [List.getElem?_append_left hj] at hn
   exact NAs.src h1 hs j n hn
  ·have hje : j = ks.length := by have := (List.getElem?_eq_some_iff.1 hn).1; simp at this; omega
   rw [List.getElem?_append_right (by omega), hje, Nat.sub_self] at hn
   simp only [List.getElem?_cons_zero, Option.some.injEq] at hn; subst hn
   simp only; omega
theorem NAs.src : ∀ {scope : Sc} {nm : List UInt8} {ts : List PT} {bs : List Bool} {base : Nat} {ns : List NR}, NAs scope nm ts bs base ns → (∀ x ∈ scope, x.2 < (base : Int)) → ∀ (j : Nat) (n : NR), ns[j]? = some n → n.source < ((base + j : Nat) : Int)
 | _, _, [], _, _, _, h, _, j, n, hn => by simp only [NAs] at h; rw [h.2] at hn; simp at hn
 | _, _, _ :: _, [], _, _, h, _, _, _, _ => by simp [NAs] at h
 | scope, nm, t :: r, b :: bs, base, ns, h, hs, j, n, hn => by
  simp only [NAs] at h
  obtain ⟨a, c, h1, h2, rfl⟩ := h
  have hl := NA.len h1
  by_cases hj : j < a.length
  ·rw [List.getElem?_append_left hj] at hn
   refine NA.src h1 (fun x hx => ?_) j n hn
   cases b with
   | false => exact hs x (by simpa using hx)
   | true =>
    simp only [if_true, List.mem_append, List.mem_singleton] at hx
    rcases hx with hx | hx
    ·exact hs x hx
    ·rw [hx]; simp only; omega
  ·rw [List.getElem?_append_right (by omega)] at hn
   have := NAs.src h2 (fun x hx => by have := hs x hx; omega) (j - a.length) n hn
   rw [hl] at this hj
   rw [show base + t.cnt + (j - t.cnt) = base + j from by omega] at this
   exact this
end
theorem na_back {t : PT} {ns : List NR} (h : NA [] t 0 ns) (i : Nat) (n : NR) (hn : ns[i]? = some n) : BackN i n := by
 have h1 := h.back i n hn
 have h2 := h.src (fun x hx => by simp at hx) i n hn
 rw [Nat.zero_add] at h1 h2
 exact ⟨h1.1, h1.2.1, h1.2.2, h2⟩
mutual
theorem opn_all : ∀ (t : PT) (base i : Nat), base ≤ i → i < base + t.cnt → (i : Int) ∈ opn t base
 | .num _ _, base, i, h1, h2 => by simp only [PT.cnt] at h2; simp only [opn, List.mem_singleton]; omega
 | .name _ _, base, i, h1, h2 => by simp only [PT.cnt] at h2; simp only [opn, List.mem_singleton]; omega
 | .node _ _ _ _ kids, base, i, h1, h2 => by
  simp only [PT.cnt] at h2
  simp only [opn, List.mem_cons]
  by_cases h : i = base + cntL kids
  ·exact Or.inl (by rw [h])
  ·exact Or.inr (opnL_all kids base i h1 (by omega))
theorem opnL_all : ∀ (ts : List PT) (base i : Nat), base ≤ i → i < base + cntL ts → (i : Int) ∈ opnL ts base
 | [], base, i, h1, h2 => by simp only [cntL] at h2; omega
 | t :: r, base, i, h1, h2 => by
  simp only [cntL] at h2
  simp only [opnL, List.mem_append]
  by_cases h : i < base + t.cnt
  ·exact Or.inl (opn_all t base i h1 h)
  ·exact Or.inr (opnL_all r (base + t.cnt) i (by omega) (by omega))
end
def AllT (P : Nat → Prop) (t : Ty) : Prop := ∀ r ∈ t.rgl, P r
theorem AllT.p {P : Nat → Prop} {r : Nat} {a b : Ty} (h : AllT P (.p r a b)) : P r ∧ AllT P a ∧ AllT P b :=
 ⟨h r (by simp [Ty.rgl]), fun x hx => h x (by simp [Ty.rgl, hx]), fun x hx => h x (by simp [Ty.rgl, hx])⟩
def KeepP (P : Nat → Prop) (E : List Nat) : Prop := ∀ i, P i → P (fst' E i)
theorem join_keep {P : Nat → Prop} {E : List Nat} (hP : ∀ i, P i → i < E.length) (h : KeepP P E) (x y : Nat) (hx : P x) (hy : P y) : KeepP P (joinF E x y) := fun i hi => by
 rw [fst_join E x y (hP x hx) (hP y hy)]
 unfold mrg
 split
 ·have h1 := h x hx
  have h2 := h y hy
  rcases Nat.le_total (fst' E x) (fst' E y) with e | e
  ·rw [Nat.min_eq_left e]; exact h1
  ·rw [Nat.min_eq_right e]; exact h2
 ·exact h i hi
theorem match_keep {P : Nat → Prop} : ∀ (a b : Ty) (E : List Nat), (∀ i, P i → i < E.length) → KeepP P E → AllT P a → AllT P b → KeepP P (matchT E a b)
 | .n, _, _, _, h, _, _ => by simp only [matchT]; exact h
 | .p _ _ _, .n, _, _, h, _, _ => by simp only [matchT]; exact h
 | .p r a b, .p s c d, E, hP, h, h1, h2 => by
  simp only [matchT]
  split
  ·exact h
  ·obtain ⟨r1, r2, r3⟩ := h1.p
   obtain ⟨s1, s2, s3⟩ := h2.p
   refine match_keep b d _ (by rw [matchT_len, joinF_len]; exact hP) (match_keep a c _ (by rw [joinF_len]; exact hP) (join_keep hP h r s r1 s1) r2 s2) r3 s3
theorem allT_known {P : Nat → Prop} {T : List Ty} (h : ∀ t ∈ T, AllT P t) (i : Int) : AllT P (knownT T i) := by
 unfold knownT
 split
 ·cases e : T[i.toNat]? with
  | none => intro r hr; simp [Ty.rgl] at hr
  | some t => exact h t (List.mem_of_getElem? e)
 ·intro r hr; simp [Ty.rgl] at hr
theorem allT_tyR {P : Nat → Prop} {T : List Ty} (h : ∀ t ∈ T, AllT P t) (m : NR) (hm : m.form = 4 → P m.region.toNat) : AllT P (tyR T m) := by
 have h0 := allT_known h m.p0
 have h1 := allT_known h m.p1
 have h2 := allT_known h m.source
 have hn : AllT P .n := fun r hr => by simp [Ty.rgl] at hr
 unfold tyR
 split
 ·exact h2
 split
 ·exact h0
 split
 ·exact h1
 split
 ·exact h1
 split
 ·exact h1
 split
 ·rename_i h4
  intro r hr
  simp only [Ty.rgl, List.mem_cons, List.mem_append] at hr
  rcases hr with hr | hr | hr
  ·rw [hr]; exact hm h4
  ·exact h0 r hr
  ·exact h1 r hr
 split
 ·cases e : knownT T m.p0 with
  | n => exact hn
  | p r a b => rw [e] at h0; exact h0.p.2.1
 split
 ·cases e : knownT T m.p0 with
  | n => exact hn
  | p r a b => rw [e] at h0; exact h0.p.2.2
 ·exact hn
theorem shE_keep {P : Nat → Prop} : ∀ (ns : List NR) (T : List Ty) (E : List Nat), (∀ i, P i → i < E.length) → KeepP P E → (∀ t ∈ T, AllT P t) → (∀ n ∈ ns, n.form = 4 → P n.at_) → KeepP P (shE T E ns)
 | [], _, _, _, h, _, _ => h
 | n :: r, T, E, hP, h, hT, hn => by
  have hb : ∀ t ∈ T ++ [tyR T (atR n)], AllT P t := fun t ht => by
   rcases List.mem_append.1 ht with ht | ht
   ·exact hT t ht
   ·simp only [List.mem_singleton] at ht; subst ht; exact allT_tyR hT _ (fun h4 => by simpa [atR] using hn n (by simp) h4)
  simp only [shE]
  split
  ·exact shE_keep r _ _ (by rw [matchT_len]; exact hP) (match_keep _ _ E hP h (allT_known hb _) (allT_known hb _)) hb (fun m hm => hn m (by simp [hm]))
  ·exact shE_keep r _ _ hP h hb (fun m hm => hn m (by simp [hm]))
theorem fst_range (B i : Nat) : fst' (List.range B) i = i := by
 rw [fst_step]
 cases h : (List.range B)[i]? with
 | none => rfl
 | some x =>
  have := List.getElem?_eq_some_iff.1 h
  obtain ⟨_, h2⟩ := this
  simp only [List.getElem_range] at h2
  simp only
  rw [if_neg (by omega)]
theorem idxF_mem {row : List Nat} {x : Nat} (h : x ∈ row) : ∃ i : Nat, idxF row x = (i : Int) ∧ i < row.length := by
 unfold idxF
 cases e : row.findIdx? (· == x) with
 | some i => exact ⟨i, rfl, (List.findIdx?_eq_some_iff_getElem.1 e).1⟩
 | none =>
  rw [List.findIdx?_eq_none_iff] at e
  have := e x h
  simp at this
theorem opNs_of {e : PT} {ns : List NR} (h : NA [] e 0 ns) (n : NR) (hn : n ∈ ns) : n ∈ opNs ns (opn e 0) := by
 obtain ⟨i, hi⟩ := List.getElem?_of_mem hn
 have hil := (List.getElem?_eq_some_iff.1 hi).1
 have := opn_all e 0 i (Nat.zero_le _) (by have := h.len; omega)
 unfold opNs
 rw [List.mem_map]
 exact ⟨(i : Int), this, by rw [Int.toNat_natCast, hi]; rfl⟩
theorem lay2_of {e : PT} {U : Ty} {ns : List NR} {n0 : NR} (hwt : WT [] e U) (hnn : NoNew e) (hna : NA [] e 0 ns) (hat : ∀ n ∈ ns, n.at_ < n0.beh) (hfs : (firstsL (shE [] (List.range n0.beh) ns) (opNs ns (opn e 0))).length ≤ 1000) :
  Lay2 (regsL (shE [] (List.range n0.beh) ns) (firstsL (shE [] (List.range n0.beh) ns) (opNs ns (opn e 0))) ns)
   (newsL (tyRun [] (rgdN (shE [] (List.range n0.beh) ns) (firstsL (shE [] (List.range n0.beh) ns) (opNs ns (opn e 0))) ns)) ns n0 (firstsL (shE [] (List.range n0.beh) ns) (opNs ns (opn e 0))).length)
   ns (tyRun [] (rgdN (shE [] (List.range n0.beh) ns) (firstsL (shE [] (List.range n0.beh) ns) (opNs ns (opn e 0))) ns)) ∧ SzOk [] (ns.map atR) ∧ SzOk [] (rgdN (shE [] (List.range n0.beh) ns) (firstsL (shE [] (List.range n0.beh) ns) (opNs ns (opn e 0))) ns) := by
 have hbk := fun i n hn => na_back hna i n hn
 have hb1 : ∀ (i : Nat) n, (ns.map atR)[i]? = some n → BackN (([] : List Ty).length + i) n := fun i n hn => by
  rw [List.getElem?_map] at hn
  obtain ⟨m, hm, rfl⟩ := Option.map_eq_some_iff.1 hn
  simpa [BackN, atR] using hbk i m hm
 have hfix1 : ∀ i n, ns[i]? = some n → knownT (tyRun [] (ns.map atR)) (i : Nat) = tyR (tyRun [] (ns.map atR)) (setR n (((ns[i]?).map (fun m => (m.at_ : Int))).getD 0)) := fun i n hn => by
  have := run_fix (ns.map atR) [] hb1 i (atR n) (by rw [List.getElem?_map, hn]; rfl)
  rw [List.length_nil, Nat.zero_add] at this
  rw [this, hn]; rfl
 obtain ⟨_, halk⟩ := wt_alike (ρ := fun i => ((ns[i]?).map (fun m => (m.at_ : Int))).getD 0) hfix1 hwt hnn [] 0 [] ns [] hna (by simp) rfl (fun s U h => by simp [look] at h)
 rw [Nat.zero_add, ← hna.len] at halk
 have hal1 : AlikeT [] (ns.map atR) := alike_rec _ _ hb1 (fun i n hn hf => by
  rw [List.getElem?_map] at hn
  obtain ⟨m, hm, rfl⟩ := Option.map_eq_some_iff.1 hn
  exact (halk i m (Nat.zero_le _) (List.getElem?_eq_some_iff.1 hm).1 hm).1 hf)
 have hsz1 : SzOk [] (ns.map atR) := sz_rec _ _ hb1 (fun i n hn hf => by
  rw [List.getElem?_map] at hn
  obtain ⟨m, hm, rfl⟩ := Option.map_eq_some_iff.1 hn
  exact (halk i m (Nat.zero_le _) (List.getElem?_eq_some_iff.1 hm).1 hm).2 hf)
 have hone := shE_one ns [] (List.range n0.beh) (fun t h => by simp at h) (by rw [List.length_range]; exact hat) hal1
 have hkeep : KeepP (fun x => ∃ n ∈ ns, n.form = 4 ∧ n.at_ = x) (shE [] (List.range n0.beh) ns) :=
  shE_keep ns [] (List.range n0.beh) (fun i ⟨n, hn, _, he⟩ => by rw [List.length_range, ← he]; exact hat n hn) (fun i hi => by rw [fst_range]; exact hi) (fun t h => by simp at h) (fun n hn h4 => ⟨n, hn, h4, rfl⟩)
 generalize shE [] (List.range n0.beh) ns = E at *
 have hmem : ∀ n ∈ ns, n.form = 4 → fst' E n.at_ ∈ firstsL E (opNs ns (opn e 0)) := fun n hn h4 => by
  obtain ⟨m, hm, m4, mat⟩ := hkeep n.at_ ⟨n, hn, h4, rfl⟩
  unfold firstsL
  rw [List.mem_map]
  refine ⟨m, List.mem_filter.2 ⟨opNs_of hna m hm, ?_⟩, mat⟩
  rw [mat, fst_idem]
  simp [m4]
 generalize firstsL E (opNs ns (opn e 0)) = fs at *
 obtain ⟨f, hf⟩ : ∃ f : Nat → Nat, f = fun x => (idxF fs (fst' E x)).toNat := ⟨_, rfl⟩
 have hT2 : ∀ (l : List NR) (T : List Ty), tyRun (T.map (mapT f)) (rgdN E fs l) = (tyRun T (l.map atR)).map (mapT f) := fun l => by
  induction l with
  | nil => intro T; simp [rgdN, tyRun]
  | cons n r ih =>
   intro T
   have e1 : tyR (T.map (mapT f)) (setR n (if n.form = 4 then idxF fs (fst' E n.at_) else -1)) = mapT f (tyR T (atR n)) := tyR_map f T (atR n) _ rfl (fun h4 => by
    have h4' : n.form = 4 := h4
    simp only [setR, atR, if_pos h4', Int.toNat_natCast]; rw [hf])
   have ih2 := ih (T ++ [tyR T (atR n)])
   rw [List.map_append, List.map_singleton, ← e1] at ih2
   simp only [rgdN, List.map_cons, tyRun] at ih2 ⊢
   exact ih2
 have hT20 := hT2 ns []
 rw [List.map_nil] at hT20
 have hb2 : ∀ (i : Nat) n, (rgdN E fs ns)[i]? = some n → BackN (([] : List Ty).length + i) n := fun i n hn => by
  unfold rgdN at hn
  rw [List.getElem?_map] at hn
  obtain ⟨m, hm, rfl⟩ := Option.map_eq_some_iff.1 hn
  simpa [BackN, setR] using hbk i m hm
 have hpr : LyT (regsL E fs ns) ns := fun i n hn => by
  rw [rgV_regsL E fs ns i n hn]
  refine ⟨fun h4 => ?_, fun h4 => by rw [if_neg h4]⟩
  obtain ⟨j, hj, hjl⟩ := idxF_mem (hmem n (List.mem_of_getElem? hn) h4)
  rw [if_pos h4, hj]; omega
 have hfix2 : ∀ i n, ns[i]? = some n → knownT (tyRun [] (rgdN E fs ns)) (i : Nat) = tyR (tyRun [] (rgdN E fs ns)) (setR n (rgV (regsL E fs ns) i)) := fun i n hn => by
  have := run_fix (rgdN E fs ns) [] hb2 i (setR n (if n.form = 4 then idxF fs (fst' E n.at_) else -1)) (by unfold rgdN; rw [List.getElem?_map, hn]; rfl)
  rw [List.length_nil, Nat.zero_add] at this
  rw [this, rgV_regsL E fs ns i n hn]
 refine ⟨⟨hfix2, hpr, fun i n hn hfm => ?_, fun r i hr => ?_⟩, hsz1, ?_⟩
 ·have h1 := one_rec (fst' E) (ns.map atR) [] hb1 hone i (atR n) (by rw [List.getElem?_map, hn]; rfl) hfm
  rw [hT20, knownT_map, knownT_map]
  have hc : Coarse (fst' E) f := fun a b hab => by rw [hf]; simp only [hab]
  exact hc.map _ _ h1
 ·unfold newsL at hr
  rw [List.getElem?_map] at hr
  obtain ⟨k, hk, hkr⟩ := Option.map_eq_some_iff.1 hr
  have : k = r := by
   have := (List.getElem?_eq_some_iff.1 hk).2
   simpa using this.symm
  subst this
  exact aboutF_no _ _ _ _ _ _ _ hkr
 ·obtain ⟨_, halk2⟩ := wt_alike (ρ := fun i => rgV (regsL E fs ns) i) hfix2 hwt hnn [] 0 [] ns [] hna (by simp) rfl (fun s U h => by simp [look] at h)
  rw [Nat.zero_add, ← hna.len] at halk2
  exact sz_rec _ _ hb2 (fun i n hn hf4 => by
   unfold rgdN at hn
   rw [List.getElem?_map] at hn
   obtain ⟨m, hm, rfl⟩ := Option.map_eq_some_iff.1 hn
   exact (halk2 i m (Nat.zero_le _) (List.getElem?_eq_some_iff.1 hm).1 hm).2 hf4)
end Go.Proofs.YtpicaknklgccoaaGreatDoor
namespace Go.Proofs.YtpicaknklgccoaaGreatDoor
open Go.RowKit
def layE (ns : List NR) (n0 : NR) : List Nat := shE [] (List.range n0.beh) ns
def layF (e : PT) (ns : List NR) (n0 : NR) : List Nat := firstsL (layE ns n0) (opNs ns (opn e 0))
def layR (e : PT) (ns : List NR) (n0 : NR) : List Int := regsL (layE ns n0) (layF e ns n0) ns
def layT (e : PT) (ns : List NR) (n0 : NR) : List Ty := tyRun [] (rgdN (layE ns n0) (layF e ns n0) ns)
def layN (e : PT) (ns : List NR) (n0 : NR) : List Int := newsL (layT e ns n0) ns n0 (layF e ns n0).length
structure Nds (e : PT) (ns : List NR) (n0 : NR) : Prop where
 na : NA [] e 0 ns
 last : ns[ns.length - 1]? = some n0
 beh : n0.beh ≤ 3000
 at_ : ∀ n ∈ ns, n.at_ < n0.beh
mutual
theorem PosN.all : ∀ {t : PT} {ns : List NR} {lo hi : Nat}, PosN t ns lo hi → ∀ n ∈ ns, lo ≤ n.at_ ∧ n.at_ < hi
 | .num p _, ns, lo, hi, h, n, hn => by simp only [PosN] at h; obtain ⟨m, rfl, h1, h2, h3, h4⟩ := h; simp only [List.mem_singleton] at hn; subst hn; omega
 | .name p _, ns, lo, hi, h, n, hn => by simp only [PosN] at h; obtain ⟨m, rfl, h1, h2, h3, h4⟩ := h; simp only [List.mem_singleton] at hn; subst hn; omega
 | .node p _ _ _ kids, ns, lo, hi, h, n, hn => by
  simp only [PosN] at h
  obtain ⟨ks, m, rfl, h1, h2, h3, h4, h5⟩ := h
  rcases List.mem_append.1 hn with hn | hn
  ·have := PosNs.all h3 n hn; omega
  ·simp only [List.mem_singleton] at hn; subst hn; omega
theorem PosNs.all : ∀ {ts : List PT} {ns : List NR} {lo hi : Nat}, PosNs ts ns lo hi → ∀ n ∈ ns, lo ≤ n.at_ ∧ n.at_ < hi
 | [], ns, lo, hi, h, n, hn => by simp only [PosNs] at h; rw [h.1] at hn; simp at hn
 | t :: r, ns, lo, hi, h, n, hn => by
  simp only [PosNs] at h
  obtain ⟨a, c, mid, rfl, h1, h2⟩ := h
  have hl := h1.lt
  have hr := h2.le
  rcases List.mem_append.1 hn with hn | hn
  ·have := PosN.all h1 n hn; omega
  ·have := PosNs.all h2 n hn; omega
end
theorem posN_last {t : PT} {ns : List NR} {lo hi : Nat} (h : PosN t ns lo hi) : ∃ n0, ns[ns.length - 1]? = some n0 ∧ n0.beh ≤ hi ∧ ∀ n ∈ ns, n.at_ < n0.beh := by
 cases t with
 | num p s => simp only [PosN] at h; obtain ⟨m, rfl, h1, h2, h3, h4⟩ := h; exact ⟨m, rfl, h4, fun n hn => by simp only [List.mem_singleton] at hn; subst hn; omega⟩
 | name p s => simp only [PosN] at h; obtain ⟨m, rfl, h1, h2, h3, h4⟩ := h; exact ⟨m, rfl, h4, fun n hn => by simp only [List.mem_singleton] at hn; subst hn; omega⟩
 | node p k nm rg kids =>
  simp only [PosN] at h
  obtain ⟨ks, m, rfl, h1, h2, h3, h4, h5⟩ := h
  refine ⟨m, by simp, h5, fun n hn => ?_⟩
  rcases List.mem_append.1 hn with hn | hn
  ·exact (h3.all n hn).2
  ·simp only [List.mem_singleton] at hn; subst hn; omega
theorem firsts_prs (E : List Nat) (ns : List NR) : ∀ op : List Int, (firstsL E (opNs ns op)).length ≤ (op.filterMap (pairAt ns)).length
 | [] => by simp [opNs, firstsL]
 | x :: r => by
  have ih := firsts_prs E ns r
  unfold firstsL at ih ⊢
  simp only [opNs, List.map_cons] at ih ⊢
  rw [List.filter_cons, List.filterMap_cons]
  simp only [List.length_map] at ih ⊢
  cases h : ns[x.toNat]? with
  | none =>
   have hx : pairAt ns x = none := by unfold pairAt; rw [h]
   have h4 : (nr0.form == 4 && fst' E nr0.at_ == nr0.at_) = false := by simp [nr0]
   rw [hx, Option.getD_none, h4]
   exact ih
  | some n =>
   rw [Option.getD_some]
   by_cases h4 : n.form = 4
   ·have hx : pairAt ns x = some n.at_ := by unfold pairAt; rw [h]; simp only; rw [if_pos h4]
    rw [hx]
    simp only [List.length_cons]
    split
    ·simp only [List.length_cons]; omega
    ·omega
   ·have hx : pairAt ns x = none := by unfold pairAt; rw [h]; simp only; rw [if_neg h4]
    have h5 : (n.form == 4 && fst' E n.at_ == n.at_) = false := by simp [h4]
    rw [hx, h5]
    exact ih
theorem layF_len {e : PT} {ns : List NR} {n0 : NR} (h : NA [] e 0 ns) : (layF e ns n0).length ≤ e.prs := by
 have h1 := firsts_prs (layE ns n0) ns (opn e 0)
 rw [opn_pairs ns e [] 0 ns h (fun j _ => by rw [Nat.zero_add]), List.length_map, prl_len] at h1
 exact h1
theorem idxF_le (row : List Nat) (x : Nat) : -1 ≤ idxF row x ∧ idxF row x ≤ row.length := by
 unfold idxF
 cases h : row.findIdx? (· == x) with
 | some i => have := (List.findIdx?_eq_some_iff_getElem.1 h).1; simp only; omega
 | none => simp only; omega
theorem layR_bd (e : PT) (ns : List NR) (n0 : NR) (hl : (layF e ns n0).length ≤ 100) : (∀ i, rgV (layR e ns n0) i ≤ 9999) ∧ ∀ i, -1 ≤ rgV (layR e ns n0) i := by
 have key : ∀ i, -1 ≤ rgV (layR e ns n0) i ∧ rgV (layR e ns n0) i ≤ 100 := fun i => by
  unfold rgV layR regsL
  rw [List.getElem?_map]
  cases ns[i]? with
  | none => simp
  | some n =>
   simp only [Option.map_some, Option.getD_some]
   split
   ·have := idxF_le (layF e ns n0) (fst' (layE ns n0) n.at_); omega
   ·omega
 exact ⟨fun i => by have := key i; omega, fun i => (key i).1⟩
theorem rgdN_drop (E fs : List Nat) (ns : List NR) (k : Nat) (n : NR) (r : Int) (hn : ns[k]? = some n) (hr : (regsL E fs ns)[k]? = some r) : (rgdN E fs ns).drop k = setR n r :: (rgdN E fs ns).drop (k + 1) := by
 have hk : k < (rgdN E fs ns).length := by unfold rgdN; rw [List.length_map]; exact (List.getElem?_eq_some_iff.1 hn).1
 rw [List.drop_eq_getElem_cons hk]
 congr 1
 have h1 : (rgdN E fs ns)[k]? = some (rgdN E fs ns)[k] := List.getElem?_eq_getElem hk
 unfold rgdN regsL at *
 rw [List.getElem?_map, hn] at h1 hr
 simp only [Option.map_some, Option.some.injEq] at h1 hr
 rw [← h1, hr]
set_option maxRecDepth 100000 in
set_option maxHeartbeats 8000000 in
theorem leasePlace_ok (s : ByteArray) (hs : s.size ≤ 3000) (e : PT) (hp : PE false (tokens s.data.toList) e []) (hchk : chkAns e = (0, 0)) :
  ∃ ns n0, Nds e ns n0 ∧ Lay2 (layR e ns n0) (layN e ns n0) ns (layT e ns n0) ∧ ∀ w, Lib.TabIs Tryz.prog w "internal/strconv.uint64pow10" .u64 Lib.pow10Tab → Calls Tryz.prog 16 #[.string s] w fun v w' => v = .returned (.tuple #[.string (bs (e.wtx (layR e ns n0) (layN e ns n0) 0)), .int .i64 (0 : Nat)]) ∧ Below w.heap.size w w' := by
 obtain ⟨ns, hna, hpg⟩ := prog_yes (len := s.size) hp
 have hps := prog_pos (placed := false) (len := s.size) hp (tokens_okU s.data.toList)
 have hpg2 := hpg
 rw [hpg] at hps
 obtain ⟨n0, hlast, hbeh, hat⟩ := posN_last hps
 have hN : Nds e ns n0 := ⟨hna, hlast, by omega, hat⟩
 have hwf := hp.wf
 have hc1 : (chkAns e).1 = 0 := by rw [hchk]
 obtain ⟨U, hwt, _⟩ := chk_WT hwf hc1
 obtain ⟨⟨hrgd, hnn⟩, _⟩ := PE.plain hp (tokens_tame _)
 have hta := (hp.tame (tokens_tame _)).1
 have hprs : e.prs ≤ 100 := by
  unfold chkAns at hc1
  split at hc1
  ·simp at hc1
  ·omega
 have hfl := layF_len (n0 := n0) hna
 have hL : Lay2 (layR e ns n0) (layN e ns n0) ns (layT e ns n0) ∧ SzOk [] (ns.map atR) ∧ SzOk [] (rgdN (layE ns n0) (layF e ns n0) ns) := lay2_of hwt hnn hna hat (by show (layF e ns n0).length ≤ 1000; omega)
 obtain ⟨hL2, hsz1, hsz2⟩ := hL
 refine ⟨ns, n0, hN, hL2, fun w htab => ?_⟩
 have hcnt := Study_len hp
 have hnl := hna.len
 obtain ⟨hb1, hb2⟩ := layR_bd e ns n0 (by omega)
 have hnn2 : (layN e ns n0).length ≤ 150 := by unfold layN newsL; rw [List.length_map, List.length_range]; omega
 have hrp := fun w => readPlain_pg s w hs e hp
 rw [hchk, hpg2] at hrp
 have hpr := fun (W : World) (x1 : Option Addr) (n1 c1 : Nat) (x2 : Option Addr) (n2 c2 : Nat) (hT : TreeIn W (.slice x1 n1 c1) (.slice x2 n2 c2) ns (opn e 0)) => pProgram_any W x1 n1 c1 x2 n2 c2 ns (opn e 0) hT (op_ok hna) (by omega) (hna.small (fun _ h => by simp at h) (by omega)) n0 hlast (by omega) hat hsz1 (layE ns n0) (layF e ns n0) rfl rfl (rgdN (layE ns n0) (layF e ns n0) ns) (fun k n r hn hr => ⟨rgdN_drop _ _ ns k n r hn hr, fun h4 => by
  have h1 := (hL2.pr k n hn).1 h4
  have h2 : rgV (layR e ns n0) k = r := by unfold rgV layR; rw [hr]; rfl
  rw [h2] at h1; exact h1.1⟩) (by unfold rgdN; rw [List.length_map]) hsz2
 have hwp := fun (W : World) (hb : Below w.heap.size w W) (x1 : Option Addr) (n1 c1 : Nat) (x2 : Option Addr) (n2 c2 : Nat) (y1 : Option Addr) (m1 d1 : Nat) (y2 : Option Addr) (m2 d2 : Nat) (hT : TreeIn W (.slice x1 n1 c1) (.slice x2 n2 c2) ns (opn e 0)) (hL : LyIn W ⟨.slice y1 m1 d1, .slice y2 m2 d2, layR e ns n0, layN e ns n0⟩) => Placed_any W y1 m1 d1 y2 m2 d2 (layR e ns n0) (layN e ns n0) hL ⟨hnn2, hb1⟩ hb2 (by unfold layR regsL; rw [List.length_map]; omega) x1 n1 c1 x2 n2 c2 ns (opn e 0) e hT (Lib.tabBelow_of_tabIs htab W hb) hna.shows0 hta hwf hnl.symm (by omega)
 unfold treeV at hrp hpr hwp
 have HRP : Hid _ := hrp
 have HPR : Hid (∀ (W : World) (x1 : Option Addr) (n1 c1 : Nat) (x2 : Option Addr) (n2 c2 : Nat), TreeIn W (.slice x1 n1 c1) (.slice x2 n2 c2) ns (opn e 0) → Calls Tryz.prog 35 #[.agg #[.slice x1 n1 c1, .slice x2 n2 c2]] W fun v w' => ∃ y1 m1 d1 y2 m2 d2, v = .returned (.agg #[.slice y1 m1 d1, .slice y2 m2 d2]) ∧ LyIn w' ⟨.slice y1 m1 d1, .slice y2 m2 d2, layR e ns n0, layN e ns n0⟩ ∧ Below W.heap.size W w') := hpr
 have HWP : Hid _ := hwp
 generalize e.wtx (layR e ns n0) (layN e ns n0) 0 = TX at *
 generalize layR e ns n0 = regs at *
 generalize layN e ns n0 = news at *
 clear hp hps hpg hpg2 hlast hbeh hat hN hwf hc1 hwt hrgd hnn hta hprs hfl hL2 hsz1 hsz2 hcnt hnl hb1 hb2 hnn2 hrp hpr hwp htab hchk hna
 go_enter Tryz.func16, Tryz.ntmps16
 go_wp2_with fail
 refine Calls.mono (HRP.out _) ?_
 rintro _ w1 ⟨x1, n1, c1, x2, n2, c2, ns', rfl, hb1, hT1, _, hns⟩
 have hns' : ns' = ns := hns.symm
 subst hns'
 have hA : Below w.heap.size w (w1.alloc (.cells #[.slice x1 n1 c1, .slice x2 n2 c2] 59)) := hb1.alloc hb1.size _
 have hT2 := hT1.below (show Below w1.heap.size w1 (w1.alloc (.cells #[.slice x1 n1 c1, .slice x2 n2 c2] 59)) from (Below.refl _ _).alloc (Nat.le_refl _) _)
 have hpc := HPR.out _ x1 n1 c1 x2 n2 c2 hT2
 have hk := blk_new w1 (.cells #[.slice x1 n1 c1, .slice x2 n2 c2] 59 (0, 0))
 have HT2 : Hid _ := hT2
 have HA : Hid _ := hA
 have HK : Hid _ := hk
 clear hb1 hT1 hA hT2 hk hns HRP HPR
 go_wp2_with fail
 refine Calls.mono hpc ?_
 rintro _ w2 ⟨y1, m1, d1, y2, m2, d2, rfl, hL2, hb2⟩
 have hB2 := HA.out.trans (hb2.mono HA.out.size)
 have hal : Below w2.heap.size w2 (w2.alloc (.cells #[.slice y1 m1 d1, .slice y2 m2 d2] 73)) := (Below.refl _ _).alloc (Nat.le_refl _) _
 have hB3 : Below w.heap.size w (w2.alloc (.cells #[.slice y1 m1 d1, .slice y2 m2 d2] 73)) := hB2.alloc hB2.size _
 have hwc := HWP.out _ hB3 x1 n1 c1 x2 n2 c2 y1 m1 d1 y2 m2 d2 ((HT2.out.below hb2).below hal) (hL2.below hal)
 have hk2 := (hb2.block _ (blk_lt HK.out)).trans HK.out
 have a0 : w2.cell? ⟨w1.heap.size, 0, none⟩ = some (.slice x1 n1 c1) := by rw [blk_cell hk2]; rfl
 have a1 : w2.cell? ⟨w1.heap.size, 1, none⟩ = some (.slice x2 n2 c2) := by rw [blk_cell hk2]; rfl
 have al := blk_lt hk2
 have an := Nat.ne_of_lt al
 have HB3 : Hid _ := hB3
 clear hL2 hb2 hB2 hal hB3 hk2 hpc HT2 HA HK HWP
 go_wp2_with fail
 refine Calls.mono hwc ?_
 rintro _ w3 ⟨rfl, hb3⟩
 have HB4 : Hid _ := HB3.out.trans (hb3.mono HB3.out.size)
 clear hb3 hwc HB3 a0 a1 al an
 go_wp2
 refine bodyPost_ret (v := .tuple #[.string (bs TX), .int .i64 0]) (by simp [results, Tryz.results16, go_sem]) rfl ⟨rfl, HB4.out⟩
end Go.Proofs.YtpicaknklgccoaaGreatDoor
