import Derived.Test.YtpicaknklgccoaaGreatDoorS35
namespace Go.Proofs.YtpicaknklgccoaaGreatDoor
open Go.Lib (decDigits)
mutual
theorem gh : ∀ (e : PT) {G : aQ} {T : Ty}, mU G e.np T -> mU G e T
 | .num _ _, _, _, h => by cases h with | num h => exact .num h
 | .name _ _, _, _, h => by cases h with | name h => exact .name h
 | .node p k nm rg kids, G, T, h => by
  match kids with
  | [] => simp only [PT.np, jZ] at h; cases h
  | [a] =>
   simp only [PT.np, jZ] at h
   cases h with
   | fst h => exact .fst (gh a h)
   | snd h => exact .snd (gh a h)
   | new h hm => exact .new (gh a h) hm
  | [a, b] =>
   simp only [PT.np, jZ] at h
   cases h with
   | bb h1 h2 => exact .bb (gh a h1) (gh b h2)
   | pair hr h1 h2 => exact .pair hr (gh a h1) (gh b h2)
   | two hk h1 h2 => exact .two hk (gh a h1) (gh b h2)
  | [a, b, c] =>
   simp only [PT.np, jZ] at h
   cases h with
   | fH h1 h2 h3 => exact .fH (gh a h1) (gh b h2) (gh c h3)
   | loop h1 h2 h3 => exact .loop (gh a h1) (gh b h2) (gh c h3)
  | _ :: _ :: _ :: _ :: _ => simp only [PT.np, jZ] at h; cases h
end
mutual
theorem Ml {b : Bool} : ∀ e : PT, e.np.ok b -> e.ok b
 | .num _ _, h => h
 | .name _ _, h => h
 | .node _ k nm rg kids, h => by
  simp only [PT.np, PT.ok, Df] at h ⊢
  exact ⟨h.1, h.2.1, h.2.2.1, h.2.2.2.1, GH kids h.2.2.2.2⟩
theorem GH {b : Bool} : ∀ l : List PT, wP b (jZ l) -> wP b l
 | [], h => h
 | t :: r, h => by
  simp only [jZ, wP] at h ⊢
  exact ⟨Ml t h.1, GH r h.2⟩
theorem Df : ∀ l : List PT, (jZ l).length = l.length
 | [] => rfl
 | t :: r => by simp only [jZ, List.length_cons, Df r]
end
mutual
theorem jq (fuel : Nat) (regs news : List Int) : ∀ (e : PT) (b : Nat) (env : dU) (st : cd), cJ e -> e.bN -> ev fuel (e.fF regs news b).era env st = ev fuel e env st
 | .num p s, _, env, st, _, ht => by
  simp only [PT.bN] at ht
  simp only [PT.fF, PT.era, ev]
  rw [kq, Int.toNat_of_nonneg ht.1]
 | .name _ _, _, _, _, _, _ => rfl
 | .node _ k nm rg kids, b, env, st, hn, ht => by
  cases hn with
  | node hk hn =>
  simp only [PT.bN] at ht
  simp only [PT.fF, PT.era, if_neg hk, ev]
  congr 1
  funext st
  rw [Jh fuel regs news nm kids b env st hn ht.2, Mm fuel regs news kids b env st hn ht.2, Fb fuel regs news nm kids b env st hn ht.2, xy fuel regs news kids b env st hn ht.2]
theorem xy (fuel : Nat) (regs news : List Int) : ∀ (l : List PT) (b : Nat) (env : dU) (st : cd), (∀ x ∈ l, cJ x) -> bG l -> cw fuel (j4 (gH regs news l b)) env st = cw fuel l env st
 | [], _, _, _, _, _ => rfl
 | t :: r, b, env, st, hn, ht => by
  simp only [bG] at ht
  simp only [gH, j4, jk, cw, jq fuel regs news t b env st (hn t (by simp)) ht.1]
  simp only [xy fuel regs news r (b + t.cnt) _ _ (fun x hx => hn x (by simp [hx])) ht.2]
theorem Jh (fuel : Nat) (regs news : List Int) (nm : List UInt8) : ∀ (l : List PT) (b : Nat) (env : dU) (st : cd), (∀ x ∈ l, cJ x) -> bG l -> iR fuel nm (j4 (gH regs news l b)) env st = iR fuel nm l env st
 | [], _, _, _, _, _ => rfl
 | [_], _, _, _, _, _ => rfl
 | [x, y], b, env, st, hn, ht => by
  simp only [bG] at ht
  simp only [gH, j4, jk, iR]
  simp only [jq fuel regs news x _ _ _ (hn x (by simp)) ht.1, jq fuel regs news y _ _ _ (hn y (by simp)) ht.2.1]
 | _ :: _ :: _ :: _, _, _, _, _, _ => rfl
theorem Mm (fuel : Nat) (regs news : List Int) : ∀ (l : List PT) (b : Nat) (env : dU) (st : cd), (∀ x ∈ l, cJ x) -> bG l -> ml fuel (j4 (gH regs news l b)) env st = ml fuel l env st
 | [], _, _, _, _, _ => rfl
 | [_], _, _, _, _, _ => rfl
 | [_, _], _, _, _, _, _ => rfl
 | [x, y, z], b, env, st, hn, ht => by
  simp only [bG] at ht
  simp only [gH, j4, jk, ml]
  simp only [jq fuel regs news x _ _ _ (hn x (by simp)) ht.1, jq fuel regs news y _ _ _ (hn y (by simp)) ht.2.1, jq fuel regs news z _ _ _ (hn z (by simp)) ht.2.2.1]
 | _ :: _ :: _ :: _ :: _, _, _, _, _, _ => rfl
theorem Fb (fuel : Nat) (regs news : List Int) (nm : List UInt8) : ∀ (l : List PT) (b : Nat) (env : dU) (st : cd), (∀ x ∈ l, cJ x) -> bG l -> eD fuel nm (j4 (gH regs news l b)) env st = eD fuel nm l env st
 | [], _, _, _, _, _ => rfl
 | [_], _, _, _, _, _ => rfl
 | [_, _], _, _, _, _, _ => rfl
 | [x, y, z], b, env, st, hn, ht => by
  simp only [bG] at ht
  simp only [gH, j4, jk, eD]
  simp only [jq fuel regs news x _ _ _ (hn x (by simp)) ht.1, jq fuel regs news y _ _ _ (hn y (by simp)) ht.2.1, jq fuel regs news z _ _ _ (hn z (by simp)) ht.2.2.1]
 | _ :: _ :: _ :: _ :: _, _, _, _, _, _ => rfl
end
def A0 (news : List Int) (lo hi : Nat) : Nat := (news.filter (fun a => decide ((lo : Int) <= a) && decide (a < (hi : Int)))).length
theorem xz (news : List Int) {a b c : Nat} (h1 : a <= b) (h2 : b <= c) : A0 news a c = A0 news a b + A0 news b c := by
 unfold A0
 induction news with
 | nil => rfl
 | cons x r ih =>
  simp only [List.filter_cons]
  by_cases g1 : (a : Int) <= x
  ·by_cases g2 : x < (b : Int)
   ·have e1 : ¬ (b : Int) <= x := by omega
    have e2 : x < (c : Int) := by omega
    simp only [g1, g2, e1, e2, decide_true, decide_false, Bool.and_self, Bool.false_and, if_true, Bool.false_eq_true, if_false, List.length_cons]
    omega
   ·have e1 : (b : Int) <= x := by omega
    by_cases g3 : x < (c : Int)
    ·simp only [g1, g2, e1, g3, decide_true, decide_false, Bool.and_self, Bool.and_false, if_true, Bool.false_eq_true, if_false, List.length_cons]
     omega
    ·simp only [g1, g2, e1, g3, decide_true, decide_false, Bool.and_false, Bool.false_eq_true, if_false]
     exact ih
  ·have e1 : ¬ (b : Int) <= x := by omega
   simp only [g1, e1, decide_false, Bool.false_and, Bool.false_eq_true, if_false]
   exact ih
theorem Mn (news : List Int) (i : Nat) : A0 news i (i + 1) = sw news i := by
 unfold A0 sw
 congr 1
 apply List.filter_congr
 intro x _
 by_cases h : x = (i : Int)
 ·subst h; simp; omega
 ·have : (x == (i : Int)) = false := by rw [beq_eq_false_iff_ne]; exact h
  rw [this, Bool.and_eq_false_iff]
  by_cases g : (i : Int) <= x
  ·right; simp; omega
  ·left; simp; omega
theorem PG (news : List Int) (lo hi : Nat) : A0 news lo hi <= news.length := List.length_filter_le _ _
theorem Mo (i : Int) : ∀ (l : List Int) (r : Nat), r + l.length <= 9999 -> (su l r i).length <= 11 * sw l i
 | [], _, _ => by simp [su]
 | a :: l, r, h => by
  simp only [List.length_cons] at h
  have h1 := Mo i l (r + 1) (by omega)
  have h2 := FJ r (by omega)
  unfold sw at h1 ⊢
  simp only [su, List.length_append, List.filter_cons]
  by_cases e : a = i
  ·have : (a == i) = true := by simp [e]
   rw [if_pos e, this]
   simp only [if_true, List.length_cons]; omega
  ·have : (a == i) = false := by rw [beq_eq_false_iff_ne]; exact e
   rw [if_neg e, this]
   simp only [List.length_nil, Bool.false_eq_true, if_false]; omega
theorem Fc (k : Kw) (nm : List UInt8) : ∀ (l l' : List (List UInt8)) (i B : Nat), l.length = l'.length -> (l.map List.length).sum <= (l'.map List.length).sum + B -> (bC k nm i l).length <= (bC k nm i l').length + B
 | [], [], _, _, _, _ => by simp [bC]
 | [], _ :: _, _, _, h, _ => by simp at h
 | _ :: _, [], _, _, h, _ => by simp at h
 | x :: r, y :: s, i, B, h, hb => by
  simp only [List.length_cons, Nat.add_right_cancel_iff] at h
  have key : ∀ (a b : List (List UInt8)) (j : Nat), a.length = b.length -> (bC k nm j a).length + (b.map List.length).sum = (bC k nm j b).length + (a.map List.length).sum := by
   intro a
   induction a with
   | nil => intro b j hl; cases b with | nil => rfl | cons _ _ => simp at hl
   | cons u v ih =>
    intro b j hl
    cases b with
    | nil => simp at hl
    | cons w z =>
     have := ih z (j + 1) (by simpa using hl)
     simp only [bC, List.map_cons, List.sum_cons, List.length_append, cI]
     simp only [List.length_cons] at *
     omega
  have := key (x :: r) (y :: s) i (by simp [h])
  omega
mutual
theorem Mp {regs news : List Int} (hr : ∀ i, jJ regs i <= 9999) (hn : news.length <= 150) {ns : List NR} (H : Np regs ns) : ∀ (t : PT) (b : Nat), fW ns t b -> cJ t -> (t.xM regs news b).length <= t.yF.length + 6 * t.bJ + 12 * A0 news b (b + t.cnt - 1)
 | .num _ _, _, _, _ => by simp only [PT.xM, PT.yF]; omega
 | .name _ _, _, _, _ => by simp only [PT.xM, PT.yF]; omega
 | .node p k nm rg kids, b, hs, hw => by
  cases hw with
  | node hk hw =>
  simp only [fW] at hs
  obtain ⟨⟨n, eC, hf, _⟩, hks⟩ := hs
  have h1 := tr hr hn H kids b hks hw
  have h2 : (Na regs (b + aB kids)).length <= 6 * (if k = .pair then 1 else 0) := by
   by_cases hp : k = .pair
   ·rw [if_pos hp]; exact Ac regs _ (hr _)
   ·have := (H _ _ eC).2 (fun e => hp ((Gq k).1 (hf ▸ e)))
    unfold Na
    rw [if_pos this]; simp
  have h3 := Fc k nm (gF regs news kids b) (lZ kids) 0 _ (by rw [nO, BD]) h1
  simp only [PT.xM, PT.yF, if_neg hk, PT.bJ, PT.cnt, List.length_cons, List.length_append, List.length_nil]
  rw [show b + (1 + aB kids) - 1 = b + aB kids by omega]
  omega
theorem tr {regs news : List Int} (hr : ∀ i, jJ regs i <= 9999) (hn : news.length <= 150) {ns : List NR} (H : Np regs ns) : ∀ (ts : List PT) (b : Nat), fD ns ts b -> (∀ x ∈ ts, cJ x) -> ((gF regs news ts b).map List.length).sum <= ((lZ ts).map List.length).sum + (6 * jQ ts + 12 * A0 news b (b + aB ts))
 | [], b, _, _ => by simp [gF, lZ]
 | t :: r, b, hs, hw => by
  simp only [fD] at hs
  have h1 := Mp hr hn H t b hs.1 (hw t (by simp))
  have h2 := tr hr hn H r (b + t.cnt) hs.2 (fun x hx => hw x (by simp [hx]))
  have hc := dI t
  have Lq : (((b + t.cnt : Nat) : Int) - 1) = ((b + t.cnt - 1 : Nat) : Int) := by omega
  have h3 := Mo ((b + t.cnt - 1 : Nat) : Int) news 0 (by omega)
  have h4 := Mn news (b + t.cnt - 1)
  rw [show b + t.cnt - 1 + 1 = b + t.cnt by omega] at h4
  have h5 := xz news (a := b) (b := b + t.cnt - 1) (c := b + t.cnt) (by omega) (by omega)
  have h6 := xz news (a := b) (b := b + t.cnt) (c := b + t.cnt + aB r) (by omega) (by omega)
  simp only [gF, lZ, List.map_cons, List.sum_cons, jQ, aB, List.length_append, Lq, TV, List.length_replicate]
  rw [show b + (t.cnt + aB r) = b + t.cnt + aB r by omega]
  omega
end
theorem Mq {regs news : List Int} (hr : ∀ i, jJ regs i <= 9999) (hn : news.length <= 150) {ns : List NR} (H : Np regs ns) (t : PT) (hs : fW ns t 0) (hw : cJ t) : (t.uJ regs news 0).length <= t.yF.length + 6 * t.bJ + 12 * news.length := by
 have h1 := tr hr hn H [t] 0 (by simp only [fD, and_true]; exact hs) (by simpa using hw)
 have h2 := PG news 0 (0 + aB [t])
 simp only [gF, lZ, List.map_cons, List.map_nil, List.sum_cons, List.sum_nil, jQ, Nat.add_zero] at h1
 unfold PT.uJ
 omega
theorem Tl {rg : List UInt8} : ∀ {vs : List Nat} {x : KE} {t : Nat}, KT vs x t -> (x.pt rg).yF = (x.pt []).tidy := by
 intro vs x t h
 induction h with
 | num h => simp [KE.pt, PT.yF, PT.tidy, kq]
 | var _ => simp [KE.pt, PT.yF, PT.tidy]
 | bb _ _ _ _ ha hb => simp [KE.pt, PT.yF, lZ, PT.tidy, dA, iz, ha, hb]
 | fH _ _ _ ha hb hc => simp [KE.pt, PT.yF, lZ, PT.tidy, dA, iz, ha, hb, hc]
 | loop _ _ _ _ ha hb hc => simp [KE.pt, PT.yF, lZ, PT.tidy, dA, iz, ha, hb, hc]
 | pair _ _ _ _ ha hb => simp [KE.pt, PT.yF, lZ, PT.tidy, dA, iz, ha, hb]
 | fst _ _ _ ha => simp [KE.pt, PT.yF, lZ, PT.tidy, dA, iz, ha]
 | snd _ _ _ ha => simp [KE.pt, PT.yF, lZ, PT.tidy, dA, iz, ha]
 | two hk _ _ ha hb => rcases hk with rfl | rfl | rfl <;> simp [KE.pt, PT.yF, lZ, PT.tidy, dA, iz, ha, hb]
theorem PH {x : KE} {t : Nat} (h : KT [] x t) (jm : x.bJ <= 75) (hlen : x.len <= 1308) {e : PT} {ns : List NR} {n0 : NR} (xO : e.np = x.pt []) (jU : e.bN) (hnn : cJ e) (hN : Yk e ns n0) (hL : Da (gO e ns n0) (jl e ns n0) ns (tj e ns n0)) :
  ∃ e2 T', PE true (tokens (e.uJ (gO e ns n0) (jl e ns n0) 0)) e2 [] /\ cx e2 = (0, 0) /\ WT [] e2 (uU t) /\ mU [] e2 T' /\ (∀ f, ev f e2.era [] ⟨0, 0, 0⟩ = ev f (x.pt []) [] ⟨0, 0, 0⟩) /\ (e.uJ (gO e ns n0) (jl e ns n0) 0).length <= 9000 /\ e2.np = e.lay (gO e ns n0) (jl e ns n0) 0 := by
 have Jf : e.bJ <= 75 := by rw [<- AO, xO, LB _ h]; exact jm
 have hfl := Dd (n0 := n0) hN.na
 have lg : (jl e ns n0).length <= 75 := by unfold jl ig; rw [List.length_map, List.length_range]; omega
 obtain ⟨hb1, hb2⟩ := GD e ns n0 (by omega)
 have E5 : WT [] e (uU t) := iU e (by rw [xO]; exact LC h (by simp))
 have hok : e.ok false := Ml e (by rw [xO]; exact QJ (ae := false) rfl h)
 have QS := hN.na.D6
 have aai := Te hL.pr (show (jl e ns n0).length <= 999 by omega) e 0 QS jU hok
 obtain ⟨e2, hpe, he2⟩ := Gc _ aai
 rw [Td] at he2
 rw [Ma _ _ e 0 hnn] at hpe
 have Mr : WT [] e2 (uU t) := iU e2 (by rw [he2]; exact Tf E5 hnn 0)
 obtain ⟨hwr, _⟩ := Pw hL E5 hnn jU [] [] 0 [] ns [] hN.na (by simp) rfl (fun s U hs => by simp [look] at hs)
 refine ⟨e2, _, hpe, LS Mr ?_, Mr, gh e2 (by rw [he2]; exact hwr), fun f => ?_, ?_, he2⟩
 ·rw [<- AO, he2, Ps]; omega
 ·rw [<- mT, Mj, he2]
  unfold PT.lay
  rw [jk, jq f _ _ e 0 [] _ hnn jU, <- mT, xO]
 ·have h1 := Mq hb1 (show (jl e ns n0).length <= 150 by omega) hL.pr e QS hnn
  have h2 : e.yF.length <= 1308 + 75 * 1 := by
   rw [<- Mk, xO, Tl h]
   have := EK (rg := []) h
   simp at this; omega
  omega
mutual
def fk : List Int -> PT -> Prop
 | _, .num _ _ => True
 | _, .name _ _ => True
 | rs, .node _ k _ rg kids => (k = .pair -> au rg ∈ rs) /\ gz (if k = .new then au rg :: rs else rs) kids
def gz : List Int -> List PT -> Prop
 | _, [] => True
 | rs, t :: r => fk rs t /\ gz rs r
end
theorem jB (i : Int) (t : PT) : ∀ (l : List Int) (r : Nat) (rs : List Int), (∀ rs' : List Int, (∀ x ∈ rs, x ∈ rs') -> (∀ j, l[j]? = some i -> ((r + j : Nat) : Int) ∈ rs') -> fk rs' t) -> fk rs (eU l r i t)
 | [], r, rs, h => h rs (fun _ hx => hx) (fun j hj => by simp at hj)
 | a :: l, r, rs, h => by
  simp only [eU]
  split
  ·rename_i e
   simp only [fk, if_true, gz, and_true]
   refine ⟨(fun h => by cases h), jB i t l (r + 1) _ (fun rs' h1 h2 => h rs' (fun x hx => h1 x (by simp [hx])) (fun j hj => ?_))⟩
   cases j with
   | zero => exact h1 _ (by rw [xp]; simp)
   | succ j => rw [show r + (j + 1) = r + 1 + j by omega]; exact h2 j (by simpa using hj)
  ·rename_i e
   refine jB i t l (r + 1) rs (fun rs' h1 h2 => h rs' h1 (fun j hj => ?_))
   cases j with
   | zero => simp only [List.getElem?_cons_zero, Option.some.injEq] at hj; exact absurd hj e
   | succ j => rw [show r + (j + 1) = r + 1 + j by omega]; exact h2 j (by simpa using hj)
def QIn (regs news : List Int) (ns : List NR) (rs : List Int) (lo hi : Nat) : Prop := ∀ (i : Nat) (n : NR), lo <= i -> i < hi -> ns[i]? = some n -> n.form = 4 -> jJ regs i ∈ rs \/ ∃ (j : Nat) (m : NR), lo <= j /\ j < hi /\ ns[j]? = some m /\ news[(jJ regs i).toNat]? = some (j : Int) /\ m.at_ <= n.at_ /\ n.aO <= m.aO
mutual
theorem dc.Nq : ∀ {t : PT} {ms : List NR} {lo hi : Nat}, dc t ms lo hi -> ∀ n ∈ ms, lo <= n.at_ /\ n.at_ < n.aO /\ n.aO <= hi
 | .num p _, ms, lo, hi, h, n, hn => by simp only [dc] at h; obtain ⟨m, rfl, h1, h2, h3, h4⟩ := h; simp only [List.mem_singleton] at hn; subst hn; omega
 | .name p _, ms, lo, hi, h, n, hn => by simp only [dc] at h; obtain ⟨m, rfl, h1, h2, h3, h4⟩ := h; simp only [List.mem_singleton] at hn; subst hn; omega
 | .node p _ _ _ kids, ms, lo, hi, h, n, hn => by
  simp only [dc] at h
  obtain ⟨ks, m, rfl, h1, h2, h3, h4, h5⟩ := h
  rcases List.mem_append.1 hn with hn | hn
  ·have := bV.Nq h3 n hn; omega
  ·simp only [List.mem_singleton] at hn; subst hn; omega
theorem bV.Nq : ∀ {ts : List PT} {ms : List NR} {lo hi : Nat}, bV ts ms lo hi -> ∀ n ∈ ms, lo <= n.at_ /\ n.at_ < n.aO /\ n.aO <= hi
 | [], ms, lo, hi, h, n, hn => by simp only [bV] at h; rw [h.1] at hn; simp at hn
 | t :: r, ms, lo, hi, h, n, hn => by
  simp only [bV] at h
  obtain ⟨a, c, mid, rfl, h1, h2⟩ := h
  have hl := h1.lt
  have hr := h2.le
  rcases List.mem_append.1 hn with hn | hn
  ·have := dc.Nq h1 n hn; omega
  ·have := bV.Nq h2 n hn; omega
end
mutual
theorem dc.len : ∀ {t : PT} {ms : List NR} {lo hi : Nat}, dc t ms lo hi -> ms.length = t.cnt
 | .num p _, ms, lo, hi, h => by simp only [dc] at h; obtain ⟨m, rfl, _⟩ := h; rfl
 | .name p _, ms, lo, hi, h => by simp only [dc] at h; obtain ⟨m, rfl, _⟩ := h; rfl
 | .node p _ _ _ kids, ms, lo, hi, h => by
  simp only [dc] at h
  obtain ⟨ks, m, rfl, h1, h2, h3, h4, h5⟩ := h
  simp only [PT.cnt, List.length_append, List.length_singleton, bV.len h3]; omega
theorem bV.len : ∀ {ts : List PT} {ms : List NR} {lo hi : Nat}, bV ts ms lo hi -> ms.length = aB ts
 | [], ms, lo, hi, h => by simp only [bV] at h; rw [h.1]; rfl
 | t :: r, ms, lo, hi, h => by
  simp only [bV] at h
  obtain ⟨a, c, mid, rfl, h1, h2⟩ := h
  simp only [aB, List.length_append, dc.len h1, bV.len h2]
end
def Ms (ns ms : List NR) (b : Nat) : Prop := ∀ (k : Nat) (n : NR), ms[k]? = some n -> ns[b + k]? = some n
theorem Ms.mem {ns ms : List NR} {b j : Nat} {m : NR} (h : Ms ns ms b) (h1 : b <= j) (h2 : j < b + ms.length) (hm : ns[j]? = some m) : m ∈ ms := by
 have hk : j - b < ms.length := by omega
 have := h (j - b) ms[j - b] (List.getElem?_eq_getElem hk)
 rw [show b + (j - b) = j by omega, hm] at this
 simp only [Option.some.injEq] at this
 rw [this]; exact List.getElem_mem hk
theorem Ms.left {ns a c : List NR} {b : Nat} (h : Ms ns (a ++ c) b) : Ms ns a b := fun k n hn => h k n (by rw [List.getElem?_append_left (List.getElem?_eq_some_iff.1 hn).1]; exact hn)
theorem Ms.right {ns a c : List NR} {b : Nat} (h : Ms ns (a ++ c) b) : Ms ns c (b + a.length) := fun k n hn => by
 have := h (a.length + k) n (by rw [List.getElem?_append_right (by omega), Nat.add_sub_cancel_left]; exact hn)
 rw [Nat.add_assoc]; exact this
theorem Ji {regs : List Int} {i : Nat} (h : 0 <= jJ regs i) : au (QP regs i) = jJ regs i := by
 unfold QP
 rw [if_neg (by omega), xp]; omega
mutual
theorem xA {regs news : List Int} {ns : List NR} (H : Np regs ns) : ∀ (t : PT) (ms : List NR) (lo hi b : Nat) (rs : List Int), dc t ms lo hi -> Ms ns ms b -> fW ns t b -> cJ t -> QIn regs news ns rs b (b + t.cnt) -> fk rs (t.lay regs news b)
 | .num _ _, ms, lo, hi, b, rs, _, _, _, _, _ => jB _ _ news 0 rs (fun _ _ _ => by simp [PT.fF, fk])
 | .name _ _, ms, lo, hi, b, rs, _, _, _, _, _ => jB _ _ news 0 rs (fun _ _ _ => by simp [PT.fF, fk])
 | .node p k nm rg kids, ms, lo, hi, b, rs, hp, he, hs, hn, hq => by
  cases hn with
  | node hk hn =>
  simp only [dc] at hp
  obtain ⟨ks, n0, rfl, h1, h2, h3, h4, h5⟩ := hp
  simp only [fW] at hs
  obtain ⟨⟨n, eC, hf, _⟩, hks⟩ := hs
  have hkl := h3.len
  have hn0 : ns[b + aB kids]? = some n0 := by
   have := he ks.length n0 (by rw [List.getElem?_append_right (Nat.le_refl _), Nat.sub_self]; rfl)
   rwa [hkl] at this
  have hnn : n = n0 := by rw [eC] at hn0; exact Option.some.inj hn0
  subst hnn
  have hek : Ms ns ks b := he.left
  simp only [PT.cnt] at hq
  unfold PT.lay
  refine jB _ _ news 0 rs (fun rs' g1 g2 => ?_)
  simp only [PT.cnt, eJ] at g2
  simp only [PT.fF, fk, if_neg hk]
  refine ⟨fun Xd => ?_, ud H kids ks _ _ b rs' h3 hek hks hn (fun i m i1 i2 hm h4m => ?_)⟩
  ·have h4 : n.form = 4 := by rw [hf]; exact (Gq k).2 Xd
   have hr := (H _ _ eC).1 h4
   rw [Ji hr.1]
   rcases hq (b + aB kids) n (by omega) (by omega) eC h4 with hq | ⟨j, m, j1, j2, hj, QT, ha, hb⟩
   ·exact g1 _ hq
   ·by_cases Du : j = b + aB kids
    ·have := g2 (jJ regs (b + aB kids)).toNat (by rw [QT, Du])
     rw [Nat.zero_add, Int.toNat_of_nonneg hr.1] at this
     exact this
    ·exfalso
     have := h3.Nq m (hek.mem j1 (by omega) hj)
     omega
  ·rcases hq i m i1 (by omega) hm h4m with hq | ⟨j, m', j1, j2, hj, QT, ha, hb⟩
   ·exact Or.inl (g1 _ hq)
   ·by_cases Du : j = b + aB kids
    ·left
     have hr := (H _ _ hm).1 h4m
     have := g2 (jJ regs i).toNat (by rw [QT, Du])
     rw [Nat.zero_add, Int.toNat_of_nonneg hr.1] at this
     exact this
    ·exact Or.inr ⟨j, m', j1, by omega, hj, QT, ha, hb⟩
theorem ud {regs news : List Int} {ns : List NR} (H : Np regs ns) : ∀ (ts : List PT) (ms : List NR) (lo hi b : Nat) (rs : List Int), bV ts ms lo hi -> Ms ns ms b -> fD ns ts b -> (∀ x ∈ ts, cJ x) -> QIn regs news ns rs b (b + aB ts) -> gz rs (gH regs news ts b)
 | [], ms, lo, hi, b, rs, _, _, _, _, _ => by simp [gH, gz]
 | t :: r, ms, lo, hi, b, rs, hp, he, hs, hn, hq => by
  simp only [bV] at hp
  obtain ⟨a, c, mid, rfl, h1, h2⟩ := hp
  simp only [fD] at hs
  simp only [aB] at hq
  have la := h1.len
  have lc := h2.len
  have hr := he.right
  rw [la] at hr
  simp only [gH, gz]
  refine ⟨xA H t a lo mid b rs h1 he.left hs.1 (hn t (by simp)) (fun i n i1 i2 hi h4 => ?_), ud H r c mid hi (b + t.cnt) rs h2 hr hs.2 (fun x hx => hn x (by simp [hx])) (fun i n i1 i2 hi h4 => ?_)⟩
  ·rcases hq i n i1 (by omega) hi h4 with hq | ⟨j, m, j1, j2, hj, QT, ha, hb⟩
   ·exact Or.inl hq
   ·by_cases hlt : j < b + t.cnt
    ·exact Or.inr ⟨j, m, j1, hlt, hj, QT, ha, hb⟩
    ·exfalso
     have q1 := h1.Nq n (he.left.mem i1 (by omega) hi)
     have q2 := h2.Nq m (hr.mem (by omega) (by omega) hj)
     omega
  ·rcases hq i n (by omega) (by omega) hi h4 with hq | ⟨j, m, j1, j2, hj, QT, ha, hb⟩
   ·exact Or.inl hq
   ·by_cases hlt : j < b + t.cnt
    ·exfalso
     have q1 := h1.Nq m (he.left.mem j1 (by omega) hj)
     have q2 := h2.Nq n (hr.mem i1 (by omega) hi)
     omega
    ·exact Or.inr ⟨j, m, by omega, by omega, hj, QT, ha, hb⟩
end
theorem xB (T : List Ty) (rg : Nat) : ∀ (l : List NR) (k a b : Nat), (dz T rg l k a b).1 <= a /\ b <= (dz T rg l k a b).2 /\ ∀ (i : Nat) (n : NR), l[i]? = some n -> (ai T ((k + i : Nat) : Int)).has rg = true -> (dz T rg l k a b).1 <= n.at_ /\ n.aO <= (dz T rg l k a b).2
 | [], k, a, b => ⟨Nat.le_refl _, Nat.le_refl _, fun i n h => by simp at h⟩
 | m :: r, k, a, b => by
  simp only [dz]
  split
  ·rename_i hm
   obtain ⟨h1, h2, h3⟩ := xB T rg r (k + 1) (if m.at_ < a then m.at_ else a) (if b < m.aO then m.aO else b)
   have e1 : (if m.at_ < a then m.at_ else a) <= a /\ (if m.at_ < a then m.at_ else a) <= m.at_ := by split <;> omega
   have e2 : b <= (if b < m.aO then m.aO else b) /\ m.aO <= (if b < m.aO then m.aO else b) := by split <;> omega
   refine ⟨by omega, by omega, fun i n hn hh => ?_⟩
   cases i with
   | zero => simp only [List.getElem?_cons_zero, Option.some.injEq] at hn; subst hn; omega
   | succ i => exact h3 i n (by simpa using hn) (by rw [show k + 1 + i = k + (i + 1) by omega]; exact hh)
  ·rename_i hm
   obtain ⟨h1, h2, h3⟩ := xB T rg r (k + 1) a b
   refine ⟨h1, h2, fun i n hn hh => ?_⟩
   cases i with
   | zero => exact absurd hh (by simpa using hm)
   | succ i => exact h3 i n (by simpa using hn) (by rw [show k + 1 + i = k + (i + 1) by omega]; exact hh)
structure zz (T : List Ty) (ns : List NR) (A : List Ty) (U : Ty) : Prop where
 pl : tM T ns = (0, 0)
 run : bz T ns = T ++ (A ++ [U])
theorem zz.root {T : List Ty} {ks : List NR} {A : List Ty} (n : NR) (U : Ty) (hp : tM T ks = (0, 0)) (hr : bz T ks = T ++ A) (hU : cH (T ++ A) n = U) (hv : oY (T ++ A ++ [U]) n = 0) : zz T (ks ++ [n]) A U := by
 refine ⟨?_, ?_⟩
 ·rw [oI, hp, if_neg (by simp), hr]
  simp only [tM, hU, hv, ne_eq, not_true_eq_false, if_false]
 ·rw [kf, hr]
  simp only [bz, hU, List.append_assoc]
theorem zz.two {T : List Ty} {n1 n2 : List NR} {A B : List Ty} {U V : Ty} (h : zz T n1 A U) (g : zz (T ++ (A ++ [U])) n2 B V) : tM T (n1 ++ n2) = (0, 0) /\ bz T (n1 ++ n2) = T ++ ((A ++ [U]) ++ (B ++ [V])) := by
 refine ⟨?_, ?_⟩
 ·rw [oI, h.pl, if_neg (by simp), h.run, g.pl]
 ·rw [kf, h.run, g.run, List.append_assoc]
theorem zz.three {T : List Ty} {n1 n2 n3 : List NR} {A B C : List Ty} {U V W : Ty} (h : zz T n1 A U) (g : zz (T ++ (A ++ [U])) n2 B V) (k : zz (T ++ (A ++ [U]) ++ (B ++ [V])) n3 C W) : tM T (n1 ++ (n2 ++ n3)) = (0, 0) /\ bz T (n1 ++ (n2 ++ n3)) = T ++ ((A ++ [U]) ++ ((B ++ [V]) ++ (C ++ [W]))) := by
 have g2 := g.two k
 refine ⟨?_, ?_⟩
 ·rw [oI, h.pl, if_neg (by simp), h.run, g2.1]
 ·rw [kf, h.run, g2.2, List.append_assoc]
def Fe (GR : aQ) (sc : Sc) (T : List Ty) : Prop := ∀ s U, look GR s = some U -> ∃ i : Nat, bL sc s = (i : Int) /\ T[i]? = some U
theorem Fe.more {GR : aQ} {sc : Sc} {T : List Ty} (h : Fe GR sc T) (X : List Ty) : Fe GR sc (T ++ X) := fun s U hs => by
 obtain ⟨i, h1, h2⟩ := h s U hs
 exact ⟨i, h1, by rw [List.getElem?_append_left (List.getElem?_eq_some_iff.1 h2).1]; exact h2⟩
theorem Fe.snoc {GR : aQ} {sc : Sc} {T A : List Ty} {nm : List UInt8} {U : Ty} {c : Nat} (h : Fe GR sc T) (hc : c = A.length + 1) : Fe (GR ++ [(nm, U)]) (sc ++ [(nm, ((T.length + c : Nat) : Int) - 1)]) (T ++ (A ++ [U])) := fun s V hs => by
 rw [kS] at hs
 rw [lD]
 by_cases e : nm = s
 ·rw [if_pos e] at hs ⊢
  simp only [Option.some.injEq] at hs
  subst hs
  refine ⟨T.length + A.length, by omega, ?_⟩
  rw [List.getElem?_append_right (by omega), Nat.add_sub_cancel_left, List.getElem?_append_right (by omega), Nat.sub_self]; rfl
 ·rw [if_neg e] at hs ⊢
  exact h.more _ s V hs
theorem mU.plw {GR : aQ} {e : PT} {U : Ty} (h : mU GR e U) : ∀ (sc : Sc) (T : List Ty) (ns : List NR), NA sc e T.length ns -> Fe GR sc T -> ∃ A, A.length + 1 = e.cnt /\ zz T ns A U := by
 induction h with
 | num h =>
  intro sc T ns bq _
  simp only [NA] at bq
  subst bq
  exact ⟨[], rfl, zz.root (ks := []) _ _ rfl (by simp [bz]) (by simp [cH]) (by simp [oY])⟩
 | name hs =>
  intro sc T ns bq hE
  simp only [NA] at bq
  subst bq
  obtain ⟨i, h1, h2⟩ := hE _ _ hs
  refine ⟨[], rfl, zz.root (ks := []) _ _ rfl (by simp [bz]) ?_ (by simp [oY])⟩
  simp only [cH, if_true, h1]; rw [List.append_nil]; have := qA [] h2; rw [List.append_nil] at this; exact this
 | @bb G p nm rg a b UA UB ha hb bI dG =>
  intro sc T ns bq hE
  simp only [NA, bX, cR, Bool.false_eq_true, if_false] at bq
  obtain ⟨ks, aO, ⟨a1, c1, eC, ⟨a2, c2, lL, ⟨_, rfl⟩, rfl⟩, rfl⟩, rfl⟩ := bq
  obtain ⟨A, hA, h1⟩ := bI sc T a1 eC hE
  obtain ⟨B, hB, h2⟩ := dG _ (T ++ (A ++ [UA])) a2 (by simp only [if_true] at lL; rw [List.length_append, List.length_append, List.length_singleton, hA]; exact lL) (hE.snoc hA.symm)
  obtain ⟨t1, t3⟩ := h1.two h2
  rw [List.append_nil]
  have hk := kn2 T A B [] UA UB _ _ hA hB
  rw [List.append_nil] at hk
  refine ⟨_, ?_, zz.root _ _ t1 t3 ?_ (by simp [oY, qC])⟩
  ·simp only [PT.cnt, aB, List.length_append, List.length_singleton]; omega
  ·simp only [cH, qC, ay, List.getD_cons_succ, List.getD_cons_zero]
   simp only [Nat.reduceEqDiff, if_false, if_true]
   exact hk.2
 | @pair G p nm rg a b UA UB r hr ha hb bI dG =>
  intro sc T ns bq hE
  simp only [NA, bX, cR, Bool.false_eq_true, if_false] at bq
  obtain ⟨ks, aO, ⟨a1, c1, eC, ⟨a2, c2, lL, ⟨_, rfl⟩, rfl⟩, rfl⟩, rfl⟩ := bq
  obtain ⟨A, hA, h1⟩ := bI sc T a1 eC hE
  obtain ⟨B, hB, h2⟩ := dG sc (T ++ (A ++ [UA])) a2 (by rw [List.length_append, List.length_append, List.length_singleton, hA]; exact lL) (hE.more _)
  obtain ⟨t1, t3⟩ := h1.two h2
  rw [List.append_nil]
  have hk := kn2 T A B [] UA UB _ _ hA hB
  rw [List.append_nil] at hk
  refine ⟨_, ?_, zz.root _ _ t1 t3 ?_ (by simp [oY, mH])⟩
  ·simp only [PT.cnt, aB, List.length_append, List.length_singleton]; omega
  ·simp only [cH, mH, ay, List.getD_cons_succ, List.getD_cons_zero, hr]
   simp only [Nat.reduceEqDiff, if_false, if_true, Int.toNat_natCast]
   rw [hk.1, hk.2]
 | @fst G p nm rg a r UA UB ha bI =>
  intro sc T ns bq hE
  simp only [NA, bX, cR, Bool.false_eq_true, if_false] at bq
  obtain ⟨ks, aO, ⟨a1, c1, eC, ⟨_, rfl⟩, rfl⟩, rfl⟩ := bq
  obtain ⟨A, hA, h1⟩ := bI sc T a1 eC hE
  rw [List.append_nil]
  have hk := jj T A [] (.p r UA UB) _ hA.symm
  rw [List.append_nil] at hk
  refine ⟨_, ?_, zz.root _ _ h1.pl h1.run ?_ (by simp [oY, qD])⟩
  ·simp only [PT.cnt, aB, List.length_append, List.length_singleton]; omega
  ·simp only [cH, qD, ay, List.getD_cons_zero]
   simp only [Nat.reduceEqDiff, if_false, if_true]
   rw [hk]; rfl
 | @snd G p nm rg a r UA UB ha bI =>
  intro sc T ns bq hE
  simp only [NA, bX, cR, Bool.false_eq_true, if_false] at bq
  obtain ⟨ks, aO, ⟨a1, c1, eC, ⟨_, rfl⟩, rfl⟩, rfl⟩ := bq
  obtain ⟨A, hA, h1⟩ := bI sc T a1 eC hE
  rw [List.append_nil]
  have hk := jj T A [] (.p r UA UB) _ hA.symm
  rw [List.append_nil] at hk
  refine ⟨_, ?_, zz.root _ _ h1.pl h1.run ?_ (by simp [oY, qE])⟩
  ·simp only [PT.cnt, aB, List.length_append, List.length_singleton]; omega
  ·simp only [cH, qE, ay, List.getD_cons_zero]
   simp only [Nat.reduceEqDiff, if_false, if_true]
   rw [hk]; rfl
 | @fH G p nm rg a b c U ha hb hc bI dG nY =>
  intro sc T ns bq hE
  simp only [NA, bX, cR, Bool.false_eq_true, if_false] at bq
  obtain ⟨ks, aO, ⟨a1, c1, eC, ⟨a2, c2, lL, ⟨a3, c3, E8, ⟨_, rfl⟩, rfl⟩, rfl⟩, rfl⟩, rfl⟩ := bq
  obtain ⟨A, hA, h1⟩ := bI sc T a1 eC hE
  have hl1 : (T ++ (A ++ [Ty.n])).length = T.length + a.cnt := by rw [List.length_append, List.length_append, List.length_singleton, hA]
  obtain ⟨B, hB, h2⟩ := dG sc (T ++ (A ++ [Ty.n])) a2 (by rw [hl1]; exact lL) (hE.more _)
  have hl2 : (T ++ (A ++ [Ty.n]) ++ (B ++ [U])).length = T.length + a.cnt + b.cnt := by rw [List.length_append, hl1, List.length_append, List.length_singleton, hB]
  obtain ⟨C, hC, h3⟩ := nY sc (T ++ (A ++ [Ty.n]) ++ (B ++ [U])) a3 (by rw [hl2]; exact E8) ((hE.more _).more _)
  obtain ⟨t1, t3⟩ := h1.three h2 h3
  rw [List.append_nil]
  have hk := fun X => kn3 T A B C X .n U U _ _ _ hA hB hC
  have o9 := hk []
  rw [List.append_nil] at o9
  refine ⟨_, ?_, zz.root _ _ t1 t3 ?_ ?_⟩
  ·simp only [PT.cnt, aB, List.length_append, List.length_singleton]; omega
  ·simp only [cH, tX, ay, List.getD_cons_succ, List.getD_cons_zero]
   simp only [Nat.reduceEqDiff, if_false, if_true]
   exact o9.2.1
  ·simp only [oY, tX, true_or, if_true, ay, List.getD_cons_succ, List.getD_cons_zero]
   rw [(hk [U]).2.1, (hk [U]).2.2, if_pos rfl]
 | @two G p k nm rg a b hkk ha hb bI dG =>
  intro sc T ns bq hE
  have hkb : bX k = [false, false] := by rcases hkk with rfl | rfl | rfl <;> rfl
  have DZ : aU k = 8 \/ aU k = 9 \/ aU k = 10 := by rcases hkk with rfl | rfl | rfl <;> decide
  simp only [NA, hkb, cR, Bool.false_eq_true, if_false] at bq
  obtain ⟨ks, aO, ⟨a1, c1, eC, ⟨a2, c2, lL, ⟨_, rfl⟩, rfl⟩, rfl⟩, rfl⟩ := bq
  obtain ⟨A, hA, h1⟩ := bI sc T a1 eC hE
  obtain ⟨B, hB, h2⟩ := dG sc (T ++ (A ++ [Ty.n])) a2 (by rw [List.length_append, List.length_append, List.length_singleton, hA]; exact lL) (hE.more _)
  obtain ⟨t1, t3⟩ := h1.two h2
  rw [List.append_nil]
  refine ⟨_, ?_, zz.root _ _ t1 t3 ?_ ?_⟩
  ·simp only [PT.cnt, aB, List.length_append, List.length_singleton]; omega
  ·simp only [cH]
   rcases DZ with h | h | h <;> simp [h]
  ·simp only [oY]
   rcases DZ with h | h | h <;> simp [h]
 | @loop G p nm rg a b c U ha hb hc bI dG nY =>
  intro sc T ns bq hE
  simp only [NA, bX, cR, Bool.false_eq_true, if_false, if_true] at bq
  obtain ⟨ks, aO, ⟨a1, c1, eC, ⟨a2, c2, lL, ⟨a3, c3, E8, ⟨_, rfl⟩, rfl⟩, rfl⟩, rfl⟩, rfl⟩ := bq
  obtain ⟨A, hA, h1⟩ := bI sc T a1 eC hE
  have hl1 : (T ++ (A ++ [Ty.n])).length = T.length + a.cnt := by rw [List.length_append, List.length_append, List.length_singleton, hA]
  obtain ⟨B, hB, h2⟩ := dG sc (T ++ (A ++ [Ty.n])) a2 (by rw [hl1]; exact lL) (hE.more _)
  have tT := (hE.more (A ++ [Ty.n])).snoc (nm := nm) (U := U) hB.symm
  rw [hl1] at tT
  have hl2 : (T ++ (A ++ [Ty.n]) ++ (B ++ [U])).length = T.length + a.cnt + b.cnt := by rw [List.length_append, hl1, List.length_append, List.length_singleton, hB]
  obtain ⟨C, hC, h3⟩ := nY _ (T ++ (A ++ [Ty.n]) ++ (B ++ [U])) a3 (by rw [hl2]; exact E8) tT
  obtain ⟨t1, t3⟩ := h1.three h2 h3
  rw [List.append_nil]
  have hk := fun X => kn3 T A B C X .n U U _ _ _ hA hB hC
  have o9 := hk []
  rw [List.append_nil] at o9
  refine ⟨_, ?_, zz.root _ _ t1 t3 ?_ ?_⟩
  ·simp only [PT.cnt, aB, List.length_append, List.length_singleton]; omega
  ·simp only [cH, lA, ay, List.getD_cons_succ, List.getD_cons_zero]
   simp only [Nat.reduceEqDiff, if_false, if_true]
   exact o9.2.1
  ·simp only [oY, lA, or_true, if_true, ay, List.getD_cons_succ, List.getD_cons_zero]
   rw [(hk [U]).2.1, (hk [U]).2.2, if_pos rfl]
 | @new G p nm rg a U ha hm bI =>
  intro sc T ns bq hE
  simp only [NA, bX, cR, Bool.false_eq_true, if_false] at bq
  obtain ⟨ks, aO, ⟨a1, c1, eC, ⟨_, rfl⟩, rfl⟩, rfl⟩ := bq
  obtain ⟨A, hA, h1⟩ := bI sc T a1 eC hE
  rw [List.append_nil]
  have hk := fun X => jj T A X U _ hA.symm
  have o9 := hk []
  rw [List.append_nil] at o9
  refine ⟨_, ?_, zz.root _ _ h1.pl h1.run ?_ ?_⟩
  ·simp only [PT.cnt, aB, List.length_append, List.length_singleton]; omega
  ·simp only [cH, wN, ay, List.getD_cons_zero]
   simp only [Nat.reduceEqDiff, if_false, if_true]
   exact o9
  ·simp only [oY, wN, ay, List.getD_cons_zero]
   simp only [Nat.reduceEqDiff, or_self, if_false, if_true]
   rw [hk _, hm]; rfl
mutual
def PT.tu : PT -> List Int
 | .num _ _ => []
 | .name _ _ => []
 | .node _ k _ rg kids => (if k = .new then [au rg] else []) ++ qM kids
def qM : List PT -> List Int
 | [] => []
 | t :: r => t.tu ++ qM r
end
def f12 (n : NR) : Bool := n.form == 12
theorem Ff (k : Kw) : aU k = 12 ↔ k = .new := by cases k <;> decide
mutual
theorem GI (NS : List NR) : ∀ (t : PT) (scope : Sc) (base : Nat) (ns : List NR), NA scope t base ns -> (∀ j, j < ns.length -> NS[base + j]? = ns[j]?) -> ((bD NS (opn t base)).filter f12).map (·.region) = t.tu
 | .num p s, scope, base, ns, h, hN => by
  simp only [NA] at h
  subst h
  have := hN 0 (by simp)
  simp only [Nat.add_zero] at this
  simp [bD, opn, this, PT.tu, f12]
 | .name p s, scope, base, ns, h, hN => by
  simp only [NA] at h
  subst h
  have := hN 0 (by simp)
  simp only [Nat.add_zero] at this
  simp [bD, opn, this, PT.tu, f12]
 | .node p k nm rg kids, scope, base, ns, h, hN => by
  simp only [NA] at h
  obtain ⟨ks, aO, h1, rfl⟩ := h
  have hl := h1.len
  have hk := Dg NS kids scope nm (bX k) base ks h1 (fun j hj => by rw [hN j (by simp; omega), List.getElem?_append_left hj])
  have hs := hN ks.length (by simp)
  rw [hl, <- hl, List.getElem?_append_right (Nat.le_refl _)] at hs
  simp only [Nat.sub_self, List.getElem?_cons_zero] at hs
  rw [hl] at hs
  simp only [opn, PT.tu]
  unfold bD at hk ⊢
  rw [List.map_cons, Int.toNat_natCast, hs, Option.getD_some, List.filter_cons]
  by_cases hkp : k = .new
  ·have : aU k = 12 := (Ff k).2 hkp
   simp only [f12, this, if_pos hkp] at hk ⊢
   simp only [beq_self_eq_true, if_true, List.map_cons, hk]; rfl
  ·have : ¬ aU k = 12 := fun e => hkp ((Ff k).1 e)
   have h12 : (aU k == 12) = false := by rw [beq_eq_false_iff_ne]; exact this
   simp only [f12, h12, if_neg hkp] at hk ⊢
   simp only [Bool.false_eq_true, if_false, hk]; rfl
theorem Dg (NS : List NR) : ∀ (ts : List PT) (scope : Sc) (nm : List UInt8) (bs : List Bool) (base : Nat) (ns : List NR), cR scope nm ts bs base ns -> (∀ j, j < ns.length -> NS[base + j]? = ns[j]?) -> ((bD NS (lW ts base)).filter f12).map (·.region) = qM ts
 | [], _, _, _, _, _, _, _ => by simp [bD, lW, qM]
 | _ :: _, _, _, [], _, _, h, _ => by simp [cR] at h
 | t :: r, scope, nm, b :: bs, base, ns, h, hN => by
  simp only [cR] at h
  obtain ⟨a, c, h1, h2, rfl⟩ := h
  have hl := h1.len
  have e1 := GI NS t _ base a h1 (fun j hj => by rw [hN j (by simp; omega), List.getElem?_append_left hj])
  have e2 := Dg NS r scope nm bs (base + t.cnt) c h2 (fun j hj => by
   have := hN (t.cnt + j) (by simp; omega)
   rw [<- Nat.add_assoc] at this
   rw [this, List.getElem?_append_right (by omega)]
   congr 1; omega)
  unfold bD at e1 e2 ⊢
  simp only [lW, qM, List.map_append, List.filter_append, e1, e2]
end
theorem tz : ∀ (O acc : List NR), ((acc ++ O.filter f12).map (·.region)).Nodup -> dQ O acc = (acc ++ O.filter f12, 0, 0)
 | [], acc, _ => by simp [dQ]
 | n :: r, acc, h => by
  simp only [dQ]
  by_cases h12 : n.form = 12
  ·have hf : f12 n = true := by simp [f12, h12]
   rw [List.filter_cons, hf, if_pos rfl] at h ⊢
   have hno : (lI acc n.region).isSome = false := by
    unfold lI
    rw [Option.isSome_eq_false_iff, Option.isNone_iff_eq_none, List.find?_eq_none]
    intro x hx hc
    rw [List.map_append, List.nodup_append] at h
    exact h.2.2 x.region (List.mem_map.2 ⟨x, hx, rfl⟩) n.region (by simp) (by simpa using hc)
   rw [if_pos h12, if_neg (by rw [hno]; decide)]
   have := tz r (acc ++ [n]) (by rw [List.append_assoc]; exact h)
   rw [this, List.append_assoc]; rfl
  ·have hf : f12 n = false := by simp [f12, h12]
   rw [List.filter_cons, hf] at h ⊢
   rw [if_neg h12]
   exact tz r acc h
theorem GJ (l : List NR) : ∀ O : List NR, (∀ n ∈ O, n.form = 4 -> ∀ o, lI l n.region = some o -> o.at_ <= n.at_ /\ n.at_ < o.aO) -> lX l O = (0, 0)
 | [], _ => rfl
 | n :: r, h => by
  have ih := GJ l r (fun m hm => h m (by simp [hm]))
  simp only [lX]
  split
  ·rename_i h4
   cases e : lI l n.region with
   | none => simp only; exact ih
   | some o =>
    have := h n (by simp) h4 o e
    simp only
    rw [if_neg (by omega)]; exact ih
  ·exact ih
mutual
theorem r9 : ∀ (t : PT) (rs : List Int) (scope : Sc) (base : Nat) (ms : List NR) (lo hi : Nat), fk rs t -> NA scope t base ms -> dc t ms lo hi -> ∀ n ∈ ms, n.form = 4 -> n.region ∈ rs \/ ∃ o ∈ ms, o.form = 12 /\ o.region = n.region /\ o.at_ <= n.at_ /\ n.at_ < o.aO
 | .num p s, rs, scope, base, ms, lo, hi, _, h, _, n, hn, h4 => by simp only [NA] at h; subst h; simp only [List.mem_singleton] at hn; subst hn; simp at h4
 | .name p s, rs, scope, base, ms, lo, hi, _, h, _, n, hn, h4 => by simp only [NA] at h; subst h; simp only [List.mem_singleton] at hn; subst hn; simp at h4
 | .node p k nm rg kids, rs, scope, base, ms, lo, hi, hc, h, hp, n, hn, h4 => by
  simp only [NA] at h
  obtain ⟨ks, aO, h1, rfl⟩ := h
  simp only [dc] at hp
  obtain ⟨ks', n0, e0, p1, p2, p3, p4, p5⟩ := hp
  obtain ⟨rfl, e1⟩ := List.append_inj' e0 rfl
  simp only [List.cons.injEq, and_true] at e1
  simp only [fk] at hc
  rcases List.mem_append.1 hn with hn | hn
  ·rcases pP kids _ scope nm (bX k) base ks (p + 1) n0.aO hc.2 h1 p3 n hn h4 with hr | ⟨o, ho, h5⟩
   ·by_cases hk : k = .new
    ·rw [if_pos hk] at hr
     rcases List.mem_cons.1 hr with hr | hr
     ·right
      have hin := p3.Nq n hn
      refine ⟨n0, by rw [e1]; simp, ?_, ?_, by omega, by omega⟩
      ·rw [<- e1]; exact (Ff k).2 hk
      ·rw [<- e1]; exact hr.symm
     ·exact Or.inl hr
    ·rw [if_neg hk] at hr; exact Or.inl hr
   ·exact Or.inr ⟨o, List.mem_append_left _ ho, h5⟩
  ·simp only [List.mem_singleton] at hn
   subst hn
   exact Or.inl (hc.1 ((Gq k).1 h4))
theorem pP : ∀ (ts : List PT) (rs : List Int) (scope : Sc) (nm : List UInt8) (bs : List Bool) (base : Nat) (ms : List NR) (lo hi : Nat), gz rs ts -> cR scope nm ts bs base ms -> bV ts ms lo hi -> ∀ n ∈ ms, n.form = 4 -> n.region ∈ rs \/ ∃ o ∈ ms, o.form = 12 /\ o.region = n.region /\ o.at_ <= n.at_ /\ n.at_ < o.aO
 | [], rs, _, _, _, _, ms, lo, hi, _, h, _, n, hn, _ => by simp only [cR] at h; rw [h.2] at hn; simp at hn
 | _ :: _, _, _, _, [], _, _, _, _, _, h, _, _, _, _ => by simp [cR] at h
 | t :: r, rs, scope, nm, b :: bs, base, ms, lo, hi, hc, h, hp, n, hn, h4 => by
  simp only [cR] at h
  obtain ⟨a, c, h1, h2, rfl⟩ := h
  simp only [bV] at hp
  obtain ⟨a', c', mid, e0, p1, p2⟩ := hp
  obtain ⟨rfl, rfl⟩ := List.append_inj e0 (by rw [h1.len, p1.len])
  simp only [gz] at hc
  rcases List.mem_append.1 hn with hn | hn
  ·rcases r9 t rs _ base a lo mid hc.1 h1 p1 n hn h4 with hr | ⟨o, ho, h5⟩
   ·exact Or.inl hr
   ·exact Or.inr ⟨o, List.mem_append_left _ ho, h5⟩
  ·rcases pP r rs scope nm bs (base + t.cnt) c mid hi hc.2 h2 p2 n hn h4 with hr | ⟨o, ho, h5⟩
   ·exact Or.inl hr
   ·exact Or.inr ⟨o, List.mem_append_right _ ho, h5⟩
end
def tA : List Int -> Nat -> Int -> List Int
 | [], _, _ => []
 | a :: l, r, i => (if a = i then [(r : Int)] else []) ++ tA l (r + 1) i
theorem tB (i : Int) (t : PT) : ∀ (l : List Int) (r : Nat), (eU l r i t).tu = tA l r i ++ t.tu
 | [], _ => by simp [eU, tA]
 | a :: l, r => by
  simp only [eU, tA]
  split
  ·simp only [PT.tu, qM, if_true, xp, tB i t l (r + 1), List.append_nil, List.append_assoc]
  ·rw [tB i t l (r + 1)]; rfl
theorem A1 (i : Int) : ∀ (l : List Int) (r : Nat), ∀ x ∈ tA l r i, ∃ j : Nat, x = ((r + j : Nat) : Int) /\ l[j]? = some i
 | [], _, x, h => by simp [tA] at h
 | a :: l, r, x, h => by
  simp only [tA, List.mem_append] at h
  rcases h with h | h
  ·split at h
   ·rename_i e
    simp only [List.mem_singleton] at h
    exact ⟨0, by rw [h]; rfl, by simp [e]⟩
   ·simp at h
  ·obtain ⟨j, h1, h2⟩ := A1 i l (r + 1) x h
   exact ⟨j + 1, by rw [h1]; congr 1; omega, by simpa using h2⟩
theorem xC (i : Int) : ∀ (l : List Int) (r : Nat), (tA l r i).Nodup
 | [], _ => by simp [tA]
 | a :: l, r => by
  have ih := xC i l (r + 1)
  simp only [tA]
  split
  ·simp only [List.singleton_append, List.nodup_cons]
   refine ⟨fun h => ?_, ih⟩
   obtain ⟨j, h1, _⟩ := A1 i l (r + 1) _ h
   omega
  ·simpa using ih
def Mt (N : List Int) (lo hi : Nat) (l : List Int) : Prop := ∀ x ∈ l, ∃ (r i : Nat), x = (r : Int) /\ N[r]? = some (i : Int) /\ lo <= i /\ i < hi
theorem GK {N : List Int} {a b c d : Nat} {l l' : List Int} (h : Mt N a b l) (g : Mt N c d l') (hn : l.Nodup) (gn : l'.Nodup) (hd : b <= c \/ d <= a) : (l ++ l').Nodup := by
 rw [List.nodup_append]
 refine ⟨hn, gn, fun x hx y hy e => ?_⟩
 subst e
 obtain ⟨r, i, h1, h2, h3, h4⟩ := h x hx
 obtain ⟨r', i', g1, g2, g3, g4⟩ := g x hy
 have : r = r' := by omega
 subst this
 rw [h2] at g2
 simp only [Option.some.injEq] at g2
 omega
theorem PI (N : List Int) (i : Nat) : Mt N i (i + 1) (tA N 0 (i : Int)) := fun x hx => by
 obtain ⟨j, h1, h2⟩ := A1 _ N 0 x hx
 exact ⟨j, i, by rw [h1, Nat.zero_add], h2, Nat.le_refl _, by omega⟩
theorem Mt.mono {N : List Int} {a b c d : Nat} {l : List Int} (h : Mt N a b l) (h1 : c <= a) (h2 : b <= d) : Mt N c d l := fun x hx => by
 obtain ⟨r, i, e1, e2, e3, e4⟩ := h x hx
 exact ⟨r, i, e1, e2, by omega, by omega⟩
mutual
theorem Mu (R N : List Int) : ∀ (t : PT) (b : Nat), cJ t -> (t.fF R N b).tu.Nodup /\ Mt N b (b + t.cnt - 1) (t.fF R N b).tu
 | .num _ _, _, _ => ⟨by simp [PT.fF, PT.tu], fun x hx => by simp [PT.fF, PT.tu] at hx⟩
 | .name _ _, _, _ => ⟨by simp [PT.fF, PT.tu], fun x hx => by simp [PT.fF, PT.tu] at hx⟩
 | .node _ k nm _ kids, b, hn => by
  cases hn with
  | node hk hn =>
  have := xD R N kids b hn
  simp only [PT.fF, PT.tu, if_neg hk, List.nil_append, PT.cnt]
  rw [show b + (1 + aB kids) - 1 = b + aB kids by omega]
  exact this
theorem xD (R N : List Int) : ∀ (ts : List PT) (b : Nat), (∀ x ∈ ts, cJ x) -> (qM (gH R N ts b)).Nodup /\ Mt N b (b + aB ts) (qM (gH R N ts b))
 | [], _, _ => ⟨by simp [gH, qM], fun x hx => by simp [gH, qM] at hx⟩
 | t :: r, b, hn => by
  obtain ⟨h1, h2⟩ := Mu R N t b (hn t (by simp))
  obtain ⟨g1, g2⟩ := xD R N r (b + t.cnt) (fun x hx => hn x (by simp [hx]))
  have hc := dI t
  have Lq : (((b + t.cnt : Nat) : Int) - 1) = ((b + t.cnt - 1 : Nat) : Int) := by omega
  have i1 := PI N (b + t.cnt - 1)
  have n1 : (tA N 0 ((b + t.cnt - 1 : Nat) : Int) ++ (t.fF R N b).tu).Nodup := GK i1 h2 (xC _ N 0) h1 (Or.inr (Nat.le_refl _))
  have i2 : Mt N b (b + t.cnt) (tA N 0 ((b + t.cnt - 1 : Nat) : Int) ++ (t.fF R N b).tu) := fun x hx => by
   rcases List.mem_append.1 hx with hx | hx
   ·exact i1.mono (by omega) (by omega) x hx
   ·exact h2.mono (Nat.le_refl _) (by omega) x hx
  simp only [gH, qM, tB, Lq, aB]
  refine ⟨GK i2 g2 n1 g1 (Or.inl (Nat.le_refl _)), fun x hx => ?_⟩
  rcases List.mem_append.1 hx with hx | hx
  ·exact i2.mono (Nat.le_refl _) (by omega) x hx
  ·exact g2.mono (by omega) (by omega) x hx
end
theorem PJ (R N : List Int) (t : PT) (hn : cJ t) : (t.lay R N 0).tu.Nodup /\ Mt N 0 (0 + aB [t]) (t.lay R N 0).tu := by
 have := xD R N [t] 0 (by simpa using hn)
 simp only [gH, qM, List.append_nil] at this
 exact this
mutual
theorem Mv : ∀ e : PT, e.np.tu = e.tu
 | .num _ _ => rfl
 | .name _ _ => rfl
 | .node _ k nm rg kids => by simp only [PT.np, PT.tu, GL kids]
theorem GL : ∀ l : List PT, qM (jZ l) = qM l
 | [] => rfl
 | t :: r => by simp only [jZ, qM, Mv t, GL r]
end
open Go.RowKit
mutual
theorem zF : ∀ (e : PT) (rs : List Int), fk rs e.np -> fk rs e
 | .num _ _, _, _ => by simp [fk]
 | .name _ _, _, _ => by simp [fk]
 | .node _ k nm rg kids, rs, h => by
  simp only [PT.np, fk] at h ⊢
  exact ⟨h.1, xE kids _ h.2⟩
theorem xE : ∀ (l : List PT) (rs : List Int), gz rs (jZ l) -> gz rs l
 | [], _, _ => by simp [gz]
 | t :: r, rs, h => by
  simp only [jZ, gz] at h ⊢
  exact ⟨zF t rs h.1, xE r rs h.2⟩
end
def Mw (S : ByteArray) (a b c d : Int) : Value := .agg #[.string S, .int .i64 a, .int .i64 b, .int .i64 c, .int .i64 d]
theorem A2 (s : ByteArray) (hs : s.size <= 9000) (e : PT) (hp : PE true (tokens s.data.toList) e []) (hc : cx e = (0, 0)) (ans : Nat × Nat) (Q0 : ∀ ns lo hi, NA [] e 0 ns -> dc e ns lo hi -> qd ns (opn e 0) = ans) :
  ∀ w, Calls Tryz.prog 30 #[.string s] w fun v w' => v = .returned (.tuple #[.int .i64 ans.1, .int .i64 ans.2]) /\ Below w.heap.size w w' := by
 intro w
 have h3 := (hp.uR (sU _)).1
 have o6 := iZ hp
 have hc1 : (cx e).1 = 0 := by rw [hc]
 have Jf : e.bJ <= 100 := by
  unfold cx at hc1
  split at hc1
  ·simp at hc1
  ·omega
 have h0 : (aD (n8 e) e 0 0 [] (BF e)).2.e = 0 := (Mi e Jf).1.trans hc1
 refine Cw s w e (cx e).2 ans (fun w => ?_) (fun w' x1 n1 c1 x2 n2 c2 ns hTr bq => ?_)
 ·have := wK s w hs e hp
  rw [hc1] at this
  exact this
 ·obtain ⟨hsz, _⟩ := Mh e ns bq.1 h3 h0
  rw [<- Q0 ns _ _ bq.1 bq.2]
  exact vF w' _ _ ns (opn e 0) hTr (yI bq.1) (by have := bq.1.len; omega) (bq.1.small (fun _ h => by simp at h) (by omega)) (bq.1.Xc h3) hsz
end Go.Proofs.YtpicaknklgccoaaGreatDoor
