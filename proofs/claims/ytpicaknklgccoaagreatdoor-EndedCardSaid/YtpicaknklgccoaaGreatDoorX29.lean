import Derived.Test.YtpicaknklgccoaaGreatDoorX28
import Derived.Test.YtpicaknklgccoaaGreatDoorX16
namespace Go.Proofs.YtpicaknklgccoaaGreatDoor
open Go.Lib (decDigits)
theorem fin_end {id p : Nat} {x : Ty × TSt} {T : Ty} {A : Nat} (h0 : x.2.e = 0) (hb : x.1.bare = T) (hs : T.size ≤ 63) (ha : x.2.at_ = A) : (fin id p x).2.e = 0 ∧ (fin id p x).1.bare = T ∧ T.size ≤ 63 ∧ (fin id p x).2.at_ = A := by
 have hsz : x.1.size ≤ 63 := by rw [← bare_sizeE, hb]; exact hs
 unfold fin
 have : ¬ (x.2.e = 0 ∧ 63 < x.1.size) := by omega
 simp only [if_neg this]
 exact ⟨h0, hb, hs, ha⟩
theorem bare_pair {T A B : Ty} {r : Nat} (h : T.bare = .p r A B) : ∃ q u v, T = .p q u v ∧ u.bare = A ∧ v.bare = B := by
 cases T with
 | n => simp [Ty.bare] at h
 | p q u v => simp only [Ty.bare, Ty.p.injEq] at h; exact ⟨q, u, v, rfl, h.2.1, h.2.2⟩
theorem bare_num {T : Ty} (h : T.bare = .n) : T = .n := by cases T with
 | n => rfl
 | p q u v => simp [Ty.bare] at h
theorem WT.find {G : TEnv} {e : PT} {T : Ty} (h : WT G e T) : ∀ (cls : List Nat) (id site : Nat) (env : TEnv) (st : TSt), bareE env = G → (∀ x ∈ env, x.2.size ≤ 63) → st.e = 0 →
  (tyFind cls e id site env st).2.e = 0 ∧ (tyFind cls e id site env st).1.bare = T ∧ T.size ≤ 63 ∧ (tyFind cls e id site env st).2.at_ = st.at_ := by
 induction h with
 | num => intro cls id site env st _ _ h0; simp only [tyFind]; exact fin_end h0 rfl (by simp [Ty.size]) rfl
 | name h =>
  intro cls id site env st hG hs h0
  simp only [tyFind]
  rw [← hG, look_bare] at h
  cases hl : look env _ with
  | none => rw [hl] at h; simp at h
  | some U =>
   rw [hl] at h
   simp only [Option.map_some, Option.some.injEq] at h
   have hU : U.size ≤ 63 := by
    unfold look at hl
    cases hf : env.reverse.find? (fun x => x.1 == _) with
    | none => rw [hf] at hl; simp at hl
    | some z =>
     rw [hf] at hl
     simp only [Option.map_some, Option.some.injEq] at hl
     have := List.mem_of_find?_eq_some hf
     rw [← hl]
     exact hs z (List.mem_reverse.1 this)
   exact fin_end h0 h (by rw [← h, bare_sizeE]; exact hU) rfl
 | let_ ha hb iha ihb =>
  intro cls id site env st hG hs h0
  simp only [tyFind, if_true, tyLet]
  obtain ⟨a1, a2, a3, a4⟩ := iha cls (id + 1) site env st hG hs h0
  rename_i nm _ a b A B
  obtain ⟨b1, b2, b3, b4⟩ := ihb cls (id + 1 + a.cnt) (site + a.prs) (env ++ [(nm, (tyFind cls a (id + 1) site env st).1)]) (tyFind cls a (id + 1) site env st).2 (by rw [bareE_snoc, hG, a2]) (by
   intro x hx
   rcases List.mem_append.1 hx with hx | hx
   ·exact hs x hx
   ·simp only [List.mem_singleton] at hx; subst hx; rw [← bare_sizeE, a2]; exact a3) a1
  exact fin_end b1 b2 b3 (b4.trans a4)
 | pair ha hb hsz iha ihb =>
  intro cls id site env st hG hs h0
  simp only [tyFind, if_true, tyKids, if_neg (show Kw.pair ≠ .let_ by decide), if_neg (show Kw.pair ≠ .loop by decide)]
  rename_i a b A B
  obtain ⟨a1, a2, a3, a4⟩ := iha cls (id + 1) (site + 1) env st hG hs h0
  obtain ⟨b1, b2, b3, b4⟩ := ihb cls (id + 1 + a.cnt) (site + 1 + a.prs) env _ hG hs a1
  rw [if_neg (by rw [b1]; simp)]
  simp only [madeT]
  exact fin_end b1 (by simp only [Ty.bare, a2, b2]) hsz (b4.trans a4)
 | fst ha iha =>
  intro cls id site env st hG hs h0
  simp only [tyFind, tyKids, if_neg (show Kw.fst ≠ .let_ by decide), if_neg (show Kw.fst ≠ .loop by decide), if_neg (show Kw.fst ≠ .pair by decide), Nat.add_zero]
  obtain ⟨a1, a2, a3, a4⟩ := iha cls (id + 1) site env st hG hs h0
  rw [if_neg (by rw [a1]; simp)]
  obtain ⟨q, u, v, e, hu, hv⟩ := bare_pair a2
  rw [e]
  simp only [madeT]
  simp only [Ty.size] at a3
  exact fin_end a1 hu (by omega) a4
 | snd ha iha =>
  intro cls id site env st hG hs h0
  simp only [tyFind, tyKids, if_neg (show Kw.snd ≠ .let_ by decide), if_neg (show Kw.snd ≠ .loop by decide), if_neg (show Kw.snd ≠ .pair by decide), Nat.add_zero]
  obtain ⟨a1, a2, a3, a4⟩ := iha cls (id + 1) site env st hG hs h0
  rw [if_neg (by rw [a1]; simp)]
  obtain ⟨q, u, v, e, hu, hv⟩ := bare_pair a2
  rw [e]
  simp only [madeT]
  simp only [Ty.size] at a3
  exact fin_end a1 hv (by omega) a4
 | if_ ha hb hc iha ihb ihc =>
  intro cls id site env st hG hs h0
  simp only [tyFind, tyKids, if_neg (show Kw.if_ ≠ .let_ by decide), if_neg (show Kw.if_ ≠ .loop by decide), if_neg (show Kw.if_ ≠ .pair by decide), Nat.add_zero]
  rename_i a b c T
  obtain ⟨a1, a2, a3, a4⟩ := iha cls (id + 1) site env st hG hs h0
  obtain ⟨b1, b2, b3, b4⟩ := ihb cls (id + 1 + a.cnt) (site + a.prs) env _ hG hs a1
  obtain ⟨c1, c2, c3, c4⟩ := ihc cls (id + 1 + a.cnt + b.cnt) (site + a.prs + b.prs) env _ hG hs b1
  rw [if_neg (by rw [c1]; simp)]
  simp only [madeT]
  rw [if_pos ⟨bare_num a2, by rw [b2, c2]⟩]
  exact fin_end c1 b2 b3 (c4.trans (b4.trans a4))
 | two hk ha hb iha ihb =>
  intro cls id site env st hG hs h0
  rename_i k _ _ a b
  have hk' : k ≠ .let_ ∧ k ≠ .loop ∧ k ≠ .pair := by rcases hk with rfl | rfl | rfl <;> decide
  simp only [tyFind, tyKids, if_neg hk'.1, if_neg hk'.2.1, if_neg hk'.2.2, Nat.add_zero]
  obtain ⟨a1, a2, a3, a4⟩ := iha cls (id + 1) site env st hG hs h0
  obtain ⟨b1, b2, b3, b4⟩ := ihb cls (id + 1 + a.cnt) (site + a.prs) env _ hG hs a1
  rw [if_neg (by rw [b1]; simp)]
  have hm : ∀ (ps : Nat) (A B : Ty) (s : TSt), A = .n → B = .n → madeT cls k ps site [A, B] s = (.n, s) := by
   rintro ps _ _ s rfl rfl
   rcases hk with rfl | rfl | rfl <;> simp [madeT]
  rw [hm _ _ _ _ (bare_num a2) (bare_num b2)]
  exact fin_end b1 rfl (by simp [Ty.size]) (b4.trans a4)
 | loop ha hb hc iha ihb ihc =>
  intro cls id site env st hG hs h0
  simp only [tyFind, tyLoop, if_true, if_neg (show Kw.loop ≠ .let_ by decide)]
  rename_i nm _ a b c T
  obtain ⟨a1, a2, a3, a4⟩ := iha cls (id + 1) site env st hG hs h0
  obtain ⟨b1, b2, b3, b4⟩ := ihb cls (id + 1 + a.cnt) (site + a.prs) env _ hG hs a1
  obtain ⟨c1, c2, c3, c4⟩ := ihc cls (id + 1 + a.cnt + b.cnt) (site + a.prs + b.prs) (env ++ [(nm, (tyFind cls b (id + 1 + a.cnt) (site + a.prs) env (tyFind cls a (id + 1) site env st).2).1)]) _ (by rw [bareE_snoc, hG, b2]) (by
   intro x hx
   rcases List.mem_append.1 hx with hx | hx
   ·exact hs x hx
   ·simp only [List.mem_singleton] at hx; subst hx; rw [← bare_sizeE, b2]; exact b3) b1
  rw [if_neg (by rw [c1]; simp)]
  simp only [madeT]
  rw [if_pos ⟨bare_num a2, by rw [b2, c2]⟩]
  exact fin_end c1 b2 b3 (c4.trans (b4.trans a4))
 | new ha iha =>
  intro cls id site env st hG hs h0
  simp only [tyFind, tyKids, if_neg (show Kw.new ≠ .let_ by decide), if_neg (show Kw.new ≠ .loop by decide), if_neg (show Kw.new ≠ .pair by decide), Nat.add_zero]
  obtain ⟨a1, a2, a3, a4⟩ := iha cls (id + 1) site env st hG hs h0
  rw [if_neg (by rw [a1]; simp)]
  simp only [madeT]
  exact fin_end a1 a2 a3 a4
theorem chk_ok {e : PT} {T : Ty} (h : WT [] e T) (hp : e.prs ≤ 100) : chkAns e = (0, 0) := by
 unfold chkAns
 have hf := h.find (List.range e.prs) 0 0 [] (st0 e) rfl (by simp) rfl
 rw [if_neg (by omega), hf.1, hf.2.2.2]
 rfl
mutual
theorem np_prs : ∀ e : PT, e.np.prs = e.prs
 | .num _ _ => rfl
 | .name _ _ => rfl
 | .node _ _ _ _ kids => by simp only [PT.np, PT.prs, npL_prs kids]
theorem npL_prs : ∀ l : List PT, prsL (npL l) = prsL l
 | [] => rfl
 | t :: r => by simp only [npL, prsL, np_prs t, npL_prs r]
end
mutual
theorem np_ev (fuel : Nat) : ∀ (e : PT) (env : VEnv) (st : ESt), ev fuel e.np env st = ev fuel e env st
 | .num _ _, _, _ => rfl
 | .name _ _, _, _ => rfl
 | .node _ k nm rg kids, env, st => by
  simp only [PT.np, ev]
  congr 1
  funext st
  rw [np_evLet fuel nm kids, np_evIf fuel kids, np_evLoop fuel nm kids, np_evKids fuel kids]
theorem np_evKids (fuel : Nat) : ∀ (l : List PT) (env : VEnv) (st : ESt), evKids fuel (npL l) env st = evKids fuel l env st
 | [], _, _ => rfl
 | t :: r, env, st => by simp only [npL, evKids, np_ev fuel t, np_evKids fuel r]
theorem np_evLet (fuel : Nat) (nm : List UInt8) : ∀ (l : List PT) (env : VEnv) (st : ESt), evLet fuel nm (npL l) env st = evLet fuel nm l env st
 | [], _, _ => rfl
 | [_], _, _ => rfl
 | [a, b], env, st => by simp only [npL, evLet, np_ev fuel a, np_ev fuel b]
 | _ :: _ :: _ :: _, _, _ => rfl
theorem np_evIf (fuel : Nat) : ∀ (l : List PT) (env : VEnv) (st : ESt), evIf fuel (npL l) env st = evIf fuel l env st
 | [], _, _ => rfl
 | [_], _, _ => rfl
 | [_, _], _, _ => rfl
 | [a, b, c], env, st => by simp only [npL, evIf, np_ev fuel a, np_ev fuel b, np_ev fuel c]
 | _ :: _ :: _ :: _ :: _, _, _ => rfl
theorem np_evLoop (fuel : Nat) (nm : List UInt8) : ∀ (l : List PT) (env : VEnv) (st : ESt), evLoop fuel nm (npL l) env st = evLoop fuel nm l env st
 | [], _, _ => rfl
 | [_], _, _ => rfl
 | [_, _], _, _ => rfl
 | [a, b, c], env, st => by simp only [npL, evLoop, np_ev fuel a, np_ev fuel b, np_ev fuel c]
 | _ :: _ :: _ :: _ :: _, _, _ => rfl
end
theorem ev_congr {fuel p : Nat} {k : Kw} {nm rg rg' : List UInt8} {kids kids' : List PT} (h1 : evLet fuel nm kids = evLet fuel nm kids') (h2 : evIf fuel kids = evIf fuel kids') (h3 : evLoop fuel nm kids = evLoop fuel nm kids') (h4 : evKids fuel kids = evKids fuel kids') : ev fuel (.node p k nm rg kids) = ev fuel (.node p k nm rg' kids') := by
 funext env st
 simp only [ev]
 rw [h1, h2, h3, h4]
theorem rg_ev (fuel : Nat) (rg : List UInt8) : ∀ (x : KE), ev fuel (x.pt rg) = ev fuel (x.pt [])
 | .num _ => rfl
 | .var _ => rfl
 | .n1 k a => by
  simp only [KE.pt]
  refine ev_congr rfl rfl rfl ?_
  funext env st; simp only [evKids, rg_ev fuel rg a]
 | .n2 k n a b => by
  simp only [KE.pt]
  refine ev_congr ?_ rfl rfl ?_
  ·funext env st; simp only [evLet, rg_ev fuel rg a, rg_ev fuel rg b]
  ·funext env st; simp only [evKids, rg_ev fuel rg a, rg_ev fuel rg b]
 | .n3 k n a b c => by
  simp only [KE.pt]
  refine ev_congr rfl ?_ ?_ ?_
  ·funext env st; simp only [evIf, rg_ev fuel rg a, rg_ev fuel rg b, rg_ev fuel rg c]
  ·funext env st; simp only [evLoop, rg_ev fuel rg a, rg_ev fuel rg b, rg_ev fuel rg c]
  ·funext env st; simp only [evKids, rg_ev fuel rg a, rg_ev fuel rg b, rg_ev fuel rg c]
mutual
theorem np_WT : ∀ (e : PT) {G : TEnv} {T : Ty}, WT G e.np T → WT G e T
 | .num _ _, _, _, h => by cases h; exact .num
 | .name _ _, _, _, h => by cases h with | name h => exact .name h
 | .node p k nm rg kids, G, T, h => by
  match kids with
  | [] => simp only [PT.np, npL] at h; cases h
  | [a] =>
   simp only [PT.np, npL] at h
   cases h with
   | fst h => exact .fst (np_WT a h)
   | snd h => exact .snd (np_WT a h)
   | new h => exact .new (np_WT a h)
  | [a, b] =>
   simp only [PT.np, npL] at h
   cases h with
   | let_ h1 h2 => exact .let_ (np_WT a h1) (np_WT b h2)
   | pair h1 h2 h3 => exact .pair (np_WT a h1) (np_WT b h2) h3
   | two hk h1 h2 => exact .two hk (np_WT a h1) (np_WT b h2)
  | [a, b, c] =>
   simp only [PT.np, npL] at h
   cases h with
   | if_ h1 h2 h3 => exact .if_ (np_WT a h1) (np_WT b h2) (np_WT c h3)
   | loop h1 h2 h3 => exact .loop (np_WT a h1) (np_WT b h2) (np_WT c h3)
  | _ :: _ :: _ :: _ :: _ => simp only [PT.np, npL] at h; cases h
end
end Go.Proofs.YtpicaknklgccoaaGreatDoor
namespace Go.Proofs.YtpicaknklgccoaaGreatDoor
open Go.RowKit
open Go.Lib (decDigits)
theorem Tryz.infoKnp : (Tryz.prog.info? 104).map (fun i => (i.zero, i.size, i.bytes)) = some (some (.pointer none), 1, 8) := by kernel_rfl
theorem Tryz.undKnps : Tryz.prog.underlying 101 = some (.slice 104) := by kernel_rfl
set_option maxRecDepth 100000 in
set_option maxHeartbeats 2000000 in
theorem in_of {w0 : World} {yb fuel : Nat} (b q : Nat) (vals : List Vl) (ps : List Nat) (v : Vl) (st : ESt) (nv : Value) (w : World) (R : Vl × ESt)
  (hf : ∀ (nv : Value) (w : World), WkIn w0 w yb (vals ++ [v]) (ps ++ [q]) fuel st nv → Calls Tryz.prog 51 #[.pointer (some ⟨yb, 0, none⟩), .pointer (some ⟨b, 0, none⟩)] w fun e w' => ∃ r nv', e = .returned (.pointer (some ⟨r, 0, none⟩)) ∧ FrO w w' yb nv nv' ∧ WkIn w0 w' yb (vals ++ [v]) (ps ++ [q]) fuel R.2 nv' ∧ KVal w' R.1 r)
  (h : WkIn w0 w yb vals ps fuel st nv) (hq : KVal w v q) (hl : vals.length ≤ 200) :
  Calls Tryz.prog 85 #[.pointer (some ⟨yb, 0, none⟩), .pointer (some ⟨q, 0, none⟩), .pointer (some ⟨b, 0, none⟩)] w fun e w' => ∃ r nv', e = .returned (.pointer (some ⟨r, 0, none⟩)) ∧ FrO w w' yb nv nv' ∧ WkIn w0 w' yb vals ps fuel R.2 nv' ∧ KVal w' R.1 r := by
 obtain ⟨i0, hi, hz0, hz1, hz2⟩ := info_parts Tryz.infoKnp
 have HI : Hid _ := hi
 have HZ0 : Hid _ := hz0
 have HZ1 : Hid _ := hz1
 have HZ2 : Hid _ := hz2
 have HH : Hid _ := h
 have hyl := blk_lt h.ob.y
 have hpl := h.len
 have hpl2 : ps.length ≤ 200 := by omega
 obtain ⟨na, nc, hnv, _, _⟩ := h.ob.shape
 rw [ptrsV_len] at hnv
 have y3 : w.cell? ⟨yb, 0, none⟩ = some (.slice na ps.length nc) := by rw [blk_cell h.ob.y, ← hnv]; rfl
 have f3 : w.frozen? ⟨yb, 0, none⟩ = false := blk_free h.ob.y 0
 have hown : w.ownsRow 0 104 1 (.slice na ps.length nc) ps.length (ptrsV ps) := by
  have := owns_base (base' := 0) h.ob.n (fun _ _ => Nat.zero_le _)
  rw [ptrsV_len, hnv] at this; exact this
 have HNV : Hid _ := hnv
 have HOWN : Hid (w.ownsRow 0 104 1 (.slice na ps.length nc) ps.length (ptrsV ps)) := hown
 have HHF : Hid _ := hf
 have HQ : Hid _ := hq
 clear hi hz0 hz1 hz2 hown hnv h hf hq hpl
 go_enter Tryz.func85, Tryz.ntmps85
 go_wp2_with (at_builtin; go_must (refine app_own _ rfl (.tmp 18) (.tmp 20) 101 rfl 104 i0 _ 1 8 Tryz.undKnps HI.out HZ0.out HZ1.out HZ2.out rfl (by decide) (.slice na ps.length nc) ps.length (ptrsV ps) rfl (HOWN.out.alloc _) ⟨w.heap.size, 0, none⟩ 1 1 [.pointer (some ⟨q, 0, none⟩)] rfl rfl ?d1 ?d2 (by decide) ?d3 ?d4 ?_))
 case d1 =>
  intro j' u hj'
  match j', hj' with
  | 0, hj' => simp at hj'; subst hj'; simp [Addr.add]
  | j' + 1, hj' => simp at hj'
 case d2 => intro u hu; simp at hu; subst hu; rfl
 case d3 => unfold maxLen; omega
 case d4 => omega
 intro g1 c1 w3 ho3 hg3 hgg3
 have hp1 := ObIn.push (x := .pointer (some ⟨q, 0, none⟩)) (o := 0) (W := w3.setCell ⟨yb, 0, none⟩ (.slice (some ⟨g1, 0, none⟩) (ps.length + 1) c1)) HH.out.ob (by rw [HNV.out]; exact hg3) (by rw [ptrsV_len]; exact ho3) (by rw [HNV.out]; simpa using hgg3) (by rw [ptrsV_len])
 rw [ptrsV_len] at hp1
 obtain ⟨hO1, hs1⟩ := hp1
 have hm1 : WkIn w0 (w3.setCell ⟨yb, 0, none⟩ (.slice (some ⟨g1, 0, none⟩) (ps.length + 1) c1)) yb (vals ++ [v]) (ps ++ [q]) fuel st (.slice (some ⟨g1, 0, none⟩) (ps.length + 1) c1) := by
  refine ⟨?_, by simp [HH.out.len], ?_⟩
  ·rw [ptrsV_snoc]; exact hO1
  ·intro i u p h1 h2
   rcases Nat.lt_or_ge i vals.length with hlt | hge
   ·rw [List.getElem?_append_left hlt] at h1
    rw [List.getElem?_append_left (by rw [HH.out.len]; exact hlt)] at h2
    exact (HH.out.v i u p h1 h2).fr HH.out.ob hs1
   ·rw [List.getElem?_append_right hge] at h1
    rw [List.getElem?_append_right (by rw [HH.out.len]; exact hge), HH.out.len] at h2
    have hi0 : i - vals.length = 0 := by
     rcases Nat.eq_zero_or_pos (i - vals.length) with h | h
     ·exact h
     ·rw [List.getElem?_eq_none (by simp; omega)] at h1; cases h1
    rw [hi0] at h1 h2
    simp only [List.getElem?_cons_zero, Option.some.injEq] at h1 h2
    subst h1; subst h2
    exact HQ.out.fr HH.out.ob hs1
 have hcall := HHF.out _ _ hm1
 have hy3 : w3.heap[yb]? = some (.cells (wkCells nv fuel st) 103 (0, 0)) := by
  rw [hg3.block yb (by simp; omega) (fun e => HH.out.ob.ny (by rw [HNV.out]; exact e.symm)), Below.heap_alloc _ _ _ hyl]; exact HH.out.ob.y
 have hyl3 := blk_lt hy3
 have y33 : w3.cell? ⟨yb, 0, none⟩ = some nv := by rw [blk_cell hy3]; rfl
 have f33 : w3.frozen? ⟨yb, 0, none⟩ = false := blk_free hy3 0
 have HC : Hid _ := hcall
 have HS1 : Hid _ := hs1
 clear ho3 hg3 hgg3 hO1 hy3 y3 f3 hcall hm1 hs1 HHF HOWN HQ
 go_wp2_with fail
 refine Calls.mono HC.out ?_
 rintro _ w7 ⟨r, nv7, rfl, hs7, hm7, hk7⟩
 obtain ⟨na7, nc7, hnv7, hcap7, hna7⟩ := hm7.ob.shape
 have hob := hm7.ob
 rw [ptrsV_len, List.length_append, List.length_singleton] at hnv7 hna7 hcap7
 obtain ⟨g7, hg7⟩ := hna7 (by omega)
 rw [hg7] at hnv7
 have y37 : w7.cell? ⟨yb, 0, none⟩ = some (.slice (some ⟨g7, 0, none⟩) (ps.length + 1) nc7) := by rw [blk_cell hob.y, ← hnv7]; rfl
 have f37 : w7.frozen? ⟨yb, 0, none⟩ = false := blk_free hob.y 0
 have hyl7 := blk_lt hob.y
 have hP : ObIn w0 (w7.setCell ⟨yb, 0, none⟩ (.slice (some ⟨g7, 0, none⟩) ps.length nc7)) yb (wkCells (.slice (some ⟨g7, 0, none⟩) ps.length nc7) fuel R.2) 103 (.slice (some ⟨g7, 0, none⟩) ps.length nc7) 104 (ptrsV ps) := by
  have h1 := hob
  rw [ptrsV_snoc, hnv7] at h1
  have h2 := ObIn.pop (o := 0) (xs := ptrsV ps) (x := .pointer (some ⟨q, 0, none⟩)) (g := g7) (cap := nc7) (by rw [ptrsV_len]; exact h1)
  rw [ptrsV_len] at h2
  exact h2
 have hfs := FrO.set1 w7 yb nv7 0 (.slice (some ⟨g7, 0, none⟩) ps.length nc7)
 have HMK : Hid (WkIn w0 (w7.setCell ⟨yb, 0, none⟩ (.slice (some ⟨g7, 0, none⟩) ps.length nc7)) yb vals ps fuel R.2 (.slice (some ⟨g7, 0, none⟩) ps.length nc7)) := by
  refine ⟨hP, HH.out.len, fun i u p h1 h2 => ?_⟩
  have hiv := (List.getElem?_eq_some_iff.1 h1).1
  refine (hm7.v i u p ?_ ?_).fr hob hfs
  ·rw [List.getElem?_append_left hiv]; exact h1
  ·rw [List.getElem?_append_left (by rw [HH.out.len]; exact hiv)]; exact h2
 have HKK : Hid _ := hk7.fr hob hfs
 have HFR : Hid _ := ((HS1.out.trans hs7).trans hfs).recast (nv2 := .slice (some ⟨g7, 0, none⟩) ps.length nc7) (by rw [hnv7]; rfl)
 clear hs7 hm7 hk7 hob hnv7 hna7 hg7 hP hfs HC HS1 y33 f33
 go_wp2
 go_ret
 exact ⟨r, _, rfl, HFR.out, HMK.out, HKK.out⟩
structure SOkZ (fuel : Nat) (st : ESt) : Prop where
 f : fuel ≤ 20000
 s : st.steps ≤ fuel
 c : st.cells ≤ st.steps
theorem SOkZ.on {fuel : Nat} {st : ESt} (h : SOkZ fuel st) (t : PT) (env : VEnv) : SOkZ fuel (ev fuel t env st).2 := by
 have h1 := ev_mono fuel t env st h.s
 exact ⟨h.f, h1.1, by have := h.c; omega⟩
theorem SOkZ.step {fuel : Nat} {st : ESt} (hs : SOkZ fuel st) (hq : st.steps ≠ fuel) : SOkZ fuel { st with steps := st.steps + 1 } :=
 ⟨hs.f, by have := hs.s; show st.steps + 1 ≤ fuel; omega, by have := hs.c; show st.cells ≤ st.steps + 1; omega⟩
def KGo (w0 : World) (yb fuel : Nat) (x : KE) (vs : List Nat) : Prop :=
 ∀ (b : Nat) (vals : List Vl) (ps : List Nat) (st : ESt) (nv : Value) (w : World), KIn w0 x b → WkIn w0 w yb vals ps fuel st nv → (st.e = 0 → EnvHas (envV vals) (envT vs)) → vals.length = vs.length → SOkZ fuel st →
  Calls Tryz.prog 51 #[.pointer (some ⟨yb, 0, none⟩), .pointer (some ⟨b, 0, none⟩)] w fun e w' => ∃ r nv', e = .returned (.pointer (some ⟨r, 0, none⟩)) ∧ FrO w w' yb nv nv' ∧ WkIn w0 w' yb vals ps fuel (ev fuel (x.pt []) (envV vals) st).2 nv' ∧ KVal w' (ev fuel (x.pt []) (envV vals) st).1 r
def KGoN (w0 : World) (yb fuel : Nat) (x : KE) (vs : List Nat) : Prop :=
 ∀ (b : Nat) (vals : List Vl) (ps : List Nat) (st : ESt) (nv : Value) (w : World), KIn w0 x b → WkIn w0 w yb vals ps fuel st nv → EnvHas (envV vals) (envT vs) → vals.length = vs.length → SOkZ fuel st → st.e = 0 → st.steps ≠ fuel →
  Calls Tryz.prog 51 #[.pointer (some ⟨yb, 0, none⟩), .pointer (some ⟨b, 0, none⟩)] w fun e w' => ∃ r nv', e = .returned (.pointer (some ⟨r, 0, none⟩)) ∧ FrO w w' yb nv nv' ∧ WkIn w0 w' yb vals ps fuel (ev fuel (x.pt []) (envV vals) st).2 nv' ∧ KVal w' (ev fuel (x.pt []) (envV vals) st).1 r
theorem begun_badZ {fuel : Nat} {st : ESt} {f : ESt → Vl × ESt} (h : st.e ≠ 0) : begun fuel st f = (.n 0, st) := by unfold begun; rw [if_pos h]
theorem begun_endZ {fuel : Nat} {st : ESt} {f : ESt → Vl × ESt} (h0 : st.e = 0) (h : st.steps = fuel) : begun fuel st f = (.n 0, { st with e := 12 }) := by unfold begun; rw [if_neg (by simpa using h0), if_pos h]
theorem begun_goZ {fuel : Nat} {st : ESt} {f : ESt → Vl × ESt} (h0 : st.e = 0) (h : st.steps ≠ fuel) : begun fuel st f = f { st with steps := st.steps + 1 } := by unfold begun; rw [if_neg (by simpa using h0), if_neg h]
theorem ev_begunZ (fuel : Nat) (t : PT) (env : VEnv) : ∃ f, ∀ st, ev fuel t env st = begun fuel st f := by
 cases t with
 | num p s => exact ⟨_, fun st => by unfold ev; rfl⟩
 | name p s => exact ⟨_, fun st => by unfold ev; rfl⟩
 | node p k nm rg kids => exact ⟨_, fun st => by unfold ev; rfl⟩
theorem blk_newS (w : World) (m : Nat) (p : Addr) (x : Value) (O : Obj) : (((w.drewN m).setCell p x).alloc O).heap[w.heap.size]? = some O := by
 have h := blk_new ((w.drewN m).setCell p x) O
 have e : ((w.drewN m).setCell p x).heap.size = w.heap.size := by simp [World.setCell, World.drewN]
 rw [e] at h; exact h
def kn0 : Obj := .cells (kvV 0 (.pointer none) (.pointer none)) 141 (0, 0)
set_option maxRecDepth 100000 in
set_option maxHeartbeats 1000000 in
theorem go1_of {w0 : World} {yb fuel : Nat} {x : KE} {vs : List Nat} (h : KGoN w0 yb fuel x vs) : KGo w0 yb fuel x vs := by
 intro b vals ps st nv w hx hin henv hlen hs
 obtain ⟨f, hf⟩ := ev_begunZ fuel (x.pt []) (envV vals)
 have y1 : w.cell? ⟨yb, 1, none⟩ = some (.int .i64 fuel) := by rw [blk_cell hin.ob.y]; rfl
 have y2 : w.cell? ⟨yb, 2, none⟩ = some (.int .i64 st.steps) := by rw [blk_cell hin.ob.y]; rfl
 have y4 : w.cell? ⟨yb, 4, none⟩ = some (.bool (decide (st.e ≠ 0))) := by rw [blk_cell hin.ob.y]; rfl
 have f4 : w.frozen? ⟨yb, 4, none⟩ = false := blk_free hin.ob.y 4
 have hyl := blk_lt hin.ob.y
 by_cases he : st.e = 0
 ·by_cases hq : st.steps = fuel
  ·rw [hf, begun_endZ he hq]
   have q1 : ((st.steps : Int) == (fuel : Int)) = true := by rw [hq]; simp
   rw [show decide (st.e ≠ 0) = false by simp [he]] at y4
   have hset := fun m => (hin.grow (below_drewO w m)).set 4 (.bool true) (st' := { st with e := 12 }) rfl
   have HSET : Hid _ := hset
   clear hx hin henv hs hset h hf he hq
   go_enter Tryz.func51, Tryz.ntmps51
   go_wp2
   go_quiet (fail)
   go_wp2
   go_ret
   exact ⟨_, nv, rfl, (FrO.setAt w yb nv _ 4 _).trans (FrO.below (below_alZ (Below.refl _ _) kn0) _ _), (HSET.out _).grow (below_alZ (Below.refl _ _) kn0), blk_newS w _ _ _ kn0⟩
  ·exact h b vals ps st nv w hx hin (henv he) hlen hs he hq
 ·rw [hf, begun_badZ he]
  rw [show decide (st.e ≠ 0) = true by simp [he]] at y4
  have hset := fun m => (hin.grow (below_drewO w m)).set 4 (.bool true) (st' := st) (by simp [wkCells, he])
  have HSET : Hid _ := hset
  clear hx hin henv hs h hf he hset
  go_enter Tryz.func51, Tryz.ntmps51
  go_wp2
  go_quiet (fail)
  go_wp2
  go_ret
  exact ⟨_, nv, rfl, (FrO.setAt w yb nv _ 4 _).trans (FrO.below (below_alZ (Below.refl _ _) kn0) _ _), (HSET.out _).grow (below_alZ (Below.refl _ _) kn0), blk_newS w _ _ _ kn0⟩
structure KAtZ (w : World) (b c : Nat) (k : Kw) (n : Nat) (ks : List Nat) : Prop where
 hb : b < w.heap.size
 hg : c < w.heap.size
 c0 : w.cell? ⟨b, 0, none⟩ = some (.string (bs k.bytes))
 c1 : w.cell? ⟨b, 1, none⟩ = some (.int .i64 n)
 c2 : w.cell? ⟨b, 2, none⟩ = some (.slice (some ⟨c, 0, none⟩) ks.length ks.length)
 ck : ∀ (j x : Nat), ks[j]? = some x → w.cell? ⟨c, j, none⟩ = some (.pointer (some ⟨x, 0, none⟩))
theorem KAtZ.on {w0 w : World} {b c : Nat} {k : Kw} {n : Nat} {ks : List Nat} (h : KAtZ w0 b c k n ks) (hw : Below w0.heap.size w0 w) : KAtZ w b c k n ks :=
 ⟨by have := hw.size; have := h.hb; omega, by have := hw.size; have := h.hg; omega, (hw.cell (p := ⟨b, 0, none⟩) h.hb).trans h.c0, (hw.cell (p := ⟨b, 1, none⟩) h.hb).trans h.c1, (hw.cell (p := ⟨b, 2, none⟩) h.hb).trans h.c2, fun j x hj => (hw.cell (p := ⟨c, j, none⟩) h.hg).trans (h.ck j x hj)⟩
theorem katz1 {w : World} {k : Kw} {a : KE} {b : Nat} (h : KIn w (.n1 k a) b) : ∃ c pa, KAtZ w b c k 0 [pa] ∧ KIn w a pa := by
 obtain ⟨c, pa, h1, h2, h3⟩ := h
 refine ⟨c, pa, ⟨blk_lt h1, blk_lt h2, by rw [blk_cell h1]; rfl, by rw [blk_cell h1]; rfl, by rw [blk_cell h1]; rfl, fun j x hj => ?_⟩, h3⟩
 match j, hj with
 | 0, hj => simp at hj; subst hj; rw [blk_cell h2]; rfl
 | j + 1, hj => simp at hj
theorem katz2 {w : World} {k : Kw} {n : Nat} {a d : KE} {b : Nat} (h : KIn w (.n2 k n a d) b) : ∃ c pa pb, KAtZ w b c k n [pa, pb] ∧ KIn w a pa ∧ KIn w d pb := by
 obtain ⟨c, pa, pb, h1, h2, h3, h4⟩ := h
 refine ⟨c, pa, pb, ⟨blk_lt h1, blk_lt h2, by rw [blk_cell h1]; rfl, by rw [blk_cell h1]; rfl, by rw [blk_cell h1]; rfl, fun j x hj => ?_⟩, h3, h4⟩
 match j, hj with
 | 0, hj => simp at hj; subst hj; rw [blk_cell h2]; rfl
 | 1, hj => simp at hj; subst hj; rw [blk_cell h2]; rfl
 | j + 2, hj => simp at hj
theorem katz3 {w : World} {k : Kw} {n : Nat} {a d f : KE} {b : Nat} (h : KIn w (.n3 k n a d f) b) : ∃ c pa pb pd, KAtZ w b c k n [pa, pb, pd] ∧ KIn w a pa ∧ KIn w d pb ∧ KIn w f pd := by
 obtain ⟨c, pa, pb, pd, h1, h2, h3, h4, h5⟩ := h
 refine ⟨c, pa, pb, pd, ⟨blk_lt h1, blk_lt h2, by rw [blk_cell h1]; rfl, by rw [blk_cell h1]; rfl, by rw [blk_cell h1]; rfl, fun j x hj => ?_⟩, h3, h4, h5⟩
 match j, hj with
 | 0, hj => simp at hj; subst hj; rw [blk_cell h2]; rfl
 | 1, hj => simp at hj; subst hj; rw [blk_cell h2]; rfl
 | 2, hj => simp at hj; subst hj; rw [blk_cell h2]; rfl
 | j + 3, hj => simp at hj
def arr2 : Obj := .cells #[.pointer none, .pointer none] 142 (0, 0)
theorem WkIn.begin {w0 w : World} {yb : Nat} {vals : List Vl} {ps : List Nat} {fuel : Nat} {st : ESt} {nv : Value} (h : WkIn w0 w yb vals ps fuel st nv) (m : Nat) :
  WkIn w0 (((w.drewN m).setCell ⟨yb, 2, none⟩ (.int .i64 ((st.steps : Int) + 1))).alloc arr2) yb vals ps fuel { st with steps := st.steps + 1 } nv ∧ FrO w (((w.drewN m).setCell ⟨yb, 2, none⟩ (.int .i64 ((st.steps : Int) + 1))).alloc arr2) yb nv nv :=
 ⟨((h.grow (below_drewO w m)).set 2 _ (by simp [wkCells])).grow (below_alZ (Below.refl _ _) _), (FrO.setAt w yb nv m 2 _).trans (FrO.below (below_alZ (Below.refl _ _) _) _ _)⟩
theorem blk_newS2 (w : World) (m : Nat) (p : Addr) (x : Value) (A O : Obj) : ((((w.drewN m).setCell p x).alloc A).alloc O).heap[w.heap.size + 1]? = some O := by
 have h := blk_new (((w.drewN m).setCell p x).alloc A) O
 have e : (((w.drewN m).setCell p x).alloc A).heap.size = w.heap.size + 1 := by simp [World.setCell, World.drewN]
 rw [e] at h; exact h
set_option maxRecDepth 100000 in
set_option maxHeartbeats 1000000 in
theorem kgo_num {w0 : World} (yb fuel n : Nat) (vs : List Nat) : KGoN w0 yb fuel (.num n) vs := by
 intro b vals ps st nv w hx hin henv hlen hs he hq
 have hx' : w0.heap[b]? = some (.cells (exV [] n (.slice none 0 0)) 98 (0, 0)) := hx
 have hb0 := blk_lt hx'
 have hne : b ≠ yb := by have := hin.ob.hyb; omega
 have hbx := (hin.ob.b0.block b hb0).trans hx'
 have hb := blk_lt hbx
 have x0 : w.cell? ⟨b, 0, none⟩ = some (.string ⟨#[]⟩) := by rw [blk_cell hbx]; rfl
 have x1 : w.cell? ⟨b, 1, none⟩ = some (.int .i64 n) := by rw [blk_cell hbx]; rfl
 have y1 : w.cell? ⟨yb, 1, none⟩ = some (.int .i64 fuel) := by rw [blk_cell hin.ob.y]; rfl
 have y2 : w.cell? ⟨yb, 2, none⟩ = some (.int .i64 st.steps) := by rw [blk_cell hin.ob.y]; rfl
 have y4 : w.cell? ⟨yb, 4, none⟩ = some (.bool false) := by rw [blk_cell hin.ob.y]; simp [wkCells, he]
 have f2 : w.frozen? ⟨yb, 2, none⟩ = false := blk_free hin.ob.y 2
 have hyl := blk_lt hin.ob.y
 have q1 : ((st.steps : Int) == (fuel : Int)) = false := by rw [beq_eq_false_iff_ne]; omega
 have hss := hs.s
 have hsf := hs.f
 have hev : ev fuel ((KE.num n).pt []) (envV vals) st = (.n n, { st with steps := st.steps + 1 }) := by
  simp only [KE.pt, ev]; rw [begun_goZ he hq, value_dec]; rfl
 rw [hev]
 have HBG : Hid _ := fun m => hin.begin m
 clear hx hx' hin henv hlen hs he hq hev hbx
 go_enter Tryz.func51, Tryz.ntmps51
 go_wp2
 go_quiet (fail)
 go_wp2
 go_ret
 exact ⟨_, nv, rfl, (HBG.out _).2.trans (FrO.below (below_alZ (Below.refl _ _) _) _ _), (HBG.out _).1.grow (below_alZ (Below.refl _ _) _), blk_newS2 w _ _ _ _ _⟩
set_option maxRecDepth 100000 in
set_option maxHeartbeats 1000000 in
theorem kgo_var {w0 : World} (yb fuel n : Nat) (vs : List Nat) (hn : n < vs.length) (hvl : vs.length ≤ 101) : KGoN w0 yb fuel (.var n) vs := by
 intro b vals ps st nv w hx hin henv hlen hs he hq
 have hx' : w0.heap[b]? = some (.cells (exV [120] n (.slice none 0 0)) 98 (0, 0)) := hx
 have hb0 := blk_lt hx'
 have hne : b ≠ yb := by have := hin.ob.hyb; omega
 have hbx := (hin.ob.b0.block b hb0).trans hx'
 have hb := blk_lt hbx
 have x0 : w.cell? ⟨b, 0, none⟩ = some (.string ⟨#[120]⟩) := by rw [blk_cell hbx]; rfl
 have x1 : w.cell? ⟨b, 1, none⟩ = some (.int .i64 n) := by rw [blk_cell hbx]; rfl
 have y1 : w.cell? ⟨yb, 1, none⟩ = some (.int .i64 fuel) := by rw [blk_cell hin.ob.y]; rfl
 have y2 : w.cell? ⟨yb, 2, none⟩ = some (.int .i64 st.steps) := by rw [blk_cell hin.ob.y]; rfl
 have y4 : w.cell? ⟨yb, 4, none⟩ = some (.bool false) := by rw [blk_cell hin.ob.y]; simp [wkCells, he]
 have f2 : w.frozen? ⟨yb, 2, none⟩ = false := blk_free hin.ob.y 2
 have hyl := blk_lt hin.ob.y
 have q1 : ((st.steps : Int) == (fuel : Int)) = false := by rw [beq_eq_false_iff_ne]; omega
 have hss := hs.s
 have hsf := hs.f
 have hnv := hlen ▸ hn
 have hnp : n < ps.length := by rw [hin.len]; exact hnv
 have hev : ev fuel ((KE.var n).pt []) (envV vals) st = (vals[n], { st with steps := st.steps + 1 }) := by
  simp only [KE.pt, ev]; rw [begun_goZ he hq, look_envV vals n hnv (by omega)]
 rw [hev]
 obtain ⟨na, nc, hnv', _, hna⟩ := hin.ob.shape
 rw [ptrsV_len] at hnv' hna
 obtain ⟨g, hg⟩ := hna (by omega)
 rw [hg] at hnv'
 have y0 : w.cell? ⟨yb, 0, none⟩ = some (.slice (some ⟨g, 0, none⟩) ps.length nc) := by rw [blk_cell hin.ob.y, ← hnv']; rfl
 have hgc : w.cell? ⟨g, n, none⟩ = some (.pointer (some ⟨ps[n], 0, none⟩)) := by
  have ho := hin.ob.n
  rw [hnv', ptrsV_len] at ho
  rw [World.ownsRow.cellAt ho n (by omega)]; unfold ptrsV; rw [List.getElem?_map, List.getElem?_eq_getElem hnp]; rfl
 have hgl : g < w.heap.size := World.block_lt_of_cell? _ _ hgc
 have hgy : g ≠ yb := by intro e; exact hin.ob.ny (by rw [hnv', e]; rfl)
 have hkv := hin.v n vals[n] ps[n] (List.getElem?_eq_getElem hnv) (List.getElem?_eq_getElem hnp)
 have HBG : Hid _ := fun m => hin.begin m
 have HOB : Hid _ := hin.ob
 have HKV : Hid _ := hkv
 generalize hpn : ps[n] = pn at *
 clear hx hx' hin henv hlen hs he hq hev hbx hnv' hna hg hkv hpn
 go_enter Tryz.func51, Tryz.ntmps51
 go_wp2
 go_quiet (fail)
 go_wp2
 go_quiet (fail)
 go_wp2
 go_ret
 exact ⟨_, nv, rfl, (HBG.out _).2.trans (FrO.below (below_drewO _ _) _ _), (HBG.out _).1.grow (below_drewO _ _), (HKV.out.fr HOB.out (HBG.out _).2).below (below_drewO _ _)⟩
theorem pt_tame {rg : List UInt8} : ∀ {vs : List Nat} {x : KE} {t : Nat}, KT vs x t → (x.pt rg).tame := by
 intro vs x t h
 have hb : ∀ k n, (bindN k n).length ≤ 9000 := fun k n => by unfold bindN; split <;> simp [nameL]
 induction h with
 | num h => simp only [KE.pt, PT.tame]; rw [value_dec]; omega
 | var _ => simp [KE.pt, PT.tame, nameL]
 | let_ _ _ _ _ ha hd => simp only [KE.pt, PT.tame, tameL]; exact ⟨hb _ _, ha, hd, trivial⟩
 | if_ _ _ _ ha hd hc => simp only [KE.pt, PT.tame, tameL]; exact ⟨hb _ _, ha, hd, hc, trivial⟩
 | loop _ _ _ _ ha hd hc => simp only [KE.pt, PT.tame, tameL]; exact ⟨hb _ _, ha, hd, hc, trivial⟩
 | pair _ _ _ _ ha hd => simp only [KE.pt, PT.tame, tameL]; exact ⟨hb _ _, ha, hd, trivial⟩
 | fst _ _ _ ha => simp only [KE.pt, PT.tame, tameL]; exact ⟨by simp, ha, trivial⟩
 | snd _ _ _ ha => simp only [KE.pt, PT.tame, tameL]; exact ⟨by simp, ha, trivial⟩
 | two _ _ _ ha hd => simp only [KE.pt, PT.tame, tameL]; exact ⟨hb _ _, ha, hd, trivial⟩
theorem pt_nonew {rg : List UInt8} : ∀ {vs : List Nat} {x : KE} {t : Nat}, KT vs x t → NoNew (x.pt rg) := by
 intro vs x t h
 induction h with
 | num _ => exact .num
 | var _ => exact .name
 | let_ _ _ _ _ ha hd => simp only [KE.pt]; exact .node (by decide) (by intro y hy; simp only [List.mem_cons, List.not_mem_nil, or_false] at hy; rcases hy with rfl | rfl; exact ha; exact hd)
 | if_ _ _ _ ha hd hc => simp only [KE.pt]; exact .node (by decide) (by intro y hy; simp only [List.mem_cons, List.not_mem_nil, or_false] at hy; rcases hy with rfl | rfl | rfl; exact ha; exact hd; exact hc)
 | loop _ _ _ _ ha hd hc => simp only [KE.pt]; exact .node (by decide) (by intro y hy; simp only [List.mem_cons, List.not_mem_nil, or_false] at hy; rcases hy with rfl | rfl | rfl; exact ha; exact hd; exact hc)
 | pair _ _ _ _ ha hd => simp only [KE.pt]; exact .node (by decide) (by intro y hy; simp only [List.mem_cons, List.not_mem_nil, or_false] at hy; rcases hy with rfl | rfl; exact ha; exact hd)
 | fst _ _ _ ha => simp only [KE.pt]; exact .node (by decide) (by intro y hy; simp only [List.mem_cons, List.not_mem_nil, or_false] at hy; subst hy; exact ha)
 | snd _ _ _ ha => simp only [KE.pt]; exact .node (by decide) (by intro y hy; simp only [List.mem_cons, List.not_mem_nil, or_false] at hy; subst hy; exact ha)
 | two hk _ _ ha hd => simp only [KE.pt]; exact .node (by rcases hk with rfl | rfl | rfl <;> decide) (by intro y hy; simp only [List.mem_cons, List.not_mem_nil, or_false] at hy; rcases hy with rfl | rfl; exact ha; exact hd)
theorem kev_res {fuel : Nat} {vs : List Nat} {x : KE} {t : Nat} (h : KT vs x t) (hl : vs.length ≤ 100) (vals : List Vl) (st : ESt) (henv : st.e = 0 → EnvHas (envV vals) (envT vs)) : Res (tyZ t) st (ev fuel (x.pt []) (envV vals) st) :=
 ev_res fuel (pt_WT h hl) (envV vals) st (pt_tame h) (pt_nonew h) henv
theorem res_numZ {st : ESt} {r : Vl × ESt} (h : Res .n st r) : ∃ k, r.1 = .n k ∧ k ≤ 9999 := by
 by_cases e : r.2.e = 0
 ·exact has_num (h.1 e).2
 ·exact ⟨0, h.2 e, by omega⟩
set_option maxRecDepth 100000 in
set_option maxHeartbeats 2000000 in
theorem kgo_let {w0 : World} (yb fuel : Nat) (vs : List Nat) (a d : KE) (v : Nat) (hta : KT vs a v) (hvl : vs.length < 100) (iha : KGo w0 yb fuel a vs) (ihd : KGo w0 yb fuel d (vs ++ [v])) : KGoN w0 yb fuel (.n2 .let_ vs.length a d) vs := by
 intro b vals ps st nv w hx hin henv hlen hs he hq
 obtain ⟨c, pa, pd, hka, hT1, hT2⟩ := katz2 hx
 have hne : b ≠ yb := by have := hin.ob.hyb; have := hka.hb; omega
 have hgy : c ≠ yb := by have := hin.ob.hyb; have := hka.hg; omega
 have hev : ev fuel ((KE.n2 .let_ vs.length a d).pt []) (envV vals) st = ev fuel (d.pt []) (envV (vals ++ [(ev fuel (a.pt []) (envV vals) { st with steps := st.steps + 1 }).1])) (ev fuel (a.pt []) (envV vals) { st with steps := st.steps + 1 }).2 := by
  rw [envV_snoc, hlen]
  simp only [KE.pt]
  conv => lhs; unfold ev
  rw [begun_goZ he hq]; simp only [if_pos, evLet]; rfl
 rw [hev]
 have hs' := hs.step hq
 have hr1 := kev_res (fuel := fuel) hta (by omega) vals { st with steps := st.steps + 1 } (fun _ => henv)
 have h1 := fun m => iha pa vals ps { st with steps := st.steps + 1 } nv _ hT1 (hin.begin m).1 (fun _ => henv) hlen hs'
 have hs2 := hs'.on (a.pt []) (envV vals)
 generalize ev fuel (a.pt []) (envV vals) { st with steps := st.steps + 1 } = r1 at *
 have h2 := fun q nv2 w2 (hin2 : WkIn w0 w2 yb vals ps fuel r1.2 nv2) (hq : KVal w2 r1.1 q) => in_of pd q vals ps r1.1 r1.2 nv2 w2 (ev fuel (d.pt []) (envV (vals ++ [r1.1])) r1.2) (fun nv' w' hin' => ihd pd (vals ++ [r1.1]) (ps ++ [q]) r1.2 nv' w' hT2 hin' (fun e => by rw [envV_snoc, envT_snoc, hlen]; exact henv.snoc (hr1.1 e).2) (by simp [hlen]) hs2) hin2 hq (by omega)
 generalize ev fuel (d.pt []) (envV (vals ++ [r1.1])) r1.2 = R at *
 have hkw := hka.on hin.ob.b0
 have x0 := hkw.c0
 have x2 := hkw.c2
 have xk0 := hkw.ck 0 pa rfl
 have xl1 := hkw.hb
 have xl2 := hkw.hg
 have q0 : ((bs Kw.let_.bytes).toList == []) = false := by rw [bs_beq0]; decide
 have q1 : ((bs Kw.let_.bytes).toList == [120]) = false := by rw [bs_beq0]; decide
 have q2 : ((bs Kw.let_.bytes).toList == [108, 101, 116]) = true := by rw [bs_beq0]; decide
 have y1 : w.cell? ⟨yb, 1, none⟩ = some (.int .i64 fuel) := by rw [blk_cell hin.ob.y]; rfl
 have y2 : w.cell? ⟨yb, 2, none⟩ = some (.int .i64 st.steps) := by rw [blk_cell hin.ob.y]; rfl
 have y4 : w.cell? ⟨yb, 4, none⟩ = some (.bool false) := by rw [blk_cell hin.ob.y]; simp [wkCells, he]
 have f2 : w.frozen? ⟨yb, 2, none⟩ = false := blk_free hin.ob.y 2
 have hyl := blk_lt hin.ob.y
 have q9 : ((st.steps : Int) == (fuel : Int)) = false := by rw [beq_eq_false_iff_ne]; omega
 have hss := hs.s
 have hsf := hs.f
 have HK : Hid _ := hka
 have HBG : Hid _ := fun m => (hin.begin m).2
 have H1 : Hid _ := h1
 have H2 : Hid _ := h2
 clear hka hkw hx hin henv hs he hev hq hT1 hT2 iha ihd hs' hs2 hr1 h1 h2 hlen
 go_enter Tryz.func51, Tryz.ntmps51
 go_wp2_with fail
 go_quiet (fail)
 go_wp2_with fail
 refine Calls.mono (H1.out _) ?_
 rintro _ w2 ⟨r, nv2, rfl, hfr2, hin2, hkv2⟩
 have hkw := HK.out.on hin2.ob.b0
 have z2 := hkw.c2
 have zk1 := hkw.ck 1 pd rfl
 have zl1 := hkw.hb
 have zl2 := hkw.hg
 have hc2 := H2.out r nv2 w2 hin2 hkv2
 have HF2 : Hid _ := (HBG.out _).trans hfr2
 have HC2 : Hid _ := hc2
 clear hfr2 hin2 hkv2 hkw hc2 HK H1 H2 HBG x0 x2 xk0 y1 y2 y4 f2
 go_wp2_with fail
 refine Calls.mono HC2.out ?_
 rintro _ w3 ⟨r3, nv3, rfl, hfr3, hin3, hkv3⟩
 have HF3 : Hid _ := HF2.out.trans hfr3
 have HI3 : Hid _ := hin3
 have HK3 : Hid _ := hkv3
 clear hfr3 hin3 hkv3 HC2 HF2
 go_wp2
 go_ret
 exact ⟨r3, nv3, rfl, HF3.out, HI3.out, HK3.out⟩
set_option maxRecDepth 100000 in
set_option maxHeartbeats 2000000 in
theorem kgo_if {w0 : World} (yb fuel : Nat) (vs : List Nat) (a d f : KE) (hta : KT vs a 0) (hvl : vs.length ≤ 100) (iha : KGo w0 yb fuel a vs) (ihd : KGo w0 yb fuel d vs) (ihf : KGo w0 yb fuel f vs) : KGoN w0 yb fuel (.n3 .if_ 0 a d f) vs := by
 intro b vals ps st nv w hx hin henv hlen hs he hq
 obtain ⟨c, pa, pd, pf, hka, hT1, hT2, hT3⟩ := katz3 hx
 have hne : b ≠ yb := by have := hin.ob.hyb; have := hka.hb; omega
 have hgy : c ≠ yb := by have := hin.ob.hyb; have := hka.hg; omega
 have hev : ev fuel ((KE.n3 .if_ 0 a d f).pt []) (envV vals) st = if (ev fuel (a.pt []) (envV vals) { st with steps := st.steps + 1 }).1.num ≠ 0 then ev fuel (d.pt []) (envV vals) (ev fuel (a.pt []) (envV vals) { st with steps := st.steps + 1 }).2 else ev fuel (f.pt []) (envV vals) (ev fuel (a.pt []) (envV vals) { st with steps := st.steps + 1 }).2 := by
  simp only [KE.pt]
  conv => lhs; unfold ev
  rw [begun_goZ he hq]; simp only [reduceCtorEq, if_false, if_true, evIf]
 rw [hev]
 have hs' := hs.step hq
 have hr1 := kev_res (fuel := fuel) hta hvl vals { st with steps := st.steps + 1 } (fun _ => henv)
 have h1 := fun m => iha pa vals ps { st with steps := st.steps + 1 } nv _ hT1 (hin.begin m).1 (fun _ => henv) hlen hs'
 have hs2 := hs'.on (a.pt []) (envV vals)
 generalize ev fuel (a.pt []) (envV vals) { st with steps := st.steps + 1 } = r1 at *
 have h2 := fun nv2 w2 (hin2 : WkIn w0 w2 yb vals ps fuel r1.2 nv2) => ihd pd vals ps r1.2 nv2 w2 hT2 hin2 (fun _ => henv) hlen hs2
 have h3 := fun nv2 w2 (hin2 : WkIn w0 w2 yb vals ps fuel r1.2 nv2) => ihf pf vals ps r1.2 nv2 w2 hT3 hin2 (fun _ => henv) hlen hs2
 obtain ⟨k, hk, hk9⟩ := res_numZ hr1
 obtain ⟨R, hR⟩ : ∃ R, R = if r1.1.num ≠ 0 then ev fuel (d.pt []) (envV vals) r1.2 else ev fuel (f.pt []) (envV vals) r1.2 := ⟨_, rfl⟩
 rw [← hR]
 have HRz : k = 0 → R = ev fuel (f.pt []) (envV vals) r1.2 := fun h => by rw [hR, hk]; exact if_neg (fun g => g h)
 have HRy : k ≠ 0 → R = ev fuel (d.pt []) (envV vals) r1.2 := fun h => by rw [hR, hk]; exact if_pos h
 have hnum : ∀ (w2 : World) (r : Nat), KVal w2 r1.1 r → r < w2.heap.size ∧ w2.cell? ⟨r, 0, none⟩ = some (.int .i64 k) := fun w2 r h => by
  have := h.num; rw [hk] at this; exact this
 have hkw := hka.on hin.ob.b0
 have x0 := hkw.c0
 have x2 := hkw.c2
 have xk0 := hkw.ck 0 pa rfl
 have xl1 := hkw.hb
 have xl2 := hkw.hg
 have q0 : ((bs Kw.if_.bytes).toList == []) = false := by rw [bs_beq0]; decide
 have q1 : ((bs Kw.if_.bytes).toList == [120]) = false := by rw [bs_beq0]; decide
 have q2 : ((bs Kw.if_.bytes).toList == [108, 101, 116]) = false := by rw [bs_beq0]; decide
 have q3 : ((bs Kw.if_.bytes).toList == [105, 102]) = true := by rw [bs_beq0]; decide
 have y1 : w.cell? ⟨yb, 1, none⟩ = some (.int .i64 fuel) := by rw [blk_cell hin.ob.y]; rfl
 have y2 : w.cell? ⟨yb, 2, none⟩ = some (.int .i64 st.steps) := by rw [blk_cell hin.ob.y]; rfl
 have y4 : w.cell? ⟨yb, 4, none⟩ = some (.bool false) := by rw [blk_cell hin.ob.y]; simp [wkCells, he]
 have f2 : w.frozen? ⟨yb, 2, none⟩ = false := blk_free hin.ob.y 2
 have hyl := blk_lt hin.ob.y
 have q9 : ((st.steps : Int) == (fuel : Int)) = false := by rw [beq_eq_false_iff_ne]; omega
 have hss := hs.s
 have hsf := hs.f
 have HK : Hid _ := hka
 have HBG : Hid _ := fun m => (hin.begin m).2
 have H1 : Hid _ := h1
 have H2 : Hid _ := h2
 have H3 : Hid _ := h3
 have HNUM : Hid _ := hnum
 clear hka hkw hx hin henv hs he hev hq hT1 hT2 hT3 iha ihd ihf hs' hs2 hr1 h1 h2 h3 hk hR hlen hnum
 go_enter Tryz.func51, Tryz.ntmps51
 go_wp2_with fail
 go_quiet (fail)
 go_wp2_with fail
 refine Calls.mono (H1.out _) ?_
 rintro _ w2 ⟨r, nv2, rfl, hfr2, hin2, hkv2⟩
 have hkw := HK.out.on hin2.ob.b0
 have z2 := hkw.c2
 have zk1 := hkw.ck 1 pd rfl
 have zk2 := hkw.ck 2 pf rfl
 have zl1 := hkw.hb
 have zl2 := hkw.hg
 obtain ⟨zr, zn⟩ := HNUM.out w2 r hkv2
 have HF2 : Hid _ := (HBG.out _).trans hfr2
 have HC2 : Hid _ := H2.out nv2 w2 hin2
 have HC3 : Hid _ := H3.out nv2 w2 hin2
 clear hfr2 hin2 hkv2 hkw HK H1 H2 H3 HBG HNUM x0 x2 xk0 y1 y2 y4 f2
 by_cases hk0 : k = 0
 ·have qk : ((k : Int) != 0) = false := by subst hk0; rfl
  have HR : Hid _ := HRz hk0
  clear hk0 HRz HRy HC2
  go_wp2_with fail
  refine Calls.mono HC3.out ?_
  rintro _ w3 ⟨r3, nv3, rfl, hfr3, hin3, hkv3⟩
  have HF3 : Hid _ := HF2.out.trans hfr3
  have HI3 : Hid _ := hin3
  have HK3 : Hid _ := hkv3
  clear hfr3 hin3 hkv3 HC3 HF2
  go_wp2
  go_ret
  rw [HR.out]
  exact ⟨r3, nv3, rfl, HF3.out, HI3.out, HK3.out⟩
 ·have qk : ((k : Int) != 0) = true := by simp; omega
  have HR : Hid _ := HRy hk0
  clear hk0 HRz HRy HC3
  go_wp2_with fail
  refine Calls.mono HC2.out ?_
  rintro _ w3 ⟨r3, nv3, rfl, hfr3, hin3, hkv3⟩
  have HF3 : Hid _ := HF2.out.trans hfr3
  have HI3 : Hid _ := hin3
  have HK3 : Hid _ := hkv3
  clear hfr3 hin3 hkv3 HC2 HF2
  go_wp2
  go_ret
  rw [HR.out]
  exact ⟨r3, nv3, rfl, HF3.out, HI3.out, HK3.out⟩
theorem turns_zeroZ (f : Vl → ESt → Vl × ESt) (v : Vl) (st : ESt) : turns f 0 v st = (v, st) := rfl
theorem turns_succZ (f : Vl → ESt → Vl × ESt) (k : Nat) (v : Vl) (st : ESt) (h : st.e = 0) : turns f (k + 1) v st = turns f k (f v st).1 (f v st).2 := by simp only [turns]; rw [if_neg (by simpa using h)]
theorem turns_errZ (f : Vl → ESt → Vl × ESt) (k : Nat) (v : Vl) (st : ESt) (h : st.e ≠ 0) : turns f k v st = (v, st) := by
 cases k with
 | zero => rfl
 | succ k => simp only [turns]; rw [if_pos h]
set_option maxRecDepth 100000 in
set_option maxHeartbeats 4000000 in
theorem kgo_loop {w0 : World} (yb fuel : Nat) (vs : List Nat) (a d f : KE) (t : Nat) (hta : KT vs a 0) (htd : KT vs d t) (htf : KT (vs ++ [t]) f t) (hvl : vs.length < 100) (iha : KGo w0 yb fuel a vs) (ihd : KGo w0 yb fuel d vs) (ihf : KGo w0 yb fuel f (vs ++ [t])) : KGoN w0 yb fuel (.n3 .loop vs.length a d f) vs := by
 intro b vals ps st nv w hx hin henv hlen hs he hq
 obtain ⟨c, pa, pd, pf, hka, hT1, hT2, hT3⟩ := katz3 hx
 have hne : b ≠ yb := by have := hin.ob.hyb; have := hka.hb; omega
 have hgy : c ≠ yb := by have := hin.ob.hyb; have := hka.hg; omega
 obtain ⟨F, hF⟩ : ∃ F : Vl → ESt → Vl × ESt, F = fun v st => ev fuel (f.pt []) (envV (vals ++ [v])) st := ⟨_, rfl⟩
 have hev : ev fuel ((KE.n3 .loop vs.length a d f).pt []) (envV vals) st = turns F (ev fuel (a.pt []) (envV vals) { st with steps := st.steps + 1 }).1.num (ev fuel (d.pt []) (envV vals) (ev fuel (a.pt []) (envV vals) { st with steps := st.steps + 1 }).2).1 (ev fuel (d.pt []) (envV vals) (ev fuel (a.pt []) (envV vals) { st with steps := st.steps + 1 }).2).2 := by
  rw [hF]
  simp only [envV_snoc, hlen]
  simp only [KE.pt]
  conv => lhs; unfold ev
  rw [begun_goZ he hq]; simp only [reduceCtorEq, if_false, if_true, evLoop]; rfl
 rw [hev]
 have hs' := hs.step hq
 have hr1 := kev_res (fuel := fuel) hta (by omega) vals { st with steps := st.steps + 1 } (fun _ => henv)
 have h1 := fun m => iha pa vals ps { st with steps := st.steps + 1 } nv _ hT1 (hin.begin m).1 (fun _ => henv) hlen hs'
 have hs2 := hs'.on (a.pt []) (envV vals)
 generalize ev fuel (a.pt []) (envV vals) { st with steps := st.steps + 1 } = r1 at *
 have hr2 := kev_res (fuel := fuel) htd (by omega) vals r1.2 (fun _ => henv)
 have h2 := fun nv2 w2 (hin2 : WkIn w0 w2 yb vals ps fuel r1.2 nv2) => ihd pd vals ps r1.2 nv2 w2 hT2 hin2 (fun _ => henv) hlen hs2
 have hs3 := hs2.on (d.pt []) (envV vals)
 generalize ev fuel (d.pt []) (envV vals) r1.2 = r2 at *
 obtain ⟨k, hk, hk9⟩ := res_numZ hr1
 have h3 : ∀ (v : Vl) (q : Nat) (st3 : ESt) (nv2 : Value) (w2 : World), (st3.e = 0 → v.has (tyZ t)) → SOkZ fuel st3 → WkIn w0 w2 yb vals ps fuel st3 nv2 → KVal w2 v q →
   Calls Tryz.prog 85 #[.pointer (some ⟨yb, 0, none⟩), .pointer (some ⟨q, 0, none⟩), .pointer (some ⟨pf, 0, none⟩)] w2 fun e w' => ∃ r nv', e = .returned (.pointer (some ⟨r, 0, none⟩)) ∧ FrO w2 w' yb nv2 nv' ∧ WkIn w0 w' yb vals ps fuel (F v st3).2 nv' ∧ KVal w' (F v st3).1 r := by
  intro v q st3 nv2 w2 hv hs4 hin2 hq2
  rw [hF]
  exact in_of pf q vals ps v st3 nv2 w2 _ (fun nv' w' hin' => ihf pf (vals ++ [v]) (ps ++ [q]) st3 nv' w' hT3 hin' (fun e => by rw [envV_snoc, envT_snoc, hlen]; exact henv.snoc (hv e)) (by simp [hlen]) hs4) hin2 hq2 (by omega)
 have h4 : ∀ (v : Vl) (st3 : ESt), (st3.e = 0 → v.has (tyZ t)) → SOkZ fuel st3 → ((F v st3).2.e = 0 → (F v st3).1.has (tyZ t)) ∧ SOkZ fuel (F v st3).2 := by
  intro v st3 hv hs4
  rw [hF]
  exact ⟨fun e => ((kev_res (fuel := fuel) htf (by simp; omega) (vals ++ [v]) st3 (fun e => by rw [envV_snoc, envT_snoc, hlen]; exact henv.snoc (hv e))).1 e).2, hs4.on _ _⟩
 have hnum : ∀ (w2 : World) (r : Nat), KVal w2 r1.1 r → r < w2.heap.size ∧ w2.cell? ⟨r, 0, none⟩ = some (.int .i64 k) := fun w2 r h => by
  have := h.num; rw [hk] at this; exact this
 have hkn : r1.1.num = k := by rw [hk]; rfl
 rw [hkn]
 have hkw := hka.on hin.ob.b0
 have x0 := hkw.c0
 have x2 := hkw.c2
 have xk0 := hkw.ck 0 pa rfl
 have xl1 := hkw.hb
 have xl2 := hkw.hg
 have q0 : ((bs Kw.loop.bytes).toList == []) = false := by rw [bs_beq0]; decide
 have q1 : ((bs Kw.loop.bytes).toList == [120]) = false := by rw [bs_beq0]; decide
 have q2 : ((bs Kw.loop.bytes).toList == [108, 101, 116]) = false := by rw [bs_beq0]; decide
 have q3 : ((bs Kw.loop.bytes).toList == [105, 102]) = false := by rw [bs_beq0]; decide
 have q4 : ((bs Kw.loop.bytes).toList == [108, 111, 111, 112]) = true := by rw [bs_beq0]; decide
 have y1 : w.cell? ⟨yb, 1, none⟩ = some (.int .i64 fuel) := by rw [blk_cell hin.ob.y]; rfl
 have y2 : w.cell? ⟨yb, 2, none⟩ = some (.int .i64 st.steps) := by rw [blk_cell hin.ob.y]; rfl
 have y4 : w.cell? ⟨yb, 4, none⟩ = some (.bool false) := by rw [blk_cell hin.ob.y]; simp [wkCells, he]
 have f2 : w.frozen? ⟨yb, 2, none⟩ = false := blk_free hin.ob.y 2
 have hyl := blk_lt hin.ob.y
 have q9 : ((st.steps : Int) == (fuel : Int)) = false := by rw [beq_eq_false_iff_ne]; omega
 have hss := hs.s
 have hsf := hs.f
 have HR2 : Hid (r2.2.e = 0 → r2.1.has (tyZ t)) := fun e => (hr2.1 e).2
 have HS3 : Hid _ := hs3
 have HK : Hid _ := hka
 have HBG : Hid _ := fun m => (hin.begin m).2
 have H1 : Hid _ := h1
 have H2 : Hid _ := h2
 have H3 : Hid _ := h3
 have H4 : Hid _ := h4
 have HNUM : Hid _ := hnum
 clear hka hkw hx hin henv hs he hev hq hT1 hT2 hT3 iha ihd ihf hs' hs2 hs3 hr1 hr2 h1 h2 h3 h4 hk hkn hlen hnum hF
 go_enter Tryz.func51, Tryz.ntmps51
 go_wp2_with fail
 go_quiet (fail)
 go_wp2_with fail
 refine Calls.mono (H1.out _) ?_
 rintro _ w2 ⟨rn, nv2, rfl, hfr2, hin2, hkv2⟩
 have hkw := HK.out.on hin2.ob.b0
 have z2 := hkw.c2
 have zk1 := hkw.ck 1 pd rfl
 have zl1 := hkw.hb
 have zl2 := hkw.hg
 have HF2 : Hid _ := (HBG.out _).trans hfr2
 have HC2 : Hid _ := H2.out nv2 w2 hin2
 have HI2 : Hid _ := hin2.ob
 have HKN : Hid _ := hkv2
 clear hfr2 hin2 hkv2 hkw H1 H2 HBG x0 x2 xk0 y1 y2 y4 f2
 go_wp2_with fail
 refine Calls.mono HC2.out ?_
 rintro _ w3 ⟨r3, nv3, rfl, hfr3, hin3, hkv3⟩
 have HKN3 : Hid _ := HKN.out.fr HI2.out hfr3
 have HF3 : Hid _ := HF2.out.trans hfr3
 have HI3 : Hid _ := hin3
 have HK3 : Hid _ := hkv3
 clear hfr3 hin3 hkv3 HC2 HF2 HI2 HKN z2 zk1
 go_wp2_with fail
 go_loopw [9, 10] (fun vv i wr => ∃ (j : Nat) (v : Vl) (r : Nat) (st4 : ESt) (nv4 : Value), j ≤ k ∧ i = .int .i64 j ∧ vv = .pointer (some ⟨r, 0, none⟩) ∧ KVal wr v r ∧ turns F k r2.1 r2.2 = turns F (k - j) v st4 ∧ (st4.e = 0 → v.has (tyZ t)) ∧ SOkZ fuel st4 ∧ FrO w wr yb nv nv4 ∧ WkIn w0 wr yb vals ps fuel st4 nv4 ∧ KVal wr r1.1 rn) (fun _ i _ => k - (intOf i).toNat)
 case atStart => exact ⟨0, r2.1, r3, r2.2, nv3, by omega, rfl, rfl, HK3.out, rfl, HR2.out, HS3.out, HF3.out, HI3.out, HKN3.out⟩
 case round =>
  obtain ⟨j, v, r, st4, nv4, hj, rfl, rfl, hkv, htu, hv, hs4, hfr4, hin4, hkn4⟩ := hrel
  have e4 : wr.cell? ⟨yb, 4, none⟩ = some (.bool (decide (st4.e ≠ 0))) := by rw [blk_cell hin4.ob.y]; rfl
  have hylr := blk_lt hin4.ob.y
  obtain ⟨zr, zn⟩ := HNUM.out wr rn hkn4
  have hkw := HK.out.on hin4.ob.b0
  have u2 := hkw.c2
  have uk2 := hkw.ck 2 pf rfl
  have ul1 := hkw.hb
  have ul2 := hkw.hg
  have HTU : Hid _ := htu
  have HF4 : Hid _ := hfr4
  have HI4 : Hid _ := hin4
  have HKV : Hid _ := hkv
  by_cases hj0 : j = k
  ·have HE : Hid _ := turns_zeroZ F v st4
   have hjk : ¬ j < k := by omega
   have HTU2 : Hid (turns F k r2.1 r2.2 = turns F 0 v st4) := by
    show _ = _
    rw [HTU.out, hj0, Nat.sub_self]
   subst hj0
   clear htu hfr4 hin4 hkw hv hs4 hkn4 hkv
   go_wp2
   go_ret
   rw [HTU2.out, HE.out]
   exact ⟨r, nv4, rfl, HF4.out, HI4.out, HKV.out⟩
  ·have hjlt : j < k := by omega
   by_cases he4 : st4.e = 0
   ·rw [show decide (st4.e ≠ 0) = false by simp [he4]] at e4
    obtain ⟨i, hi⟩ : ∃ i, k - j = i + 1 := ⟨k - j - 1, by omega⟩
    have h4 := H4.out v st4 hv hs4
    have HE : Hid (turns F (k - j) v st4 = turns F (k - (j + 1)) (F v st4).1 (F v st4).2) := by
     show _ = _
     rw [hi, turns_succZ F i v st4 he4, show k - (j + 1) = i by omega]
    have H5 : Hid _ := h4
    have HC : Hid _ := H3.out v r st4 nv4 wr hv hs4 hin4 hkv
    have HKNr : Hid _ := hkn4
    clear htu hfr4 hin4 hkw hv hs4 h4 he4 hkn4 hkv hi
    go_wp2_with fail
    refine Calls.mono HC.out ?_
    rintro _ w5 ⟨r5, nv5, rfl, hfr5, hin5, hkv5⟩
    have HF5 : Hid _ := HF4.out.trans hfr5
    have HI5 : Hid _ := hin5
    have HK5 : Hid _ := hkv5
    have HN5 : Hid _ := HKNr.out.fr HI4.out.ob hfr5
    clear hfr5 hin5 hkv5 HC
    go_wp2
    go_roundw
    case rel => exact ⟨j + 1, (F v st4).1, r5, (F v st4).2, nv5, by omega, by go_num, rfl, HK5.out, by rw [HTU.out, HE.out], H5.out.1, H5.out.2, HF5.out, HI5.out, HN5.out⟩
    case measure => simp [intOf]; omega
   ·rw [show decide (st4.e ≠ 0) = true by simp [he4]] at e4
    have HE : Hid _ := turns_errZ F (k - j) v st4 he4
    clear htu hfr4 hin4 hkw hv hs4 he4 hkn4 hkv
    go_wp2
    go_ret
    rw [HTU.out, HE.out]
    exact ⟨r, nv4, rfl, HF4.out, HI4.out, HKV.out⟩
end Go.Proofs.YtpicaknklgccoaaGreatDoor
