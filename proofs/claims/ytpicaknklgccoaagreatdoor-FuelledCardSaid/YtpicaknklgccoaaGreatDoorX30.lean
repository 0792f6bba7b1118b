import Derived.Test.YtpicaknklgccoaaGreatDoorX29
import Derived.Test.YtpicaknklgccoaaGreatDoorX16
namespace Go.Proofs.YtpicaknklgccoaaGreatDoor
open Go.RowKit
open Go.Lib (decDigits)
theorem regT_if (k : Kw) (rg : List UInt8) : regT (if k = .pair then rg else []) = if k = .pair then regT rg else [] := by split <;> rfl
theorem ktext_any (rg : List UInt8) : ∀ {vs : List Nat} {x : KE} {t : Nat}, KT vs x t → vs.length ≤ 101 → KText rg x := by
 intro vs x t h
 induction h with
 | num h => intro _; exact text_num rg _ (by omega)
 | var h =>
  intro hl
  refine text_var rg _ ?_
  have := (List.getElem?_eq_some_iff.1 h).1
  omega
 | let_ _ hl _ _ ha hb =>
  intro _
  refine text_node rg _ .let_ _ [_, _] (by decide) (by omega) ?_ (fun w p h => knode2 h) (by simp) ?_
  ·simp only [KE.pt, PT.tidy, tidyL, regT_if, join_bind, List.map_cons, List.map_nil]
  ·intro y hy
   simp only [List.mem_cons, List.not_mem_nil, or_false] at hy
   rcases hy with rfl | rfl
   ·exact ha (by omega)
   ·exact hb (by simp; omega)
 | if_ _ _ _ ha hb hc =>
  intro hl
  refine text_node rg _ .if_ 0 [_, _, _] (by decide) (by omega) ?_ (fun w p h => knode3 h) (by simp) ?_
  ·simp only [KE.pt, PT.tidy, tidyL, join_bind, List.map_cons, List.map_nil]
   rfl
  ·intro y hy
   simp only [List.mem_cons, List.not_mem_nil, or_false] at hy
   rcases hy with rfl | rfl | rfl
   ·exact ha hl
   ·exact hb hl
   ·exact hc hl
 | loop hl _ _ _ ha hb hc =>
  intro _
  refine text_node rg _ .loop _ [_, _, _] (by decide) (by omega) ?_ (fun w p h => knode3 h) (by simp) ?_
  ·simp only [KE.pt, PT.tidy, tidyL, join_bind, List.map_cons, List.map_nil]
   rfl
  ·intro y hy
   simp only [List.mem_cons, List.not_mem_nil, or_false] at hy
   rcases hy with rfl | rfl | rfl
   ·exact ha (by omega)
   ·exact hb (by omega)
   ·exact hc (by simp; omega)
 | pair _ _ _ _ ha hb =>
  intro hl
  refine text_node rg _ .pair 0 [_, _] (by decide) (by omega) ?_ (fun w p h => knode2 h) (by simp) ?_
  ·simp only [KE.pt, PT.tidy, tidyL, join_bind, List.map_cons, List.map_nil, if_true]
  ·intro y hy
   simp only [List.mem_cons, List.not_mem_nil, or_false] at hy
   rcases hy with rfl | rfl
   ·exact ha hl
   ·exact hb hl
 | fst _ _ _ ha =>
  intro hl
  refine text_node rg _ .fst 0 [_] (by decide) (by omega) ?_ (fun w p h => knode1 h) (by simp) ?_
  ·simp only [KE.pt, PT.tidy, tidyL, List.map_cons, List.map_nil, ← join_bind]
   rfl
  ·intro y hy
   simp only [List.mem_cons, List.not_mem_nil, or_false] at hy
   subst hy
   exact ha hl
 | snd _ _ _ ha =>
  intro hl
  refine text_node rg _ .snd 0 [_] (by decide) (by omega) ?_ (fun w p h => knode1 h) (by simp) ?_
  ·simp only [KE.pt, PT.tidy, tidyL, List.map_cons, List.map_nil, ← join_bind]
   rfl
  ·intro y hy
   simp only [List.mem_cons, List.not_mem_nil, or_false] at hy
   subst hy
   exact ha hl
 | two hk _ _ ha hb =>
  intro hl
  refine text_node rg _ _ 0 [_, _] (by rcases hk with rfl | rfl | rfl <;> decide) (by omega) ?_ (fun w p h => knode2 h) (by simp) ?_
  ·simp only [KE.pt, PT.tidy, tidyL, regT_if, join_bind, List.map_cons, List.map_nil]
  ·intro y hy
   simp only [List.mem_cons, List.not_mem_nil, or_false] at hy
   rcases hy with rfl | rfl
   ·exact ha hl
   ·exact hb hl
def kvV (n : Nat) (a b : Value) : Array Value := #[.int .i64 n, a, b]
def KVal (w : World) : Vl → Nat → Prop
 | .n k, p => w.heap[p]? = some (.cells (kvV k (.pointer none) (.pointer none)) 141 (0, 0))
 | .p a b, p => ∃ pa pb : Nat, w.heap[p]? = some (.cells (kvV 0 (.pointer (some ⟨pa, 0, none⟩)) (.pointer (some ⟨pb, 0, none⟩))) 141 (0, 0)) ∧ KVal w a pa ∧ KVal w b pb
theorem KVal.keep {w w' : World} (h : ∀ (k : Nat) (arr : Array Value), w.heap[k]? = some (.cells arr 141 (0, 0)) → w'.heap[k]? = some (.cells arr 141 (0, 0))) : ∀ {v : Vl} {p : Nat}, KVal w v p → KVal w' v p
 | .n _, _, hx => h _ _ hx
 | .p _ _, _, ⟨pa, pb, h1, h2, h3⟩ => ⟨pa, pb, h _ _ h1, KVal.keep h h2, KVal.keep h h3⟩
theorem KVal.below {w w' : World} {v : Vl} {p : Nat} (h : KVal w v p) (hb : Below w.heap.size w w') : KVal w' v p := h.keep (fun k _ hk => (hb.block k (blk_lt hk)).trans hk)
theorem KVal.num {w : World} {v : Vl} {p : Nat} (h : KVal w v p) : p < w.heap.size ∧ w.cell? ⟨p, 0, none⟩ = some (.int .i64 v.num) := by
 cases v with
 | n k => have h' : w.heap[p]? = some (.cells (kvV k (.pointer none) (.pointer none)) 141 (0, 0)) := h; exact ⟨blk_lt h', by rw [blk_cell h']; rfl⟩
 | p a b => obtain ⟨pa, pb, h1, _, _⟩ := h; exact ⟨blk_lt h1, by rw [blk_cell h1]; rfl⟩
def ptrsV (l : List Nat) : List Value := l.map (fun (k : Nat) => Value.pointer (some ⟨k, 0, none⟩))
theorem ptrsV_len (l : List Nat) : (ptrsV l).length = l.length := by simp [ptrsV]
theorem ptrsV_snoc (l : List Nat) (v : Nat) : ptrsV (l ++ [v]) = ptrsV l ++ [.pointer (some ⟨v, 0, none⟩)] := by simp [ptrsV]
def wkCells (nv : Value) (fuel : Nat) (st : ESt) : Array Value := #[nv, .int .i64 fuel, .int .i64 st.steps, .int .i64 st.cells, .bool (decide (st.e ≠ 0))]
structure WkIn (w0 w : World) (yb : Nat) (vals : List Vl) (ps : List Nat) (fuel : Nat) (st : ESt) (nv : Value) : Prop where
 ob : ObIn w0 w yb (wkCells nv fuel st) 103 nv 104 (ptrsV ps)
 len : ps.length = vals.length
 v : ∀ (i : Nat) (v : Vl) (p : Nat), vals[i]? = some v → ps[i]? = some p → KVal w v p
theorem KVal.fr {w0 w w' : World} {yb : Nat} {cs : Array Value} {xs : List Value} {nv nv' : Value} {v : Vl} {p : Nat} (h : KVal w v p) (hm : ObIn w0 w yb cs 103 nv 104 xs) (hf : FrO w w' yb nv nv') : KVal w' v p :=
 h.keep (fun k arr hk => hm.other hf (by decide) (by decide) hk)
theorem WkIn.grow {w0 w w' : World} {yb : Nat} {vals : List Vl} {ps : List Nat} {fuel : Nat} {st : ESt} {nv : Value} (h : WkIn w0 w yb vals ps fuel st nv) (hb : Below w.heap.size w w') : WkIn w0 w' yb vals ps fuel st nv :=
 ⟨h.ob.grow hb, h.len, fun i v p h1 h2 => (h.v i v p h1 h2).below hb⟩
theorem WkIn.set {w0 w : World} {yb : Nat} {vals : List Vl} {ps : List Nat} {fuel : Nat} {st st' : ESt} {nv : Value} (h : WkIn w0 w yb vals ps fuel st nv) (o : Nat) (x : Value) (hx : (wkCells nv fuel st).setIfInBounds o x = wkCells nv fuel st') : WkIn w0 (w.setCell ⟨yb, o, none⟩ x) yb vals ps fuel st' nv :=
 ⟨h.ob.set o x hx, h.len, fun i v p h1 h2 => (h.v i v p h1 h2).fr h.ob (FrO.set1 w yb nv o x)⟩
set_option maxRecDepth 100000 in
set_option maxHeartbeats 1000000 in
theorem ktold_any : ∀ (v : Vl) (T : Ty) (p : Nat) (w : World), v.has T → T.size ≤ 63 → KVal w v p → (∀ W, Below w.heap.size w W → ItoaOk W) →
  Calls Tryz.prog 52 #[.pointer (some ⟨p, 0, none⟩)] w fun e w' => e = .returned (.string (bs v.txt)) ∧ Below w.heap.size w w'
 | .n k, T, p, w, hv, _, hk, hit => by
  have hk9 : k ≤ 9999 := by
   cases T with
   | n => exact hv
   | p _ _ _ => exact hv.elim
  have hk' : w.heap[p]? = some (.cells (kvV k (.pointer none) (.pointer none)) 141 (0, 0)) := hk
  have hp := blk_lt hk'
  have x0 : w.cell? ⟨p, 0, none⟩ = some (.int .i64 k) := by rw [blk_cell hk']; rfl
  have x1 : w.cell? ⟨p, 1, none⟩ = some (.pointer none) := by rw [blk_cell hk']; rfl
  have HI : Hid _ := hit w (Below.refl _ _) k w hk9 (Below.refl _ _)
  simp only [Vl.txt]
  clear hk hk' hit hv
  go_enter Tryz.func52, Tryz.ntmps52
  go_wp2_with fail
  refine Calls.mono HI.out ?_
  rintro _ w2 ⟨rfl, hb⟩
  go_wp2
  go_ret
  exact ⟨rfl, hb⟩
 | .p a b, T, p, w, hv, hT, hk, hit => by
  obtain ⟨r, A, B, rfl, ha, hb⟩ : ∃ r A B, T = .p r A B ∧ a.has A ∧ b.has B := by
   cases T with
   | n => exact hv.elim
   | p r A B => exact ⟨r, A, B, rfl, hv.1, hv.2⟩
  simp only [Ty.size] at hT
  obtain ⟨pa, pb, h1, h2, h3⟩ := hk
  have hp := blk_lt h1
  have x1 : w.cell? ⟨p, 1, none⟩ = some (.pointer (some ⟨pa, 0, none⟩)) := by rw [blk_cell h1]; rfl
  have x2 : w.cell? ⟨p, 2, none⟩ = some (.pointer (some ⟨pb, 0, none⟩)) := by rw [blk_cell h1]; rfl
  have HA : Hid _ := ktold_any a A pa w ha (by omega) h2 hit
  have HB : Hid _ := fun W hW => ktold_any b B pb W hb (by omega) (h3.below hW) (fun W' hW' => hit W' (hW.trans (hW'.mono hW.size)))
  have la := Vl.has_len ha
  have lb := Vl.has_len hb
  have z1 : (ByteArray.mk #[91]).size = 1 := rfl
  have z2 : (ByteArray.mk #[32]).size = 1 := rfl
  have z3 : (ByteArray.mk #[93]).size = 1 := rfl
  have zA : (bs a.txt).size ≤ 1000 := by rw [bs_size]; omega
  have zB : (bs b.txt).size ≤ 1000 := by rw [bs_size]; omega
  have zC : (ByteArray.mk #[91] ++ bs a.txt).size ≤ 1001 := by rw [ByteArray.size_append]; omega
  have zD : (ByteArray.mk #[91] ++ bs a.txt ++ ByteArray.mk #[32]).size ≤ 1002 := by rw [ByteArray.size_append]; omega
  have zE : (ByteArray.mk #[91] ++ bs a.txt ++ ByteArray.mk #[32] ++ bs b.txt).size ≤ 2002 := by rw [ByteArray.size_append]; omega
  have hfin : ByteArray.mk #[91] ++ bs a.txt ++ ByteArray.mk #[32] ++ bs b.txt ++ ByteArray.mk #[93] = bs (Vl.txt (.p a b)) := by
   rw [show ByteArray.mk #[91] = bs [91] from rfl, show ByteArray.mk #[32] = bs [32] from rfl, show ByteArray.mk #[93] = bs [93] from rfl, bs_app, bs_app, bs_app, bs_app]
   simp [Vl.txt]
  have HFIN : Hid _ := hfin
  clear hfin h1 h2 h3 hit hv ha hb la lb
  go_enter Tryz.func52, Tryz.ntmps52
  go_wp2_with fail
  refine Calls.mono HA.out ?_
  rintro _ w2 ⟨rfl, hb2⟩
  have y2 : w2.cell? ⟨p, 2, none⟩ = some (.pointer (some ⟨pb, 0, none⟩)) := (hb2.cell (p := ⟨p, 2, none⟩) hp).trans x2
  have hp2 : p < w2.heap.size := by have := hb2.size; omega
  have HB2 : Hid _ := hb2
  clear hb2 HA
  go_wp2_with fail
  refine Calls.mono (HB.out w2 HB2.out) ?_
  rintro _ w3 ⟨rfl, hb3⟩
  have HB3 : Hid _ := HB2.out.trans (hb3.mono HB2.out.size)
  clear hb3 HB
  go_wp2
  go_ret
  exact ⟨by rw [← HFIN.out]; rfl, HB3.out⟩
end Go.Proofs.YtpicaknklgccoaaGreatDoor
namespace Go.Proofs.YtpicaknklgccoaaGreatDoor
open Go.Lib (decDigits)
theorem fin_end {id p : Nat} {x : Ty × TSt} {T : Ty} {A : Nat} (h0 : x.2.e = 0) (hb : x.1.bare = T) (hs : T.size ≤ 63) (ha : x.2.at_ = A) : (fin id p x).2.e = 0 ∧ (fin id p x).1.bare = T ∧ T.size ≤ 63 ∧ (fin id p x).2.at_ = A := by
 have hsz : x.1.size ≤ 63 := by rw [← bare_sizeE, hb]; exact hs
 unfold fin
 have : ¬ (x.2.e = 0 ∧ 63 < x.1.size) := by omega
 simp only [if_neg this]
 exact ⟨h0, hb, hs, ha⟩
theorem bare_pair {T A B : Ty} {r : Nat} (h : T.bare = .p r A B) : ∃ q u v, T = .p q u v ∧ u.bare = A ∧ v.bare = B := by
 cases T with
 | n => simp [Ty.bare] at h
 | p q u v => simp only [Ty.bare, Ty.p.injEq] at h; exact ⟨q, u, v, rfl, h.2.1, h.2.2⟩
theorem bare_num {T : Ty} (h : T.bare = .n) : T = .n := by cases T with
 | n => rfl
 | p q u v => simp [Ty.bare] at h
theorem WT.find {G : TEnv} {e : PT} {T : Ty} (h : WT G e T) : ∀ (cls : List Nat) (id site : Nat) (env : TEnv) (st : TSt), bareE env = G → (∀ x ∈ env, x.2.size ≤ 63) → st.e = 0 →
  (tyFind cls e id site env st).2.e = 0 ∧ (tyFind cls e id site env st).1.bare = T ∧ T.size ≤ 63 ∧ (tyFind cls e id site env st).2.at_ = st.at_ := by
 induction h with
 | num => intro cls id site env st _ _ h0; simp only [tyFind]; exact fin_end h0 rfl (by simp [Ty.size]) rfl
 | name h =>
  intro cls id site env st hG hs h0
  simp only [tyFind]
  rw [← hG, look_bare] at h
  cases hl : look env _ with
  | none => rw [hl] at h; simp at h
  | some U =>
   rw [hl] at h
   simp only [Option.map_some, Option.some.injEq] at h
   have hU : U.size ≤ 63 := by
    unfold look at hl
    cases hf : env.reverse.find? (fun x => x.1 == _) with
    | none => rw [hf] at hl; simp at hl
    | some z =>
     rw [hf] at hl
     simp only [Option.map_some, Option.some.injEq] at hl
     have := List.mem_of_find?_eq_some hf
     rw [← hl]
     exact hs z (List.mem_reverse.1 this)
   exact fin_end h0 h (by rw [← h, bare_sizeE]; exact hU) rfl
 | let_ ha hb iha ihb =>
  intro cls id site env st hG hs h0
  simp only [tyFind, if_true, tyLet]
  obtain ⟨a1, a2, a3, a4⟩ := iha cls (id + 1) site env st hG hs h0
  rename_i nm _ a b A B
  obtain ⟨b1, b2, b3, b4⟩ := ihb cls (id + 1 + a.cnt) (site + a.prs) (env ++ [(nm, (tyFind cls a (id + 1) site env st).1)]) (tyFind cls a (id + 1) site env st).2 (by rw [bareE_snoc, hG, a2]) (by
   intro x hx
   rcases List.mem_append.1 hx with hx | hx
   ·exact hs x hx
   ·simp only [List.mem_singleton] at hx; subst hx; rw [← bare_sizeE, a2]; exact a3) a1
  exact fin_end b1 b2 b3 (b4.trans a4)
 | pair ha hb hsz iha ihb =>
  intro cls id site env st hG hs h0
  simp only [tyFind, if_true, tyKids, if_neg (show Kw.pair ≠ .let_ by decide), if_neg (show Kw.pair ≠ .loop by decide)]
  rename_i a b A B
  obtain ⟨a1, a2, a3, a4⟩ := iha cls (id + 1) (site + 1) env st hG hs h0
  obtain ⟨b1, b2, b3, b4⟩ := ihb cls (id + 1 + a.cnt) (site + 1 + a.prs) env _ hG hs a1
  rw [if_neg (by rw [b1]; simp)]
  simp only [madeT]
  exact fin_end b1 (by simp only [Ty.bare, a2, b2]) hsz (b4.trans a4)
 | fst ha iha =>
  intro cls id site env st hG hs h0
  simp only [tyFind, tyKids, if_neg (show Kw.fst ≠ .let_ by decide), if_neg (show Kw.fst ≠ .loop by decide), if_neg (show Kw.fst ≠ .pair by decide), Nat.add_zero]
  obtain ⟨a1, a2, a3, a4⟩ := iha cls (id + 1) site env st hG hs h0
  rw [if_neg (by rw [a1]; simp)]
  obtain ⟨q, u, v, e, hu, hv⟩ := bare_pair a2
  rw [e]
  simp only [madeT]
  simp only [Ty.size] at a3
  exact fin_end a1 hu (by omega) a4
 | snd ha iha =>
  intro cls id site env st hG hs h0
  simp only [tyFind, tyKids, if_neg (show Kw.snd ≠ .let_ by decide), if_neg (show Kw.snd ≠ .loop by decide), if_neg (show Kw.snd ≠ .pair by decide), Nat.add_zero]
  obtain ⟨a1, a2, a3, a4⟩ := iha cls (id + 1) site env st hG hs h0
  rw [if_neg (by rw [a1]; simp)]
  obtain ⟨q, u, v, e, hu, hv⟩ := bare_pair a2
  rw [e]
  simp only [madeT]
  simp only [Ty.size] at a3
  exact fin_end a1 hv (by omega) a4
 | if_ ha hb hc iha ihb ihc =>
  intro cls id site env st hG hs h0
  simp only [tyFind, tyKids, if_neg (show Kw.if_ ≠ .let_ by decide), if_neg (show Kw.if_ ≠ .loop by decide), if_neg (show Kw.if_ ≠ .pair by decide), Nat.add_zero]
  rename_i a b c T
  obtain ⟨a1, a2, a3, a4⟩ := iha cls (id + 1) site env st hG hs h0
  obtain ⟨b1, b2, b3, b4⟩ := ihb cls (id + 1 + a.cnt) (site + a.prs) env _ hG hs a1
  obtain ⟨c1, c2, c3, c4⟩ := ihc cls (id + 1 + a.cnt + b.cnt) (site + a.prs + b.prs) env _ hG hs b1
  rw [if_neg (by rw [c1]; simp)]
  simp only [madeT]
  rw [if_pos ⟨bare_num a2, by rw [b2, c2]⟩]
  exact fin_end c1 b2 b3 (c4.trans (b4.trans a4))
 | two hk ha hb iha ihb =>
  intro cls id site env st hG hs h0
  rename_i k _ _ a b
  have hk' : k ≠ .let_ ∧ k ≠ .loop ∧ k ≠ .pair := by rcases hk with rfl | rfl | rfl <;> decide
  simp only [tyFind, tyKids, if_neg hk'.1, if_neg hk'.2.1, if_neg hk'.2.2, Nat.add_zero]
  obtain ⟨a1, a2, a3, a4⟩ := iha cls (id + 1) site env st hG hs h0
  obtain ⟨b1, b2, b3, b4⟩ := ihb cls (id + 1 + a.cnt) (site + a.prs) env _ hG hs a1
  rw [if_neg (by rw [b1]; simp)]
  have hm : ∀ (ps : Nat) (A B : Ty) (s : TSt), A = .n → B = .n → madeT cls k ps site [A, B] s = (.n, s) := by
   rintro ps _ _ s rfl rfl
   rcases hk with rfl | rfl | rfl <;> simp [madeT]
  rw [hm _ _ _ _ (bare_num a2) (bare_num b2)]
  exact fin_end b1 rfl (by simp [Ty.size]) (b4.trans a4)
 | loop ha hb hc iha ihb ihc =>
  intro cls id site env st hG hs h0
  simp only [tyFind, tyLoop, if_true, if_neg (show Kw.loop ≠ .let_ by decide)]
  rename_i nm _ a b c T
  obtain ⟨a1, a2, a3, a4⟩ := iha cls (id + 1) site env st hG hs h0
  obtain ⟨b1, b2, b3, b4⟩ := ihb cls (id + 1 + a.cnt) (site + a.prs) env _ hG hs a1
  obtain ⟨c1, c2, c3, c4⟩ := ihc cls (id + 1 + a.cnt + b.cnt) (site + a.prs + b.prs) (env ++ [(nm, (tyFind cls b (id + 1 + a.cnt) (site + a.prs) env (tyFind cls a (id + 1) site env st).2).1)]) _ (by rw [bareE_snoc, hG, b2]) (by
   intro x hx
   rcases List.mem_append.1 hx with hx | hx
   ·exact hs x hx
   ·simp only [List.mem_singleton] at hx; subst hx; rw [← bare_sizeE, b2]; exact b3) b1
  rw [if_neg (by rw [c1]; simp)]
  simp only [madeT]
  rw [if_pos ⟨bare_num a2, by rw [b2, c2]⟩]
  exact fin_end c1 b2 b3 (c4.trans (b4.trans a4))
 | new ha iha =>
  intro cls id site env st hG hs h0
  simp only [tyFind, tyKids, if_neg (show Kw.new ≠ .let_ by decide), if_neg (show Kw.new ≠ .loop by decide), if_neg (show Kw.new ≠ .pair by decide), Nat.add_zero]
  obtain ⟨a1, a2, a3, a4⟩ := iha cls (id + 1) site env st hG hs h0
  rw [if_neg (by rw [a1]; simp)]
  simp only [madeT]
  exact fin_end a1 a2 a3 a4
theorem chk_ok {e : PT} {T : Ty} (h : WT [] e T) (hp : e.prs ≤ 100) : chkAns e = (0, 0) := by
 unfold chkAns
 have hf := h.find (List.range e.prs) 0 0 [] (st0 e) rfl (by simp) rfl
 rw [if_neg (by omega), hf.1, hf.2.2.2]
 rfl
mutual
theorem np_prs : ∀ e : PT, e.np.prs = e.prs
 | .num _ _ => rfl
 | .name _ _ => rfl
 | .node _ _ _ _ kids => by simp only [PT.np, PT.prs, npL_prs kids]
theorem npL_prs : ∀ l : List PT, prsL (npL l) = prsL l
 | [] => rfl
 | t :: r => by simp only [npL, prsL, np_prs t, npL_prs r]
end
mutual
theorem np_ev (fuel : Nat) : ∀ (e : PT) (env : VEnv) (st : ESt), ev fuel e.np env st = ev fuel e env st
 | .num _ _, _, _ => rfl
 | .name _ _, _, _ => rfl
 | .node _ k nm rg kids, env, st => by
  simp only [PT.np, ev]
  congr 1
  funext st
  rw [np_evLet fuel nm kids, np_evIf fuel kids, np_evLoop fuel nm kids, np_evKids fuel kids]
theorem np_evKids (fuel : Nat) : ∀ (l : List PT) (env : VEnv) (st : ESt), evKids fuel (npL l) env st = evKids fuel l env st
 | [], _, _ => rfl
 | t :: r, env, st => by simp only [npL, evKids, np_ev fuel t, np_evKids fuel r]
theorem np_evLet (fuel : Nat) (nm : List UInt8) : ∀ (l : List PT) (env : VEnv) (st : ESt), evLet fuel nm (npL l) env st = evLet fuel nm l env st
 | [], _, _ => rfl
 | [_], _, _ => rfl
 | [a, b], env, st => by simp only [npL, evLet, np_ev fuel a, np_ev fuel b]
 | _ :: _ :: _ :: _, _, _ => rfl
theorem np_evIf (fuel : Nat) : ∀ (l : List PT) (env : VEnv) (st : ESt), evIf fuel (npL l) env st = evIf fuel l env st
 | [], _, _ => rfl
 | [_], _, _ => rfl
 | [_, _], _, _ => rfl
 | [a, b, c], env, st => by simp only [npL, evIf, np_ev fuel a, np_ev fuel b, np_ev fuel c]
 | _ :: _ :: _ :: _ :: _, _, _ => rfl
theorem np_evLoop (fuel : Nat) (nm : List UInt8) : ∀ (l : List PT) (env : VEnv) (st : ESt), evLoop fuel nm (npL l) env st = evLoop fuel nm l env st
 | [], _, _ => rfl
 | [_], _, _ => rfl
 | [_, _], _, _ => rfl
 | [a, b, c], env, st => by simp only [npL, evLoop, np_ev fuel a, np_ev fuel b, np_ev fuel c]
 | _ :: _ :: _ :: _ :: _, _, _ => rfl
end
theorem ev_congr {fuel p : Nat} {k : Kw} {nm rg rg' : List UInt8} {kids kids' : List PT} (h1 : evLet fuel nm kids = evLet fuel nm kids') (h2 : evIf fuel kids = evIf fuel kids') (h3 : evLoop fuel nm kids = evLoop fuel nm kids') (h4 : evKids fuel kids = evKids fuel kids') : ev fuel (.node p k nm rg kids) = ev fuel (.node p k nm rg' kids') := by
 funext env st
 simp only [ev]
 rw [h1, h2, h3, h4]
theorem rg_ev (fuel : Nat) (rg : List UInt8) : ∀ (x : KE), ev fuel (x.pt rg) = ev fuel (x.pt [])
 | .num _ => rfl
 | .var _ => rfl
 | .n1 k a => by
  simp only [KE.pt]
  refine ev_congr rfl rfl rfl ?_
  funext env st; simp only [evKids, rg_ev fuel rg a]
 | .n2 k n a b => by
  simp only [KE.pt]
  refine ev_congr ?_ rfl rfl ?_
  ·funext env st; simp only [evLet, rg_ev fuel rg a, rg_ev fuel rg b]
  ·funext env st; simp only [evKids, rg_ev fuel rg a, rg_ev fuel rg b]
 | .n3 k n a b c => by
  simp only [KE.pt]
  refine ev_congr rfl ?_ ?_ ?_
  ·funext env st; simp only [evIf, rg_ev fuel rg a, rg_ev fuel rg b, rg_ev fuel rg c]
  ·funext env st; simp only [evLoop, rg_ev fuel rg a, rg_ev fuel rg b, rg_ev fuel rg c]
  ·funext env st; simp only [evKids, rg_ev fuel rg a, rg_ev fuel rg b, rg_ev fuel rg c]
mutual
theorem np_WT : ∀ (e : PT) {G : TEnv} {T : Ty}, WT G e.np T → WT G e T
 | .num _ _, _, _, h => by cases h; exact .num
 | .name _ _, _, _, h => by cases h with | name h => exact .name h
 | .node p k nm rg kids, G, T, h => by
  match kids with
  | [] => simp only [PT.np, npL] at h; cases h
  | [a] =>
   simp only [PT.np, npL] at h
   cases h with
   | fst h => exact .fst (np_WT a h)
   | snd h => exact .snd (np_WT a h)
   | new h => exact .new (np_WT a h)
  | [a, b] =>
   simp only [PT.np, npL] at h
   cases h with
   | let_ h1 h2 => exact .let_ (np_WT a h1) (np_WT b h2)
   | pair h1 h2 h3 => exact .pair (np_WT a h1) (np_WT b h2) h3
   | two hk h1 h2 => exact .two hk (np_WT a h1) (np_WT b h2)
  | [a, b, c] =>
   simp only [PT.np, npL] at h
   cases h with
   | if_ h1 h2 h3 => exact .if_ (np_WT a h1) (np_WT b h2) (np_WT c h3)
   | loop h1 h2 h3 => exact .loop (np_WT a h1) (np_WT b h2) (np_WT c h3)
  | _ :: _ :: _ :: _ :: _ => simp only [PT.np, npL] at h; cases h
end
end Go.Proofs.YtpicaknklgccoaaGreatDoor
namespace Go.Proofs.YtpicaknklgccoaaGreatDoor
open Go.RowKit
open Go.Lib (decDigits)
theorem Tryz.infoKnp : (Tryz.prog.info? 104).map (fun i => (i.zero, i.size, i.bytes)) = some (some (.pointer none), 1, 8) := by kernel_rfl
theorem Tryz.undKnps : Tryz.prog.underlying 101 = some (.slice 104) := by kernel_rfl
set_option maxRecDepth 100000 in
set_option maxHeartbeats 2000000 in
theorem in_of {w0 : World} {yb fuel : Nat} (b q : Nat) (vals : List Vl) (ps : List Nat) (v : Vl) (st : ESt) (nv : Value) (w : World) (R : Vl × ESt)
  (hf : ∀ (nv : Value) (w : World), WkIn w0 w yb (vals ++ [v]) (ps ++ [q]) fuel st nv → Calls Tryz.prog 51 #[.pointer (some ⟨yb, 0, none⟩), .pointer (some ⟨b, 0, none⟩)] w fun e w' => ∃ r nv', e = .returned (.pointer (some ⟨r, 0, none⟩)) ∧ FrO w w' yb nv nv' ∧ WkIn w0 w' yb (vals ++ [v]) (ps ++ [q]) fuel R.2 nv' ∧ KVal w' R.1 r)
  (h : WkIn w0 w yb vals ps fuel st nv) (hq : KVal w v q) (hl : vals.length ≤ 200) :
  Calls Tryz.prog 85 #[.pointer (some ⟨yb, 0, none⟩), .pointer (some ⟨q, 0, none⟩), .pointer (some ⟨b, 0, none⟩)] w fun e w' => ∃ r nv', e = .returned (.pointer (some ⟨r, 0, none⟩)) ∧ FrO w w' yb nv nv' ∧ WkIn w0 w' yb vals ps fuel R.2 nv' ∧ KVal w' R.1 r := by
 obtain ⟨i0, hi, hz0, hz1, hz2⟩ := info_parts Tryz.infoKnp
 have HI : Hid _ := hi
 have HZ0 : Hid _ := hz0
 have HZ1 : Hid _ := hz1
 have HZ2 : Hid _ := hz2
 have HH : Hid _ := h
 have hyl := blk_lt h.ob.y
 have hpl := h.len
 have hpl2 : ps.length ≤ 200 := by omega
 obtain ⟨na, nc, hnv, _, _⟩ := h.ob.shape
 rw [ptrsV_len] at hnv
 have y3 : w.cell? ⟨yb, 0, none⟩ = some (.slice na ps.length nc) := by rw [blk_cell h.ob.y, ← hnv]; rfl
 have f3 : w.frozen? ⟨yb, 0, none⟩ = false := blk_free h.ob.y 0
 have hown : w.ownsRow 0 104 1 (.slice na ps.length nc) ps.length (ptrsV ps) := by
  have := owns_base (base' := 0) h.ob.n (fun _ _ => Nat.zero_le _)
  rw [ptrsV_len, hnv] at this; exact this
 have HNV : Hid _ := hnv
 have HOWN : Hid (w.ownsRow 0 104 1 (.slice na ps.length nc) ps.length (ptrsV ps)) := hown
 have HHF : Hid _ := hf
 have HQ : Hid _ := hq
 clear hi hz0 hz1 hz2 hown hnv h hf hq hpl
 go_enter Tryz.func85, Tryz.ntmps85
 go_wp2_with (at_builtin; go_must (refine app_own _ rfl (.tmp 18) (.tmp 20) 101 rfl 104 i0 _ 1 8 Tryz.undKnps HI.out HZ0.out HZ1.out HZ2.out rfl (by decide) (.slice na ps.length nc) ps.length (ptrsV ps) rfl (HOWN.out.alloc _) ⟨w.heap.size, 0, none⟩ 1 1 [.pointer (some ⟨q, 0, none⟩)] rfl rfl ?d1 ?d2 (by decide) ?d3 ?d4 ?_))
 case d1 =>
  intro j' u hj'
  match j', hj' with
  | 0, hj' => simp at hj'; subst hj'; simp [Addr.add]
  | j' + 1, hj' => simp at hj'
 case d2 => intro u hu; simp at hu; subst hu; rfl
 case d3 => unfold maxLen; omega
 case d4 => omega
 intro g1 c1 w3 ho3 hg3 hgg3
 have hp1 := ObIn.push (x := .pointer (some ⟨q, 0, none⟩)) (o := 0) (W := w3.setCell ⟨yb, 0, none⟩ (.slice (some ⟨g1, 0, none⟩) (ps.length + 1) c1)) HH.out.ob (by rw [HNV.out]; exact hg3) (by rw [ptrsV_len]; exact ho3) (by rw [HNV.out]; simpa using hgg3) (by rw [ptrsV_len])
 rw [ptrsV_len] at hp1
 obtain ⟨hO1, hs1⟩ := hp1
 have hm1 : WkIn w0 (w3.setCell ⟨yb, 0, none⟩ (.slice (some ⟨g1, 0, none⟩) (ps.length + 1) c1)) yb (vals ++ [v]) (ps ++ [q]) fuel st (.slice (some ⟨g1, 0, none⟩) (ps.length + 1) c1) := by
  refine ⟨?_, by simp [HH.out.len], ?_⟩
  ·rw [ptrsV_snoc]; exact hO1
  ·intro i u p h1 h2
   rcases Nat.lt_or_ge i vals.length with hlt | hge
   ·rw [List.getElem?_append_left hlt] at h1
    rw [List.getElem?_append_left (by rw [HH.out.len]; exact hlt)] at h2
    exact (HH.out.v i u p h1 h2).fr HH.out.ob hs1
   ·rw [List.getElem?_append_right hge] at h1
    rw [List.getElem?_append_right (by rw [HH.out.len]; exact hge), HH.out.len] at h2
    have hi0 : i - vals.length = 0 := by
     rcases Nat.eq_zero_or_pos (i - vals.length) with h | h
     ·exact h
     ·rw [List.getElem?_eq_none (by simp; omega)] at h1; cases h1
    rw [hi0] at h1 h2
    simp only [List.getElem?_cons_zero, Option.some.injEq] at h1 h2
    subst h1; subst h2
    exact HQ.out.fr HH.out.ob hs1
 have hcall := HHF.out _ _ hm1
 have hy3 : w3.heap[yb]? = some (.cells (wkCells nv fuel st) 103 (0, 0)) := by
  rw [hg3.block yb (by simp; omega) (fun e => HH.out.ob.ny (by rw [HNV.out]; exact e.symm)), Below.heap_alloc _ _ _ hyl]; exact HH.out.ob.y
 have hyl3 := blk_lt hy3
 have y33 : w3.cell? ⟨yb, 0, none⟩ = some nv := by rw [blk_cell hy3]; rfl
 have f33 : w3.frozen? ⟨yb, 0, none⟩ = false := blk_free hy3 0
 have HC : Hid _ := hcall
 have HS1 : Hid _ := hs1
 clear ho3 hg3 hgg3 hO1 hy3 y3 f3 hcall hm1 hs1 HHF HOWN HQ
 go_wp2_with fail
 refine Calls.mono HC.out ?_
 rintro _ w7 ⟨r, nv7, rfl, hs7, hm7, hk7⟩
 obtain ⟨na7, nc7, hnv7, hcap7, hna7⟩ := hm7.ob.shape
 have hob := hm7.ob
 rw [ptrsV_len, List.length_append, List.length_singleton] at hnv7 hna7 hcap7
 obtain ⟨g7, hg7⟩ := hna7 (by omega)
 rw [hg7] at hnv7
 have y37 : w7.cell? ⟨yb, 0, none⟩ = some (.slice (some ⟨g7, 0, none⟩) (ps.length + 1) nc7) := by rw [blk_cell hob.y, ← hnv7]; rfl
 have f37 : w7.frozen? ⟨yb, 0, none⟩ = false := blk_free hob.y 0
 have hyl7 := blk_lt hob.y
 have hP : ObIn w0 (w7.setCell ⟨yb, 0, none⟩ (.slice (some ⟨g7, 0, none⟩) ps.length nc7)) yb (wkCells (.slice (some ⟨g7, 0, none⟩) ps.length nc7) fuel R.2) 103 (.slice (some ⟨g7, 0, none⟩) ps.length nc7) 104 (ptrsV ps) := by
  have h1 := hob
  rw [ptrsV_snoc, hnv7] at h1
  have h2 := ObIn.pop (o := 0) (xs := ptrsV ps) (x := .pointer (some ⟨q, 0, none⟩)) (g := g7) (cap := nc7) (by rw [ptrsV_len]; exact h1)
  rw [ptrsV_len] at h2
  exact h2
 have hfs := FrO.set1 w7 yb nv7 0 (.slice (some ⟨g7, 0, none⟩) ps.length nc7)
 have HMK : Hid (WkIn w0 (w7.setCell ⟨yb, 0, none⟩ (.slice (some ⟨g7, 0, none⟩) ps.length nc7)) yb vals ps fuel R.2 (.slice (some ⟨g7, 0, none⟩) ps.length nc7)) := by
  refine ⟨hP, HH.out.len, fun i u p h1 h2 => ?_⟩
  have hiv := (List.getElem?_eq_some_iff.1 h1).1
  refine (hm7.v i u p ?_ ?_).fr hob hfs
  ·rw [List.getElem?_append_left hiv]; exact h1
  ·rw [List.getElem?_append_left (by rw [HH.out.len]; exact hiv)]; exact h2
 have HKK : Hid _ := hk7.fr hob hfs
 have HFR : Hid _ := ((HS1.out.trans hs7).trans hfs).recast (nv2 := .slice (some ⟨g7, 0, none⟩) ps.length nc7) (by rw [hnv7]; rfl)
 clear hs7 hm7 hk7 hob hnv7 hna7 hg7 hP hfs HC HS1 y33 f33
 go_wp2
 go_ret
 exact ⟨r, _, rfl, HFR.out, HMK.out, HKK.out⟩
structure SOkZ (fuel : Nat) (st : ESt) : Prop where
 f : fuel ≤ 20000
 s : st.steps ≤ fuel
 c : st.cells ≤ st.steps
theorem SOkZ.on {fuel : Nat} {st : ESt} (h : SOkZ fuel st) (t : PT) (env : VEnv) : SOkZ fuel (ev fuel t env st).2 := by
 have h1 := ev_mono fuel t env st h.s
 exact ⟨h.f, h1.1, by have := h.c; omega⟩
theorem SOkZ.step {fuel : Nat} {st : ESt} (hs : SOkZ fuel st) (hq : st.steps ≠ fuel) : SOkZ fuel { st with steps := st.steps + 1 } :=
 ⟨hs.f, by have := hs.s; show st.steps + 1 ≤ fuel; omega, by have := hs.c; show st.cells ≤ st.steps + 1; omega⟩
def KGo (w0 : World) (yb fuel : Nat) (x : KE) (vs : List Nat) : Prop :=
 ∀ (b : Nat) (vals : List Vl) (ps : List Nat) (st : ESt) (nv : Value) (w : World), KIn w0 x b → WkIn w0 w yb vals ps fuel st nv → (st.e = 0 → EnvHas (envV vals) (envT vs)) → vals.length = vs.length → SOkZ fuel st →
  Calls Tryz.prog 51 #[.pointer (some ⟨yb, 0, none⟩), .pointer (some ⟨b, 0, none⟩)] w fun e w' => ∃ r nv', e = .returned (.pointer (some ⟨r, 0, none⟩)) ∧ FrO w w' yb nv nv' ∧ WkIn w0 w' yb vals ps fuel (ev fuel (x.pt []) (envV vals) st).2 nv' ∧ KVal w' (ev fuel (x.pt []) (envV vals) st).1 r
def KGoN (w0 : World) (yb fuel : Nat) (x : KE) (vs : List Nat) : Prop :=
 ∀ (b : Nat) (vals : List Vl) (ps : List Nat) (st : ESt) (nv : Value) (w : World), KIn w0 x b → WkIn w0 w yb vals ps fuel st nv → EnvHas (envV vals) (envT vs) → vals.length = vs.length → SOkZ fuel st → st.e = 0 → st.steps ≠ fuel →
  Calls Tryz.prog 51 #[.pointer (some ⟨yb, 0, none⟩), .pointer (some ⟨b, 0, none⟩)] w fun e w' => ∃ r nv', e = .returned (.pointer (some ⟨r, 0, none⟩)) ∧ FrO w w' yb nv nv' ∧ WkIn w0 w' yb vals ps fuel (ev fuel (x.pt []) (envV vals) st).2 nv' ∧ KVal w' (ev fuel (x.pt []) (envV vals) st).1 r
theorem begun_badZ {fuel : Nat} {st : ESt} {f : ESt → Vl × ESt} (h : st.e ≠ 0) : begun fuel st f = (.n 0, st) := by unfold begun; rw [if_pos h]
theorem begun_endZ {fuel : Nat} {st : ESt} {f : ESt → Vl × ESt} (h0 : st.e = 0) (h : st.steps = fuel) : begun fuel st f = (.n 0, { st with e := 12 }) := by unfold begun; rw [if_neg (by simpa using h0), if_pos h]
theorem begun_goZ {fuel : Nat} {st : ESt} {f : ESt → Vl × ESt} (h0 : st.e = 0) (h : st.steps ≠ fuel) : begun fuel st f = f { st with steps := st.steps + 1 } := by unfold begun; rw [if_neg (by simpa using h0), if_neg h]
theorem ev_begunZ (fuel : Nat) (t : PT) (env : VEnv) : ∃ f, ∀ st, ev fuel t env st = begun fuel st f := by
 cases t with
 | num p s => exact ⟨_, fun st => by unfold ev; rfl⟩
 | name p s => exact ⟨_, fun st => by unfold ev; rfl⟩
 | node p k nm rg kids => exact ⟨_, fun st => by unfold ev; rfl⟩
theorem blk_newS (w : World) (m : Nat) (p : Addr) (x : Value) (O : Obj) : (((w.drewN m).setCell p x).alloc O).heap[w.heap.size]? = some O := by
 have h := blk_new ((w.drewN m).setCell p x) O
 have e : ((w.drewN m).setCell p x).heap.size = w.heap.size := by simp [World.setCell, World.drewN]
 rw [e] at h; exact h
def kn0 : Obj := .cells (kvV 0 (.pointer none) (.pointer none)) 141 (0, 0)
set_option maxRecDepth 100000 in
set_option maxHeartbeats 1000000 in
theorem go1_of {w0 : World} {yb fuel : Nat} {x : KE} {vs : List Nat} (h : KGoN w0 yb fuel x vs) : KGo w0 yb fuel x vs := by
 intro b vals ps st nv w hx hin henv hlen hs
 obtain ⟨f, hf⟩ := ev_begunZ fuel (x.pt []) (envV vals)
 have y1 : w.cell? ⟨yb, 1, none⟩ = some (.int .i64 fuel) := by rw [blk_cell hin.ob.y]; rfl
 have y2 : w.cell? ⟨yb, 2, none⟩ = some (.int .i64 st.steps) := by rw [blk_cell hin.ob.y]; rfl
 have y4 : w.cell? ⟨yb, 4, none⟩ = some (.bool (decide (st.e ≠ 0))) := by rw [blk_cell hin.ob.y]; rfl
 have f4 : w.frozen? ⟨yb, 4, none⟩ = false := blk_free hin.ob.y 4
 have hyl := blk_lt hin.ob.y
 by_cases he : st.e = 0
 ·by_cases hq : st.steps = fuel
  ·rw [hf, begun_endZ he hq]
   have q1 : ((st.steps : Int) == (fuel : Int)) = true := by rw [hq]; simp
   rw [show decide (st.e ≠ 0) = false by simp [he]] at y4
   have hset := fun m => (hin.grow (below_drewO w m)).set 4 (.bool true) (st' := { st with e := 12 }) rfl
   have HSET : Hid _ := hset
   clear hx hin henv hs hset h hf he hq
   go_enter Tryz.func51, Tryz.ntmps51
   go_wp2
   go_quiet (fail)
   go_wp2
   go_ret
   exact ⟨_, nv, rfl, (FrO.setAt w yb nv _ 4 _).trans (FrO.below (below_alZ (Below.refl _ _) kn0) _ _), (HSET.out _).grow (below_alZ (Below.refl _ _) kn0), blk_newS w _ _ _ kn0⟩
  ·exact h b vals ps st nv w hx hin (henv he) hlen hs he hq
 ·rw [hf, begun_badZ he]
  rw [show decide (st.e ≠ 0) = true by simp [he]] at y4
  have hset := fun m => (hin.grow (below_drewO w m)).set 4 (.bool true) (st' := st) (by simp [wkCells, he])
  have HSET : Hid _ := hset
  clear hx hin henv hs h hf he hset
  go_enter Tryz.func51, Tryz.ntmps51
  go_wp2
  go_quiet (fail)
  go_wp2
  go_ret
  exact ⟨_, nv, rfl, (FrO.setAt w yb nv _ 4 _).trans (FrO.below (below_alZ (Below.refl _ _) kn0) _ _), (HSET.out _).grow (below_alZ (Below.refl _ _) kn0), blk_newS w _ _ _ kn0⟩
structure KAtZ (w : World) (b c : Nat) (k : Kw) (n : Nat) (ks : List Nat) : Prop where
 hb : b < w.heap.size
 hg : c < w.heap.size
 c0 : w.cell? ⟨b, 0, none⟩ = some (.string (bs k.bytes))
 c1 : w.cell? ⟨b, 1, none⟩ = some (.int .i64 n)
 c2 : w.cell? ⟨b, 2, none⟩ = some (.slice (some ⟨c, 0, none⟩) ks.length ks.length)
 ck : ∀ (j x : Nat), ks[j]? = some x → w.cell? ⟨c, j, none⟩ = some (.pointer (some ⟨x, 0, none⟩))
theorem KAtZ.on {w0 w : World} {b c : Nat} {k : Kw} {n : Nat} {ks : List Nat} (h : KAtZ w0 b c k n ks) (hw : Below w0.heap.size w0 w) : KAtZ w b c k n ks :=
 ⟨by have := hw.size; have := h.hb; omega, by have := hw.size; have := h.hg; omega, (hw.cell (p := ⟨b, 0, none⟩) h.hb).trans h.c0, (hw.cell (p := ⟨b, 1, none⟩) h.hb).trans h.c1, (hw.cell (p := ⟨b, 2, none⟩) h.hb).trans h.c2, fun j x hj => (hw.cell (p := ⟨c, j, none⟩) h.hg).trans (h.ck j x hj)⟩
theorem katz1 {w : World} {k : Kw} {a : KE} {b : Nat} (h : KIn w (.n1 k a) b) : ∃ c pa, KAtZ w b c k 0 [pa] ∧ KIn w a pa := by
 obtain ⟨c, pa, h1, h2, h3⟩ := h
 refine ⟨c, pa, ⟨blk_lt h1, blk_lt h2, by rw [blk_cell h1]; rfl, by rw [blk_cell h1]; rfl, by rw [blk_cell h1]; rfl, fun j x hj => ?_⟩, h3⟩
 match j, hj with
 | 0, hj => simp at hj; subst hj; rw [blk_cell h2]; rfl
 | j + 1, hj => simp at hj
theorem katz2 {w : World} {k : Kw} {n : Nat} {a d : KE} {b : Nat} (h : KIn w (.n2 k n a d) b) : ∃ c pa pb, KAtZ w b c k n [pa, pb] ∧ KIn w a pa ∧ KIn w d pb := by
 obtain ⟨c, pa, pb, h1, h2, h3, h4⟩ := h
 refine ⟨c, pa, pb, ⟨blk_lt h1, blk_lt h2, by rw [blk_cell h1]; rfl, by rw [blk_cell h1]; rfl, by rw [blk_cell h1]; rfl, fun j x hj => ?_⟩, h3, h4⟩
 match j, hj with
 | 0, hj => simp at hj; subst hj; rw [blk_cell h2]; rfl
 | 1, hj => simp at hj; subst hj; rw [blk_cell h2]; rfl
 | j + 2, hj => simp at hj
theorem katz3 {w : World} {k : Kw} {n : Nat} {a d f : KE} {b : Nat} (h : KIn w (.n3 k n a d f) b) : ∃ c pa pb pd, KAtZ w b c k n [pa, pb, pd] ∧ KIn w a pa ∧ KIn w d pb ∧ KIn w f pd := by
 obtain ⟨c, pa, pb, pd, h1, h2, h3, h4, h5⟩ := h
 refine ⟨c, pa, pb, pd, ⟨blk_lt h1, blk_lt h2, by rw [blk_cell h1]; rfl, by rw [blk_cell h1]; rfl, by rw [blk_cell h1]; rfl, fun j x hj => ?_⟩, h3, h4, h5⟩
 match j, hj with
 | 0, hj => simp at hj; subst hj; rw [blk_cell h2]; rfl
 | 1, hj => simp at hj; subst hj; rw [blk_cell h2]; rfl
 | 2, hj => simp at hj; subst hj; rw [blk_cell h2]; rfl
 | j + 3, hj => simp at hj
def arr2 : Obj := .cells #[.pointer none, .pointer none] 142 (0, 0)
theorem WkIn.begin {w0 w : World} {yb : Nat} {vals : List Vl} {ps : List Nat} {fuel : Nat} {st : ESt} {nv : Value} (h : WkIn w0 w yb vals ps fuel st nv) (m : Nat) :
  WkIn w0 (((w.drewN m).setCell ⟨yb, 2, none⟩ (.int .i64 ((st.steps : Int) + 1))).alloc arr2) yb vals ps fuel { st with steps := st.steps + 1 } nv ∧ FrO w (((w.drewN m).setCell ⟨yb, 2, none⟩ (.int .i64 ((st.steps : Int) + 1))).alloc arr2) yb nv nv :=
 ⟨((h.grow (below_drewO w m)).set 2 _ (by simp [wkCells])).grow (below_alZ (Below.refl _ _) _), (FrO.setAt w yb nv m 2 _).trans (FrO.below (below_alZ (Below.refl _ _) _) _ _)⟩
theorem blk_newS2 (w : World) (m : Nat) (p : Addr) (x : Value) (A O : Obj) : ((((w.drewN m).setCell p x).alloc A).alloc O).heap[w.heap.size + 1]? = some O := by
 have h := blk_new (((w.drewN m).setCell p x).alloc A) O
 have e : (((w.drewN m).setCell p x).alloc A).heap.size = w.heap.size + 1 := by simp [World.setCell, World.drewN]
 rw [e] at h; exact h
set_option maxRecDepth 100000 in
set_option maxHeartbeats 1000000 in
theorem kgo_num {w0 : World} (yb fuel n : Nat) (vs : List Nat) : KGoN w0 yb fuel (.num n) vs := by
 intro b vals ps st nv w hx hin henv hlen hs he hq
 have hx' : w0.heap[b]? = some (.cells (exV [] n (.slice none 0 0)) 98 (0, 0)) := hx
 have hb0 := blk_lt hx'
 have hne : b ≠ yb := by have := hin.ob.hyb; omega
 have hbx := (hin.ob.b0.block b hb0).trans hx'
 have hb := blk_lt hbx
 have x0 : w.cell? ⟨b, 0, none⟩ = some (.string ⟨#[]⟩) := by rw [blk_cell hbx]; rfl
 have x1 : w.cell? ⟨b, 1, none⟩ = some (.int .i64 n) := by rw [blk_cell hbx]; rfl
 have y1 : w.cell? ⟨yb, 1, none⟩ = some (.int .i64 fuel) := by rw [blk_cell hin.ob.y]; rfl
 have y2 : w.cell? ⟨yb, 2, none⟩ = some (.int .i64 st.steps) := by rw [blk_cell hin.ob.y]; rfl
 have y4 : w.cell? ⟨yb, 4, none⟩ = some (.bool false) := by rw [blk_cell hin.ob.y]; simp [wkCells, he]
 have f2 : w.frozen? ⟨yb, 2, none⟩ = false := blk_free hin.ob.y 2
 have hyl := blk_lt hin.ob.y
 have q1 : ((st.steps : Int) == (fuel : Int)) = false := by rw [beq_eq_false_iff_ne]; omega
 have hss := hs.s
 have hsf := hs.f
 have hev : ev fuel ((KE.num n).pt []) (envV vals) st = (.n n, { st with steps := st.steps + 1 }) := by
  simp only [KE.pt, ev]; rw [begun_goZ he hq, value_dec]; rfl
 rw [hev]
 have HBG : Hid _ := fun m => hin.begin m
 clear hx hx' hin henv hlen hs he hq hev hbx
 go_enter Tryz.func51, Tryz.ntmps51
 go_wp2
 go_quiet (fail)
 go_wp2
 go_ret
 exact ⟨_, nv, rfl, (HBG.out _).2.trans (FrO.below (below_alZ (Below.refl _ _) _) _ _), (HBG.out _).1.grow (below_alZ (Below.refl _ _) _), blk_newS2 w _ _ _ _ _⟩
set_option maxRecDepth 100000 in
set_option maxHeartbeats 1000000 in
theorem kgo_var {w0 : World} (yb fuel n : Nat) (vs : List Nat) (hn : n < vs.length) (hvl : vs.length ≤ 101) : KGoN w0 yb fuel (.var n) vs := by
 intro b vals ps st nv w hx hin henv hlen hs he hq
 have hx' : w0.heap[b]? = some (.cells (exV [120] n (.slice none 0 0)) 98 (0, 0)) := hx
 have hb0 := blk_lt hx'
 have hne : b ≠ yb := by have := hin.ob.hyb; omega
 have hbx := (hin.ob.b0.block b hb0).trans hx'
 have hb := blk_lt hbx
 have x0 : w.cell? ⟨b, 0, none⟩ = some (.string ⟨#[120]⟩) := by rw [blk_cell hbx]; rfl
 have x1 : w.cell? ⟨b, 1, none⟩ = some (.int .i64 n) := by rw [blk_cell hbx]; rfl
 have y1 : w.cell? ⟨yb, 1, none⟩ = some (.int .i64 fuel) := by rw [blk_cell hin.ob.y]; rfl
 have y2 : w.cell? ⟨yb, 2, none⟩ = some (.int .i64 st.steps) := by rw [blk_cell hin.ob.y]; rfl
 have y4 : w.cell? ⟨yb, 4, none⟩ = some (.bool false) := by rw [blk_cell hin.ob.y]; simp [wkCells, he]
 have f2 : w.frozen? ⟨yb, 2, none⟩ = false := blk_free hin.ob.y 2
 have hyl := blk_lt hin.ob.y
 have q1 : ((st.steps : Int) == (fuel : Int)) = false := by rw [beq_eq_false_iff_ne]; omega
 have hss := hs.s
 have hsf := hs.f
 have hnv := hlen ▸ hn
 have hnp : n < ps.length := by rw [hin.len]; exact hnv
 have hev : ev fuel ((KE.var n).pt []) (envV vals) st = (vals[n], { st with steps := st.steps + 1 }) := by
  simp only [KE.pt, ev]; rw [begun_goZ he hq, look_envV vals n hnv (by omega)]
 rw [hev]
 obtain ⟨na, nc, hnv', _, hna⟩ := hin.ob.shape
 rw [ptrsV_len] at hnv' hna
 obtain ⟨g, hg⟩ := hna (by omega)
 rw [hg] at hnv'
 have y0 : w.cell? ⟨yb, 0, none⟩ = some (.slice (some ⟨g, 0, none⟩) ps.length nc) := by rw [blk_cell hin.ob.y, ← hnv']; rfl
 have hgc : w.cell? ⟨g, n, none⟩ = some (.pointer (some ⟨ps[n], 0, none⟩)) := by
  have ho := hin.ob.n
  rw [hnv', ptrsV_len] at ho
  rw [World.ownsRow.cellAt ho n (by omega)]; unfold ptrsV; rw [List.getElem?_map, List.getElem?_eq_getElem hnp]; rfl
 have hgl : g < w.heap.size := World.block_lt_of_cell? _ _ hgc
 have hgy : g ≠ yb := by intro e; exact hin.ob.ny (by rw [hnv', e]; rfl)
 have hkv := hin.v n vals[n] ps[n] (List.getElem?_eq_getElem hnv) (List.getElem?_eq_getElem hnp)
 have HBG : Hid _ := fun m => hin.begin m
 have HOB : Hid _ := hin.ob
 have HKV : Hid _ := hkv
 generalize hpn : ps[n] = pn at *
 clear hx hx' hin henv hlen hs he hq hev hbx hnv' hna hg hkv hpn
 go_enter Tryz.func51, Tryz.ntmps51
 go_wp2
 go_quiet (fail)
 go_wp2
 go_quiet (fail)
 go_wp2
 go_ret
 exact ⟨_, nv, rfl, (HBG.out _).2.trans (FrO.below (below_drewO _ _) _ _), (HBG.out _).1.grow (below_drewO _ _), (HKV.out.fr HOB.out (HBG.out _).2).below (below_drewO _ _)⟩
end Go.Proofs.YtpicaknklgccoaaGreatDoor
