import Derived.Test.YtpicaknklgccoabGreatDoorX12
import Derived.Test.YtpicaknklgccoabGreatDoorX1
import Derived.Deep.RegionHeld3
import Derived.Test.YtpicaknklgccoabGreatDoorX7
import Derived.Test.YtpicaknklgccoabGreatDoorX8
namespace Go.Proofs.YtpicaknklgccoabGreatDoor
theorem errS_at (st : TSt) (e p : Nat) (he : e ≠ 0) : (errS st e p).e = 0 → (errS st e p).at_ = st.at_ := by
 intro h; exact absurd h (errS_e st e p he)
theorem fin_at (id p : Nat) (x : Ty × TSt) : (fin id p x).2.e = 0 → x.2.e = 0 ∧ (fin id p x).2.at_ = x.2.at_ := by
 unfold fin
 simp only
 split
 ·intro h; exact absurd h (errS_e _ _ _ (by decide))
 ·intro h; exact ⟨h, rfl⟩
theorem madeT_at (cls : List Nat) (k : Kw) (p site : Nat) (ks : List Ty) (st : TSt) : (madeT cls k p site ks st).2.e = 0 → (madeT cls k p site ks st).2.at_ = st.at_ := by
 have err : (errS st 5 p).e = 0 → (errS st 5 p).at_ = st.at_ := errS_at st 5 p (by decide)
 unfold madeT
 split <;> (first | (intro _; rfl) | exact err | (split <;> first | (intro _; rfl) | exact err))
theorem stay0 {a b : TSt} (h : a.e ≠ 0 → b.e = a.e ∧ b.at_ = a.at_) (hb : b.e = 0) : a.e = 0 := by
 by_cases e : a.e = 0
 ·exact e
 ·exact absurd ((h e).1.symm.trans hb) e
mutual
theorem tyFind_at (cls : List Nat) : ∀ (t : PT) (id site : Nat) (env : TEnv) (st : TSt), (tyFind cls t id site env st).2.e = 0 → (tyFind cls t id site env st).2.at_ = st.at_
 | .num p s, id, site, env, st => by
  simp only [tyFind]; intro h; exact (fin_at id p _ h).2
 | .name p s, id, site, env, st => by
  simp only [tyFind]
  intro h
  obtain ⟨h1, h2⟩ := fin_at id p _ h
  rw [h2]
  revert h1
  split
  ·intro _; rfl
  ·exact errS_at st 4 p (by decide)
 | .node p k nm rg kids, id, site, env, st => by
  simp only [tyFind]
  intro h
  obtain ⟨h1, h2⟩ := fin_at id p _ h
  rw [h2]
  revert h1
  split
  ·exact tyLet_at cls nm kids (id + 1) site env st
  ·have hx : (if k = .loop then tyLoop cls nm kids (id + 1) site env st else tyKids cls kids (id + 1) (site + if k = .pair then 1 else 0) env st).2.e = 0 → (if k = .loop then tyLoop cls nm kids (id + 1) site env st else tyKids cls kids (id + 1) (site + if k = .pair then 1 else 0) env st).2.at_ = st.at_ := by
    by_cases hk : k = .loop
    ·simp only [if_pos hk]; exact tyLoop_at cls nm kids _ _ env st
    ·simp only [if_neg hk]; exact tyKids_at cls kids _ _ env st
   generalize (if k = .loop then tyLoop cls nm kids (id + 1) site env st else tyKids cls kids (id + 1) (site + if k = .pair then 1 else 0) env st) = x at hx
   split
   ·rename_i hne; intro h0; exact absurd h0 hne
   ·rename_i hne
    have h0 : x.2.e = 0 := by simpa using hne
    intro h1
    rw [madeT_at cls k p site x.1 x.2 h1, hx h0]
theorem tyKids_at (cls : List Nat) : ∀ (ts : List PT) (id site : Nat) (env : TEnv) (st : TSt), (tyKids cls ts id site env st).2.e = 0 → (tyKids cls ts id site env st).2.at_ = st.at_
 | [], _, _, _, st => by simp [tyKids]
 | a :: r, id, site, env, st => by
  simp only [tyKids]
  intro h
  have h2 := tyKids_at cls r (id + a.cnt) (site + a.prs) env (tyFind cls a id site env st).2 h
  have h0 := stay0 (fun e => tyKids_stay cls r (id + a.cnt) (site + a.prs) env _ e) h
  rw [h2, tyFind_at cls a id site env st h0]
theorem tyLet_at (cls : List Nat) (nm : List UInt8) : ∀ (ts : List PT) (id site : Nat) (env : TEnv) (st : TSt), (tyLet cls nm ts id site env st).2.e = 0 → (tyLet cls nm ts id site env st).2.at_ = st.at_
 | [a, b], id, site, env, st => by
  simp only [tyLet]
  intro h
  have h2 := tyFind_at cls b (id + a.cnt) (site + a.prs) (env ++ [(nm, (tyFind cls a id site env st).1)]) (tyFind cls a id site env st).2 h
  have h0 := stay0 (fun e => tyFind_stay cls b (id + a.cnt) (site + a.prs) _ _ e) h
  rw [h2, tyFind_at cls a id site env st h0]
 | [], _, _, _, st => by simp [tyLet]
 | [_], _, _, _, st => by simp [tyLet]
 | _ :: _ :: _ :: _, _, _, _, st => by simp [tyLet]
theorem tyLoop_at (cls : List Nat) (nm : List UInt8) : ∀ (ts : List PT) (id site : Nat) (env : TEnv) (st : TSt), (tyLoop cls nm ts id site env st).2.e = 0 → (tyLoop cls nm ts id site env st).2.at_ = st.at_
 | [a, b, c], id, site, env, st => by
  simp only [tyLoop]
  intro h
  have h3 := tyFind_at cls c _ _ _ _ h
  have h0 := stay0 (fun e => tyFind_stay cls c _ _ _ _ e) h
  have h2 := tyFind_at cls b _ _ _ _ h0
  have h00 := stay0 (fun e => tyFind_stay cls b _ _ _ _ e) h0
  rw [h3, h2, tyFind_at cls a id site env st h00]
 | [], _, _, _, st => by simp [tyLoop]
 | [_], _, _, _, st => by simp [tyLoop]
 | [_, _], _, _, _, st => by simp [tyLoop]
 | _ :: _ :: _ :: _ :: _, _, _, _, st => by simp [tyLoop]
end
theorem prog_ans {e : PT} {ns : List NR} (hna : NA [] e 0 ns) : progAns ns (opn e 0) = chkAns e := by
 have hpr : (opn e 0).filterMap (pairAt ns) = e.prl.map (·.1) := opn_pairs ns e [] 0 ns hna (fun j _ => by rw [Nat.zero_add])
 have hlen : ((opn e 0).filterMap (pairAt ns)).length = e.prs := by rw [hpr, List.length_map, prl_len]
 unfold progAns chkAns manyAns
 rw [hlen]
 by_cases hm : 100 < e.prs
 ·simp only [if_pos hm]
  rw [if_pos (by decide), hpr, List.getElem?_map]
 ·simp only [if_neg hm]
  rw [if_neg (by decide), ckK_eq ns rel0]
  have hA := tyck (List.range e.prs) (fun x hx => by rw [List.mem_range] at hx; omega) e [] ns [] (st0 e) [] 0 0 hna trivial rfl ⟨by simp, by simp⟩
  have hat := tyFind_at (List.range e.prs) e 0 0 [] (st0 e)
  rcases hA with ⟨h0, h1, _⟩ | ⟨_, h1⟩
  ·rw [h1, h0, hat h0]; rfl
  ·exact h1
theorem op_ok {e : PT} {ns : List NR} (hna : NA [] e 0 ns) : OpOk ns (opn e 0) := by
 have hl := hna.len
 refine ⟨by rw [opn_len, hl], fun x hx => ?_⟩
 have := opn_in e 0 x hx
 simp only [Nat.zero_add] at this
 omega
end Go.Proofs.YtpicaknklgccoabGreatDoor
namespace Go.Proofs.YtpicaknklgccoabGreatDoor
open Go.RowKit
theorem kept1 {w w2 : World} {A : Obj} (hb : Below (w.alloc A).heap.size (w.alloc A) w2) : w2.heap[w.heap.size]? = some A := by
 rw [hb.block w.heap.size (by simp)]; exact blk_new w A
theorem below1 {w w2 : World} {A : Obj} (hb : Below (w.alloc A).heap.size (w.alloc A) w2) : Below w.heap.size w w2 := ((Below.refl _ w).alloc (Nat.le_refl _) A).trans (hb.mono (by simp))
set_option maxRecDepth 100000 in
set_option maxHeartbeats 8000000 in
theorem ParsePlaced_any (s : ByteArray) (w : World) (hs : s.size ≤ 9000) : Calls Tryz.prog 56 #[.string s] w fun v w' => ParseAns s true w v w' := by
 have hpr := program_any s true (w.heap.size + 1) hs _ _ _ _ _ (tokens_len s hs) (parse0 s true w (.cells #[.slice none 0 0, .slice none 0 0] 62))
 unfold ptr psCells at hpr
 unfold ParseAns
 generalize pProg true s.size (tokens s.data.toList) = P at *
 go_enter Tryz.func56, Tryz.ntmps56
 go_wp2_with fail
 refine hpr.mono ?_
 rintro v w1 ⟨sv1, nv1, ov1, hfr, hin, hv⟩
 obtain ⟨hb, hr, hsz⟩ := hfr.toBelow
 have r0 : w1.cell? ⟨w.heap.size, 0, none⟩ = some (.slice none 0 0) := by rw [blk_cell hr]; rfl
 have r1 : w1.cell? ⟨w.heap.size, 1, none⟩ = some (.slice none 0 0) := by rw [blk_cell hr]; rfl
 have f0 := blk_free hr 0
 have f1 := blk_free hr 1
 have HB : Hid _ := hb
 rcases hv with ⟨q, hfl, rfl⟩ | ⟨hfl, rfl⟩
 ·have HFL : Hid _ := hfl
  unfold treeV
  clear hfl hfr hin hb hr hpr
  go_wp2
  refine bodyPost_ret (v := .tuple #[.agg #[.slice none 0 0, .slice none 0 0], .int .i64 q, .bool false]) (by simp [results, Tryz.results56, go_sem, r0, r1]) rfl ⟨?_, Or.inl ⟨q, HFL.out, rfl⟩⟩
  exact (HB.out.setCell (p := ⟨w.heap.size, 0, none⟩) (Nat.le_refl _) _).setCell (p := ⟨w.heap.size, 1, none⟩) (Nat.le_refl _) _
 ·have HFL : Hid _ := hfl
  obtain ⟨x6, n6, c6, e6⟩ : ∃ a n c, nv1 = .slice a n c := by
   rcases hin.nd.2 with ⟨h1, _⟩ | ⟨g, cap, cur, h1, _⟩
   ·exact ⟨_, _, _, h1⟩
   ·exact ⟨_, _, _, h1⟩
  obtain ⟨x7, n7, c7, e7⟩ : ∃ a n c, ov1 = .slice a n c := by
   rcases hin.op.2 with ⟨h1, _⟩ | ⟨g, cap, cur, h1, _⟩
   ·exact ⟨_, _, _, h1⟩
   ·exact ⟨_, _, _, h1⟩
  have hrn : ∀ k, nv1.ownBlock = some k → k ≠ w.heap.size := fun k hk => by
   rcases hfr.n k hk with e | e
   ·simp [Value.ownBlock] at e
   ·simp at e; omega
  have hro : ∀ k, ov1.ownBlock = some k → k ≠ w.heap.size := fun k hk => by
   rcases hfr.o k hk with e | e
   ·simp [Value.ownBlock] at e
   ·simp at e; omega
  subst e6
  subst e7
  have HT : Hid (TreeIn ((w1.setCell ⟨w.heap.size, 0, none⟩ (.slice x6 n6 c6)).setCell ⟨w.heap.size, 1, none⟩ (.slice x7 n7 c7)) (.slice x6 n6 c6) (.slice x7 n7 c7) P.nodes P.opened) := by
   refine ⟨owns_blk hin.nd (fun k hk => ?_), owns_blk hin.op (fun k hk => ?_)⟩
   ·rw [blk_other _ _ (by simpa using hrn k hk), blk_other _ _ (by simpa using hrn k hk)]
   ·rw [blk_other _ _ (by simpa using hro k hk), blk_other _ _ (by simpa using hro k hk)]
  unfold treeV
  clear hfl hfr hin hb hr hpr hrn hro
  go_wp2
  refine bodyPost_ret (v := .tuple #[.agg #[.slice x6 n6 c6, .slice x7 n7 c7], .int .i64 0, .bool true]) (by simp [results, Tryz.results56, go_sem, r0, r1]) rfl ⟨?_, Or.inr ⟨HFL.out, _, _, rfl, HT.out⟩⟩
  exact (HB.out.setCell (p := ⟨w.heap.size, 0, none⟩) (Nat.le_refl _) _).setCell (p := ⟨w.heap.size, 1, none⟩) (Nat.le_refl _) _
end Go.Proofs.YtpicaknklgccoabGreatDoor
namespace Go.Proofs.YtpicaknklgccoabGreatDoor
open Go.Lib (decDigits)
def RgTame (t : Tk) : Prop := t.c = .reg → 0 ≤ valueL t.s ∧ valueL t.s ≤ 999
theorem tok_rg (l : List UInt8) : (tokenOf l).2 = .reg → 0 ≤ valueL (l.take (tokenOf l).1) ∧ valueL (l.take (tokenOf l).1) ≤ 999 := by
 unfold tokenOf
 split
 ·intro h
  simp only [wordCl] at h
  split at h
  ·simp at h
  ·split at h <;> simp at h
 ·split
  ·intro h
   simp only at h
   split at h <;> simp at h
  ·split
   ·simp
   ·rename_i c r _ _
    split
    ·rename_i hc
     intro h
     simp only at h
     split at h
     ·rename_i hn
      simp only [numeralB, Bool.and_eq_true, decide_eq_true_eq] at hn
      have hf := dig_fold (r.take (run 48 57 r)) 0 (fun c hc => run_memT 48 57 r c hc) (by omega)
      have hp : 10 ^ (r.take (run 48 57 r)).length ≤ 10 ^ 3 := Nat.pow_le_pow_right (by omega) hn.1.2
      simp only [List.take_succ_cons]
      unfold valueL
      rw [List.foldl_cons, if_pos hc]
      omega
     ·simp at h
    ·intro h
     simp only at h
     split at h
     ·simp at h
     ·split at h <;> simp at h
theorem tokens_rg (l : List UInt8) : ∀ t ∈ tokens l, RgTame t := by
 intro t ht
 obtain ⟨l', _, hs, hc⟩ := toks_mem _ _ _ t ht
 unfold RgTame
 rw [hs, hc]
 exact tok_rg l'
mutual
def PT.rg3 : PT → Prop
 | .num _ _ => True
 | .name _ _ => True
 | .node _ _ _ rg kids => (0 ≤ valueL rg ∧ valueL rg ≤ 999) ∧ rg3L kids
def rg3L : List PT → Prop
 | [] => True
 | t :: r => t.rg3 ∧ rg3L r
end
mutual
theorem PE.rg3 {placed : Bool} : ∀ {l : List Tk} {e : PT} {r : List Tk}, PE placed l e r → (∀ t ∈ l, RgTame t) → e.rg3 ∧ ∀ t ∈ r, RgTame t
 | _, _, _, .num _, ha => ⟨by simp [PT.rg3], fun x hx => ha x (by simp [hx])⟩
 | _, _, _, .name _, ha => ⟨by simp [PT.rg3], fun x hx => ha x (by simp [hx])⟩
 | _, _, _, .node _ _ _ h4, ha => by
  have h := PW.rg3 h4 (fun x hx => ha x (by simp [hx]))
  exact ⟨by simp only [PT.rg3]; exact ⟨h.1, h.2.1⟩, h.2.2⟩
theorem PW.rg3 {placed : Bool} : ∀ {ws : List Wt} {l : List Tk} {nm rg : List UInt8} {kids : List PT} {r : List Tk}, PW placed ws l nm rg kids r → (∀ t ∈ l, RgTame t) → (0 ≤ valueL rg ∧ valueL rg ≤ 999) ∧ rg3L kids ∧ ∀ t ∈ r, RgTame t
 | _, _, _, _, _, _, .nil, ha => ⟨by decide, by simp [rg3L], ha⟩
 | _, _, _, _, _, _, .close _ h1, ha => PW.rg3 h1 (fun x hx => ha x (by simp [hx]))
 | _, _, _, _, _, _, .name _ h1, ha => PW.rg3 h1 (fun x hx => ha x (by simp [hx]))
 | _, _, _, _, _, _, .region (t := t) h h1, ha => by
  have h' := PW.rg3 h1 (fun x hx => ha x (by simp [hx]))
  exact ⟨ha t (by simp) h, h'.2⟩
 | _, _, _, _, _, _, .e h0 h1, ha => by
  have a := PE.rg3 h0 ha
  have b := PW.rg3 h1 a.2
  exact ⟨b.1, by simp only [rg3L]; exact ⟨a.1, b.2.1⟩, b.2.2⟩
end
mutual
theorem prl_rg3 : ∀ t : PT, t.rg3 → ∀ x ∈ t.prl, 0 ≤ valueL x.2 ∧ valueL x.2 ≤ 999
 | .num _ _, _, x, hx => by simp [PT.prl] at hx
 | .name _ _, _, x, hx => by simp [PT.prl] at hx
 | .node p k _ rg kids, h, x, hx => by
  simp only [PT.rg3] at h
  simp only [PT.prl, List.mem_append] at hx
  rcases hx with hx | hx
  ·split at hx
   ·rw [List.mem_singleton] at hx; subst hx; exact h.1
   ·simp at hx
  ·exact prlL_rg3 kids h.2 x hx
theorem prlL_rg3 : ∀ ts : List PT, rg3L ts → ∀ x ∈ prlL ts, 0 ≤ valueL x.2 ∧ valueL x.2 ≤ 999
 | [], _, x, hx => by simp [prlL] at hx
 | t :: r, h, x, hx => by
  simp only [rg3L] at h
  simp only [prlL, List.mem_append] at hx
  rcases hx with hx | hx
  ·exact prl_rg3 t h.1 x hx
  ·exact prlL_rg3 r h.2 x hx
end
def clsOf (e : PT) : List Nat := e.prl.map (fun x => (valueL x.2).toNat)
theorem clsOf_lt {e : PT} (h : e.rg3) : ∀ x ∈ clsOf e, x < 1000 := by
 intro x hx
 unfold clsOf at hx
 rw [List.mem_map] at hx
 obtain ⟨y, hy, rfl⟩ := hx
 have := prl_rg3 e h y hy
 omega
inductive Vl where
 | n (k : Nat)
 | p (a b : Vl)
def Vl.txt : Vl → List UInt8
 | .n k => decDigits k
 | .p a b => 91 :: (a.txt ++ (32 :: (b.txt ++ [93])))
def Vl.num : Vl → Nat
 | .n k => k
 | .p _ _ => 0
def Vl.fst : Vl → Vl
 | .p a _ => a
 | .n _ => .n 0
def Vl.snd : Vl → Vl
 | .p _ b => b
 | .n _ => .n 0
def Vl.size : Vl → Nat
 | .n _ => 0
 | .p a b => a.size + b.size + 1
def Vl.has : Vl → Ty → Prop
 | .n k, .n => k ≤ 9999
 | .p a b, .p _ x y => a.has x ∧ b.has y
 | _, _ => False
structure ESt where
 steps : Nat
 cells : Nat
 e : Nat
abbrev VEnv := List (List UInt8 × Vl)
def lookV (env : VEnv) (s : List UInt8) : Vl := ((env.reverse.find? (fun x => x.1 == s)).map (·.2)).getD (.n 0)
def turns (f : Vl → ESt → Vl × ESt) : Nat → Vl → ESt → Vl × ESt
 | 0, v, st => (v, st)
 | k + 1, v, st => if st.e ≠ 0 then (v, st) else turns f k (f v st).1 (f v st).2
def madeV (k : Kw) (vs : List Vl) (st : ESt) : Vl × ESt :=
 match k, vs with
 | .pair, [a, b] => (.p a b, { st with cells := st.cells + 1 })
 | .fst, [a] => (a.fst, st)
 | .snd, [a] => (a.snd, st)
 | .add, [a, b] => (.n ((a.num + b.num) % 10000), st)
 | .sub, [a, b] => (.n ((a.num + 10000 - b.num) % 10000), st)
 | .less, [a, b] => (.n (if a.num < b.num then 1 else 0), st)
 | _, _ => (.n 0, st)
def begun (fuel : Nat) (st : ESt) (f : ESt → Vl × ESt) : Vl × ESt :=
 if st.e ≠ 0 then (.n 0, st) else if st.steps = fuel then (.n 0, { st with e := 12 }) else f { st with steps := st.steps + 1 }
mutual
def ev (fuel : Nat) : PT → VEnv → ESt → Vl × ESt
 | .num _ s, _, st => begun fuel st (fun st => (.n (valueL s).toNat, st))
 | .name _ s, env, st => begun fuel st (fun st => (lookV env s, st))
 | .node _ k nm _ kids, env, st => begun fuel st (fun st =>
   if k = .let_ then evLet fuel nm kids env st
   else if k = .if_ then evIf fuel kids env st
   else if k = .loop then evLoop fuel nm kids env st
   else
    let x := evKids fuel kids env st
    if x.2.e ≠ 0 then (.n 0, x.2) else madeV k x.1 x.2)
def evKids (fuel : Nat) : List PT → VEnv → ESt → List Vl × ESt
 | [], _, st => ([], st)
 | a :: r, env, st =>
  let x := ev fuel a env st
  let y := evKids fuel r env x.2
  (x.1 :: y.1, y.2)
def evLet (fuel : Nat) (nm : List UInt8) : List PT → VEnv → ESt → Vl × ESt
 | [a, b], env, st =>
  let x := ev fuel a env st
  ev fuel b (env ++ [(nm, x.1)]) x.2
 | _, _, st => (.n 0, st)
def evIf (fuel : Nat) : List PT → VEnv → ESt → Vl × ESt
 | [a, b, c], env, st =>
  let x := ev fuel a env st
  if x.1.num ≠ 0 then ev fuel b env x.2 else ev fuel c env x.2
 | _, _, st => (.n 0, st)
def evLoop (fuel : Nat) (nm : List UInt8) : List PT → VEnv → ESt → Vl × ESt
 | [a, b, c], env, st =>
  let x := ev fuel a env st
  let y := ev fuel b env x.2
  turns (fun v st => ev fuel c (env ++ [(nm, v)]) st) x.1.num y.1 y.2
 | _, _, st => (.n 0, st)
end
inductive WT : TEnv → PT → Ty → Prop
 | num {G : TEnv} {p : Nat} {s : List UInt8} : WT G (.num p s) .n
 | name {G : TEnv} {p : Nat} {s : List UInt8} {T : Ty} (h : look G s = some T) : WT G (.name p s) T
 | let_ {G : TEnv} {p : Nat} {nm rg : List UInt8} {a b : PT} {A B : Ty} (ha : WT G a A) (hb : WT (G ++ [(nm, A)]) b B) : WT G (.node p .let_ nm rg [a, b]) B
 | pair {G : TEnv} {p : Nat} {nm rg : List UInt8} {a b : PT} {A B : Ty} (ha : WT G a A) (hb : WT G b B) (hs : (Ty.p 0 A B).size ≤ 63) : WT G (.node p .pair nm rg [a, b]) (.p 0 A B)
 | fst {G : TEnv} {p : Nat} {nm rg : List UInt8} {a : PT} {A B : Ty} (ha : WT G a (.p 0 A B)) : WT G (.node p .fst nm rg [a]) A
 | snd {G : TEnv} {p : Nat} {nm rg : List UInt8} {a : PT} {A B : Ty} (ha : WT G a (.p 0 A B)) : WT G (.node p .snd nm rg [a]) B
 | if_ {G : TEnv} {p : Nat} {nm rg : List UInt8} {a b c : PT} {T : Ty} (ha : WT G a .n) (hb : WT G b T) (hc : WT G c T) : WT G (.node p .if_ nm rg [a, b, c]) T
 | two {G : TEnv} {p : Nat} {k : Kw} {nm rg : List UInt8} {a b : PT} (hk : k = .add ∨ k = .sub ∨ k = .less) (ha : WT G a .n) (hb : WT G b .n) : WT G (.node p k nm rg [a, b]) .n
 | loop {G : TEnv} {p : Nat} {nm rg : List UInt8} {a b c : PT} {T : Ty} (ha : WT G a .n) (hb : WT G b T) (hc : WT (G ++ [(nm, T)]) c T) : WT G (.node p .loop nm rg [a, b, c]) T
 | new {G : TEnv} {p : Nat} {nm rg : List UInt8} {a : PT} {T : Ty} (ha : WT G a T) : WT G (.node p .new nm rg [a]) T
def bareE (env : TEnv) : TEnv := env.map (fun x => (x.1, x.2.bare))
theorem bare_sizeE (t : Ty) : t.bare.size = t.size := by induction t <;> simp [Ty.bare, Ty.size, *]
theorem look_bare (env : TEnv) (s : List UInt8) : look (bareE env) s = (look env s).map Ty.bare := by
 unfold look bareE
 rw [← List.map_reverse, List.find?_map]
 simp only [Function.comp_def, Option.map_map]
theorem bareE_snoc (env : TEnv) (nm : List UInt8) (T : Ty) : bareE (env ++ [(nm, T)]) = bareE env ++ [(nm, T.bare)] := by simp [bareE]
end Go.Proofs.YtpicaknklgccoabGreatDoor
namespace Go.Proofs.YtpicaknklgccoabGreatDoor
def TEqS (a b : TSt) : Prop := a.e = b.e ∧ a.at_ = b.at_
def TEq (x y : Ty × TSt) : Prop := x.1.bare = y.1.bare ∧ TEqS x.2 y.2
theorem errS_eq {a b : TSt} (h : TEqS a b) (e p : Nat) : TEqS (errS a e p) (errS b e p) := by
 unfold errS
 rw [h.1]
 split
 ·exact ⟨rfl, rfl⟩
 ·exact h
theorem size_eqB {a b : Ty} (h : a.bare = b.bare) : a.size = b.size := by rw [← bare_sizeE a, h, bare_sizeE]
theorem bare_nB {a b : Ty} (h : a.bare = b.bare) : a = .n ↔ b = .n := by cases a <;> cases b <;> simp [Ty.bare] at h ⊢
theorem fin_eq {x y : Ty × TSt} (h : TEq x y) (id id' p : Nat) : TEq (fin id p x) (fin id' p y) := by
 have hs := size_eqB h.1
 unfold fin
 refine ⟨h.1, ?_⟩
 simp only [TEqS]
 rw [h.2.1, hs]
 split
 ·exact errS_eq h.2 6 p
 ·exact h.2
theorem err_eq {st st' : TSt} (hs : TEqS st st') (p : Nat) : TEq (.n, errS st 5 p) (.n, errS st' 5 p) := ⟨rfl, errS_eq hs 5 p⟩
theorem ite_eqB {a b c a' b' c' : Ty} {st st' : TSt} {p : Nat} (hs : TEqS st st') (h1 : a.bare = a'.bare) (h2 : b.bare = b'.bare) (h3 : c.bare = c'.bare) : TEq (if a = .n ∧ b.bare = c.bare then (b, st) else (.n, errS st 5 p)) (if a' = .n ∧ b'.bare = c'.bare then (b', st') else (.n, errS st' 5 p)) := by
 by_cases hc : a = .n ∧ b.bare = c.bare
 ·rw [if_pos hc, if_pos ⟨(bare_nB h1).1 hc.1, by rw [← h2, ← h3]; exact hc.2⟩]; exact ⟨h2, hs⟩
 ·rw [if_neg hc, if_neg (fun h => hc ⟨(bare_nB h1).2 h.1, by rw [h2, h3]; exact h.2⟩)]; exact err_eq hs p
theorem two_eqB {a b a' b' : Ty} {st st' : TSt} {p : Nat} (hs : TEqS st st') (h1 : a.bare = a'.bare) (h2 : b.bare = b'.bare) : TEq (if a = .n ∧ b = .n then (.n, st) else (.n, errS st 5 p)) (if a' = .n ∧ b' = .n then (.n, st') else (.n, errS st' 5 p)) := by
 by_cases hc : a = .n ∧ b = .n
 ·rw [if_pos hc, if_pos ⟨(bare_nB h1).1 hc.1, (bare_nB h2).1 hc.2⟩]; exact ⟨rfl, hs⟩
 ·rw [if_neg hc, if_neg (fun h => hc ⟨(bare_nB h1).2 h.1, (bare_nB h2).2 h.2⟩)]; exact err_eq hs p
theorem madeT_eq (cls cls' : List Nat) (k : Kw) (p site site' : Nat) (ks ks' : List Ty) (st st' : TSt) (h : ks.map Ty.bare = ks'.map Ty.bare) (hs : TEqS st st') : TEq (madeT cls k p site ks st) (madeT cls' k p site' ks' st') := by
 have hl : ks.length = ks'.length := by have := congrArg List.length h; simpa using this
 cases ks with
 | nil =>
  cases ks' with
  | nil => cases k <;> exact err_eq hs p
  | cons a' r' => simp at hl
 | cons a r =>
  cases ks' with
  | nil => simp at hl
  | cons a' r' =>
   simp only [List.map_cons, List.cons.injEq] at h
   have ha := h.1
   have hfs : ∀ k, k = .fst ∨ k = .snd → TEq (madeT cls k p site (a :: r) st) (madeT cls' k p site' (a' :: r') st') := by
    intro k hk
    cases a with
    | n =>
     cases a' with
     | n => rcases hk with rfl | rfl <;> exact err_eq hs p
     | p _ _ _ => simp [Ty.bare] at ha
    | p r1 u v =>
     cases a' with
     | n => simp [Ty.bare] at ha
     | p r2 u' v' =>
      simp only [Ty.bare, Ty.p.injEq, true_and] at ha
      rcases hk with rfl | rfl
      ·exact ⟨ha.1, hs⟩
      ·exact ⟨ha.2, hs⟩
   cases r with
   | nil =>
    cases r' with
    | cons b' r' => simp at hl
    | nil =>
     cases k <;> first | exact hfs _ (Or.inl rfl) | exact hfs _ (Or.inr rfl) | exact err_eq hs p | exact ⟨ha, hs⟩
   | cons b r =>
    cases r' with
    | nil => simp at hl
    | cons b' r' =>
     simp only [List.map_cons, List.cons.injEq] at h
     have hb := h.2.1
     cases r with
     | nil =>
      cases r' with
      | cons c' r' => simp at hl
      | nil =>
       cases k <;> first | exact hfs _ (Or.inl rfl) | exact hfs _ (Or.inr rfl) | exact err_eq hs p | exact two_eqB hs ha hb | exact ⟨ha, hs⟩ | exact ⟨by simp only [madeT, Ty.bare, ha, hb], hs⟩
     | cons c r =>
      cases r' with
      | nil => simp at hl
      | cons c' r' =>
       simp only [List.map_cons, List.cons.injEq] at h
       have hc := h.2.2.1
       cases r with
       | nil =>
        cases r' with
        | cons d' r' => simp at hl
        | nil =>
         cases k <;> first | exact hfs _ (Or.inl rfl) | exact hfs _ (Or.inr rfl) | exact err_eq hs p | exact ite_eqB hs ha hb hc | exact ⟨ha, hs⟩
       | cons d r =>
        cases r' with
        | nil => simp at hl
        | cons d' r' => cases k <;> first | exact hfs _ (Or.inl rfl) | exact hfs _ (Or.inr rfl) | exact err_eq hs p | exact ⟨ha, hs⟩
theorem bareE_snocB {env env' : TEnv} {nm : List UInt8} {T T' : Ty} (h : bareE env = bareE env') (hT : T.bare = T'.bare) : bareE (env ++ [(nm, T)]) = bareE (env' ++ [(nm, T')]) := by rw [bareE_snoc, bareE_snoc, h, hT]
mutual
theorem tyFind_cls (cls cls' : List Nat) : ∀ (t : PT) (id id' site site' : Nat) (env env' : TEnv) (st st' : TSt), bareE env = bareE env' → TEqS st st' → TEq (tyFind cls t id site env st) (tyFind cls' t id' site' env' st')
 | .num p s, id, id', site, site', env, env', st, st', he, hs => by simp only [tyFind]; exact fin_eq (x := (.n, st)) (y := (.n, st')) ⟨rfl, hs⟩ _ _ _
 | .name p s, id, id', site, site', env, env', st, st', he, hs => by
  simp only [tyFind]
  refine fin_eq ?_ _ _ _
  have h1 := look_bare env s
  have h2 := look_bare env' s
  rw [he, h2] at h1
  cases hl : look env s with
  | none =>
   cases hl' : look env' s with
   | none => exact ⟨rfl, errS_eq hs 4 p⟩
   | some T' => rw [hl, hl'] at h1; simp at h1
  | some T =>
   cases hl' : look env' s with
   | none => rw [hl, hl'] at h1; simp at h1
   | some T' =>
    rw [hl, hl'] at h1
    simp only [Option.map_some, Option.some.injEq] at h1
    exact ⟨h1.symm, hs⟩
 | .node p k nm rg kids, id, id', site, site', env, env', st, st', he, hs => by
  simp only [tyFind]
  refine fin_eq ?_ _ _ _
  by_cases hk : k = .let_
  ·rw [if_pos hk, if_pos hk]
   exact tyLet_cls cls cls' nm kids _ _ _ _ env env' st st' he hs
  ·rw [if_neg hk, if_neg hk]
   have hx : (if k = .loop then tyLoop cls nm kids (id + 1) site env st else tyKids cls kids (id + 1) (site + if k = .pair then 1 else 0) env st).1.map Ty.bare = (if k = .loop then tyLoop cls' nm kids (id' + 1) site' env' st' else tyKids cls' kids (id' + 1) (site' + if k = .pair then 1 else 0) env' st').1.map Ty.bare ∧ TEqS (if k = .loop then tyLoop cls nm kids (id + 1) site env st else tyKids cls kids (id + 1) (site + if k = .pair then 1 else 0) env st).2 (if k = .loop then tyLoop cls' nm kids (id' + 1) site' env' st' else tyKids cls' kids (id' + 1) (site' + if k = .pair then 1 else 0) env' st').2 := by
    by_cases hl : k = .loop
    ·rw [if_pos hl, if_pos hl]; exact tyLoop_cls cls cls' nm kids _ _ _ _ env env' st st' he hs
    ·rw [if_neg hl, if_neg hl]; exact tyKids_cls cls cls' kids _ _ _ _ env env' st st' he hs
   generalize (if k = .loop then tyLoop cls nm kids (id + 1) site env st else tyKids cls kids (id + 1) (site + if k = .pair then 1 else 0) env st) = x at hx ⊢
   generalize (if k = .loop then tyLoop cls' nm kids (id' + 1) site' env' st' else tyKids cls' kids (id' + 1) (site' + if k = .pair then 1 else 0) env' st') = x' at hx ⊢
   by_cases h0 : x.2.e = 0
   ·rw [if_neg (by simpa using h0), if_neg (by rw [← hx.2.1]; simpa using h0)]
    exact madeT_eq cls cls' k p site site' x.1 x'.1 x.2 x'.2 hx.1 hx.2
   ·rw [if_pos h0, if_pos (by rw [← hx.2.1]; exact h0)]
    exact ⟨rfl, hx.2⟩
theorem tyKids_cls (cls cls' : List Nat) : ∀ (ts : List PT) (id id' site site' : Nat) (env env' : TEnv) (st st' : TSt), bareE env = bareE env' → TEqS st st' → (tyKids cls ts id site env st).1.map Ty.bare = (tyKids cls' ts id' site' env' st').1.map Ty.bare ∧ TEqS (tyKids cls ts id site env st).2 (tyKids cls' ts id' site' env' st').2
 | [], _, _, _, _, _, _, st, st', _, hs => by simp only [tyKids]; exact ⟨trivial, hs⟩
 | a :: r, id, id', site, site', env, env', st, st', he, hs => by
  simp only [tyKids]
  have h1 := tyFind_cls cls cls' a id id' site site' env env' st st' he hs
  have h2 := tyKids_cls cls cls' r (id + a.cnt) (id' + a.cnt) (site + a.prs) (site' + a.prs) env env' _ _ he h1.2
  exact ⟨by rw [List.map_cons, List.map_cons, h1.1, h2.1], h2.2⟩
theorem tyLet_cls (cls cls' : List Nat) (nm : List UInt8) : ∀ (ts : List PT) (id id' site site' : Nat) (env env' : TEnv) (st st' : TSt), bareE env = bareE env' → TEqS st st' → TEq (tyLet cls nm ts id site env st) (tyLet cls' nm ts id' site' env' st')
 | [a, b], id, id', site, site', env, env', st, st', he, hs => by
  simp only [tyLet]
  have h1 := tyFind_cls cls cls' a id id' site site' env env' st st' he hs
  exact tyFind_cls cls cls' b _ _ _ _ _ _ _ _ (bareE_snocB he h1.1) h1.2
 | [], _, _, _, _, _, _, st, st', _, hs => by simp only [tyLet]; exact ⟨rfl, hs⟩
 | [_], _, _, _, _, _, _, st, st', _, hs => by simp only [tyLet]; exact ⟨rfl, hs⟩
 | _ :: _ :: _ :: _, _, _, _, _, _, _, st, st', _, hs => by simp only [tyLet]; exact ⟨rfl, hs⟩
theorem tyLoop_cls (cls cls' : List Nat) (nm : List UInt8) : ∀ (ts : List PT) (id id' site site' : Nat) (env env' : TEnv) (st st' : TSt), bareE env = bareE env' → TEqS st st' → (tyLoop cls nm ts id site env st).1.map Ty.bare = (tyLoop cls' nm ts id' site' env' st').1.map Ty.bare ∧ TEqS (tyLoop cls nm ts id site env st).2 (tyLoop cls' nm ts id' site' env' st').2
 | [a, b, c], id, id', site, site', env, env', st, st', he, hs => by
  simp only [tyLoop]
  have h1 := tyFind_cls cls cls' a id id' site site' env env' st st' he hs
  have h2 := tyFind_cls cls cls' b (id + a.cnt) (id' + a.cnt) (site + a.prs) (site' + a.prs) env env' _ _ he h1.2
  have h3 := tyFind_cls cls cls' c (id + a.cnt + b.cnt) (id' + a.cnt + b.cnt) (site + a.prs + b.prs) (site' + a.prs + b.prs) _ _ _ _ (bareE_snocB (nm := nm) he h2.1) h2.2
  exact ⟨by simp only [List.map_cons, List.map_nil]; rw [h1.1, h2.1, h3.1], h3.2⟩
 | [], _, _, _, _, _, _, st, st', _, hs => by simp only [tyLoop]; exact ⟨trivial, hs⟩
 | [_], _, _, _, _, _, _, st, st', _, hs => by simp only [tyLoop]; exact ⟨trivial, hs⟩
 | [_, _], _, _, _, _, _, _, st, st', _, hs => by simp only [tyLoop]; exact ⟨trivial, hs⟩
 | _ :: _ :: _ :: _ :: _, _, _, _, _, _, _, st, st', _, hs => by simp only [tyLoop]; exact ⟨trivial, hs⟩
end
end Go.Proofs.YtpicaknklgccoabGreatDoor
namespace Go.Proofs.YtpicaknklgccoabGreatDoor
open Go.RowKit
open Go.Lib (decDigits)
def numL (l : List UInt8) : Int := l.foldl (fun n c => 10 * n + (c.toNat : Int) - 48) 0
theorem numL_snoc (l : List UInt8) (c : UInt8) : numL (l ++ [c]) = 10 * numL l + (c.toNat : Int) - 48 := by
 unfold numL; rw [List.foldl_append]; rfl
theorem numL_dec (u : Nat) : numL (decDigits u) = u := by
 induction u using Nat.strongRecOn with
 | _ u ih =>
  have key : ∀ k, k < 10 → ((UInt8.ofNat (48 + k)).toNat : Int) = 48 + k := by
   intro k hk
   have : (UInt8.ofNat (48 + k)).toNat = 48 + k := by simp; omega
   omega
  rw [decDigits]
  split
  ·rename_i h
   show 10 * (0 : Int) + ((UInt8.ofNat (48 + u)).toNat : Int) - 48 = u
   rw [key u h]; omega
  ·rw [numL_snoc, ih (u / 10) (by omega), key _ (by omega)]; omega
def Ty.rgl : Ty → List Nat
 | .n => []
 | .p r a b => r :: (a.rgl ++ b.rgl)
theorem digit_60 {c : UInt8} (h : digitB c = true) : c ≠ 60 ∧ c ≠ 58 := by
 constructor <;> (intro e; subst e; revert h; decide)
theorem take_dec (u : Nat) (r : List UInt8) : (decDigits u ++ 58 :: r).takeWhile (fun c => c != 58) = decDigits u := by
 have hd := dec_digit u
 generalize decDigits u = l at *
 induction l with
 | nil => simp
 | cons c l ih =>
  have := (digit_60 (hd c (by simp))).2
  simp only [List.cons_append, List.takeWhile_cons]
  rw [if_pos (by simpa using this), ih (fun x hx => hd x (by simp [hx]))]
end Go.Proofs.YtpicaknklgccoabGreatDoor
namespace Go.Proofs.YtpicaknklgccoabGreatDoor
open Go.RowKit
def Ty.has (T : Ty) (rg : Int) : Bool := T.rgl.any (fun x => (x : Int) == rg)
mutual
def PT.subs : PT → Nat → Nat → List (PT × Nat × Nat)
 | .num p s, id, site => [(.num p s, id, site)]
 | .name p s, id, site => [(.name p s, id, site)]
 | .node p k nm rg kids, id, site => subsL kids (id + 1) (site + if k = .pair then 1 else 0) ++ [(.node p k nm rg kids, id, site)]
def subsL : List PT → Nat → Nat → List (PT × Nat × Nat)
 | [], _, _ => []
 | t :: r, id, site => t.subs id site ++ subsL r (id + t.cnt) (site + t.prs)
end
end Go.Proofs.YtpicaknklgccoabGreatDoor
namespace Go.Proofs.YtpicaknklgccoabGreatDoor
open Go.RowKit
open Go.Lib (decDigits)
theorem txt_app : ∀ (T U : Ty) (x y : List UInt8), T.txt ++ x = U.txt ++ y → T = U ∧ x = y
 | .n, .n, x, y, h => by simp [Ty.txt] at h; exact ⟨rfl, h⟩
 | .n, .p _ _ _, x, y, h => by simp [Ty.txt] at h
 | .p _ _ _, .n, x, y, h => by simp [Ty.txt] at h
 | .p r a b, .p r' a' b', x, y, h => by
  simp only [Ty.txt, List.cons_append, List.append_assoc, List.cons.injEq, true_and] at h
  have h1 := congrArg (fun l => l.takeWhile (fun c => c != 58)) h
  simp only [take_dec] at h1
  have hr : r = r' := by
   have := congrArg numL h1
   rw [numL_dec, numL_dec] at this
   omega
  subst hr
  have h2 := List.append_cancel_left h
  simp only [List.cons.injEq, true_and] at h2
  obtain ⟨e1, h3⟩ := txt_app a a' _ _ h2
  obtain ⟨e2, h4⟩ := txt_app b b' _ _ h3
  simp only [List.nil_append, List.cons.injEq, true_and] at h4
  exact ⟨by rw [e1, e2], h4⟩
theorem txt_inj {T U : Ty} (h : T.txt = U.txt) : T = U := (txt_app T U [] [] (by rw [h])).1
def tyAt (TY : List Ty) (k : Nat) : Ty := (TY[k]?).getD .n
def vStep (TY : List Ty) : PT × Nat × Nat → Nat
 | (.node _ k _ _ [a, b, _], id, _) => if (k = .if_ ∨ k = .loop) ∧ tyAt TY (id + 1 + a.cnt) ≠ tyAt TY (id + 1 + a.cnt + b.cnt) then 9 else 0
 | (.node _ k _ rg [_], id, _) => if k = .new ∧ (tyAt TY (id + 1)).has (valueL rg) = true then 10 else 0
 | _ => 0
def PT.at0 : PT → Nat
 | .num p _ => p
 | .name p _ => p
 | .node p _ _ _ _ => p
def vetL (TY : List Ty) : List (PT × Nat × Nat) → Nat × Nat
 | [] => (0, 0)
 | x :: r => if vStep TY x ≠ 0 then (vStep TY x, x.1.at0) else vetL TY r
end Go.Proofs.YtpicaknklgccoabGreatDoor
namespace Go.Proofs.YtpicaknklgccoabGreatDoor
def posOf (len : Nat) : List Tk → Nat
 | [] => len
 | t :: _ => t.at_
theorem posOf_cons (len : Nat) (t : Tk) (r : List Tk) : posOf len (t :: r) = t.at_ := rfl
theorem posOf_nil (len : Nat) : posOf len [] = len := rfl
def TkOk (len : Nat) : List Tk → Prop
 | [] => True
 | t :: r => 0 < t.s.length ∧ t.at_ + t.s.length ≤ posOf len r ∧ TkOk len r
theorem toks_okU (len : Nat) : ∀ (f p : Nat) (l : List UInt8), p + l.length = len → TkOk len (toks f p l) ∧ p ≤ posOf len (toks f p l)
 | 0, p, l, h => by simp only [toks, TkOk, posOf_nil, true_and]; omega
 | f + 1, p, [], h => by simp only [toks, TkOk, posOf_nil, true_and]; simp at h; omega
 | f + 1, p, c :: r, h => by
  simp only [List.length_cons] at h
  simp only [toks]
  split
  ·have := toks_okU len f (p + 1) r (by omega)
   exact ⟨this.1, by omega⟩
  ·have hp := tokenOf_pos (c :: r)
   have hl := tokenOf_le (c :: r) (by simp)
   simp only [List.length_cons] at hl
   have := toks_okU len f (p + (tokenOf (c :: r)).1) ((c :: r).drop (tokenOf (c :: r)).1) (by simp only [List.length_drop, List.length_cons]; omega)
   simp only [TkOk, posOf_cons, List.length_take, List.length_cons]
   exact ⟨⟨by omega, by omega, this.1⟩, Nat.le_refl _⟩
theorem tokens_okU (l : List UInt8) : TkOk l.length (tokens l) := (toks_okU l.length l.length 0 l (by omega)).1
mutual
def PosN : PT → List NR → Nat → Nat → Prop
 | .num p _, ns, lo, hi => ∃ n, ns = [n] ∧ n.at_ = p ∧ lo ≤ p ∧ p < n.beh ∧ n.beh ≤ hi
 | .name p _, ns, lo, hi => ∃ n, ns = [n] ∧ n.at_ = p ∧ lo ≤ p ∧ p < n.beh ∧ n.beh ≤ hi
 | .node p _ _ _ kids, ns, lo, hi => ∃ ks n, ns = ks ++ [n] ∧ n.at_ = p ∧ lo ≤ p ∧ PosNs kids ks (p + 1) n.beh ∧ p < n.beh ∧ n.beh ≤ hi
def PosNs : List PT → List NR → Nat → Nat → Prop
 | [], ns, lo, hi => ns = [] ∧ lo ≤ hi
 | t :: r, ns, lo, hi => ∃ a c mid, ns = a ++ c ∧ PosN t a lo mid ∧ PosNs r c mid hi
end
theorem PosN.lo {t : PT} {ns : List NR} {lo lo' hi : Nat} (h : PosN t ns lo hi) (hl : lo' ≤ lo) : PosN t ns lo' hi := by
 cases t with
 | num p s => simp only [PosN] at h ⊢; obtain ⟨n, h1, h2, h3, h4⟩ := h; exact ⟨n, h1, h2, by omega, h4⟩
 | name p s => simp only [PosN] at h ⊢; obtain ⟨n, h1, h2, h3, h4⟩ := h; exact ⟨n, h1, h2, by omega, h4⟩
 | node p k nm rg kids => simp only [PosN] at h ⊢; obtain ⟨ks, n, h1, h2, h3, h4⟩ := h; exact ⟨ks, n, h1, h2, by omega, h4⟩
theorem PosNs.lo {ts : List PT} {ns : List NR} {lo lo' hi : Nat} (h : PosNs ts ns lo hi) (hl : lo' ≤ lo) : PosNs ts ns lo' hi := by
 cases ts with
 | nil => simp only [PosNs] at h ⊢; exact ⟨h.1, by omega⟩
 | cons t r => simp only [PosNs] at h ⊢; obtain ⟨a, c, mid, h1, h2, h3⟩ := h; exact ⟨a, c, mid, h1, h2.lo hl, h3⟩
theorem PosNs.hi : ∀ {ts : List PT} {ns : List NR} {lo hi hi' : Nat}, PosNs ts ns lo hi → hi ≤ hi' → PosNs ts ns lo hi'
 | [], _, _, _, _, h, hl => by simp only [PosNs] at h ⊢; exact ⟨h.1, by omega⟩
 | t :: r, _, _, _, _, h, hl => by simp only [PosNs] at h ⊢; obtain ⟨a, c, mid, h1, h2, h3⟩ := h; exact ⟨a, c, mid, h1, h2, h3.hi hl⟩
theorem PosN.lt {t : PT} {ns : List NR} {lo hi : Nat} (h : PosN t ns lo hi) : lo < hi := by
 cases t with
 | num p s => simp only [PosN] at h; obtain ⟨n, h1, h2, h3, h4⟩ := h; omega
 | name p s => simp only [PosN] at h; obtain ⟨n, h1, h2, h3, h4⟩ := h; omega
 | node p k nm rg kids => simp only [PosN] at h; obtain ⟨ks, n, h1, h2, h3, h4⟩ := h; omega
theorem PosNs.le : ∀ {ts : List PT} {ns : List NR} {lo hi : Nat}, PosNs ts ns lo hi → lo ≤ hi
 | [], _, _, _, h => by simp only [PosNs] at h; exact h.2
 | t :: r, _, _, _, h => by simp only [PosNs] at h; obtain ⟨a, c, mid, h1, h2, h3⟩ := h; have := h2.lt; have := h3.le; omega
def YesP (placed : Bool) (len : Nat) (pE : PS → Int × PS) (m : Nat) : Prop := ∀ (l : List Tk) (e : PT) (r : List Tk), PE placed l e r → l.length ≤ m → TkOk len l → ∀ st : PS, st.l = l → st.fl = none →
 ∃ ns, (pE st).2.nodes = st.nodes ++ ns ∧ PosN e ns (posOf len l) (posOf len r)
theorem body_pos {placed : Bool} {len : Nat} {pE : PS → Int × PS} {m : Nat} (hY : YesP placed len pE m) (w : List UInt8) (src : Int) {l : List Tk} {e : PT} {r : List Tk} (h : PE placed l e r) (hm : l.length ≤ m) (ht : TkOk len l) (st : PS) (hl : st.l = l) (hf : st.fl = none) :
  ∃ ns, (pBody pE w src st).2.nodes = st.nodes ++ ns ∧ PosN e ns (posOf len l) (posOf len r) := hY l e r h hm ht { st with scope := st.scope ++ [(w, src)] } hl hf
mutual
theorem PE.tkok {placed : Bool} {len : Nat} : ∀ {l : List Tk} {e : PT} {r : List Tk}, PE placed l e r → TkOk len l → TkOk len r ∧ posOf len l ≤ posOf len r
 | _, _, _, .num _, h => by simp only [TkOk] at h; exact ⟨h.2.2, by simp only [posOf_cons]; omega⟩
 | _, _, _, .name _, h => by simp only [TkOk] at h; exact ⟨h.2.2, by simp only [posOf_cons]; omega⟩
 | _, _, _, .node _ _ _ h4, h => by
  simp only [TkOk] at h
  have := PW.tkok h4 h.2.2.2.2
  have h1 := h.2.1
  simp only [posOf_cons] at h1 ⊢
  exact ⟨this.1, by omega⟩
theorem PW.tkok {placed : Bool} {len : Nat} : ∀ {ws : List Wt} {l : List Tk} {nm rg : List UInt8} {kids : List PT} {r : List Tk}, PW placed ws l nm rg kids r → TkOk len l → TkOk len r ∧ posOf len l ≤ posOf len r
 | _, _, _, _, _, _, .nil, h => ⟨h, Nat.le_refl _⟩
 | _, _, _, _, _, _, .close _ h1, h => by simp only [TkOk] at h; have := PW.tkok h1 h.2.2; simp only [posOf_cons]; exact ⟨this.1, by omega⟩
 | _, _, _, _, _, _, .name _ h1, h => by simp only [TkOk] at h; have := PW.tkok h1 h.2.2; simp only [posOf_cons]; exact ⟨this.1, by omega⟩
 | _, _, _, _, _, _, .region _ h1, h => by simp only [TkOk] at h; have := PW.tkok h1 h.2.2; simp only [posOf_cons]; exact ⟨this.1, by omega⟩
 | _, _, _, _, _, _, .e h0 h1, h => by have a := PE.tkok h0 h; have b := PW.tkok h1 a.1; exact ⟨b.1, by omega⟩
end
theorem ins_pos {placed : Bool} (len : Nat) {pE : PS → Int × PS} {m : Nat} (hY : YesE placed pE m) (hP : YesP placed len pE m) : ∀ (is : List Ins) (l : List Tk) (nm rg : List UInt8) (kids : List PT) (r : List Tk), PW placed (is.map Ins.wt ++ [.close]) l nm rg kids r →
  l.length ≤ m → TkOk len l → ∀ (st : PS) (fs : FS), st.l = l → st.fl = none →
  ∃ t ns, (pIns len pE is fs st).2.l = t :: r ∧ (pIns len pE is fs st).2.nodes = st.nodes ++ ns ∧ PosNs kids ns (posOf len l) t.at_ ∧ 0 < t.s.length ∧ t.at_ + t.s.length ≤ posOf len r := by
 intro is
 induction is with
 | nil =>
  intro l nm rg kids r h hm ht st fs hl hf
  simp only [List.map_nil, List.nil_append] at h
  cases h with
  | close hc h1 =>
   cases h1
   simp only [TkOk] at ht
   refine ⟨_, [], by simp only [pIns]; exact hl, by simp only [pIns, List.append_nil], ?_, ht.1, ht.2.1⟩
   simp only [PosNs, posOf_cons, true_and]; exact Nat.le_refl _
 | cons i is ih =>
  intro l nm rg kids r h hm ht st fs hl hf
  cases i with
  | name =>
   simp only [List.map_cons, Ins.wt, List.cons_append] at h
   cases h with
   | name hc h1 =>
    rename_i t r1 nm1
    simp only [List.length_cons] at hm
    simp only [TkOk] at ht
    have hk : (tk1 len st.l).kind = 4 := by rw [hl]; exact (kindN_nam _).2 hc
    have hex : st.expect len 4 = { st with l := r1 } := by
     unfold PS.expect; rw [if_neg (by simp [hk])]; simp [PS.tail, hl]
    obtain ⟨t', ns, h2, h3, h4, h5⟩ := ih r1 nm1 rg kids r h1 (by omega) ht.2.2 { st with l := r1 } { fs with word := (tk1 len st.l).word } rfl hf
    refine ⟨t', ns, ?_, ?_, h4.lo (by simp only [posOf_cons]; omega), h5⟩
    ·simp only [pIns]; rw [hex]; exact h2
    ·simp only [pIns]; rw [hex]; exact h3
  | region =>
   simp only [List.map_cons, Ins.wt, List.cons_append] at h
   cases h with
   | region hc h1 =>
    rename_i t r1 rg1
    simp only [List.length_cons] at hm
    simp only [TkOk] at ht
    have hk : (tk1 len st.l).kind = 6 := by rw [hl]; exact (kindN_reg _).2 hc
    have hex : st.expect len 6 = { st with l := r1 } := by
     unfold PS.expect; rw [if_neg (by simp [hk])]; simp [PS.tail, hl]
    obtain ⟨t', ns, h2, h3, h4, h5⟩ := ih r1 nm rg1 kids r h1 (by omega) ht.2.2 { st with l := r1 } { fs with region := (tk1 len st.l).num } rfl hf
    refine ⟨t', ns, ?_, ?_, h4.lo (by simp only [posOf_cons]; omega), h5⟩
    ·simp only [pIns]; rw [hex]; exact h2
    ·simp only [pIns]; rw [hex]; exact h3
  | e =>
   simp only [List.map_cons, Ins.wt, List.cons_append] at h
   cases h with
   | e he h1 =>
    rename_i e r1 kids1
    have hlt := he.len
    have htk := he.tkok ht
    obtain ⟨ns1, hn1, hp1⟩ := hY l e r1 he hm st hl hf
    obtain ⟨ns0, hq0, hpos⟩ := hP l e r1 he hm ht st hl hf
    obtain ⟨t', ns, h2, h3, h4, h5⟩ := ih r1 nm rg kids1 r h1 (by omega) htk.1 (pE st).2 { fs with parts := fs.parts ++ [(pE st).1] } (by rw [hp1]) (by rw [hp1]; exact hf)
    refine ⟨t', ns0 ++ ns, ?_, ?_, ?_, h5⟩
    ·simp only [pIns]; exact h2
    ·simp only [pIns]; rw [h3, hq0, List.append_assoc]
    ·simp only [PosNs]; exact ⟨ns0, ns, _, rfl, hpos, h4⟩
  | body =>
   simp only [List.map_cons, Ins.wt, List.cons_append] at h
   cases h with
   | e he h1 =>
    rename_i e r1 kids1
    have hlt := he.len
    have htk := he.tkok ht
    obtain ⟨ns1, hn1, hp1⟩ := body_yes hY fs.word (fs.parts.getLastD (-1)) he hm st hl hf
    obtain ⟨ns0, hq0, hpos⟩ := body_pos hP fs.word (fs.parts.getLastD (-1)) he hm ht st hl hf
    obtain ⟨t', ns, h2, h3, h4, h5⟩ := ih r1 nm rg kids1 r h1 (by omega) htk.1 (pBody pE fs.word (fs.parts.getLastD (-1)) st).2 { fs with parts := fs.parts ++ [(pBody pE fs.word (fs.parts.getLastD (-1)) st).1] } (by rw [hp1]) (by rw [hp1]; exact hf)
    refine ⟨t', ns0 ++ ns, ?_, ?_, ?_, h5⟩
    ·simp only [pIns]; exact h2
    ·simp only [pIns]; rw [h3, hq0, List.append_assoc]
    ·simp only [PosNs]; exact ⟨ns0, ns, _, rfl, hpos, h4⟩
theorem expr_pos (placed : Bool) (len : Nat) : ∀ n : Nat, YesP placed len (pExpr placed len n) n := by
 intro n
 induction n with
 | zero =>
  intro l e r h hm
  obtain ⟨t, r', he, _⟩ := h.suffix
  rw [he] at hm; simp at hm
 | succ m ih =>
  intro l e r h hm ht st hl hf
  cases h with
  | num hc =>
   rename_i t
   simp only [TkOk] at ht
   obtain ⟨ns, hn, hp⟩ := (expr_all placed len (m + 1)).1 _ _ _ (PE.num hc) hm st hl hf
   simp only [NA] at hn
   subst hn
   refine ⟨_, by rw [hp], ⟨_, rfl, rfl, Nat.le_refl _, ?_⟩⟩
   simp only; exact ⟨by omega, ht.2.1⟩
  | name hc =>
   rename_i t
   simp only [TkOk] at ht
   obtain ⟨ns, hn, hp⟩ := (expr_all placed len (m + 1)).1 _ _ _ (PE.name hc) hm st hl hf
   simp only [NA] at hn
   subst hn
   refine ⟨_, by rw [hp], ⟨_, rfl, rfl, Nat.le_refl _, ?_⟩⟩
   simp only; exact ⟨by omega, ht.2.1⟩
  | node hc hk hw h4 =>
   rename_i t u k r0 nm rg kids
   have hkf : ¬ (formN (kindN u.c) = 0 ∨ (formN (kindN u.c) = 12 ∧ placed = false)) := by
    rw [form_wants, hk]; exact hw
   rw [insK_wants k placed hw] at h4
   simp only [List.length_cons] at hm
   simp only [TkOk] at ht
   obtain ⟨c, ns, h1, h2, h3, h5, h6⟩ := ins_pos len (expr_all placed len m).1 ih (insK k placed) r0 nm rg kids r h4 (by omega) ht.2.2.2.2 { st with opened := st.opened ++ [-1], l := r0 } ⟨[], [], 0⟩ rfl hf
   obtain ⟨c', ns', h1', _, h3'⟩ := ins_yes len (expr_all placed len m).1 (insK k placed) r0 nm rg kids r h4 (insK_wf k placed) (by omega)
     { st with opened := st.opened ++ [-1], l := r0 } ⟨[], [], 0⟩ nm rfl hf (fun e => absurd e (insK_head k placed)) (by
      split
      ·rfl
      ·rename_i hn
       have : Wt.name ∉ (insK k placed).map Ins.wt ++ [.close] := by
        intro hh
        rcases List.mem_append.1 hh with hh | hh
        ·obtain ⟨i, hi, e⟩ := List.mem_map.1 hh
         cases i with
         | name => exact hn (by simpa using hi)
         | _ => cases e
        ·simp at hh
       exact (PW.noname h4 this).symm)
   have hcc : c = c' := by rw [h3'] at h1; simp only at h1; cases h1; rfl
   subst hcc
   have h21 := ht.2.1
   simp only [posOf_cons] at h21
   have h22 := ht.2.2.2.1
   refine ⟨ns ++ [{ NR.filled ⟨formK k, t.at_, t.at_ + t.s.length, 0, [], 0, -1, -1, -1, -1⟩ (pIns len (pExpr placed len m) (insK k placed) ⟨[], [], 0⟩ { st with opened := st.opened ++ [-1], l := r0 }).1 with beh := c.at_ + c.s.length }], ?_, ⟨ns, _, rfl, rfl, Nat.le_refl _, ?_, ?_, h6⟩⟩
   ·show (pSeat (pAny len (pBracket placed len (pExpr placed len m))) st).2.nodes = _
    unfold pSeat
    rw [any_open len _ { st with opened := st.opened ++ [-1] } hl hc]
    unfold pBracket
    have htk : tk1 len (u :: r0) = tnOf u := rfl
    simp only [htk]
    rw [if_neg (by simpa [tnOf] using hkf)]
    have hform : formN (tnOf u).kind = formK k := by simp [tnOf, hk, formK]
    rw [hform, pFill_ins placed len _ k hw]
    simp only [PS.tail, List.tail_cons]
    have hkc : (tk1 len (c :: r)).kind = 3 := (kindN_cls _).2 h1'
    simp only [PS.expect, h1, hkc]
    rw [if_neg (by simp)]
    simp only [PS.tail, PS.add, h2, List.append_assoc]
    rfl
   ·exact (h3.lo (by omega)).hi (by show c.at_ ≤ c.at_ + c.s.length; omega)
   ·have hlo : posOf len r0 ≤ c.at_ := h3.le
    show t.at_ < c.at_ + c.s.length
    omega
theorem fail_nodes (a : Nat) (st : PS) : (st.fail a).nodes = st.nodes := by unfold PS.fail; split <;> rfl
theorem expect_nodes (len k : Nat) (st : PS) : (st.expect len k).nodes = st.nodes := by
 unfold PS.expect
 split
 ·rw [fail_nodes]; rfl
 ·rfl
theorem prog_pos {placed : Bool} {len : Nat} {l : List Tk} {e : PT} (h : PE placed l e []) (ht : TkOk len l) : PosN e (pProg placed len l).nodes (posOf len l) len := by
 obtain ⟨ns, h1, h2⟩ := expr_pos placed len l.length l e [] h (Nat.le_refl _) ht (ps0 l) rfl rfl
 unfold pProg
 rw [expect_nodes, h1]
 exact h2
structure GoodL (X : List (Rec × NR)) (id c lo hi : Nat) : Prop where
 a : ∀ x ∈ X, id ≤ x.1.id ∧ x.1.id ≤ x.1.last ∧ x.1.last < id + c ∧ lo ≤ x.2.at_ ∧ x.2.at_ < x.2.beh ∧ x.2.beh ≤ hi
 b : ∀ x ∈ X, ∀ y ∈ X, (x.1.id < y.1.id ↔ x.2.at_ < y.2.at_) ∧ (y.1.id ≤ x.1.last ↔ y.2.at_ < x.2.beh)
theorem GoodL.app {X Y : List (Rec × NR)} {id c d lo mid hi : Nat} (hx : GoodL X id c lo mid) (hy : GoodL Y (id + c) d mid hi) (h1 : lo ≤ mid) (h2 : mid ≤ hi) : GoodL (X ++ Y) id (c + d) lo hi := by
 refine ⟨fun x hm => ?_, fun x hm y hn => ?_⟩
 ·rcases List.mem_append.1 hm with hm | hm
  ·have := hx.a x hm; omega
  ·have := hy.a x hm; omega
 ·rcases List.mem_append.1 hm with hm | hm
  ·rcases List.mem_append.1 hn with hn | hn
   ·exact hx.b x hm y hn
   ·have a1 := hx.a x hm
    have a2 := hy.a y hn
    exact ⟨⟨fun _ => by omega, fun _ => by omega⟩, ⟨fun _ => by omega, fun _ => by omega⟩⟩
  ·rcases List.mem_append.1 hn with hn | hn
   ·have a1 := hy.a x hm
    have a2 := hx.a y hn
    exact ⟨⟨fun _ => by omega, fun _ => by omega⟩, ⟨fun _ => by omega, fun _ => by omega⟩⟩
   ·exact hy.b x hm y hn
theorem GoodL.root {K : List (Rec × NR)} {id c lo hi : Nat} {r : Rec} {n : NR} (hk : GoodL K (id + 1) c (n.at_ + 1) n.beh) (h1 : r.id = id) (h2 : r.last = id + c) (h3 : lo ≤ n.at_) (h4 : n.at_ < n.beh) (h5 : n.beh ≤ hi) : GoodL (K ++ [(r, n)]) id (1 + c) lo hi := by
 refine ⟨fun x hm => ?_, fun x hm y hn => ?_⟩
 ·rcases List.mem_append.1 hm with hm | hm
  ·have := hk.a x hm; omega
  ·rw [List.mem_singleton] at hm; subst hm; simp only; omega
 ·rcases List.mem_append.1 hm with hm | hm
  ·rcases List.mem_append.1 hn with hn | hn
   ·exact hk.b x hm y hn
   ·rw [List.mem_singleton] at hn; subst hn
    have a1 := hk.a x hm
    simp only
    exact ⟨⟨fun _ => by omega, fun _ => by omega⟩, ⟨fun _ => by omega, fun _ => by omega⟩⟩
  ·rw [List.mem_singleton] at hm; subst hm
   rcases List.mem_append.1 hn with hn | hn
   ·have a1 := hk.a y hn
    simp only
    exact ⟨⟨fun _ => by omega, fun _ => by omega⟩, ⟨fun _ => by omega, fun _ => by omega⟩⟩
   ·rw [List.mem_singleton] at hn; subst hn
    simp only
    exact ⟨⟨fun _ => by omega, fun _ => by omega⟩, ⟨fun _ => by omega, fun _ => by omega⟩⟩
mutual
theorem PosN.good : ∀ {t : PT} {ns : List NR} {lo hi : Nat}, PosN t ns lo hi → ∀ (id site : Nat), ns.length = t.cnt ∧ GoodL ((t.recs id site).zip ns) id t.cnt lo hi
 | .num p s, ns, lo, hi, h, id, site => by
  simp only [PosN] at h
  obtain ⟨n, rfl, h1, h2, h3, h4⟩ := h
  refine ⟨rfl, ?_⟩
  simp only [PT.recs, List.zip_cons_cons, List.zip_nil_left, PT.cnt]
  exact GoodL.root (K := []) (c := 0) ⟨by simp, by simp⟩ rfl rfl (by omega) (by omega) h4
 | .name p s, ns, lo, hi, h, id, site => by
  simp only [PosN] at h
  obtain ⟨n, rfl, h1, h2, h3, h4⟩ := h
  refine ⟨rfl, ?_⟩
  simp only [PT.recs, List.zip_cons_cons, List.zip_nil_left, PT.cnt]
  exact GoodL.root (K := []) (c := 0) ⟨by simp, by simp⟩ rfl rfl (by omega) (by omega) h4
 | .node p k nm rg kids, ns, lo, hi, h, id, site => by
  simp only [PosN] at h
  obtain ⟨ks, n, rfl, h1, h2, h3, h4, h5⟩ := h
  have hk := PosNs.good h3 (id + 1) (site + if k = .pair then 1 else 0)
  refine ⟨by simp only [List.length_append, List.length_singleton, PT.cnt, hk.1]; omega, ?_⟩
  simp only [PT.recs, PT.cnt]
  rw [List.zip_append (by rw [recsL_len, hk.1])]
  simp only [List.zip_cons_cons, List.zip_nil_left]
  subst h1
  exact GoodL.root hk.2 rfl rfl h2 h4 h5
theorem PosNs.good : ∀ {ts : List PT} {ns : List NR} {lo hi : Nat}, PosNs ts ns lo hi → ∀ (id site : Nat), ns.length = cntL ts ∧ GoodL ((recsL ts id site).zip ns) id (cntL ts) lo hi
 | [], ns, lo, hi, h, id, site => by
  simp only [PosNs] at h
  rw [h.1]
  exact ⟨rfl, ⟨by simp [recsL], by simp [recsL]⟩⟩
 | t :: r, ns, lo, hi, h, id, site => by
  simp only [PosNs] at h
  obtain ⟨a, c, mid, rfl, h1, h2⟩ := h
  have ha := PosN.good h1 id site
  have hc := PosNs.good h2 (id + t.cnt) (site + t.prs)
  refine ⟨by simp only [List.length_append, cntL, ha.1, hc.1], ?_⟩
  simp only [recsL, cntL]
  rw [List.zip_append (by rw [recs_len, ha.1])]
  have l1 := h1.lt
  have l2 := h2.le
  exact GoodL.app ha.2 hc.2 (by omega) l2
end
end Go.Proofs.YtpicaknklgccoabGreatDoor
