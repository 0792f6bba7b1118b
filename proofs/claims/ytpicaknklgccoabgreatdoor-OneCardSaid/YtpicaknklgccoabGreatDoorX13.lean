import Derived.Test.YtpicaknklgccoabGreatDoorX12
import Derived.Test.YtpicaknklgccoabGreatDoorX1
import Derived.Test.YtpicaknklgccoabGreatDoorX7
import Derived.Test.YtpicaknklgccoabGreatDoorX8
namespace Go.Proofs.YtpicaknklgccoabGreatDoor
theorem errS_at (st : TSt) (e p : Nat) (he : e ≠ 0) : (errS st e p).e = 0 → (errS st e p).at_ = st.at_ := by
 intro h; exact absurd h (errS_e st e p he)
theorem fin_at (id p : Nat) (x : Ty × TSt) : (fin id p x).2.e = 0 → x.2.e = 0 ∧ (fin id p x).2.at_ = x.2.at_ := by
 unfold fin
 simp only
 split
 ·intro h; exact absurd h (errS_e _ _ _ (by decide))
 ·intro h; exact ⟨h, rfl⟩
theorem madeT_at (cls : List Nat) (k : Kw) (p site : Nat) (ks : List Ty) (st : TSt) : (madeT cls k p site ks st).2.e = 0 → (madeT cls k p site ks st).2.at_ = st.at_ := by
 have err : (errS st 5 p).e = 0 → (errS st 5 p).at_ = st.at_ := errS_at st 5 p (by decide)
 unfold madeT
 split <;> (first | (intro _; rfl) | exact err | (split <;> first | (intro _; rfl) | exact err))
theorem stay0 {a b : TSt} (h : a.e ≠ 0 → b.e = a.e ∧ b.at_ = a.at_) (hb : b.e = 0) : a.e = 0 := by
 by_cases e : a.e = 0
 ·exact e
 ·exact absurd ((h e).1.symm.trans hb) e
mutual
theorem tyFind_at (cls : List Nat) : ∀ (t : PT) (id site : Nat) (env : TEnv) (st : TSt), (tyFind cls t id site env st).2.e = 0 → (tyFind cls t id site env st).2.at_ = st.at_
 | .num p s, id, site, env, st => by
  simp only [tyFind]; intro h; exact (fin_at id p _ h).2
 | .name p s, id, site, env, st => by
  simp only [tyFind]
  intro h
  obtain ⟨h1, h2⟩ := fin_at id p _ h
  rw [h2]
  revert h1
  split
  ·intro _; rfl
  ·exact errS_at st 4 p (by decide)
 | .node p k nm rg kids, id, site, env, st => by
  simp only [tyFind]
  intro h
  obtain ⟨h1, h2⟩ := fin_at id p _ h
  rw [h2]
  revert h1
  split
  ·exact tyLet_at cls nm kids (id + 1) site env st
  ·have hx : (if k = .loop then tyLoop cls nm kids (id + 1) site env st else tyKids cls kids (id + 1) (site + if k = .pair then 1 else 0) env st).2.e = 0 → (if k = .loop then tyLoop cls nm kids (id + 1) site env st else tyKids cls kids (id + 1) (site + if k = .pair then 1 else 0) env st).2.at_ = st.at_ := by
    by_cases hk : k = .loop
    ·simp only [if_pos hk]; exact tyLoop_at cls nm kids _ _ env st
    ·simp only [if_neg hk]; exact tyKids_at cls kids _ _ env st
   generalize (if k = .loop then tyLoop cls nm kids (id + 1) site env st else tyKids cls kids (id + 1) (site + if k = .pair then 1 else 0) env st) = x at hx
   split
   ·rename_i hne; intro h0; exact absurd h0 hne
   ·rename_i hne
    have h0 : x.2.e = 0 := by simpa using hne
    intro h1
    rw [madeT_at cls k p site x.1 x.2 h1, hx h0]
theorem tyKids_at (cls : List Nat) : ∀ (ts : List PT) (id site : Nat) (env : TEnv) (st : TSt), (tyKids cls ts id site env st).2.e = 0 → (tyKids cls ts id site env st).2.at_ = st.at_
 | [], _, _, _, st => by simp [tyKids]
 | a :: r, id, site, env, st => by
  simp only [tyKids]
  intro h
  have h2 := tyKids_at cls r (id + a.cnt) (site + a.prs) env (tyFind cls a id site env st).2 h
  have h0 := stay0 (fun e => tyKids_stay cls r (id + a.cnt) (site + a.prs) env _ e) h
  rw [h2, tyFind_at cls a id site env st h0]
theorem tyLet_at (cls : List Nat) (nm : List UInt8) : ∀ (ts : List PT) (id site : Nat) (env : TEnv) (st : TSt), (tyLet cls nm ts id site env st).2.e = 0 → (tyLet cls nm ts id site env st).2.at_ = st.at_
 | [a, b], id, site, env, st => by
  simp only [tyLet]
  intro h
  have h2 := tyFind_at cls b (id + a.cnt) (site + a.prs) (env ++ [(nm, (tyFind cls a id site env st).1)]) (tyFind cls a id site env st).2 h
  have h0 := stay0 (fun e => tyFind_stay cls b (id + a.cnt) (site + a.prs) _ _ e) h
  rw [h2, tyFind_at cls a id site env st h0]
 | [], _, _, _, st => by simp [tyLet]
 | [_], _, _, _, st => by simp [tyLet]
 | _ :: _ :: _ :: _, _, _, _, st => by simp [tyLet]
theorem tyLoop_at (cls : List Nat) (nm : List UInt8) : ∀ (ts : List PT) (id site : Nat) (env : TEnv) (st : TSt), (tyLoop cls nm ts id site env st).2.e = 0 → (tyLoop cls nm ts id site env st).2.at_ = st.at_
 | [a, b, c], id, site, env, st => by
  simp only [tyLoop]
  intro h
  have h3 := tyFind_at cls c _ _ _ _ h
  have h0 := stay0 (fun e => tyFind_stay cls c _ _ _ _ e) h
  have h2 := tyFind_at cls b _ _ _ _ h0
  have h00 := stay0 (fun e => tyFind_stay cls b _ _ _ _ e) h0
  rw [h3, h2, tyFind_at cls a id site env st h00]
 | [], _, _, _, st => by simp [tyLoop]
 | [_], _, _, _, st => by simp [tyLoop]
 | [_, _], _, _, _, st => by simp [tyLoop]
 | _ :: _ :: _ :: _ :: _, _, _, _, st => by simp [tyLoop]
end
theorem prog_ans {e : PT} {ns : List NR} (hna : NA [] e 0 ns) : progAns ns (opn e 0) = chkAns e := by
 have hpr : (opn e 0).filterMap (pairAt ns) = e.prl.map (·.1) := opn_pairs ns e [] 0 ns hna (fun j _ => by rw [Nat.zero_add])
 have hlen : ((opn e 0).filterMap (pairAt ns)).length = e.prs := by rw [hpr, List.length_map, prl_len]
 unfold progAns chkAns manyAns
 rw [hlen]
 by_cases hm : 100 < e.prs
 ·simp only [if_pos hm]
  rw [if_pos (by decide), hpr, List.getElem?_map]
 ·simp only [if_neg hm]
  rw [if_neg (by decide), ckK_eq ns rel0]
  have hA := tyck (List.range e.prs) (fun x hx => by rw [List.mem_range] at hx; omega) e [] ns [] (st0 e) [] 0 0 hna trivial rfl ⟨by simp, by simp⟩
  have hat := tyFind_at (List.range e.prs) e 0 0 [] (st0 e)
  rcases hA with ⟨h0, h1, _⟩ | ⟨_, h1⟩
  ·rw [h1, h0, hat h0]; rfl
  ·exact h1
theorem op_ok {e : PT} {ns : List NR} (hna : NA [] e 0 ns) : OpOk ns (opn e 0) := by
 have hl := hna.len
 refine ⟨by rw [opn_len, hl], fun x hx => ?_⟩
 have := opn_in e 0 x hx
 simp only [Nat.zero_add] at this
 omega
end Go.Proofs.YtpicaknklgccoabGreatDoor
namespace Go.Proofs.YtpicaknklgccoabGreatDoor
open Go.RowKit
theorem kept1 {w w2 : World} {A : Obj} (hb : Below (w.alloc A).heap.size (w.alloc A) w2) : w2.heap[w.heap.size]? = some A := by
 rw [hb.block w.heap.size (by simp)]; exact blk_new w A
theorem below1 {w w2 : World} {A : Obj} (hb : Below (w.alloc A).heap.size (w.alloc A) w2) : Below w.heap.size w w2 := ((Below.refl _ w).alloc (Nat.le_refl _) A).trans (hb.mono (by simp))
set_option maxRecDepth 100000 in
set_option maxHeartbeats 8000000 in
theorem ParsePlaced_any (s : ByteArray) (w : World) (hs : s.size ≤ 9000) : Calls Tryz.prog 56 #[.string s] w fun v w' => ParseAns s true w v w' := by
 have hpr := program_any s true (w.heap.size + 1) hs _ _ _ _ _ (tokens_len s hs) (parse0 s true w (.cells #[.slice none 0 0, .slice none 0 0] 62))
 unfold ptr psCells at hpr
 unfold ParseAns
 generalize pProg true s.size (tokens s.data.toList) = P at *
 go_enter Tryz.func56, Tryz.ntmps56
 go_wp2_with fail
 refine hpr.mono ?_
 rintro v w1 ⟨sv1, nv1, ov1, hfr, hin, hv⟩
 obtain ⟨hb, hr, hsz⟩ := hfr.toBelow
 have r0 : w1.cell? ⟨w.heap.size, 0, none⟩ = some (.slice none 0 0) := by rw [blk_cell hr]; rfl
 have r1 : w1.cell? ⟨w.heap.size, 1, none⟩ = some (.slice none 0 0) := by rw [blk_cell hr]; rfl
 have f0 := blk_free hr 0
 have f1 := blk_free hr 1
 have HB : Hid _ := hb
 rcases hv with ⟨q, hfl, rfl⟩ | ⟨hfl, rfl⟩
 ·have HFL : Hid _ := hfl
  unfold treeV
  clear hfl hfr hin hb hr hpr
  go_wp2
  refine bodyPost_ret (v := .tuple #[.agg #[.slice none 0 0, .slice none 0 0], .int .i64 q, .bool false]) (by simp [results, Tryz.results56, go_sem, r0, r1]) rfl ⟨?_, Or.inl ⟨q, HFL.out, rfl⟩⟩
  exact (HB.out.setCell (p := ⟨w.heap.size, 0, none⟩) (Nat.le_refl _) _).setCell (p := ⟨w.heap.size, 1, none⟩) (Nat.le_refl _) _
 ·have HFL : Hid _ := hfl
  obtain ⟨x6, n6, c6, e6⟩ : ∃ a n c, nv1 = .slice a n c := by
   rcases hin.nd.2 with ⟨h1, _⟩ | ⟨g, cap, cur, h1, _⟩
   ·exact ⟨_, _, _, h1⟩
   ·exact ⟨_, _, _, h1⟩
  obtain ⟨x7, n7, c7, e7⟩ : ∃ a n c, ov1 = .slice a n c := by
   rcases hin.op.2 with ⟨h1, _⟩ | ⟨g, cap, cur, h1, _⟩
   ·exact ⟨_, _, _, h1⟩
   ·exact ⟨_, _, _, h1⟩
  have hrn : ∀ k, nv1.ownBlock = some k → k ≠ w.heap.size := fun k hk => by
   rcases hfr.n k hk with e | e
   ·simp [Value.ownBlock] at e
   ·simp at e; omega
  have hro : ∀ k, ov1.ownBlock = some k → k ≠ w.heap.size := fun k hk => by
   rcases hfr.o k hk with e | e
   ·simp [Value.ownBlock] at e
   ·simp at e; omega
  subst e6
  subst e7
  have HT : Hid (TreeIn ((w1.setCell ⟨w.heap.size, 0, none⟩ (.slice x6 n6 c6)).setCell ⟨w.heap.size, 1, none⟩ (.slice x7 n7 c7)) (.slice x6 n6 c6) (.slice x7 n7 c7) P.nodes P.opened) := by
   refine ⟨owns_blk hin.nd (fun k hk => ?_), owns_blk hin.op (fun k hk => ?_)⟩
   ·rw [blk_other _ _ (by simpa using hrn k hk), blk_other _ _ (by simpa using hrn k hk)]
   ·rw [blk_other _ _ (by simpa using hro k hk), blk_other _ _ (by simpa using hro k hk)]
  unfold treeV
  clear hfl hfr hin hb hr hpr hrn hro
  go_wp2
  refine bodyPost_ret (v := .tuple #[.agg #[.slice x6 n6 c6, .slice x7 n7 c7], .int .i64 0, .bool true]) (by simp [results, Tryz.results56, go_sem, r0, r1]) rfl ⟨?_, Or.inr ⟨HFL.out, _, _, rfl, HT.out⟩⟩
  exact (HB.out.setCell (p := ⟨w.heap.size, 0, none⟩) (Nat.le_refl _) _).setCell (p := ⟨w.heap.size, 1, none⟩) (Nat.le_refl _) _
end Go.Proofs.YtpicaknklgccoabGreatDoor
namespace Go.Proofs.YtpicaknklgccoabGreatDoor
open Go.Lib (decDigits)
def RgTame (t : Tk) : Prop := t.c = .reg → 0 ≤ valueL t.s ∧ valueL t.s ≤ 999
theorem tok_rg (l : List UInt8) : (tokenOf l).2 = .reg → 0 ≤ valueL (l.take (tokenOf l).1) ∧ valueL (l.take (tokenOf l).1) ≤ 999 := by
 unfold tokenOf
 split
 ·intro h
  simp only [wordCl] at h
  split at h
  ·simp at h
  ·split at h <;> simp at h
 ·split
  ·intro h
   simp only at h
   split at h <;> simp at h
  ·split
   ·simp
   ·rename_i c r _ _
    split
    ·rename_i hc
     intro h
     simp only at h
     split at h
     ·rename_i hn
      simp only [numeralB, Bool.and_eq_true, decide_eq_true_eq] at hn
      have hf := dig_fold (r.take (run 48 57 r)) 0 (fun c hc => run_memT 48 57 r c hc) (by omega)
      have hp : 10 ^ (r.take (run 48 57 r)).length ≤ 10 ^ 3 := Nat.pow_le_pow_right (by omega) hn.1.2
      simp only [List.take_succ_cons]
      unfold valueL
      rw [List.foldl_cons, if_pos hc]
      omega
     ·simp at h
    ·intro h
     simp only at h
     split at h
     ·simp at h
     ·split at h <;> simp at h
theorem tokens_rg (l : List UInt8) : ∀ t ∈ tokens l, RgTame t := by
 intro t ht
 obtain ⟨l', _, hs, hc⟩ := toks_mem _ _ _ t ht
 unfold RgTame
 rw [hs, hc]
 exact tok_rg l'
mutual
def PT.rg3 : PT → Prop
 | .num _ _ => True
 | .name _ _ => True
 | .node _ _ _ rg kids => (0 ≤ valueL rg ∧ valueL rg ≤ 999) ∧ rg3L kids
def rg3L : List PT → Prop
 | [] => True
 | t :: r => t.rg3 ∧ rg3L r
end
mutual
theorem PE.rg3 {placed : Bool} : ∀ {l : List Tk} {e : PT} {r : List Tk}, PE placed l e r → (∀ t ∈ l, RgTame t) → e.rg3 ∧ ∀ t ∈ r, RgTame t
 | _, _, _, .num _, ha => ⟨by simp [PT.rg3], fun x hx => ha x (by simp [hx])⟩
 | _, _, _, .name _, ha => ⟨by simp [PT.rg3], fun x hx => ha x (by simp [hx])⟩
 | _, _, _, .node _ _ _ h4, ha => by
  have h := PW.rg3 h4 (fun x hx => ha x (by simp [hx]))
  exact ⟨by simp only [PT.rg3]; exact ⟨h.1, h.2.1⟩, h.2.2⟩
theorem PW.rg3 {placed : Bool} : ∀ {ws : List Wt} {l : List Tk} {nm rg : List UInt8} {kids : List PT} {r : List Tk}, PW placed ws l nm rg kids r → (∀ t ∈ l, RgTame t) → (0 ≤ valueL rg ∧ valueL rg ≤ 999) ∧ rg3L kids ∧ ∀ t ∈ r, RgTame t
 | _, _, _, _, _, _, .nil, ha => ⟨by decide, by simp [rg3L], ha⟩
 | _, _, _, _, _, _, .close _ h1, ha => PW.rg3 h1 (fun x hx => ha x (by simp [hx]))
 | _, _, _, _, _, _, .name _ h1, ha => PW.rg3 h1 (fun x hx => ha x (by simp [hx]))
 | _, _, _, _, _, _, .region (t := t) h h1, ha => by
  have h' := PW.rg3 h1 (fun x hx => ha x (by simp [hx]))
  exact ⟨ha t (by simp) h, h'.2⟩
 | _, _, _, _, _, _, .e h0 h1, ha => by
  have a := PE.rg3 h0 ha
  have b := PW.rg3 h1 a.2
  exact ⟨b.1, by simp only [rg3L]; exact ⟨a.1, b.2.1⟩, b.2.2⟩
end
inductive Vl where
 | n (k : Nat)
 | p (a b : Vl)
def Vl.txt : Vl → List UInt8
 | .n k => decDigits k
 | .p a b => 91 :: (a.txt ++ (32 :: (b.txt ++ [93])))
def Vl.num : Vl → Nat
 | .n k => k
 | .p _ _ => 0
def Vl.fst : Vl → Vl
 | .p a _ => a
 | .n _ => .n 0
def Vl.snd : Vl → Vl
 | .p _ b => b
 | .n _ => .n 0
def Vl.size : Vl → Nat
 | .n _ => 0
 | .p a b => a.size + b.size + 1
def Vl.has : Vl → Ty → Prop
 | .n k, .n => k ≤ 9999
 | .p a b, .p _ x y => a.has x ∧ b.has y
 | _, _ => False
structure ESt where
 steps : Nat
 cells : Nat
 e : Nat
abbrev VEnv := List (List UInt8 × Vl)
def lookV (env : VEnv) (s : List UInt8) : Vl := ((env.reverse.find? (fun x => x.1 == s)).map (·.2)).getD (.n 0)
def turns (f : Vl → ESt → Vl × ESt) : Nat → Vl → ESt → Vl × ESt
 | 0, v, st => (v, st)
 | k + 1, v, st => if st.e ≠ 0 then (v, st) else turns f k (f v st).1 (f v st).2
def madeV (k : Kw) (vs : List Vl) (st : ESt) : Vl × ESt :=
 match k, vs with
 | .pair, [a, b] => (.p a b, { st with cells := st.cells + 1 })
 | .fst, [a] => (a.fst, st)
 | .snd, [a] => (a.snd, st)
 | .add, [a, b] => (.n ((a.num + b.num) % 10000), st)
 | .sub, [a, b] => (.n ((a.num + 10000 - b.num) % 10000), st)
 | .less, [a, b] => (.n (if a.num < b.num then 1 else 0), st)
 | _, _ => (.n 0, st)
def begun (fuel : Nat) (st : ESt) (f : ESt → Vl × ESt) : Vl × ESt :=
 if st.e ≠ 0 then (.n 0, st) else if st.steps = fuel then (.n 0, { st with e := 12 }) else f { st with steps := st.steps + 1 }
mutual
def ev (fuel : Nat) : PT → VEnv → ESt → Vl × ESt
 | .num _ s, _, st => begun fuel st (fun st => (.n (valueL s).toNat, st))
 | .name _ s, env, st => begun fuel st (fun st => (lookV env s, st))
 | .node _ k nm _ kids, env, st => begun fuel st (fun st =>
   if k = .let_ then evLet fuel nm kids env st
   else if k = .if_ then evIf fuel kids env st
   else if k = .loop then evLoop fuel nm kids env st
   else
    let x := evKids fuel kids env st
    if x.2.e ≠ 0 then (.n 0, x.2) else madeV k x.1 x.2)
def evKids (fuel : Nat) : List PT → VEnv → ESt → List Vl × ESt
 | [], _, st => ([], st)
 | a :: r, env, st =>
  let x := ev fuel a env st
  let y := evKids fuel r env x.2
  (x.1 :: y.1, y.2)
def evLet (fuel : Nat) (nm : List UInt8) : List PT → VEnv → ESt → Vl × ESt
 | [a, b], env, st =>
  let x := ev fuel a env st
  ev fuel b (env ++ [(nm, x.1)]) x.2
 | _, _, st => (.n 0, st)
def evIf (fuel : Nat) : List PT → VEnv → ESt → Vl × ESt
 | [a, b, c], env, st =>
  let x := ev fuel a env st
  if x.1.num ≠ 0 then ev fuel b env x.2 else ev fuel c env x.2
 | _, _, st => (.n 0, st)
def evLoop (fuel : Nat) (nm : List UInt8) : List PT → VEnv → ESt → Vl × ESt
 | [a, b, c], env, st =>
  let x := ev fuel a env st
  let y := ev fuel b env x.2
  turns (fun v st => ev fuel c (env ++ [(nm, v)]) st) x.1.num y.1 y.2
 | _, _, st => (.n 0, st)
end
inductive WT : TEnv → PT → Ty → Prop
 | num {G : TEnv} {p : Nat} {s : List UInt8} : WT G (.num p s) .n
 | name {G : TEnv} {p : Nat} {s : List UInt8} {T : Ty} (h : look G s = some T) : WT G (.name p s) T
 | let_ {G : TEnv} {p : Nat} {nm rg : List UInt8} {a b : PT} {A B : Ty} (ha : WT G a A) (hb : WT (G ++ [(nm, A)]) b B) : WT G (.node p .let_ nm rg [a, b]) B
 | pair {G : TEnv} {p : Nat} {nm rg : List UInt8} {a b : PT} {A B : Ty} (ha : WT G a A) (hb : WT G b B) (hs : (Ty.p 0 A B).size ≤ 63) : WT G (.node p .pair nm rg [a, b]) (.p 0 A B)
 | fst {G : TEnv} {p : Nat} {nm rg : List UInt8} {a : PT} {A B : Ty} (ha : WT G a (.p 0 A B)) : WT G (.node p .fst nm rg [a]) A
 | snd {G : TEnv} {p : Nat} {nm rg : List UInt8} {a : PT} {A B : Ty} (ha : WT G a (.p 0 A B)) : WT G (.node p .snd nm rg [a]) B
 | if_ {G : TEnv} {p : Nat} {nm rg : List UInt8} {a b c : PT} {T : Ty} (ha : WT G a .n) (hb : WT G b T) (hc : WT G c T) : WT G (.node p .if_ nm rg [a, b, c]) T
 | two {G : TEnv} {p : Nat} {k : Kw} {nm rg : List UInt8} {a b : PT} (hk : k = .add ∨ k = .sub ∨ k = .less) (ha : WT G a .n) (hb : WT G b .n) : WT G (.node p k nm rg [a, b]) .n
 | loop {G : TEnv} {p : Nat} {nm rg : List UInt8} {a b c : PT} {T : Ty} (ha : WT G a .n) (hb : WT G b T) (hc : WT (G ++ [(nm, T)]) c T) : WT G (.node p .loop nm rg [a, b, c]) T
 | new {G : TEnv} {p : Nat} {nm rg : List UInt8} {a : PT} {T : Ty} (ha : WT G a T) : WT G (.node p .new nm rg [a]) T
def bareE (env : TEnv) : TEnv := env.map (fun x => (x.1, x.2.bare))
theorem bare_sizeE (t : Ty) : t.bare.size = t.size := by induction t <;> simp [Ty.bare, Ty.size, *]
theorem look_bare (env : TEnv) (s : List UInt8) : look (bareE env) s = (look env s).map Ty.bare := by
 unfold look bareE
 rw [← List.map_reverse, List.find?_map]
 simp only [Function.comp_def, Option.map_map]
theorem bareE_snoc (env : TEnv) (nm : List UInt8) (T : Ty) : bareE (env ++ [(nm, T)]) = bareE env ++ [(nm, T.bare)] := by simp [bareE]
end Go.Proofs.YtpicaknklgccoabGreatDoor
namespace Go.Proofs.YtpicaknklgccoabGreatDoor
open Go.RowKit
open Go.Lib (decDigits)
def Ty.rgl : Ty → List Nat
 | .n => []
 | .p r a b => r :: (a.rgl ++ b.rgl)
end Go.Proofs.YtpicaknklgccoabGreatDoor
namespace Go.Proofs.YtpicaknklgccoabGreatDoor
open Go.RowKit
def Ty.has (T : Ty) (rg : Int) : Bool := T.rgl.any (fun x => (x : Int) == rg)
end Go.Proofs.YtpicaknklgccoabGreatDoor
namespace Go.Proofs.YtpicaknklgccoabGreatDoor
def posOf (len : Nat) : List Tk → Nat
 | [] => len
 | t :: _ => t.at_
theorem posOf_cons (len : Nat) (t : Tk) (r : List Tk) : posOf len (t :: r) = t.at_ := rfl
theorem posOf_nil (len : Nat) : posOf len [] = len := rfl
def TkOk (len : Nat) : List Tk → Prop
 | [] => True
 | t :: r => 0 < t.s.length ∧ t.at_ + t.s.length ≤ posOf len r ∧ TkOk len r
theorem toks_okU (len : Nat) : ∀ (f p : Nat) (l : List UInt8), p + l.length = len → TkOk len (toks f p l) ∧ p ≤ posOf len (toks f p l)
 | 0, p, l, h => by simp only [toks, TkOk, posOf_nil, true_and]; omega
 | f + 1, p, [], h => by simp only [toks, TkOk, posOf_nil, true_and]; simp at h; omega
 | f + 1, p, c :: r, h => by
  simp only [List.length_cons] at h
  simp only [toks]
  split
  ·have := toks_okU len f (p + 1) r (by omega)
   exact ⟨this.1, by omega⟩
  ·have hp := tokenOf_pos (c :: r)
   have hl := tokenOf_le (c :: r) (by simp)
   simp only [List.length_cons] at hl
   have := toks_okU len f (p + (tokenOf (c :: r)).1) ((c :: r).drop (tokenOf (c :: r)).1) (by simp only [List.length_drop, List.length_cons]; omega)
   simp only [TkOk, posOf_cons, List.length_take, List.length_cons]
   exact ⟨⟨by omega, by omega, this.1⟩, Nat.le_refl _⟩
theorem tokens_okU (l : List UInt8) : TkOk l.length (tokens l) := (toks_okU l.length l.length 0 l (by omega)).1
mutual
def PosN : PT → List NR → Nat → Nat → Prop
 | .num p _, ns, lo, hi => ∃ n, ns = [n] ∧ n.at_ = p ∧ lo ≤ p ∧ p < n.beh ∧ n.beh ≤ hi
 | .name p _, ns, lo, hi => ∃ n, ns = [n] ∧ n.at_ = p ∧ lo ≤ p ∧ p < n.beh ∧ n.beh ≤ hi
 | .node p _ _ _ kids, ns, lo, hi => ∃ ks n, ns = ks ++ [n] ∧ n.at_ = p ∧ lo ≤ p ∧ PosNs kids ks (p + 1) n.beh ∧ p < n.beh ∧ n.beh ≤ hi
def PosNs : List PT → List NR → Nat → Nat → Prop
 | [], ns, lo, hi => ns = [] ∧ lo ≤ hi
 | t :: r, ns, lo, hi => ∃ a c mid, ns = a ++ c ∧ PosN t a lo mid ∧ PosNs r c mid hi
end
theorem PosN.lo {t : PT} {ns : List NR} {lo lo' hi : Nat} (h : PosN t ns lo hi) (hl : lo' ≤ lo) : PosN t ns lo' hi := by
 cases t with
 | num p s => simp only [PosN] at h ⊢; obtain ⟨n, h1, h2, h3, h4⟩ := h; exact ⟨n, h1, h2, by omega, h4⟩
 | name p s => simp only [PosN] at h ⊢; obtain ⟨n, h1, h2, h3, h4⟩ := h; exact ⟨n, h1, h2, by omega, h4⟩
 | node p k nm rg kids => simp only [PosN] at h ⊢; obtain ⟨ks, n, h1, h2, h3, h4⟩ := h; exact ⟨ks, n, h1, h2, by omega, h4⟩
theorem PosNs.lo {ts : List PT} {ns : List NR} {lo lo' hi : Nat} (h : PosNs ts ns lo hi) (hl : lo' ≤ lo) : PosNs ts ns lo' hi := by
 cases ts with
 | nil => simp only [PosNs] at h ⊢; exact ⟨h.1, by omega⟩
 | cons t r => simp only [PosNs] at h ⊢; obtain ⟨a, c, mid, h1, h2, h3⟩ := h; exact ⟨a, c, mid, h1, h2.lo hl, h3⟩
theorem PosNs.hi : ∀ {ts : List PT} {ns : List NR} {lo hi hi' : Nat}, PosNs ts ns lo hi → hi ≤ hi' → PosNs ts ns lo hi'
 | [], _, _, _, _, h, hl => by simp only [PosNs] at h ⊢; exact ⟨h.1, by omega⟩
 | t :: r, _, _, _, _, h, hl => by simp only [PosNs] at h ⊢; obtain ⟨a, c, mid, h1, h2, h3⟩ := h; exact ⟨a, c, mid, h1, h2, h3.hi hl⟩
theorem PosN.lt {t : PT} {ns : List NR} {lo hi : Nat} (h : PosN t ns lo hi) : lo < hi := by
 cases t with
 | num p s => simp only [PosN] at h; obtain ⟨n, h1, h2, h3, h4⟩ := h; omega
 | name p s => simp only [PosN] at h; obtain ⟨n, h1, h2, h3, h4⟩ := h; omega
 | node p k nm rg kids => simp only [PosN] at h; obtain ⟨ks, n, h1, h2, h3, h4⟩ := h; omega
theorem PosNs.le : ∀ {ts : List PT} {ns : List NR} {lo hi : Nat}, PosNs ts ns lo hi → lo ≤ hi
 | [], _, _, _, h => by simp only [PosNs] at h; exact h.2
 | t :: r, _, _, _, h => by simp only [PosNs] at h; obtain ⟨a, c, mid, h1, h2, h3⟩ := h; have := h2.lt; have := h3.le; omega
def YesP (placed : Bool) (len : Nat) (pE : PS → Int × PS) (m : Nat) : Prop := ∀ (l : List Tk) (e : PT) (r : List Tk), PE placed l e r → l.length ≤ m → TkOk len l → ∀ st : PS, st.l = l → st.fl = none →
 ∃ ns, (pE st).2.nodes = st.nodes ++ ns ∧ PosN e ns (posOf len l) (posOf len r)
theorem body_pos {placed : Bool} {len : Nat} {pE : PS → Int × PS} {m : Nat} (hY : YesP placed len pE m) (w : List UInt8) (src : Int) {l : List Tk} {e : PT} {r : List Tk} (h : PE placed l e r) (hm : l.length ≤ m) (ht : TkOk len l) (st : PS) (hl : st.l = l) (hf : st.fl = none) :
  ∃ ns, (pBody pE w src st).2.nodes = st.nodes ++ ns ∧ PosN e ns (posOf len l) (posOf len r) := hY l e r h hm ht { st with scope := st.scope ++ [(w, src)] } hl hf
mutual
theorem PE.tkok {placed : Bool} {len : Nat} : ∀ {l : List Tk} {e : PT} {r : List Tk}, PE placed l e r → TkOk len l → TkOk len r ∧ posOf len l ≤ posOf len r
 | _, _, _, .num _, h => by simp only [TkOk] at h; exact ⟨h.2.2, by simp only [posOf_cons]; omega⟩
 | _, _, _, .name _, h => by simp only [TkOk] at h; exact ⟨h.2.2, by simp only [posOf_cons]; omega⟩
 | _, _, _, .node _ _ _ h4, h => by
  simp only [TkOk] at h
  have := PW.tkok h4 h.2.2.2.2
  have h1 := h.2.1
  simp only [posOf_cons] at h1 ⊢
  exact ⟨this.1, by omega⟩
theorem PW.tkok {placed : Bool} {len : Nat} : ∀ {ws : List Wt} {l : List Tk} {nm rg : List UInt8} {kids : List PT} {r : List Tk}, PW placed ws l nm rg kids r → TkOk len l → TkOk len r ∧ posOf len l ≤ posOf len r
 | _, _, _, _, _, _, .nil, h => ⟨h, Nat.le_refl _⟩
 | _, _, _, _, _, _, .close _ h1, h => by simp only [TkOk] at h; have := PW.tkok h1 h.2.2; simp only [posOf_cons]; exact ⟨this.1, by omega⟩
 | _, _, _, _, _, _, .name _ h1, h => by simp only [TkOk] at h; have := PW.tkok h1 h.2.2; simp only [posOf_cons]; exact ⟨this.1, by omega⟩
 | _, _, _, _, _, _, .region _ h1, h => by simp only [TkOk] at h; have := PW.tkok h1 h.2.2; simp only [posOf_cons]; exact ⟨this.1, by omega⟩
 | _, _, _, _, _, _, .e h0 h1, h => by have a := PE.tkok h0 h; have b := PW.tkok h1 a.1; exact ⟨b.1, by omega⟩
end
theorem ins_pos {placed : Bool} (len : Nat) {pE : PS → Int × PS} {m : Nat} (hY : YesE placed pE m) (hP : YesP placed len pE m) : ∀ (is : List Ins) (l : List Tk) (nm rg : List UInt8) (kids : List PT) (r : List Tk), PW placed (is.map Ins.wt ++ [.close]) l nm rg kids r →
  l.length ≤ m → TkOk len l → ∀ (st : PS) (fs : FS), st.l = l → st.fl = none →
  ∃ t ns, (pIns len pE is fs st).2.l = t :: r ∧ (pIns len pE is fs st).2.nodes = st.nodes ++ ns ∧ PosNs kids ns (posOf len l) t.at_ ∧ 0 < t.s.length ∧ t.at_ + t.s.length ≤ posOf len r := by
 intro is
 induction is with
 | nil =>
  intro l nm rg kids r h hm ht st fs hl hf
  simp only [List.map_nil, List.nil_append] at h
  cases h with
  | close hc h1 =>
   cases h1
   simp only [TkOk] at ht
   refine ⟨_, [], by simp only [pIns]; exact hl, by simp only [pIns, List.append_nil], ?_, ht.1, ht.2.1⟩
   simp only [PosNs, posOf_cons, true_and]; exact Nat.le_refl _
 | cons i is ih =>
  intro l nm rg kids r h hm ht st fs hl hf
  cases i with
  | name =>
   simp only [List.map_cons, Ins.wt, List.cons_append] at h
   cases h with
   | name hc h1 =>
    rename_i t r1 nm1
    simp only [List.length_cons] at hm
    simp only [TkOk] at ht
    have hk : (tk1 len st.l).kind = 4 := by rw [hl]; exact (kindN_nam _).2 hc
    have hex : st.expect len 4 = { st with l := r1 } := by
     unfold PS.expect; rw [if_neg (by simp [hk])]; simp [PS.tail, hl]
    obtain ⟨t', ns, h2, h3, h4, h5⟩ := ih r1 nm1 rg kids r h1 (by omega) ht.2.2 { st with l := r1 } { fs with word := (tk1 len st.l).word } rfl hf
    refine ⟨t', ns, ?_, ?_, h4.lo (by simp only [posOf_cons]; omega), h5⟩
    ·simp only [pIns]; rw [hex]; exact h2
    ·simp only [pIns]; rw [hex]; exact h3
  | region =>
   simp only [List.map_cons, Ins.wt, List.cons_append] at h
   cases h with
   | region hc h1 =>
    rename_i t r1 rg1
    simp only [List.length_cons] at hm
    simp only [TkOk] at ht
    have hk : (tk1 len st.l).kind = 6 := by rw [hl]; exact (kindN_reg _).2 hc
    have hex : st.expect len 6 = { st with l := r1 } := by
     unfold PS.expect; rw [if_neg (by simp [hk])]; simp [PS.tail, hl]
    obtain ⟨t', ns, h2, h3, h4, h5⟩ := ih r1 nm rg1 kids r h1 (by omega) ht.2.2 { st with l := r1 } { fs with region := (tk1 len st.l).num } rfl hf
    refine ⟨t', ns, ?_, ?_, h4.lo (by simp only [posOf_cons]; omega), h5⟩
    ·simp only [pIns]; rw [hex]; exact h2
    ·simp only [pIns]; rw [hex]; exact h3
  | e =>
   simp only [List.map_cons, Ins.wt, List.cons_append] at h
   cases h with
   | e he h1 =>
    rename_i e r1 kids1
    have hlt := he.len
    have htk := he.tkok ht
    obtain ⟨ns1, hn1, hp1⟩ := hY l e r1 he hm st hl hf
    obtain ⟨ns0, hq0, hpos⟩ := hP l e r1 he hm ht st hl hf
    obtain ⟨t', ns, h2, h3, h4, h5⟩ := ih r1 nm rg kids1 r h1 (by omega) htk.1 (pE st).2 { fs with parts := fs.parts ++ [(pE st).1] } (by rw [hp1]) (by rw [hp1]; exact hf)
    refine ⟨t', ns0 ++ ns, ?_, ?_, ?_, h5⟩
    ·simp only [pIns]; exact h2
    ·simp only [pIns]; rw [h3, hq0, List.append_assoc]
    ·simp only [PosNs]; exact ⟨ns0, ns, _, rfl, hpos, h4⟩
  | body =>
   simp only [List.map_cons, Ins.wt, List.cons_append] at h
   cases h with
   | e he h1 =>
    rename_i e r1 kids1
    have hlt := he.len
    have htk := he.tkok ht
    obtain ⟨ns1, hn1, hp1⟩ := body_yes hY fs.word (fs.parts.getLastD (-1)) he hm st hl hf
    obtain ⟨ns0, hq0, hpos⟩ := body_pos hP fs.word (fs.parts.getLastD (-1)) he hm ht st hl hf
    obtain ⟨t', ns, h2, h3, h4, h5⟩ := ih r1 nm rg kids1 r h1 (by omega) htk.1 (pBody pE fs.word (fs.parts.getLastD (-1)) st).2 { fs with parts := fs.parts ++ [(pBody pE fs.word (fs.parts.getLastD (-1)) st).1] } (by rw [hp1]) (by rw [hp1]; exact hf)
    refine ⟨t', ns0 ++ ns, ?_, ?_, ?_, h5⟩
    ·simp only [pIns]; exact h2
    ·simp only [pIns]; rw [h3, hq0, List.append_assoc]
    ·simp only [PosNs]; exact ⟨ns0, ns, _, rfl, hpos, h4⟩
theorem expr_pos (placed : Bool) (len : Nat) : ∀ n : Nat, YesP placed len (pExpr placed len n) n := by
 intro n
 induction n with
 | zero =>
  intro l e r h hm
  obtain ⟨t, r', he, _⟩ := h.suffix
  rw [he] at hm; simp at hm
 | succ m ih =>
  intro l e r h hm ht st hl hf
  cases h with
  | num hc =>
   rename_i t
   simp only [TkOk] at ht
   obtain ⟨ns, hn, hp⟩ := (expr_all placed len (m + 1)).1 _ _ _ (PE.num hc) hm st hl hf
   simp only [NA] at hn
   subst hn
   refine ⟨_, by rw [hp], ⟨_, rfl, rfl, Nat.le_refl _, ?_⟩⟩
   simp only; exact ⟨by omega, ht.2.1⟩
  | name hc =>
   rename_i t
   simp only [TkOk] at ht
   obtain ⟨ns, hn, hp⟩ := (expr_all placed len (m + 1)).1 _ _ _ (PE.name hc) hm st hl hf
   simp only [NA] at hn
   subst hn
   refine ⟨_, by rw [hp], ⟨_, rfl, rfl, Nat.le_refl _, ?_⟩⟩
   simp only; exact ⟨by omega, ht.2.1⟩
  | node hc hk hw h4 =>
   rename_i t u k r0 nm rg kids
   have hkf : ¬ (formN (kindN u.c) = 0 ∨ (formN (kindN u.c) = 12 ∧ placed = false)) := by
    rw [form_wants, hk]; exact hw
   rw [insK_wants k placed hw] at h4
   simp only [List.length_cons] at hm
   simp only [TkOk] at ht
   obtain ⟨c, ns, h1, h2, h3, h5, h6⟩ := ins_pos len (expr_all placed len m).1 ih (insK k placed) r0 nm rg kids r h4 (by omega) ht.2.2.2.2 { st with opened := st.opened ++ [-1], l := r0 } ⟨[], [], 0⟩ rfl hf
   obtain ⟨c', ns', h1', _, h3'⟩ := ins_yes len (expr_all placed len m).1 (insK k placed) r0 nm rg kids r h4 (insK_wf k placed) (by omega)
     { st with opened := st.opened ++ [-1], l := r0 } ⟨[], [], 0⟩ nm rfl hf (fun e => absurd e (insK_head k placed)) (by
      split
      ·rfl
      ·rename_i hn
       have : Wt.name ∉ (insK k placed).map Ins.wt ++ [.close] := by
        intro hh
        rcases List.mem_append.1 hh with hh | hh
        ·obtain ⟨i, hi, e⟩ := List.mem_map.1 hh
         cases i with
         | name => exact hn (by simpa using hi)
         | _ => cases e
        ·simp at hh
       exact (PW.noname h4 this).symm)
   have hcc : c = c' := by rw [h3'] at h1; simp only at h1; cases h1; rfl
   subst hcc
   have h21 := ht.2.1
   simp only [posOf_cons] at h21
   have h22 := ht.2.2.2.1
   refine ⟨ns ++ [{ NR.filled ⟨formK k, t.at_, t.at_ + t.s.length, 0, [], 0, -1, -1, -1, -1⟩ (pIns len (pExpr placed len m) (insK k placed) ⟨[], [], 0⟩ { st with opened := st.opened ++ [-1], l := r0 }).1 with beh := c.at_ + c.s.length }], ?_, ⟨ns, _, rfl, rfl, Nat.le_refl _, ?_, ?_, h6⟩⟩
   ·show (pSeat (pAny len (pBracket placed len (pExpr placed len m))) st).2.nodes = _
    unfold pSeat
    rw [any_open len _ { st with opened := st.opened ++ [-1] } hl hc]
    unfold pBracket
    have htk : tk1 len (u :: r0) = tnOf u := rfl
    simp only [htk]
    rw [if_neg (by simpa [tnOf] using hkf)]
    have hform : formN (tnOf u).kind = formK k := by simp [tnOf, hk, formK]
    rw [hform, pFill_ins placed len _ k hw]
    simp only [PS.tail, List.tail_cons]
    have hkc : (tk1 len (c :: r)).kind = 3 := (kindN_cls _).2 h1'
    simp only [PS.expect, h1, hkc]
    rw [if_neg (by simp)]
    simp only [PS.tail, PS.add, h2, List.append_assoc]
    rfl
   ·exact (h3.lo (by omega)).hi (by show c.at_ ≤ c.at_ + c.s.length; omega)
   ·have hlo : posOf len r0 ≤ c.at_ := h3.le
    show t.at_ < c.at_ + c.s.length
    omega
theorem fail_nodes (a : Nat) (st : PS) : (st.fail a).nodes = st.nodes := by unfold PS.fail; split <;> rfl
theorem expect_nodes (len k : Nat) (st : PS) : (st.expect len k).nodes = st.nodes := by
 unfold PS.expect
 split
 ·rw [fail_nodes]; rfl
 ·rfl
theorem prog_pos {placed : Bool} {len : Nat} {l : List Tk} {e : PT} (h : PE placed l e []) (ht : TkOk len l) : PosN e (pProg placed len l).nodes (posOf len l) len := by
 obtain ⟨ns, h1, h2⟩ := expr_pos placed len l.length l e [] h (Nat.le_refl _) ht (ps0 l) rfl rfl
 unfold pProg
 rw [expect_nodes, h1]
 exact h2
end Go.Proofs.YtpicaknklgccoabGreatDoor
namespace Go.Proofs.YtpicaknklgccoabGreatDoor
open Go.RowKit
def nr0 : NR := ⟨0, 0, 0, 0, [], 0, 0, 0, 0, 0⟩
def newF (l : List NR) (rg : Int) : Option NR := l.find? (fun n => n.region == rg)
theorem newF_drop (l : List NR) (rg : Int) (k : Nat) (hk : k < l.length) : newF (l.drop k) rg = if l[k].region == rg then some l[k] else newF (l.drop (k + 1)) rg := by
 rw [List.drop_eq_getElem_cons hk]
 unfold newF
 rw [List.find?_cons]
 cases l[k].region == rg <;> rfl
set_option maxRecDepth 100000 in
set_option maxHeartbeats 4000000 in
theorem newOf_any (w : World) (vv : Value) (l : List NR) (rg : Int) (base : Nat) (h : w.ownsRow base 108 10 vv l.length (l.flatMap nrL)) (hl : l.length ≤ 9000) :
  Calls Tryz.prog 65 #[vv, .int .i64 rg] w fun v w' => v = .returned (.tuple #[nrVal ((newF l rg).getD nr0), .bool (newF l rg).isSome]) ∧ Below w.heap.size w w' := by
 have h0 : w.ownsRow 0 108 10 vv l.length (l.flatMap nrL) := owns_base h (fun k hk => Nat.zero_le _)
 clear h
 obtain ⟨ans, hans⟩ : ∃ ans, ans = newF l rg := ⟨_, rfl⟩
 rw [← hans]
 have HANS : Hid _ := hans
 clear hans
 rcases h0.2 with ⟨hv, hn⟩ | ⟨g, cap, cur, hv, hx⟩
 ·subst hv
  have hA : ans = none := by rw [HANS.out, List.length_eq_zero_iff.1 hn]; rfl
  subst hA
  clear h0 hn HANS
  show Calls _ _ _ _ (fun v w' => v = .returned (.tuple #[nrVal nr0, .bool false]) ∧ Below w.heap.size w w')
  unfold nrVal nr0
  go_enter Tryz.func65, Tryz.ntmps65
  go_wp2
  go_loopw [6] (fun i wr => i = .int .i64 0 ∧ Below w.heap.size w wr ∧ wr = w.alloc (nrO nr0)) (fun _ _ => 0)
  case atStart => exact ⟨rfl, (Below.refl _ w).alloc (Nat.le_refl _) _, rfl⟩
  case round =>
   obtain ⟨rfl, hb, rfl⟩ := hrel
   unfold nrO nrC nr0
   go_wp2
   refine bodyPost_ret (v := .tuple #[.agg #[.int .i64 0, .int .i64 0, .int .i64 0, .int .i64 0, .string (bs []), .int .i64 0, .int .i64 0, .int .i64 0, .int .i64 0, .int .i64 0], .bool false]) (by simp [results, Tryz.results65, go_sem]; rfl) rfl ⟨rfl, ?_⟩
   exact (Below.refl _ w).alloc (Nat.le_refl _) _
 ·subst hv
  have hcells := fun k hk => node_cells h0 k hk
  have hgl : g < w.heap.size := (h0.lt g rfl).2
  obtain ⟨m, hm⟩ : ∃ m, m = l.length := ⟨_, rfl⟩
  have HM : Hid _ := hm
  have HC : Hid _ := hcells
  rw [← hm] at hl ⊢
  clear hcells h0 hx hm
  unfold nrVal
  go_enter Tryz.func65, Tryz.ntmps65
  go_wp2
  go_loopw [6] (fun i wr => ∃ k : Nat, k ≤ m ∧ i = .int .i64 k ∧ wr = w.alloc (nrO nr0) ∧ Hid (newF l rg = newF (l.drop k) rg)) (fun i _ => m - (intOf i).toNat)
  case atStart => exact ⟨0, Nat.zero_le _, rfl, rfl, (rfl : newF l rg = newF (l.drop 0) rg)⟩
  case round =>
   obtain ⟨k, hk, rfl, rfl, HF⟩ := hrel
   unfold nrO nrC nr0
   by_cases hlt : k < m
   ·have hkl : k < l.length := by have := HM.out; omega
    obtain ⟨c0, c1, c2, c3, c4, c5, c6, c7, c8, c9⟩ := HC.out k hkl
    have hdr := newF_drop l rg k hkl
    obtain ⟨n, hn⟩ : ∃ n, n = l[k] := ⟨_, rfl⟩
    rw [← hn] at c0 c1 c2 c3 c4 c5 c6 c7 c8 c9 hdr
    clear hn
    cases hr : (n.region == rg) with
    | true =>
     have HA : Hid (ans = some n) := (show ans = some n by rw [HANS.out, HF.out, hdr, if_pos hr])
     clear hdr
     go_wp2
     refine bodyPost_ret (v := .tuple #[.agg #[.int .i64 n.form, .int .i64 n.at_, .int .i64 n.beh, .int .i64 n.num, .string (bs n.word), .int .i64 n.region, .int .i64 n.source, .int .i64 n.p0, .int .i64 n.p1, .int .i64 n.p2], .bool true]) (by simp [results, Tryz.results65, go_sem]) rfl ⟨by rw [HA.out]; rfl, ?_⟩
     exact (Below.refl _ w).alloc (Nat.le_refl _) _
    | false =>
     have HF2 : Hid (newF l rg = newF (l.drop (k + 1)) rg) := (show newF l rg = _ by rw [HF.out, hdr, if_neg (by rw [hr]; simp)])
     clear hdr
     go_wp2
     go_roundw
     case rel => exact ⟨k + 1, by omega, by go_num, rfl, HF2.out⟩
     case measure => simp [intOf]; omega
   ·have HA : Hid (ans = none) := (show ans = none by rw [HANS.out, HF.out, List.drop_eq_nil_of_le (by have := HM.out; omega)]; rfl)
    go_wp2
    refine bodyPost_ret (v := .tuple #[.agg #[.int .i64 0, .int .i64 0, .int .i64 0, .int .i64 0, .string (bs []), .int .i64 0, .int .i64 0, .int .i64 0, .int .i64 0, .int .i64 0], .bool false]) (by simp [results, Tryz.results65, go_sem]; rfl) rfl ⟨by rw [HA.out]; rfl, ?_⟩
    exact (Below.refl _ w).alloc (Nat.le_refl _) _
def newsK : List NR → List NR → List NR × Nat × Nat
 | [], l => (l, 0, 0)
 | n :: r, l => if n.form = 12 then (if (newF l n.region).isSome = true then (l, 7, n.at_) else newsK r (l ++ [n])) else newsK r l
def opNs (ns : List NR) (op : List Int) : List NR := op.map (fun x => (ns[x.toNat]?).getD nr0)
theorem opNs_len (ns : List NR) (op : List Int) : (opNs ns op).length = op.length := List.length_map _
theorem opNs_at {ns : List NR} {op : List Int} (ho : OpOk ns op) (k : Nat) (hk : k < ns.length) : ∃ (i : Nat) (n : NR), op[k]? = some (i : Int) ∧ ns[i]? = some n ∧ (opNs ns op).drop k = n :: (opNs ns op).drop (k + 1) ∧ n ∈ opNs ns op := by
 have hkl : k < op.length := by rw [ho.1]; exact hk
 obtain ⟨x0, x1⟩ := ho.2 op[k] (List.getElem_mem hkl)
 have hx : ns[op[k].toNat]? = some ns[op[k].toNat] := List.getElem?_eq_getElem x1
 refine ⟨op[k].toNat, ns[op[k].toNat], by rw [List.getElem?_eq_getElem hkl, Int.toNat_of_nonneg x0], hx, ?_, ?_⟩
 ·rw [List.drop_eq_getElem_cons (by rw [opNs_len]; exact hkl)]
  congr 1
  unfold opNs
  rw [List.getElem_map, hx]; rfl
 ·unfold opNs
  rw [List.mem_map]
  exact ⟨op[k], List.getElem_mem hkl, by rw [hx]; rfl⟩
set_option maxRecDepth 100000 in
set_option maxHeartbeats 4000000 in
theorem newsOf_any (w : World) (nv ov : Value) (ns : List NR) (op : List Int) (h : TreeIn w nv ov ns op) (ho : OpOk ns op) (hl : ns.length ≤ 9000) :
  Calls Tryz.prog 45 #[treeV nv ov] w fun v w' => ∃ vv, v = .returned (.tuple #[vv, .int .i64 (newsK (opNs ns op) []).2.1, .int .i64 (newsK (opNs ns op) []).2.2]) ∧ w'.ownsRow w.heap.size 108 10 vv (newsK (opNs ns op) []).1.length ((newsK (opNs ns op) []).1.flatMap nrL) ∧ Below w.heap.size w w' := by
 obtain ⟨i0, hi0, hz0, hz1, hz2⟩ := info_parts Tryz.infoNode
 have HI : Hid _ := hi0
 have HZ0 : Hid _ := hz0
 have HZ1 : Hid _ := hz1
 have HZ2 : Hid _ := hz2
 clear hi0 hz0 hz1 hz2
 have hlen := fun (w' : World) (hb : Below w.heap.size w w') => Len_any w' nv ov ns op (h.below hb)
 have hopn := fun (w' : World) (hb : Below w.heap.size w w') (k i : Nat) (n : NR) (hk : op[k]? = some (i : Int)) (hi : ns[i]? = some n) => Opened_in' w' nv ov ns op (h.below hb) k i n hk hi hl (by rw [ho.1]; omega)
 obtain ⟨a0, cap0, e0⟩ := slice_any h.nd
 obtain ⟨a1, cap1, e1⟩ := slice_any h.op
 rw [ho.1] at e1
 obtain ⟨m, hm⟩ : ∃ m, m = ns.length := ⟨_, rfl⟩
 rw [← hm] at e0 e1 hl
 subst e0
 subst e1
 have HO : Hid _ := ho
 have HM : Hid _ := hm
 unfold treeV at hlen hopn
 unfold treeV
 unfold nrVal at hopn
 rw [← hm] at hlen
 have HLEN : Hid _ := hlen
 have HOPN : Hid _ := hopn
 obtain ⟨ans, hans⟩ : ∃ ans, ans = newsK (opNs ns op) [] := ⟨_, rfl⟩
 rw [← hans]
 have HANS : Hid _ := hans
 clear hlen hopn ho h hm hans
 have hBx : Below w.heap.size w (w.alloc (.cells #[.slice a0 m cap0, .slice a1 m cap1] 62)) := (Below.refl _ w).alloc (Nat.le_refl _) _
 have HBX : Hid _ := hBx
 clear hBx
 go_enter Tryz.func45, Tryz.ntmps45
 go_wp2
 obtain ⟨WB, hWB⟩ : ∃ WB, WB = w.alloc (.cells #[.slice a0 m cap0, .slice a1 m cap1] 62) := ⟨_, rfl⟩
 have HWBS : Hid (WB.heap.size = w.heap.size + 1) := (show WB.heap.size = w.heap.size + 1 by rw [hWB]; simp)
 have HBXC : Hid (∀ wr, Below WB.heap.size WB wr → wr.cell? ⟨w.heap.size, 0, none⟩ = some (.slice a0 m cap0) ∧ wr.cell? ⟨w.heap.size, 1, none⟩ = some (.slice a1 m cap1) ∧ w.heap.size < wr.heap.size) := by
  intro wr hb
  rw [hWB] at hb
  exact box_cells hb
 rw [← hWB] at HBX ⊢
 have HWB : Hid _ := hWB
 clear hWB
 go_loopw [5, 6, 7, 8, 9] (fun v5 i _ _ _ wr => ∃ (k : Nat) (l : List NR) (vv : Value), k ≤ m ∧ i = .int .i64 k ∧ v5 = vv ∧ l.length ≤ k ∧ wr.ownsRow WB.heap.size 108 10 vv l.length (l.flatMap nrL) ∧ Hid (newsK (opNs ns op) [] = newsK ((opNs ns op).drop k) l) ∧ Below WB.heap.size WB wr) (fun _ i _ _ _ _ => m - (intOf i).toNat)
 case atStart =>
  refine ⟨0, [], _, Nat.zero_le _, rfl, rfl, Nat.le_refl _, ⟨rfl, Or.inr ⟨w.heap.size + 1, 0, #[], rfl, by rw [HWBS.out]; exact Nat.le_refl _, ?_, Nat.le_refl _, by unfold maxLen; omega, rfl, rfl⟩⟩, (rfl : newsK (opNs ns op) [] = newsK ((opNs ns op).drop 0) []), (Below.refl _ WB).alloc (Nat.le_refl _) _⟩
  rw [← HWBS.out]; exact blk_new _ _
 case round =>
  obtain ⟨k, l, _, hk, rfl, rfl, hlk, hown, HF, hbr⟩ := hrel
  obtain ⟨b0, b1, bl⟩ := HBXC.out _ hbr
  have hbw := HBX.out.trans (hbr.mono HBX.out.size)
  have hln := HLEN.out _ hbw
  have hbrs := hbr.size
  by_cases hlt : k < m
  ·obtain ⟨i, n, hop, hni, hdr, _⟩ := opNs_at HO.out k (by have := HM.out; omega)
   have hst := HF.out
   rw [hdr] at hst
   simp only [newsK] at hst
   have HST : Hid _ := hst
   have HOP : Hid _ := hop
   have HNI : Hid _ := hni
   have HOWN : Hid _ := hown
   have HBR : Hid _ := hbr
   clear hop hni hdr hst hown HF
   go_wp2_with fail
   refine hln.mono ?_
   rintro _ w1 ⟨rfl, hb1⟩
   have hbr1 := hbr.trans (hb1.mono hbrs)
   obtain ⟨d0, d1, dl⟩ := HBXC.out _ hbr1
   have hopn := HOPN.out w1 (HBX.out.trans (hbr1.mono HBX.out.size)) k i n HOP.out HNI.out
   have HB1 : Hid _ := hb1
   clear hbr1 hb1 hln b0 b1 hbr
   go_wp2_with fail
   refine hopn.mono ?_
   rintro _ w2 ⟨rfl, hb2⟩
   have hr2 : Below wr.heap.size wr w2 := HB1.out.trans (hb2.mono HB1.out.size)
   have hW3 : Below wr.heap.size wr (w2.alloc (nrO n)) := hr2.alloc hr2.size (nrO n)
   have hnb : (w2.alloc (nrO n)).heap[w2.heap.size]? = some (nrO n) := blk_new _ _
   have hnw := newOf_any (w2.alloc (nrO n)) u5 l n.region WB.heap.size (owns_below HOWN.out hW3) (by omega)
   have HW3 : Hid _ := hW3
   have HNB : Hid _ := hnb
   clear hb2 hr2 hW3 hnb hopn d0 d1
   by_cases h12 : n.form = 12
   ·have q12 : ((n.form : Int) == 12) = true := ibeq_true (b := 12) h12
    have hst := HST.out
    rw [if_pos h12] at hst
    have HST2 : Hid _ := hst
    clear hst HST h12
    obtain ⟨x, hx⟩ : ∃ x, x = newF l n.region := ⟨_, rfl⟩
    rw [← hx] at hnw HST2
    obtain ⟨y, hy⟩ : ∃ y, y = x.getD nr0 := ⟨_, rfl⟩
    rw [← hy] at hnw
    unfold nrVal at hnw
    unfold nrO nrC at hnw
    clear hx hy
    go_wp2_with fail
    refine hnw.mono ?_
    rintro _ w4 ⟨rfl, hb4⟩
    have hnb4 : w4.heap[w2.heap.size]? = some (nrO n) := by rw [hb4.block _ (by simp)]; exact HNB.out
    obtain ⟨d0, d1, d2, d3, d4, d5, d6, d7, d8, d9⟩ := nr_cells10 hnb4
    have hnl := blk_lt hnb4
    have hW4 : Below wr.heap.size wr w4 := HW3.out.trans (hb4.mono HW3.out.size)
    have HW4 : Hid _ := hW4
    clear hb4 hnb4 hnw hW4
    cases x with
    | some z =>
     have HA : Hid (ans = (l, 7, n.at_)) := (show ans = _ by rw [HANS.out, HST2.out]; rfl)
     have HB4 : Hid (Below WB.heap.size WB (w4.alloc (nrO y))) := by
      have := HBR.out.trans (HW4.out.mono hbrs)
      exact this.alloc this.size _
     have HO4 : Hid ((w4.alloc (nrO y)).ownsRow WB.heap.size 108 10 u5 l.length (l.flatMap nrL)) := (owns_below HOWN.out HW4.out).alloc _
     go_wp2
     go_quiet (fail)
     go_wp2
     refine bodyPost_ret (v := .tuple #[u5, .int .i64 7, .int .i64 n.at_]) (by simp [results, Tryz.results45, go_sem]) rfl ⟨u5, by rw [HA.out]; rfl, ?_, ?_⟩
     ·rw [HA.out]
      exact owns_base HO4.out (fun k hk => by have := HWBS.out; have := (World.ownsRow.lt HO4.out k hk).1; omega)
     ·exact (HBX.out.trans (HB4.out.mono HBX.out.size)).trans ⟨rfl, rfl, rfl, Nat.le_refl _, fun _ _ => rfl⟩
    | none =>
     have HN : Hid (newsK (opNs ns op) [] = newsK ((opNs ns op).drop (k + 1)) (l ++ [n])) := (show _ = _ by rw [HST2.out]; rfl)
     have HW5 : Hid (Below WB.heap.size WB ((w4.alloc (nrO y)).alloc (nrO n))) := by
      have := HBR.out.trans (HW4.out.mono hbrs)
      have h2 := this.alloc this.size (nrO y)
      exact h2.alloc h2.size _
     have HO5 : Hid (((w4.alloc (nrO y)).alloc (nrO n)).ownsRow WB.heap.size 108 10 u5 l.length (l.flatMap nrL)) := ((owns_below HOWN.out HW4.out).alloc _).alloc _
     have h45 : (w4.alloc (nrO y)).heap.size = w4.heap.size + 1 := by simp
     have HC1 : Hid (∀ (j : Nat) (u : Value), (nrL n)[j]? = some u → ((w4.alloc (nrO y)).alloc (nrO n)).cell? ((⟨w4.heap.size + 1, 0, none⟩ : Addr).add j) = some u) := by
      intro j u hj
      have hq := alloc_cell_at (w4.alloc (nrO y)) (nrL n) 108 j
      rw [h45] at hq
      rw [← hj, ← hq]; rfl
     unfold nrO nrC at HO5 HC1 HW5
     clear h45
     go_wp2_with (at_builtin; go_must (refine wpList_append_own _ rfl (.tmp 34) (.tmp 36) 60 rfl WB.heap.size 108 i0 _ 10 88 Tryz.undNodes HI.out HZ0.out HZ1.out HZ2.out rfl (by decide) u5 l.length (l.flatMap nrL) rfl HO5.out ⟨w4.heap.size + 1, 0, none⟩ 1 1 (nrL n) rfl rfl HC1.out (nr_one n) ?c3 ?c4 ?c5 ?_))
     case c3 => unfold maxLen; omega
     case c4 => omega
     case c5 => have := HW4.out.size; first | omega | (simp; omega)
     intro v' w6 hown' hgrow hnil
     have HB6 : Hid (Below WB.heap.size WB w6) := (HW5.out).grown hgrow HW5.out.size (fun b hb => (World.ownsRow.lt HO5.out b hb).1)
     have HO6 : Hid (w6.ownsRow WB.heap.size 108 10 v' (l ++ [n]).length ((l ++ [n]).flatMap nrL)) := by
      show w6.ownsRow WB.heap.size 108 10 v' (l ++ [n]).length ((l ++ [n]).flatMap nrL)
      rw [List.length_append, List.flatMap_append]
      simpa using hown'
     clear hown' hgrow hnil
     go_wp2
     go_roundw
     case rel => exact ⟨k + 1, l ++ [n], _, by omega, by go_num, rfl, by simp; omega, HO6.out, HN.out, HB6.out⟩
     case measure => simp [intOf]; omega
   ·have q12 : ((n.form : Int) == 12) = false := ibeq_false (b := 12) h12
    have hst := HST.out
    rw [if_neg h12] at hst
    have HST2 : Hid _ := hst
    have HB3 : Hid (Below WB.heap.size WB (w2.alloc (nrO n))) := HBR.out.trans (HW3.out.mono hbrs)
    have HO3 : Hid ((w2.alloc (nrO n)).ownsRow WB.heap.size 108 10 u5 l.length (l.flatMap nrL)) := owns_below HOWN.out HW3.out
    unfold nrO nrC at HB3 HO3
    clear hst HST h12 hnw
    go_wp2
    go_roundw
    case rel => exact ⟨k + 1, l, _, by omega, by go_num, rfl, by omega, HO3.out, HST2.out, HB3.out⟩
    case measure => simp [intOf]; omega
  ·have HA : Hid (ans = (l, 0, 0)) := by
    have hkm : (opNs ns op).drop k = [] := List.drop_eq_nil_of_le (by rw [opNs_len]; have := HO.out.1; have := HM.out; omega)
    rw [HANS.out, HF.out, hkm]; exact rfl
   have HBR : Hid _ := hbr
   have HOWN : Hid _ := hown
   clear hbr hown
   go_wp2_with fail
   refine hln.mono ?_
   rintro _ w1 ⟨rfl, hb1⟩
   have HB1 : Hid _ := HBX.out.trans ((HBR.out.trans (hb1.mono hbrs)).mono HBX.out.size)
   have HO1 : Hid _ := owns_below HOWN.out hb1
   clear hb1 hln
   go_wp2
   refine bodyPost_ret (v := .tuple #[u5, .int .i64 0, .int .i64 0]) (by simp [results, Tryz.results45, go_sem]) rfl ⟨u5, by rw [HA.out]; rfl, ?_, HB1.out⟩
   rw [HA.out]
   exact owns_base HO1.out (fun k hk => by have := HWBS.out; have := (World.ownsRow.lt HO1.out k hk).1; omega)
def outK (l : List NR) : List NR → Nat × Nat
 | [] => (0, 0)
 | n :: r => if n.form = 4 then (match newF l n.region with
   | some o => if n.at_ < o.at_ ∨ o.beh ≤ n.at_ then (8, n.at_) else outK l r
   | none => outK l r) else outK l r
set_option maxRecDepth 100000 in
set_option maxHeartbeats 4000000 in
theorem outside_any (w : World) (nv ov vv : Value) (ns : List NR) (op : List Int) (l : List NR) (base : Nat) (h : TreeIn w nv ov ns op) (ho : OpOk ns op) (hl : ns.length ≤ 9000) (hown : w.ownsRow base 108 10 vv l.length (l.flatMap nrL)) (hll : l.length ≤ 9000) :
  Calls Tryz.prog 46 #[treeV nv ov, vv] w fun v w' => v = .returned (.tuple #[.int .i64 (outK l (opNs ns op)).1, .int .i64 (outK l (opNs ns op)).2]) ∧ Below w.heap.size w w' := by
 have hlen := fun (w' : World) (hb : Below w.heap.size w w') => Len_any w' nv ov ns op (h.below hb)
 have hopn := fun (w' : World) (hb : Below w.heap.size w w') (k i : Nat) (n : NR) (hk : op[k]? = some (i : Int)) (hi : ns[i]? = some n) => Opened_in' w' nv ov ns op (h.below hb) k i n hk hi hl (by rw [ho.1]; omega)
 have hnwo := fun (w' : World) (hb : Below w.heap.size w w') (rg : Int) => newOf_any w' vv l rg base (owns_below hown hb) hll
 obtain ⟨a0, cap0, e0⟩ := slice_any h.nd
 obtain ⟨a1, cap1, e1⟩ := slice_any h.op
 rw [ho.1] at e1
 obtain ⟨m, hm⟩ : ∃ m, m = ns.length := ⟨_, rfl⟩
 rw [← hm] at e0 e1 hl
 subst e0
 subst e1
 have HO : Hid _ := ho
 have HM : Hid _ := hm
 unfold treeV at hlen hopn
 unfold treeV
 unfold nrVal at hopn
 rw [← hm] at hlen
 have HLEN : Hid _ := hlen
 have HOPN : Hid _ := hopn
 have HNWO : Hid _ := hnwo
 obtain ⟨ans, hans⟩ : ∃ ans, ans = outK l (opNs ns op) := ⟨_, rfl⟩
 rw [← hans]
 have HANS : Hid _ := hans
 clear hlen hopn hnwo ho h hm hans hown hll
 have hBx : Below w.heap.size w (w.alloc (.cells #[.slice a0 m cap0, .slice a1 m cap1] 62)) := (Below.refl _ w).alloc (Nat.le_refl _) _
 have HBX : Hid _ := hBx
 clear hBx
 go_enter Tryz.func46, Tryz.ntmps46
 go_wp2
 obtain ⟨WB, hWB⟩ : ∃ WB, WB = w.alloc (.cells #[.slice a0 m cap0, .slice a1 m cap1] 62) := ⟨_, rfl⟩
 have HBXC : Hid (∀ wr, Below WB.heap.size WB wr → wr.cell? ⟨w.heap.size, 0, none⟩ = some (.slice a0 m cap0) ∧ wr.cell? ⟨w.heap.size, 1, none⟩ = some (.slice a1 m cap1) ∧ w.heap.size < wr.heap.size) := by
  intro wr hb
  rw [hWB] at hb
  exact box_cells hb
 rw [← hWB] at HBX ⊢
 clear hWB
 go_loopw [6, 7, 8, 9] (fun i _ _ _ wr => ∃ (k : Nat), k ≤ m ∧ i = .int .i64 k ∧ Hid (outK l (opNs ns op) = outK l ((opNs ns op).drop k)) ∧ Below WB.heap.size WB wr) (fun i _ _ _ _ => m - (intOf i).toNat)
 case atStart => exact ⟨0, Nat.zero_le _, rfl, (rfl : outK l (opNs ns op) = outK l ((opNs ns op).drop 0)), Below.refl _ _⟩
 case round =>
  obtain ⟨k, hk, rfl, HF, hbr⟩ := hrel
  obtain ⟨b0, b1, bl⟩ := HBXC.out _ hbr
  have hbw := HBX.out.trans (hbr.mono HBX.out.size)
  have hln := HLEN.out _ hbw
  have hbrs := hbr.size
  by_cases hlt : k < m
  ·obtain ⟨i, n, hop, hni, hdr, _⟩ := opNs_at HO.out k (by have := HM.out; omega)
   have hst := HF.out
   rw [hdr] at hst
   simp only [outK] at hst
   have HST : Hid _ := hst
   have HOP : Hid _ := hop
   have HNI : Hid _ := hni
   have HBR : Hid _ := hbr
   clear hop hni hdr hst HF
   go_wp2_with fail
   refine hln.mono ?_
   rintro _ w1 ⟨rfl, hb1⟩
   have hbr1 := hbr.trans (hb1.mono hbrs)
   obtain ⟨d0, d1, dl⟩ := HBXC.out _ hbr1
   have hopn := HOPN.out w1 (HBX.out.trans (hbr1.mono HBX.out.size)) k i n HOP.out HNI.out
   have HB1 : Hid _ := hb1
   clear hbr1 hb1 hln b0 b1 hbr
   go_wp2_with fail
   refine hopn.mono ?_
   rintro _ w2 ⟨rfl, hb2⟩
   have hr2 : Below wr.heap.size wr w2 := HB1.out.trans (hb2.mono HB1.out.size)
   have hW3 : Below wr.heap.size wr (w2.alloc (nrO n)) := hr2.alloc hr2.size (nrO n)
   have hnb : (w2.alloc (nrO n)).heap[w2.heap.size]? = some (nrO n) := blk_new _ _
   have hnw := HNWO.out (w2.alloc (nrO n)) (HBX.out.trans ((HBR.out.trans (hW3.mono hbrs)).mono HBX.out.size)) n.region
   have HW3 : Hid _ := hW3
   have HNB : Hid _ := hnb
   clear hb2 hr2 hW3 hnb hopn d0 d1
   by_cases h4 : n.form = 4
   ·have q4 : ((n.form : Int) == 4) = true := ibeq_true (b := 4) h4
    have hst := HST.out
    rw [if_pos h4] at hst
    have HST2 : Hid _ := hst
    clear hst HST h4
    obtain ⟨x, hx⟩ : ∃ x, x = newF l n.region := ⟨_, rfl⟩
    rw [← hx] at hnw HST2
    obtain ⟨y, hy⟩ : ∃ y, y = x.getD nr0 := ⟨_, rfl⟩
    rw [← hy] at hnw
    have HY : Hid _ := hy
    unfold nrVal at hnw
    unfold nrO nrC at hnw
    clear hx hy
    go_wp2_with fail
    refine hnw.mono ?_
    rintro _ w4 ⟨rfl, hb4⟩
    have hnb4 : w4.heap[w2.heap.size]? = some (nrO n) := by rw [hb4.block _ (by simp)]; exact HNB.out
    obtain ⟨d0, d1, d2, d3, d4, d5, d6, d7, d8, d9⟩ := nr_cells10 hnb4
    have hnl := blk_lt hnb4
    have hW4 : Below wr.heap.size wr w4 := HW3.out.trans (hb4.mono HW3.out.size)
    have HW4 : Hid _ := hW4
    have HB4 : Hid (Below WB.heap.size WB (w4.alloc (nrO y))) := by
     have := HBR.out.trans (hW4.mono hbrs)
     exact this.alloc this.size _
    clear hb4 hnb4 hnw hW4
    cases x with
    | some z =>
     have hyz : y = z := HY.out
     subst hyz
     clear HY
     by_cases h1 : n.at_ < y.at_
     ·have HA : Hid (ans = (8, n.at_)) := (show ans = _ by rw [HANS.out, HST2.out]; simp [h1])
      have hz : (n.at_ : Int) < (y.at_ : Int) := by omega
      have hzd : decide ((n.at_ : Int) < (y.at_ : Int)) = true := by simpa using hz
      go_wp2
      go_quiet (fail)
      go_wp2
      refine bodyPost_ret (v := .tuple #[.int .i64 8, .int .i64 n.at_]) (by simp [results, Tryz.results46, go_sem]) rfl ⟨by rw [HA.out]; rfl, ?_⟩
      exact (HBX.out.trans (HB4.out.mono HBX.out.size)).trans ⟨rfl, rfl, rfl, Nat.le_refl _, fun _ _ => rfl⟩
     ·have hz : ¬ (n.at_ : Int) < (y.at_ : Int) := by omega
      have hzd : decide ((n.at_ : Int) < (y.at_ : Int)) = false := by simpa using hz
      by_cases h2 : y.beh ≤ n.at_
      ·have HA : Hid (ans = (8, n.at_)) := (show ans = _ by rw [HANS.out, HST2.out]; simp [h2])
       have hz2 : (y.beh : Int) ≤ (n.at_ : Int) := by omega
       go_wp2
       go_quiet (fail)
       go_wp2
       refine bodyPost_ret (v := .tuple #[.int .i64 8, .int .i64 n.at_]) (by simp [results, Tryz.results46, go_sem]) rfl ⟨by rw [HA.out]; rfl, ?_⟩
       exact (HBX.out.trans (HB4.out.mono HBX.out.size)).trans ⟨rfl, rfl, rfl, Nat.le_refl _, fun _ _ => rfl⟩
      ·have HN : Hid (outK l (opNs ns op) = outK l ((opNs ns op).drop (k + 1))) := (show _ = _ by rw [HST2.out]; simp [h1, h2])
       have hz2 : ¬ (y.beh : Int) ≤ (n.at_ : Int) := by omega
       have hz2d : decide ((y.beh : Int) ≤ (n.at_ : Int)) = false := by simpa using hz2
       clear HST2
       go_wp2
       go_roundw
       case rel => exact ⟨k + 1, by omega, by go_num, HN.out, HB4.out⟩
       case measure => simp [intOf]; omega
    | none =>
     have HN : Hid (outK l (opNs ns op) = outK l ((opNs ns op).drop (k + 1))) := (show _ = _ by rw [HST2.out])
     go_wp2
     go_roundw
     case rel => exact ⟨k + 1, by omega, by go_num, HN.out, HB4.out⟩
     case measure => simp [intOf]; omega
   ·have q4 : ((n.form : Int) == 4) = false := ibeq_false (b := 4) h4
    have hst := HST.out
    rw [if_neg h4] at hst
    have HST2 : Hid _ := hst
    have HB3 : Hid (Below WB.heap.size WB (w2.alloc (nrO n))) := HBR.out.trans (HW3.out.mono hbrs)
    unfold nrO nrC at HB3
    clear hst HST h4 hnw
    go_wp2
    go_roundw
    case rel => exact ⟨k + 1, by omega, by go_num, HST2.out, HB3.out⟩
    case measure => simp [intOf]; omega
  ·have HA : Hid (ans = (0, 0)) := by
    have hkm : (opNs ns op).drop k = [] := List.drop_eq_nil_of_le (by rw [opNs_len]; have := HO.out.1; have := HM.out; omega)
    rw [HANS.out, HF.out, hkm]; exact rfl
   have HBR : Hid _ := hbr
   clear hbr
   go_wp2_with fail
   refine hln.mono ?_
   rintro _ w1 ⟨rfl, hb1⟩
   have HB1 : Hid _ := HBX.out.trans ((HBR.out.trans (hb1.mono hbrs)).mono HBX.out.size)
   clear hb1 hln
   go_wp2
   refine bodyPost_ret (v := .tuple #[.int .i64 0, .int .i64 0]) (by simp [results, Tryz.results46, go_sem]) rfl ⟨by rw [HA.out]; rfl, HB1.out⟩
end Go.Proofs.YtpicaknklgccoabGreatDoor
