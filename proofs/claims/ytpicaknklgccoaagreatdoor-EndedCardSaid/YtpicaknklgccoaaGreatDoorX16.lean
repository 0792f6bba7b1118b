import Derived.Test.YtpicaknklgccoaaGreatDoorX12
import Derived.Test.YtpicaknklgccoaaGreatDoorX6
import Derived.Test.YtpicaknklgccoaaGreatDoorX2
import Derived.Test.YtpicaknklgccoaaGreatDoorX1
import Derived.Deep.LoopGhost
import Derived.Deep.DeepCutAuto
import Derived.Deep.Light
import Derived.Test.YtpicaknklgccoaaGreatDoorX14
import Derived.Test.YtpicaknklgccoaaGreatDoorX15
import Derived.Lib.AppendStr
namespace Go.Proofs.YtpicaknklgccoaaGreatDoor
open Go.RowKit
def st0 (t : PT) : TSt := ⟨0, 0, List.replicate t.cnt []⟩
mutual
theorem PE.wf {placed : Bool} : ∀ {l : List Tk} {e : PT} {r : List Tk}, PE placed l e r → e.wf
 | _, _, _, .num _ => by simp [PT.wf]
 | _, _, _, .name _ => by simp [PT.wf]
 | _, _, _, .node (k := k) _ _ h3 h4 => by
  simp only [PT.wf]
  refine ⟨?_, PW.wfl h4⟩
  rw [PW.kids_len h4]
  cases k <;> cases placed <;> first | decide | exact absurd rfl h3
theorem PW.wfl {placed : Bool} : ∀ {ws : List Wt} {l : List Tk} {nm rg : List UInt8} {kids : List PT} {r : List Tk}, PW placed ws l nm rg kids r → wfL kids
 | _, _, _, _, _, _, .nil => by simp [wfL]
 | _, _, _, _, _, _, .close _ h1 => PW.wfl h1
 | _, _, _, _, _, _, .name _ h1 => PW.wfl h1
 | _, _, _, _, _, _, .region _ h1 => PW.wfl h1
 | _, _, _, _, _, _, .e h h1 => by simp only [wfL]; exact ⟨PE.wf h, PW.wfl h1⟩
end
theorem Study_len {s : ByteArray} {placed : Bool} {e : PT} (hp : PE placed (tokens s.data.toList) e []) : e.cnt ≤ s.size := by
 have h1 := hp.used.1
 have h2 := toks_len s.data.toList.length 0 s.data.toList
 rw [size_list] at h2
 unfold tokens at h1
 rw [size_list] at h1
 simp at h1
 omega
def chkAns (e : PT) : Nat × Nat :=
 if 100 < e.prs then (3, ((e.prl[100]?).map (·.1)).getD 0)
 else ((tyFind (List.range e.prs) e 0 0 [] (st0 e)).2.e, (tyFind (List.range e.prs) e 0 0 [] (st0 e)).2.at_)
end Go.Proofs.YtpicaknklgccoaaGreatDoor
namespace Go.Proofs.YtpicaknklgccoaaGreatDoor
theorem errS_at (st : TSt) (e p : Nat) (he : e ≠ 0) : (errS st e p).e = 0 → (errS st e p).at_ = st.at_ := by
 intro h; exact absurd h (errS_e st e p he)
theorem fin_at (id p : Nat) (x : Ty × TSt) : (fin id p x).2.e = 0 → x.2.e = 0 ∧ (fin id p x).2.at_ = x.2.at_ := by
 unfold fin
 simp only
 split
 ·intro h; exact absurd h (errS_e _ _ _ (by decide))
 ·intro h; exact ⟨h, rfl⟩
theorem madeT_at (cls : List Nat) (k : Kw) (p site : Nat) (ks : List Ty) (st : TSt) : (madeT cls k p site ks st).2.e = 0 → (madeT cls k p site ks st).2.at_ = st.at_ := by
 have err : (errS st 5 p).e = 0 → (errS st 5 p).at_ = st.at_ := errS_at st 5 p (by decide)
 unfold madeT
 split <;> (first | (intro _; rfl) | exact err | (split <;> first | (intro _; rfl) | exact err))
theorem stay0 {a b : TSt} (h : a.e ≠ 0 → b.e = a.e ∧ b.at_ = a.at_) (hb : b.e = 0) : a.e = 0 := by
 by_cases e : a.e = 0
 ·exact e
 ·exact absurd ((h e).1.symm.trans hb) e
mutual
theorem tyFind_at (cls : List Nat) : ∀ (t : PT) (id site : Nat) (env : TEnv) (st : TSt), (tyFind cls t id site env st).2.e = 0 → (tyFind cls t id site env st).2.at_ = st.at_
 | .num p s, id, site, env, st => by
  simp only [tyFind]; intro h; exact (fin_at id p _ h).2
 | .name p s, id, site, env, st => by
  simp only [tyFind]
  intro h
  obtain ⟨h1, h2⟩ := fin_at id p _ h
  rw [h2]
  revert h1
  split
  ·intro _; rfl
  ·exact errS_at st 4 p (by decide)
 | .node p k nm rg kids, id, site, env, st => by
  simp only [tyFind]
  intro h
  obtain ⟨h1, h2⟩ := fin_at id p _ h
  rw [h2]
  revert h1
  split
  ·exact tyLet_at cls nm kids (id + 1) site env st
  ·have hx : (if k = .loop then tyLoop cls nm kids (id + 1) site env st else tyKids cls kids (id + 1) (site + if k = .pair then 1 else 0) env st).2.e = 0 → (if k = .loop then tyLoop cls nm kids (id + 1) site env st else tyKids cls kids (id + 1) (site + if k = .pair then 1 else 0) env st).2.at_ = st.at_ := by
    by_cases hk : k = .loop
    ·simp only [if_pos hk]; exact tyLoop_at cls nm kids _ _ env st
    ·simp only [if_neg hk]; exact tyKids_at cls kids _ _ env st
   generalize (if k = .loop then tyLoop cls nm kids (id + 1) site env st else tyKids cls kids (id + 1) (site + if k = .pair then 1 else 0) env st) = x at hx
   split
   ·rename_i hne; intro h0; exact absurd h0 hne
   ·rename_i hne
    have h0 : x.2.e = 0 := by simpa using hne
    intro h1
    rw [madeT_at cls k p site x.1 x.2 h1, hx h0]
theorem tyKids_at (cls : List Nat) : ∀ (ts : List PT) (id site : Nat) (env : TEnv) (st : TSt), (tyKids cls ts id site env st).2.e = 0 → (tyKids cls ts id site env st).2.at_ = st.at_
 | [], _, _, _, st => by simp [tyKids]
 | a :: r, id, site, env, st => by
  simp only [tyKids]
  intro h
  have h2 := tyKids_at cls r (id + a.cnt) (site + a.prs) env (tyFind cls a id site env st).2 h
  have h0 := stay0 (fun e => tyKids_stay cls r (id + a.cnt) (site + a.prs) env _ e) h
  rw [h2, tyFind_at cls a id site env st h0]
theorem tyLet_at (cls : List Nat) (nm : List UInt8) : ∀ (ts : List PT) (id site : Nat) (env : TEnv) (st : TSt), (tyLet cls nm ts id site env st).2.e = 0 → (tyLet cls nm ts id site env st).2.at_ = st.at_
 | [a, b], id, site, env, st => by
  simp only [tyLet]
  intro h
  have h2 := tyFind_at cls b (id + a.cnt) (site + a.prs) (env ++ [(nm, (tyFind cls a id site env st).1)]) (tyFind cls a id site env st).2 h
  have h0 := stay0 (fun e => tyFind_stay cls b (id + a.cnt) (site + a.prs) _ _ e) h
  rw [h2, tyFind_at cls a id site env st h0]
 | [], _, _, _, st => by simp [tyLet]
 | [_], _, _, _, st => by simp [tyLet]
 | _ :: _ :: _ :: _, _, _, _, st => by simp [tyLet]
theorem tyLoop_at (cls : List Nat) (nm : List UInt8) : ∀ (ts : List PT) (id site : Nat) (env : TEnv) (st : TSt), (tyLoop cls nm ts id site env st).2.e = 0 → (tyLoop cls nm ts id site env st).2.at_ = st.at_
 | [a, b, c], id, site, env, st => by
  simp only [tyLoop]
  intro h
  have h3 := tyFind_at cls c _ _ _ _ h
  have h0 := stay0 (fun e => tyFind_stay cls c _ _ _ _ e) h
  have h2 := tyFind_at cls b _ _ _ _ h0
  have h00 := stay0 (fun e => tyFind_stay cls b _ _ _ _ e) h0
  rw [h3, h2, tyFind_at cls a id site env st h00]
 | [], _, _, _, st => by simp [tyLoop]
 | [_], _, _, _, st => by simp [tyLoop]
 | [_, _], _, _, _, st => by simp [tyLoop]
 | _ :: _ :: _ :: _ :: _, _, _, _, st => by simp [tyLoop]
end
theorem prog_ans {e : PT} {ns : List NR} (hna : NA [] e 0 ns) : progAns ns (opn e 0) = chkAns e := by
 have hpr : (opn e 0).filterMap (pairAt ns) = e.prl.map (·.1) := opn_pairs ns e [] 0 ns hna (fun j _ => by rw [Nat.zero_add])
 have hlen : ((opn e 0).filterMap (pairAt ns)).length = e.prs := by rw [hpr, List.length_map, prl_len]
 unfold progAns chkAns manyAns
 rw [hlen]
 by_cases hm : 100 < e.prs
 ·simp only [if_pos hm]
  rw [if_pos (by decide), hpr, List.getElem?_map]
 ·simp only [if_neg hm]
  rw [if_neg (by decide), ckK_eq ns rel0]
  have hA := tyck (List.range e.prs) (fun x hx => by rw [List.mem_range] at hx; omega) e [] ns [] (st0 e) [] 0 0 hna trivial rfl ⟨by simp, by simp⟩
  have hat := tyFind_at (List.range e.prs) e 0 0 [] (st0 e)
  rcases hA with ⟨h0, h1, _⟩ | ⟨_, h1⟩
  ·rw [h1, h0, hat h0]; rfl
  ·exact h1
theorem op_ok {e : PT} {ns : List NR} (hna : NA [] e 0 ns) : OpOk ns (opn e 0) := by
 have hl := hna.len
 refine ⟨by rw [opn_len, hl], fun x hx => ?_⟩
 have := opn_in e 0 x hx
 simp only [Nat.zero_add] at this
 omega
end Go.Proofs.YtpicaknklgccoaaGreatDoor
namespace Go.Proofs.YtpicaknklgccoaaGreatDoor
open Go.RowKit
theorem kept1 {w w2 : World} {A : Obj} (hb : Below (w.alloc A).heap.size (w.alloc A) w2) : w2.heap[w.heap.size]? = some A := by
 rw [hb.block w.heap.size (by simp)]; exact blk_new w A
theorem below1 {w w2 : World} {A : Obj} (hb : Below (w.alloc A).heap.size (w.alloc A) w2) : Below w.heap.size w w2 := ((Below.refl _ w).alloc (Nat.le_refl _) A).trans (hb.mono (by simp))
set_option maxRecDepth 100000 in
set_option maxHeartbeats 8000000 in
theorem ParsePlaced_any (s : ByteArray) (w : World) (hs : s.size ≤ 9000) : Calls Tryz.prog 87 #[.string s] w fun v w' => ParseAns s true w v w' := by
 have hpr := program_any s true (w.heap.size + 1) hs _ _ _ _ _ (tokens_len s hs) (parse0 s true w (.cells #[.slice none 0 0, .slice none 0 0] 59))
 unfold ptr psCells at hpr
 unfold ParseAns
 generalize pProg true s.size (tokens s.data.toList) = P at *
 go_enter Tryz.func87, Tryz.ntmps87
 go_wp2_with fail
 refine hpr.mono ?_
 rintro v w1 ⟨sv1, nv1, ov1, hfr, hin, hv⟩
 obtain ⟨hb, hr, hsz⟩ := hfr.toBelow
 have r0 : w1.cell? ⟨w.heap.size, 0, none⟩ = some (.slice none 0 0) := by rw [blk_cell hr]; rfl
 have r1 : w1.cell? ⟨w.heap.size, 1, none⟩ = some (.slice none 0 0) := by rw [blk_cell hr]; rfl
 have f0 := blk_free hr 0
 have f1 := blk_free hr 1
 have HB : Hid _ := hb
 rcases hv with ⟨q, hfl, rfl⟩ | ⟨hfl, rfl⟩
 ·have HFL : Hid _ := hfl
  unfold treeV
  clear hfl hfr hin hb hr hpr
  go_wp2
  refine bodyPost_ret (v := .tuple #[.agg #[.slice none 0 0, .slice none 0 0], .int .i64 q, .bool false]) (by simp [results, Tryz.results87, go_sem, r0, r1]) rfl ⟨?_, Or.inl ⟨q, HFL.out, rfl⟩⟩
  exact (HB.out.setCell (p := ⟨w.heap.size, 0, none⟩) (Nat.le_refl _) _).setCell (p := ⟨w.heap.size, 1, none⟩) (Nat.le_refl _) _
 ·have HFL : Hid _ := hfl
  obtain ⟨x6, n6, c6, e6⟩ : ∃ a n c, nv1 = .slice a n c := by
   rcases hin.nd.2 with ⟨h1, _⟩ | ⟨g, cap, cur, h1, _⟩
   ·exact ⟨_, _, _, h1⟩
   ·exact ⟨_, _, _, h1⟩
  obtain ⟨x7, n7, c7, e7⟩ : ∃ a n c, ov1 = .slice a n c := by
   rcases hin.op.2 with ⟨h1, _⟩ | ⟨g, cap, cur, h1, _⟩
   ·exact ⟨_, _, _, h1⟩
   ·exact ⟨_, _, _, h1⟩
  have hrn : ∀ k, nv1.ownBlock = some k → k ≠ w.heap.size := fun k hk => by
   rcases hfr.n k hk with e | e
   ·simp [Value.ownBlock] at e
   ·simp at e; omega
  have hro : ∀ k, ov1.ownBlock = some k → k ≠ w.heap.size := fun k hk => by
   rcases hfr.o k hk with e | e
   ·simp [Value.ownBlock] at e
   ·simp at e; omega
  subst e6
  subst e7
  have HT : Hid (TreeIn ((w1.setCell ⟨w.heap.size, 0, none⟩ (.slice x6 n6 c6)).setCell ⟨w.heap.size, 1, none⟩ (.slice x7 n7 c7)) (.slice x6 n6 c6) (.slice x7 n7 c7) P.nodes P.opened) := by
   refine ⟨owns_blk hin.nd (fun k hk => ?_), owns_blk hin.op (fun k hk => ?_)⟩
   ·rw [blk_other _ _ (by simpa using hrn k hk), blk_other _ _ (by simpa using hrn k hk)]
   ·rw [blk_other _ _ (by simpa using hro k hk), blk_other _ _ (by simpa using hro k hk)]
  unfold treeV
  clear hfl hfr hin hb hr hpr hrn hro
  go_wp2
  refine bodyPost_ret (v := .tuple #[.agg #[.slice x6 n6 c6, .slice x7 n7 c7], .int .i64 0, .bool true]) (by simp [results, Tryz.results87, go_sem, r0, r1]) rfl ⟨?_, Or.inr ⟨HFL.out, _, _, rfl, HT.out⟩⟩
  exact (HB.out.setCell (p := ⟨w.heap.size, 0, none⟩) (Nat.le_refl _) _).setCell (p := ⟨w.heap.size, 1, none⟩) (Nat.le_refl _) _
end Go.Proofs.YtpicaknklgccoaaGreatDoor
namespace Go.Proofs.YtpicaknklgccoaaGreatDoor
open Go.RowKit
open Go.Lib (strCells)
theorem run_append_str {P : Program} (w : World) (t u ty e : TypeId) (i : TypeInfo) (ht : P.underlying t = some (.slice e)) (hu : P.underlying u = some .string) (hi : P.info? e = some i) (hz : i.zero = some (.int .u8 0))
  (hsize : i.size = 1) (hby : i.bytes = 1) (base : Nat) (v : Value) (n : Nat) (xs : List Value) (hown : w.ownsRow base e 1 v n xs) (s : ByteArray) (hlim : n + s.size ≤ 140737488355328) (hbase : base ≤ w.heap.size) :
  ∃ v' w', (Builtin.append_ #[t, u] ty #[v, .string s]).run P w = .ok v' w' ∧ w'.ownsRow base e 1 v' (n + s.size) (xs ++ strCells s) ∧ w.grownBy w' v.ownBlock ∧ (∀ g, v'.ownBlock = some g → v.ownBlock = some g ∨ w.heap.size ≤ g) := by
 have h63 : n + s.size ≤ maxLen := by unfold maxLen; omega
 obtain ⟨v', w', hr, h2, h3, h4⟩ := Lib.run_append_own_string (P := P) w base t u ty e i ht hu hi hz hsize hby v n xs hown s h63 hlim hbase
 refine ⟨v', w', hr, h2, h3, ?_⟩
 intro g hg
 rcases hown.2 with ⟨hv, hn0⟩ | ⟨g0, cap, cur, hv, hgb, hh, hn', hcm, hcs, htake⟩
 ·subst hv
  subst hn0
  have hx : xs = [] := List.eq_nil_of_length_eq_zero (by simpa using hown.1)
  subst hx
  obtain ⟨v2, w2, hr2, k2, _, _⟩ := Lib.run_append_own_string (P := P) w w.heap.size t u ty e i ht hu hi hz hsize hby (.slice none 0 0) 0 [] (World.ownsRow_nil w _ e 1) s h63 hlim (Nat.le_refl _)
  rw [hr] at hr2
  cases hr2
  exact Or.inr (k2.lt g hg).1
 ·subst hv
  by_cases hroom : n + s.size ≤ cap
  ·have hr2 := Lib.run_append_room_string (P := P) w t u ty e i ht hu hi hsize g0 n cap cur hh s hroom (by omega)
   rw [hr] at hr2
   cases hr2
   exact Or.inl hg
  ·have hr2 := Lib.run_append_grow_string (P := P) w t u ty e i (.int .u8 0) ht hu hi hz ⟨g0, 0, none⟩ n cap xs (by rw [hsize]; exact hown.1) (hown.cells (g := g0) rfl) s (by omega) (by unfold maxLen at h63; omega) (by rw [hby]; exact growslice_fits (by omega) (by omega))
   rw [hr] at hr2
   cases hr2
   simp [Value.ownBlock] at hg
   exact Or.inr (by omega)
theorem wpList_append_str {P : Program} {w : World} {ops : Array Oper} {rest : List Oper} {o : Oper} {a : Act} {Q : Exit → Act → World → Prop} (hgd : o.guard = none) (sl x : Operand) (t u : TypeId)
  (ho : o.op = .call { callee := .builtin .append, args := #[sl, x], argTypes := #[t, u] }) (base : Nat) (e : TypeId) (i : TypeInfo) (ht : P.underlying t = some (.slice e)) (hu : P.underlying u = some .string) (hi : P.info? e = some i) (hz : i.zero = some (.int .u8 0))
  (hsize : i.size = 1) (hby : i.bytes = 1) (v : Value) (n : Nat) (xs : List Value) (hs : a.eval sl = v) (hown : w.ownsRow base e 1 v n xs) (s : ByteArray) (hx : a.eval x = .string s) (hlim : n + s.size ≤ 140737488355328) (hbase : base ≤ w.heap.size)
  (h : ∀ v' w', w'.ownsRow base e 1 v' (n + s.size) (xs ++ strCells s) → w.grownBy w' v.ownBlock → (∀ g, v'.ownBlock = some g → v.ownBlock = some g ∨ w.heap.size ≤ g) → wpList P ops Q rest (a.put o.dst v') w') : wpList P ops Q (o :: rest) a w := by
 refine wpList_plain hgd fun K hK => ?_
 obtain ⟨v', w', hr, h2, h3, h4⟩ := run_append_str (P := P) w t u o.type e i ht hu hi hz hsize hby base v n xs hown s hlim hbase
 unfold Oper.wp execOp
 simp only [ho, resolve, invoke, builtin, Sem.run_bind, Sem.run_pure, Result.andThen_ok, List.map_toArray, List.map_cons, List.map_nil, hs, hx, hr]
 exact hK _ _ (h v' w' h2 h3 h4)
theorem Tryz.infoU8 : (Tryz.prog.info? 5).map (fun i => (i.zero, i.size, i.bytes)) = some (some (.int .u8 0), 1, 1) := by kernel_rfl
theorem Tryz.undBytes : Tryz.prog.underlying 121 = some (.slice 5) := by kernel_rfl
theorem Tryz.undStr : Tryz.prog.underlying 9 = some .string := by kernel_rfl
structure Ly where
 lr : Value
 la : Value
 regs : List Int
 news : List Int
structure WIn (L : Ly) (wb : Nat) (w : World) (nv ov v : Value) (tx : List UInt8) : Prop where
 blk : w.heap[wb]? = some (.cells #[nv, ov, L.lr, L.la, v] 123 (0, 0))
 row : w.ownsRow (wb + 1) 5 1 v tx.length (strCells (bs tx))
structure WFr (wb : Nat) (w w' : World) (v v' : Value) : Prop where
 os : w'.os = w.os
 tape : w'.tape = w.tape
 output : w'.output = w.output
 size : w.heap.size ≤ w'.heap.size
 blk : ∀ k, k < w.heap.size → k ≠ wb → v.ownBlock ≠ some k → w'.heap[k]? = w.heap[k]?
 o : ∀ g, v'.ownBlock = some g → v.ownBlock = some g ∨ w.heap.size ≤ g
theorem WFr.refl (wb : Nat) (w : World) (v : Value) : WFr wb w w v v := ⟨rfl, rfl, rfl, Nat.le_refl _, fun _ _ _ _ => rfl, fun _ h => Or.inl h⟩
theorem WFr.trans {wb : Nat} {w w1 w2 : World} {v v1 v2 : Value} (h : WFr wb w w1 v v1) (h' : WFr wb w1 w2 v1 v2) : WFr wb w w2 v v2 := by
 refine ⟨h'.os.trans h.os, h'.tape.trans h.tape, h'.output.trans h.output, Nat.le_trans h.size h'.size, ?_, ?_⟩
 ·intro k hk hp ho
  rw [h'.blk k (Nat.lt_of_lt_of_le hk h.size) hp (fun e => by rcases h.o k e with e | e; exact ho e; omega)]
  exact h.blk k hk hp ho
 ·intro g hg
  rcases h'.o g hg with e | e
  ·exact h.o g e
  ·exact Or.inr (Nat.le_trans h.size e)
theorem WFr.of_below {wb : Nat} {w w' : World} (v : Value) (h : Below w.heap.size w w') : WFr wb w w' v v := ⟨h.os, h.tape, h.output, h.size, fun k hk _ _ => h.block k hk, fun _ h => Or.inl h⟩
theorem WIn.below {L : Ly} {wb : Nat} {w w' : World} {nv ov v : Value} {tx : List UInt8} (h : WIn L wb w nv ov v tx) (hb : Below w.heap.size w w') : WIn L wb w' nv ov v tx :=
 ⟨by rw [hb.block wb (blk_lt h.blk)]; exact h.blk, owns_below h.row hb⟩
set_option maxRecDepth 100000 in
set_option maxHeartbeats 1000000 in
theorem put_any {L : Ly} (wb : Nat) (w : World) (nv ov v : Value) (tx s : List UInt8) (h : WIn L wb w nv ov v tx) (hl : tx.length + s.length ≤ 400000000) :
  Calls Tryz.prog 111 #[.pointer (some ⟨wb, 0, none⟩), .string (bs s)] w fun e w' => ∃ v', e = .returned (.tuple #[]) ∧ WFr wb w w' v v' ∧ WIn L wb w' nv ov v' (tx ++ s) := by
 obtain ⟨i0, hi, hz0, hz1, hz2⟩ := info_parts Tryz.infoU8
 have HI : Hid _ := hi
 have HZ0 : Hid _ := hz0
 have HZ1 : Hid _ := hz1
 have HZ2 : Hid _ := hz2
 clear hi hz0 hz1 hz2
 have hb := h.blk
 have hlt := blk_lt hb
 have x2 : w.cell? ⟨wb, 4, none⟩ = some v := by rw [blk_cell hb]; rfl
 have hsl := bs_size s
 obtain ⟨xa, xn, xc, hv⟩ : ∃ a n c, v = .slice a n c := by
  rcases h.row.2 with ⟨h1, _⟩ | ⟨g, cap, cur, h1, _⟩
  ·exact ⟨_, _, _, h1⟩
  ·exact ⟨_, _, _, h1⟩
 subst hv
 have HW : Hid _ := h
 have HBK : Hid _ := hb
 clear h hb
 go_enter Tryz.func111, Tryz.ntmps111
 go_wp2_with (at_builtin; go_must (refine wpList_append_str rfl (.tmp 8) (.tmp 9) 121 9 rfl (wb + 1) 5 i0 Tryz.undBytes Tryz.undStr HI.out HZ0.out HZ1.out HZ2.out _ tx.length (strCells (bs tx)) rfl HW.out.row (bs s) rfl (by omega) (by omega) ?_))
 intro v' w1 hown hgrow hfresh
 obtain ⟨ya, yn, yc, hv'⟩ : ∃ a n c, v' = .slice a n c := by
  rcases hown.2 with ⟨h1, _⟩ | ⟨g, cap, cur, h1, _⟩
  ·exact ⟨_, _, _, h1⟩
  ·exact ⟨_, _, _, h1⟩
 subst hv'
 have hnb : (Value.slice xa xn xc).ownBlock ≠ some wb := fun e => by have := (HW.out.row.lt wb e).1; omega
 have hb1 : w1.heap[wb]? = some (.cells #[nv, ov, L.lr, L.la, .slice xa xn xc] 123 (0, 0)) := by rw [hgrow.block wb hlt (fun e => hnb e.symm)]; exact HBK.out
 have x2' : w1.cell? ⟨wb, 4, none⟩ = some (.slice xa xn xc) := by rw [blk_cell hb1]; rfl
 have f2 := blk_free hb1 4
 have hlt1 := blk_lt hb1
 have hset := blk_set hb1 4 (.slice ya yn yc)
 have HSET : Hid _ := hset
 have HO : Hid (w1.ownsRow (wb + 1) 5 1 (.slice ya yn yc) (tx.length + s.length) (strCells (bs tx) ++ strCells (bs s))) := hown
 have HG : Hid _ := hgrow
 have HF : Hid _ := hfresh
 clear hown hgrow hfresh hb1 hset
 go_wp2
 refine bodyPost_end (v := .tuple #[]) (by simp [results, Tryz.results111, go_sem]) rfl ⟨.slice ya yn yc, rfl, ?_, ?_⟩
 ·refine ⟨HG.out.os, HG.out.tape, HG.out.output, by have := HG.out.size; simp [World.setCell]; omega, ?_, HF.out⟩
  intro k hk hkw hko
  rw [blk_other _ _ (by simpa using hkw)]
  exact HG.out.block k hk (fun e => hko e.symm)
 ·refine ⟨HSET.out, ?_⟩
  have e : strCells (bs tx) ++ strCells (bs s) = strCells (bs (tx ++ s)) := by simp [strCells, bs]
  have h := HO.out
  rw [e] at h
  rw [List.length_append]
  refine owns_blk h (fun k hk => blk_other _ _ ?_)
  have := (h.lt k hk).1
  simp only; omega
end Go.Proofs.YtpicaknklgccoaaGreatDoor
namespace Go.Proofs.YtpicaknklgccoaaGreatDoor
open Go.RowKit
open Go.Lib (decDigits)
mutual
def Shows (ns : List NR) : PT → Nat → Prop
 | .num _ s, base => ∃ n, ns[base]? = some n ∧ n.form = 1 ∧ n.num = valueL s
 | .name _ s, base => ∃ n, ns[base]? = some n ∧ n.form = 2 ∧ n.word = s
 | .node _ k nm _ kids, base => (∃ n, ns[base + cntL kids]? = some n ∧ n.form = formK k ∧ n.word = nm ∧ n.p0 = (partsL kids base).getD 0 (-1) ∧ n.p1 = (partsL kids base).getD 1 (-1) ∧ n.p2 = (partsL kids base).getD 2 (-1)) ∧ ShowsL ns kids base
def ShowsL (ns : List NR) : List PT → Nat → Prop
 | [], _ => True
 | t :: r, base => Shows ns t base ∧ ShowsL ns r (base + t.cnt)
end
theorem at_mid {α : Type} (pre a post : List α) (j : Nat) (x : α) (h : a[j]? = some x) : (pre ++ (a ++ post))[pre.length + j]? = some x := by
 have hj := (List.getElem?_eq_some_iff.1 h).1
 rw [List.getElem?_append_right (by omega), Nat.add_sub_cancel_left, List.getElem?_append_left hj]; exact h
mutual
theorem NA.shows : ∀ {scope : Sc} {t : PT} {base : Nat} {ms : List NR}, NA scope t base ms → ∀ (pre post : List NR), pre.length = base → Shows (pre ++ (ms ++ post)) t base
 | _, .num _ s, _, _, h, pre, post, hb => by
  simp only [NA] at h; subst h; subst hb
  simp only [Shows]
  exact ⟨_, at_mid pre _ post 0 _ rfl, rfl, rfl⟩
 | _, .name _ s, _, _, h, pre, post, hb => by
  simp only [NA] at h; subst h; subst hb
  simp only [Shows]
  exact ⟨_, at_mid pre _ post 0 _ rfl, rfl, rfl⟩
 | _, .node p k nm rg kids, base, _, h, pre, post, hb => by
  simp only [NA] at h
  obtain ⟨ks, beh, h1, rfl⟩ := h
  have hl := NAs.len h1
  simp only [Shows]
  refine ⟨⟨⟨formK k, p, beh, 0, nm, valueL rg, -1, (partsL kids base).getD 0 (-1), (partsL kids base).getD 1 (-1), (partsL kids base).getD 2 (-1)⟩, ?_, rfl, rfl, rfl, rfl, rfl⟩, ?_⟩
  ·rw [← hl]; conv => lhs; rw [show base + ks.length = pre.length + ks.length from by rw [hb]]
   refine at_mid pre _ post ks.length _ ?_
   rw [List.getElem?_append_right (Nat.le_refl _), Nat.sub_self]; rfl
  ·have h2 := NAs.shows h1 pre (⟨formK k, p, beh, 0, nm, valueL rg, -1, (partsL kids base).getD 0 (-1), (partsL kids base).getD 1 (-1), (partsL kids base).getD 2 (-1)⟩ :: post) hb
   rw [List.append_assoc, List.singleton_append]
   exact h2
theorem NAs.shows : ∀ {scope : Sc} {nm : List UInt8} {ts : List PT} {bs : List Bool} {base : Nat} {ms : List NR}, NAs scope nm ts bs base ms → ∀ (pre post : List NR), pre.length = base → ShowsL (pre ++ (ms ++ post)) ts base
 | _, _, [], _, _, _, _, _, _, _ => by simp [ShowsL]
 | _, _, _ :: _, [], _, _, h, _, _, _ => by simp [NAs] at h
 | _, _, t :: r, b :: bs, _, _, h, pre, post, hb => by
  simp only [NAs] at h
  obtain ⟨a, c, h1, h2, rfl⟩ := h
  have hl := NA.len h1
  simp only [ShowsL]
  constructor
  ·have := NA.shows h1 pre (c ++ post) hb
   rw [List.append_assoc]; exact this
  ·have := NAs.shows h2 (pre ++ a) post (by rw [List.length_append, hl, hb])
   simp only [List.append_assoc] at this ⊢; exact this
end
theorem NA.shows0 {scope : Sc} {t : PT} {ns : List NR} (h : NA scope t 0 ns) : Shows ns t 0 := by
 have := NA.shows h [] [] rfl
 simpa using this
theorem wordOf_any (k : Kw) (w : World) (hk : k ≠ .new) : Calls Tryz.prog 169 #[.int .i64 (formK k)] w fun v w' => v = .returned (.string (bs k.bytes)) ∧ w' = w := by
 cases k <;> first | exact absurd rfl hk | (go_enter Tryz.func169, Tryz.ntmps169; go_wp2; go_ret; exact ⟨rfl, rfl⟩)
def behK : Kw → Int
 | .let_ => 0
 | .loop => 1
 | _ => -1
theorem partBehindName_any (k : Kw) (w : World) : Calls Tryz.prog 170 #[.int .i64 (formK k)] w fun v w' => v = .returned (.int .i64 (behK k)) ∧ w' = w := by
 cases k <;> (go_enter Tryz.func170, Tryz.ntmps170; go_wp2; go_ret; exact ⟨rfl, rfl⟩)
def opR (r : Nat) : List UInt8 := [40, 110, 101, 119] ++ ([32, 35] ++ (decDigits r ++ [32]))
def opT : List Int → Nat → Int → List UInt8
 | [], _, _ => []
 | a :: l, r, i => (if a = i then opR r else []) ++ opT l (r + 1) i
def clN (news : List Int) (i : Int) : Nat := (news.filter (· == i)).length
def clT (news : List Int) (i : Int) : List UInt8 := List.replicate (clN news i) 41
def rgV (regs : List Int) (i : Nat) : Int := (regs[i]?).getD (-1)
def rgT (regs : List Int) (i : Nat) : List UInt8 := if rgV regs i = -1 then [] else [32, 35] ++ decDigits (rgV regs i).toNat
mutual
def PT.ftx (regs news : List Int) : PT → Nat → List UInt8
 | .num _ s, _ => decDigits (valueL s).toNat
 | .name _ s, _ => s
 | .node _ k nm _ kids, b => if k = .new then (wtxL regs news kids b).headD [] else 40 :: (k.bytes ++ (rgT regs (b + cntL kids) ++ (joinT k nm 0 (wtxL regs news kids b) ++ [41])))
def wtxL (regs news : List Int) : List PT → Nat → List (List UInt8)
 | [], _ => []
 | t :: r, b => (opT news 0 ((b + t.cnt : Nat) - 1 : Int) ++ (PT.ftx regs news t b ++ clT news ((b + t.cnt : Nat) - 1 : Int))) :: wtxL regs news r (b + t.cnt)
end
def PT.wtx (regs news : List Int) (t : PT) (b : Nat) : List UInt8 := opT news 0 ((b + t.cnt : Nat) - 1 : Int) ++ (t.ftx regs news b ++ clT news ((b + t.cnt : Nat) - 1 : Int))
theorem opT_snoc (i a : Int) : ∀ (l : List Int) (r : Nat), opT (l ++ [a]) r i = opT l r i ++ (if a = i then opR (r + l.length) else [])
 | [], r => by simp [opT]
 | x :: l, r => by
  simp only [List.cons_append, opT, opT_snoc i a l (r + 1), List.append_assoc, List.length_cons]
  rw [show r + 1 + l.length = r + (l.length + 1) by omega]
theorem clN_snoc (l : List Int) (a i : Int) : clN (l ++ [a]) i = clN l i + (if a = i then 1 else 0) := by
 unfold clN
 rw [List.filter_append, List.length_append]
 by_cases h : a = i <;> simp [h]
theorem opR_len (r : Nat) (h : r ≤ 9999) : (opR r).length ≤ 11 := by
 have := dec_len4 r h
 unfold opR; simp only [List.length_append, List.length_cons, List.length_nil]; omega
theorem opT_len (i : Int) : ∀ (l : List Int) (r : Nat), r + l.length ≤ 9999 → (opT l r i).length ≤ 11 * l.length
 | [], _, _ => by simp [opT]
 | a :: l, r, h => by
  simp only [List.length_cons] at h
  have h1 := opT_len i l (r + 1) (by omega)
  have h2 := opR_len r (by omega)
  simp only [opT, List.length_append, List.length_cons]
  split
  ·omega
  ·simp only [List.length_nil]; omega
theorem clN_le (l : List Int) (i : Int) : clN l i ≤ l.length := List.length_filter_le _ _
theorem rgT_len (regs : List Int) (i : Nat) (h : rgV regs i ≤ 9999) : (rgT regs i).length ≤ 6 := by
 unfold rgT
 split
 ·simp
 ·have := dec_len4 (rgV regs i).toNat (by omega)
  simp only [List.length_append, List.length_cons, List.length_nil]; omega
structure LyB (regs news : List Int) : Prop where
 n : news.length ≤ 150
 r : ∀ i, rgV regs i ≤ 9999
theorem joinT_piece (k : Kw) (nm : List UInt8) (h : nm.length ≤ 9000) : ∀ (l : List (List UInt8)) (i : Nat) (B : Nat), (l.map fun x => x.length + 9002).sum ≤ B → (joinT k nm i l).length ≤ B
 | [], _, _, _ => by simp [joinT]
 | x :: r, i, B, hb => by
  simp only [List.map_cons, List.sum_cons] at hb
  have h1 := joinT_piece k nm h r (i + 1) (B - (x.length + 9002)) (by omega)
  have h2 := pieceT_len k nm i x h
  simp only [joinT, List.length_append]; omega
mutual
theorem ftx_len {regs news : List Int} (H : LyB regs news) : ∀ (t : PT) (b : Nat), t.tame → (t.ftx regs news b).length + 9002 + 1800 ≤ 20000 * t.cnt
 | .num _ s, _, h => by
  simp only [PT.tame] at h
  simp only [PT.ftx, PT.cnt]
  have := dec_len4 (valueL s).toNat (by omega)
  omega
 | .name _ s, _, h => by simp only [PT.tame] at h; simp only [PT.ftx, PT.cnt]; omega
 | .node _ k nm _ kids, b, h => by
  simp only [PT.tame] at h
  have h0 := wtxL_len H kids b h.2
  have h1 := joinT_piece k nm h.1 (wtxL regs news kids b) 0 _ h0
  have h3 : k.bytes.length ≤ 4 := by cases k <;> decide
  have h4 := rgT_len regs (b + cntL kids) (H.r _)
  have h5 : ((wtxL regs news kids b).headD []).length ≤ 20000 * cntL kids := by
   cases hw : wtxL regs news kids b with
   | nil => simp
   | cons x r => rw [hw] at h0; simp only [List.map_cons, List.sum_cons, List.headD_cons] at h0 ⊢; omega
  simp only [PT.ftx, PT.cnt]
  split
  ·omega
  ·simp only [List.length_cons, List.length_append, List.length_nil]; omega
theorem wtxL_len {regs news : List Int} (H : LyB regs news) : ∀ (ts : List PT) (b : Nat), tameL ts → ((wtxL regs news ts b).map fun x => x.length + 9002).sum ≤ 20000 * cntL ts
 | [], _, _ => by simp [wtxL]
 | t :: r, b, h => by
  simp only [tameL] at h
  have h1 := ftx_len H t b h.1
  have h2 := wtxL_len H r (b + t.cnt) h.2
  have h3 := opT_len ((b + t.cnt : Nat) - 1 : Int) news 0 (by have := H.n; omega)
  have h4 := clN_le news ((b + t.cnt : Nat) - 1 : Int)
  have h5 := H.n
  simp only [wtxL, List.map_cons, List.sum_cons, cntL, List.length_append, clT, List.length_replicate]
  omega
end
theorem wtxL_take (regs news : List Int) : ∀ (ts : List PT) (b j : Nat), wtxL regs news (ts.take j) b = (wtxL regs news ts b).take j
 | [], b, j => by simp [wtxL]
 | t :: r, b, 0 => by simp [wtxL]
 | t :: r, b, j + 1 => by simp [wtxL, wtxL_take regs news r (b + t.cnt) j]
theorem wtxL_get (regs news : List Int) : ∀ (ts : List PT) (b j : Nat) (x : PT), ts[j]? = some x → (wtxL regs news ts b)[j]? = some (x.wtx regs news (b + cntL (ts.take j)))
 | [], _, _, _, h => by simp at h
 | t :: r, b, 0, x, h => by simp only [List.getElem?_cons_zero, Option.some.injEq] at h; subst h; simp [wtxL, PT.wtx, cntL]
 | t :: r, b, j + 1, x, h => by
  have := wtxL_get regs news r (b + t.cnt) j x (by simpa using h)
  simp only [wtxL, List.getElem?_cons_succ, List.take_succ_cons, cntL, ← Nat.add_assoc]
  exact this
theorem wtxL_length (regs news : List Int) : ∀ (ts : List PT) (b : Nat), (wtxL regs news ts b).length = ts.length
 | [], _ => rfl
 | t :: r, b => by simp [wtxL, wtxL_length regs news r]
def accW (regs news : List Int) (k : Kw) (nm : List UInt8) (kids : List PT) (b i j : Nat) : List UInt8 := 40 :: (k.bytes ++ (rgT regs i ++ joinT k nm 0 (wtxL regs news (kids.take j) b)))
theorem accW_succ (regs news : List Int) (k : Kw) (nm : List UInt8) (kids : List PT) (b i j : Nat) (x : PT) (hx : kids[j]? = some x) : accW regs news k nm kids b i (j + 1) = accW regs news k nm kids b i j ++ pieceT k nm j (x.wtx regs news (b + cntL (kids.take j))) := by
 have hlt : j < kids.length := (List.getElem?_eq_some_iff.1 hx).1
 unfold accW
 rw [wtxL_take, wtxL_take, List.take_add_one, wtxL_get regs news kids b j x hx]
 simp only [Option.toList_some]
 rw [joinT_snoc, List.length_take, wtxL_length, Nat.min_eq_left (by omega), Nat.zero_add]
 simp [List.append_assoc]
theorem accW_len {regs news : List Int} (H : LyB regs news) (k : Kw) (nm : List UInt8) (kids : List PT) (b i j : Nat) (hn : nm.length ≤ 9000) (ht : tameL kids) : (accW regs news k nm kids b i j).length ≤ 11 + 20000 * cntL (kids.take j) := by
 have h0 := wtxL_len H (kids.take j) b (tameL_take kids j ht)
 have h1 := joinT_piece k nm hn (wtxL regs news (kids.take j) b) 0 _ h0
 have h3 : k.bytes.length ≤ 4 := by cases k <;> decide
 have h4 := rgT_len regs i (H.r _)
 unfold accW
 simp only [List.length_cons, List.length_append]
 omega
theorem accW_end (regs news : List Int) (p : Nat) (k : Kw) (nm rg : List UInt8) (kids : List PT) (b : Nat) (hk : k ≠ .new) : accW regs news k nm kids b (b + cntL kids) kids.length ++ [41] = (PT.node p k nm rg kids).ftx regs news b := by
 unfold accW
 simp [PT.ftx, hk]
def intVs (l : List Int) : List Value := l.map fun k => Value.int .i64 k
structure LyIn (w : World) (L : Ly) : Prop where
 r : w.ownsRow 0 3 1 L.lr L.regs.length (intVs L.regs)
 a : w.ownsRow 0 3 1 L.la L.news.length (intVs L.news)
theorem LyIn.below {w w' : World} {L : Ly} (h : LyIn w L) (hb : Below w.heap.size w w') : LyIn w' L := ⟨owns_below h.r hb, owns_below h.a hb⟩
structure WEnv (L : Ly) (wb : Nat) (w : World) (nv ov : Value) (ns : List NR) (op : List Int) : Prop where
 tree : ∀ w', Below wb w w' → TreeIn w' nv ov ns op
 tab : Lib.TabBelow Tryz.prog wb w "internal/strconv.uint64pow10" .u64 Lib.pow10Tab
 len : ns.length ≤ 9000
 lay : ∀ w', Below wb w w' → LyIn w' L
 bd : LyB L.regs L.news
 rl : L.regs.length ≤ 9000
theorem WEnv.on {L : Ly} {wb : Nat} {w w1 : World} {nv ov : Value} {ns : List NR} {op : List Int} (h : WEnv L wb w nv ov ns op) (hb : Below wb w w1) : WEnv L wb w1 nv ov ns op := ⟨fun w' h' => h.tree w' (hb.trans h'), h.tab.on hb, h.len, fun w' h' => h.lay w' (hb.trans h'), h.bd, h.rl⟩
theorem WFr.below {wb : Nat} {w w' : World} {v v' : Value} (h : WFr wb w w' v v') (hw : wb ≤ w.heap.size) (hv : ∀ g, v.ownBlock = some g → wb < g) : Below wb w w' :=
 ⟨h.os, h.tape, h.output, h.size, fun k hk => h.blk k (by omega) (by omega) (fun e => by have := hv k e; omega)⟩
theorem WIn.fr {L : Ly} {wb : Nat} {w w' : World} {nv ov v v' : Value} {tx : List UInt8} (h : WIn L wb w nv ov v tx) (hf : WFr wb w w' v v') : Below wb w w' :=
 hf.below (Nat.le_of_lt (blk_lt h.blk)) (fun g hg => by have := (h.row.lt g hg).1; omega)
def ExpOk (L : Ly) (wb : Nat) (nv ov : Value) (ns : List NR) (op : List Int) (t : PT) : Prop := ∀ (base : Nat) (w : World) (v : Value) (tx : List UInt8), Shows ns t base → t.tame → t.wf → base + t.cnt ≤ ns.length → tx.length + 22000 * t.cnt ≤ 200000000 →
 WIn L wb w nv ov v tx → WEnv L wb w nv ov ns op → Calls Tryz.prog 67 #[.pointer (some ⟨wb, 0, none⟩), .int .i64 (((base + t.cnt : Nat) : Int) - 1)] w fun e w' => ∃ v', e = .returned (.tuple #[]) ∧ WFr wb w w' v v' ∧ WIn L wb w' nv ov v' (tx ++ t.wtx L.regs L.news base)
def FmOk (L : Ly) (wb : Nat) (nv ov : Value) (ns : List NR) (op : List Int) (t : PT) : Prop := ∀ (base : Nat) (w : World) (v : Value) (tx : List UInt8), Shows ns t base → t.tame → t.wf → base + t.cnt ≤ ns.length → tx.length + 22000 * t.cnt ≤ 200001650 →
 WIn L wb w nv ov v tx → WEnv L wb w nv ov ns op → Calls Tryz.prog 110 #[.pointer (some ⟨wb, 0, none⟩), .int .i64 (((base + t.cnt : Nat) : Int) - 1)] w fun e w' => ∃ v', e = .returned (.tuple #[]) ∧ WFr wb w w' v v' ∧ WIn L wb w' nv ov v' (tx ++ t.ftx L.regs L.news base)
theorem ints_at {w : World} {l : List Int} {g cap : Nat} (h : w.ownsRow 0 3 1 (.slice (some ⟨g, 0, none⟩) l.length cap) l.length (intVs l)) (k : Nat) (x : Int) (hk : l[k]? = some x) : w.cell? ⟨g, k, none⟩ = some (.int .i64 x) := by
 rw [h.cellAt k (by have := (List.getElem?_eq_some_iff.1 hk).1; omega)]; unfold intVs; rw [List.getElem?_map, hk]; rfl
theorem Regions_any (w : World) (L : Ly) (h : LyIn w L) : Calls Tryz.prog 138 #[.agg #[L.lr, L.la]] w fun v w' => v = .returned (.int .i64 L.news.length) ∧ Below w.heap.size w w' := by
 obtain ⟨a0, c0, e0⟩ := slice_any h.r
 obtain ⟨a1, c1, e1⟩ := slice_any h.a
 rw [e0, e1]
 clear h e0 e1
 generalize L.news.length = m
 generalize L.regs.length = n
 go_enter Tryz.func138, Tryz.ntmps138
 go_wp2
 go_ret
 exact ⟨rfl, (Below.refl _ _).alloc (Nat.le_refl _) _⟩
set_option maxRecDepth 100000 in
theorem Region_any (w : World) (L : Ly) (h : LyIn w L) (hl : L.regs.length ≤ 9000) (i : Nat) (hi : i ≤ 9000) : Calls Tryz.prog 141 #[.agg #[L.lr, L.la], .int .i64 i] w fun v w' => v = .returned (.int .i64 (rgV L.regs i)) ∧ Below w.heap.size w w' := by
 have hr := h.r
 obtain ⟨a1, c1, e1⟩ := slice_any h.a
 rw [e1]
 clear h e1
 generalize L.news.length = m
 generalize L.lr = lr at *
 generalize L.regs = l at *
 by_cases hlt : i < l.length
 ·obtain ⟨g, cap, rfl⟩ := slice_of hr (by omega)
  have c := ints_at hr i l[i] (List.getElem?_eq_getElem hlt)
  have e : rgV l i = l[i] := by unfold rgV; rw [List.getElem?_eq_getElem hlt]; rfl
  rw [e]
  have hg : g < w.heap.size := (hr.lt g rfl).2
  generalize l[i] = x at *
  generalize l.length = n at *
  clear hr e
  go_enter Tryz.func141, Tryz.ntmps141
  go_wp2
  go_ret
  exact ⟨rfl, (Below.refl _ _).alloc (Nat.le_refl _) _⟩
 ·have e : rgV l i = -1 := by unfold rgV; rw [List.getElem?_eq_none (by omega)]; rfl
  rw [e]
  obtain ⟨a0, c0, rfl⟩ := slice_any hr
  generalize l.length = n at *
  clear hr e
  go_enter Tryz.func141, Tryz.ntmps141
  go_wp2
  go_ret
  exact ⟨rfl, (Below.refl _ _).alloc (Nat.le_refl _) _⟩
set_option maxRecDepth 100000 in
theorem About_any (w : World) (L : Ly) (h : LyIn w L) (i : Nat) (x : Int) (hx : L.news[i]? = some x) (hl : L.news.length ≤ 9000) : Calls Tryz.prog 139 #[.agg #[L.lr, L.la], .int .i64 i] w fun v w' => v = .returned (.int .i64 x) ∧ Below w.heap.size w w' := by
 have hr := h.a
 obtain ⟨a1, c1, e1⟩ := slice_any h.r
 rw [e1]
 clear h e1
 generalize L.regs.length = m
 generalize L.la = lr at *
 generalize L.news = l at *
 have hlt := (List.getElem?_eq_some_iff.1 hx).1
 obtain ⟨g, cap, rfl⟩ := slice_of hr (by omega)
 have c := ints_at hr i x hx
 have hg : g < w.heap.size := (hr.lt g rfl).2
 generalize l.length = n at *
 clear hr hx
 go_enter Tryz.func139, Tryz.ntmps139
 go_wp2
 go_ret
 exact ⟨rfl, (Below.refl _ _).alloc (Nat.le_refl _) _⟩
theorem WEnv.itoa {L : Ly} {wb : Nat} {w : World} {nv ov : Value} {ns : List NR} {op : List Int} (h : WEnv L wb w nv ov ns op) (m : Nat) (hm : m ≤ 9999) : Calls Tryz.prog 49 #[.int .i64 m] w fun e w2 => e = .returned (.string (bs (decDigits m))) ∧ Below w.heap.size w w2 :=
 itoa_ok w (h.tab w (Below.refl _ _)) m w (by omega) (Below.refl _ _)
set_option maxRecDepth 100000 in
set_option maxHeartbeats 1000000 in
theorem putRegion_any (L : Ly) (wb : Nat) (w : World) (nv ov v : Value) (ns : List NR) (op : List Int) (tx : List UInt8) (m : Nat) (hm : m ≤ 9999) (hin : WIn L wb w nv ov v tx) (henv : WEnv L wb w nv ov ns op) (hl : tx.length ≤ 390000000) :
  Calls Tryz.prog 140 #[.pointer (some ⟨wb, 0, none⟩), .int .i64 m] w fun e w' => ∃ v', e = .returned (.tuple #[]) ∧ WFr wb w w' v v' ∧ WIn L wb w' nv ov v' (tx ++ ([32, 35] ++ decDigits m)) := by
 have hd := dec_len4 m hm
 have hp1 : Calls Tryz.prog 111 #[.pointer (some ⟨wb, 0, none⟩), .string ⟨#[32, 35]⟩] w fun e w2 => ∃ v2, e = .returned (.tuple #[]) ∧ WFr wb w w2 v v2 ∧ WIn L wb w2 nv ov v2 (tx ++ [32, 35]) := put_any wb w nv ov v tx [32, 35] hin (by simp; omega)
 have hp2 := fun (w' : World) (v' : Value) (h : WIn L wb w' nv ov v' (tx ++ [32, 35])) => put_any wb w' nv ov v' (tx ++ [32, 35]) (decDigits m) h (by simp; omega)
 have hon : ∀ (w' : World) (v' : Value), WFr wb w w' v v' → Calls Tryz.prog 49 #[.int .i64 m] w' fun e w2 => e = .returned (.string (bs (decDigits m))) ∧ Below w'.heap.size w' w2 := fun w' v' hf => (henv.on (hin.fr hf)).itoa m (by omega)
 have e0 : tx ++ [32, 35] ++ decDigits m = tx ++ ([32, 35] ++ decDigits m) := by simp
 have HP1 : Hid _ := hp1
 have HP2 : Hid _ := hp2
 have HON : Hid _ := hon
 have HE : Hid _ := e0
 clear hp1 hp2 hon e0 hin henv
 go_enter Tryz.func140, Tryz.ntmps140
 go_wp2_with fail
 refine Calls.mono HP1.out ?_
 rintro _ w1 ⟨v1, rfl, hf1, hi1⟩
 have hon1 := HON.out _ _ hf1
 have HF1 : Hid _ := hf1
 have HI1 : Hid _ := hi1
 clear hf1 hi1 HON HP1
 go_wp2_with fail
 refine hon1.mono ?_
 rintro _ w2 ⟨rfl, hb2⟩
 have HI2 : Hid _ := HI1.out.below hb2
 have HF2 : Hid _ := HF1.out.trans (WFr.of_below v1 hb2)
 clear hb2 hon1 HI1 HF1
 go_wp2_with fail
 refine (HP2.out _ _ HI2.out).mono ?_
 rintro _ w3 ⟨v3, rfl, hf3, hi3⟩
 rw [HE.out] at hi3
 have HF3 : Hid _ := HF2.out.trans hf3
 have HI3 : Hid _ := hi3
 clear hf3 hi3
 go_wp2_with fail
 refine bodyPost_end (v := .tuple #[]) (by simp [results, Tryz.results140, go_sem]) rfl ⟨v3, rfl, HF3.out, HI3.out⟩
set_option maxRecDepth 100000 in
set_option maxHeartbeats 4000000 in
theorem openNews_any (L : Ly) (wb : Nat) (w : World) (nv ov v : Value) (ns : List NR) (op : List Int) (tx : List UInt8) (i : Nat) (hin : WIn L wb w nv ov v tx) (henv : WEnv L wb w nv ov ns op) (hl : tx.length ≤ 200000000) :
  Calls Tryz.prog 109 #[.pointer (some ⟨wb, 0, none⟩), .int .i64 i] w fun e w' => ∃ v', e = .returned (.int .i64 (clN L.news i)) ∧ WFr wb w w' v v' ∧ WIn L wb w' nv ov v' (tx ++ opT L.news 0 i) := by
 have hlay := fun (w' : World) (v' : Value) (h : WFr wb w w' v v') => henv.lay w' (hin.fr h)
 have hnl := henv.bd.n
 have hRe := fun (w' : World) (v' : Value) (h : WFr wb w w' v v') => Regions_any w' L (hlay w' v' h)
 have hAb := fun (w' : World) (v' : Value) (h : WFr wb w w' v v') (k : Nat) (x : Int) (hx : L.news[k]? = some x) => About_any w' L (hlay w' v' h) k x hx (by omega)
 have hPR := fun (w' : World) (v' : Value) (tx' : List UInt8) (k : Nat) (hk : k ≤ 9999) (h : WFr wb w w' v v') (h1 : WIn L wb w' nv ov v' tx') (hl' : tx'.length ≤ 390000000) => putRegion_any L wb w' nv ov v' ns op tx' k hk h1 (henv.on (hin.fr h)) hl'
 have hp4 : ∀ w' v' tx' (h : WIn L wb w' nv ov v' tx') (hl : tx'.length ≤ 390000000), Calls Tryz.prog 111 #[.pointer (some ⟨wb, 0, none⟩), .string ⟨#[40, 110, 101, 119]⟩] w' fun e w2 => ∃ v2, e = .returned (.tuple #[]) ∧ WFr wb w' w2 v' v2 ∧ WIn L wb w2 nv ov v2 (tx' ++ [40, 110, 101, 119]) := fun w' v' tx' h hl => put_any wb w' _ _ v' tx' [40, 110, 101, 119] h (by simp; omega)
 have hp32 : ∀ w' v' tx' (h : WIn L wb w' nv ov v' tx') (hl : tx'.length ≤ 390000000), Calls Tryz.prog 111 #[.pointer (some ⟨wb, 0, none⟩), .string ⟨#[32]⟩] w' fun e w2 => ∃ v2, e = .returned (.tuple #[]) ∧ WFr wb w' w2 v' v2 ∧ WIn L wb w2 nv ov v2 (tx' ++ [32]) := fun w' v' tx' h hl => put_any wb w' _ _ v' tx' [32] h (by simp; omega)
 have hlen : ∀ k, (opT (L.news.take k) 0 i).length ≤ 11 * 150 := fun k => by
  have := opT_len i (L.news.take k) 0 (by simp only [List.length_take]; omega)
  simp only [List.length_take] at this; omega
 have hstep : ∀ k x, L.news[k]? = some x → L.news.take (k + 1) = L.news.take k ++ [x] := fun k x hx => by rw [List.take_add_one, hx]; rfl
 have hcells : ∀ (w' : World) (v' : Value) (tx' : List UInt8), WIn L wb w' nv ov v' tx' → w'.cell? ⟨wb, 2, none⟩ = some L.lr ∧ w'.cell? ⟨wb, 3, none⟩ = some L.la ∧ wb < w'.heap.size := fun w' v' tx' h => ⟨by rw [blk_cell h.blk]; rfl, by rw [blk_cell h.blk]; rfl, blk_lt h.blk⟩
 obtain ⟨a0, c0, e0⟩ := slice_any (hlay w v (WFr.refl _ _ _)).r
 obtain ⟨a1, c1, e1⟩ := slice_any (hlay w v (WFr.refl _ _ _)).a
 have HCE : Hid _ := hcells
 rw [e0, e1] at hRe hAb HCE
 have HRE : Hid _ := hRe
 have HAB : Hid _ := hAb
 have HPR : Hid _ := hPR
 have HP4 : Hid _ := hp4
 have HP32 : Hid _ := hp32
 have HLEN : Hid _ := hlen
 have HST : Hid _ := hstep
 have HIN : Hid _ := hin
 obtain ⟨m, hm⟩ : ∃ m, m = L.news.length := ⟨_, rfl⟩
 have HM : Hid _ := hm
 rw [← hm] at HRE HAB HCE hnl
 generalize L.regs.length = nr at *
 clear hRe hAb hPR hp4 hp32 hlen hstep hlay hin henv e0 e1 hcells hm
 go_enter Tryz.func109, Tryz.ntmps109
 go_wp2
 go_loopw [5, 6] (fun a b wr => ∃ (k : Nat) (vr : Value), k ≤ m ∧ a = .int .i64 (clN (L.news.take k) i) ∧ b = .int .i64 k ∧ WFr wb w wr v vr ∧ WIn L wb wr nv ov vr (tx ++ opT (L.news.take k) 0 i)) (fun _ b _ => m - (intOf b).toNat)
 case atStart => exact ⟨0, v, by omega, rfl, rfl, WFr.refl _ _ _, by simpa [opT] using HIN.out⟩
 case round =>
  obtain ⟨k, vr, hk, rfl, rfl, hfr, hinr⟩ := hrel
  obtain ⟨y2, y3, yl⟩ := HCE.out _ _ _ hinr
  have hre := HRE.out _ _ hfr
  have hll := HLEN.out k
  have hcn : clN (L.news.take k) i ≤ 150 := by have := clN_le (L.news.take k) i; simp only [List.length_take] at this; omega
  have HFR : Hid _ := hfr
  have HINR : Hid _ := hinr
  clear hfr hinr
  go_wp2_with fail
  refine hre.mono ?_
  rintro _ w1 ⟨rfl, hb1⟩
  have HF1 : Hid _ := HFR.out.trans (WFr.of_below vr hb1)
  have HI1 : Hid _ := HINR.out.below hb1
  clear hb1 hre HFR HINR y2 y3 yl
  obtain ⟨y2, y3, yl⟩ := HCE.out _ _ _ HI1.out
  by_cases hlt : k < m
  ·have hkl : k < L.news.length := by have := HM.out; omega
   obtain ⟨x, hx⟩ : ∃ x, L.news[k]? = some x := ⟨L.news[k], List.getElem?_eq_getElem hkl⟩
   have hab := HAB.out _ _ HF1.out k x hx
   have hts := HST.out k x hx
   have hos := opT_snoc i x (L.news.take k) 0
   have hcs := clN_snoc (L.news.take k) x i
   rw [← hts, List.length_take, Nat.min_eq_left (by omega), Nat.zero_add] at hos
   rw [← hts] at hcs
   have HOS : Hid _ := hos
   have HCS : Hid _ := hcs
   clear hx hts hos hcs hkl
   go_wp2_with fail
   refine hab.mono ?_
   rintro _ w2 ⟨rfl, hb2⟩
   have HF2 : Hid _ := HF1.out.trans (WFr.of_below vr hb2)
   have HI2 : Hid _ := HI1.out.below hb2
   clear hb2 hab HF1 HI1 y2 y3 yl
   by_cases hxi : x = (i : Int)
   ·have q : (x == (i : Int)) = true := by rw [hxi]; simp
    have e1 : tx ++ opT (L.news.take k) 0 i ++ [40, 110, 101, 119] ++ ([32, 35] ++ decDigits k) ++ [32] = tx ++ opT (L.news.take (k + 1)) 0 i := by rw [HOS.out, if_pos hxi]; simp [opR]
    have e2 : clN (L.news.take (k + 1)) i = clN (L.news.take k) i + 1 := by rw [HCS.out, if_pos hxi]
    have HE1 : Hid _ := e1
    have HE2 : Hid _ := e2
    have hd4 := dec_len4 k (by omega)
    clear hxi e1 e2 HOS HCS
    go_wp2_with fail
    refine (HP4.out _ _ _ HI2.out (by simp; omega)).mono ?_
    rintro _ w3 ⟨v3, rfl, hf3, hi3⟩
    have HF3 : Hid _ := HF2.out.trans hf3
    have HI3 : Hid _ := hi3
    clear hf3 hi3 HF2 HI2
    go_wp2_with fail
    refine (HPR.out _ _ _ k (by omega) HF3.out HI3.out (by simp; omega)).mono ?_
    rintro _ w4 ⟨v4, rfl, hf4, hi4⟩
    have HF4 : Hid _ := HF3.out.trans hf4
    have HI4 : Hid _ := hi4
    clear hf4 hi4 HF3 HI3
    go_wp2_with fail
    refine (HP32.out _ _ _ HI4.out (by simp; omega)).mono ?_
    rintro _ w5 ⟨v5, rfl, hf5, hi5⟩
    rw [HE1.out] at hi5
    have HF5 : Hid _ := HF4.out.trans hf5
    have HI5 : Hid _ := hi5
    clear hf5 hi5 HF4 HI4
    generalize clN (L.news.take k) i = cc at *
    go_wp2
    go_roundw
    case rel => exact ⟨k + 1, v5, by omega, by rw [HE2.out]; go_num, by go_num, HF5.out, HI5.out⟩
    case measure => simp [intOf]; omega
   ·have q : (x == (i : Int)) = false := by rw [beq_eq_false_iff_ne]; exact hxi
    have hi2 := HI2.out
    have e2 : clN (L.news.take (k + 1)) i = clN (L.news.take k) i := by rw [HCS.out, if_neg hxi]; rfl
    have e1 : opT (L.news.take k) 0 i = opT (L.news.take (k + 1)) 0 i := by rw [HOS.out, if_neg hxi]; simp
    rw [e1] at hi2
    have HI5 : Hid _ := hi2
    have HE2 : Hid _ := e2
    clear hxi e1 e2 HOS HCS hi2 HI2
    generalize clN (L.news.take k) i = cc at *
    go_wp2
    go_roundw
    case rel => exact ⟨k + 1, vr, by omega, by rw [HE2.out], by go_num, HF2.out, HI5.out⟩
    case measure => simp [intOf]; omega
  ·have hkm : k = L.news.length := by have := HM.out; omega
   have et : L.news.take k = L.news := by rw [hkm]; exact List.take_length
   have hi1 := HI1.out
   rw [et] at hi1 ⊢
   have HI2 : Hid _ := hi1
   clear hi1 et hkm HI1
   go_wp2
   go_ret
   exact ⟨_, rfl, HF1.out, HI2.out⟩
set_option maxRecDepth 100000 in
set_option maxHeartbeats 2000000 in
theorem exp_of (L : Ly) (wb : Nat) (nv ov : Value) (ns : List NR) (op : List Int) (t : PT) (hf : FmOk L wb nv ov ns op t) : ExpOk L wb nv ov ns op t := by
 intro base w v tx hsh hta hwf hle hlim hin henv
 have hcx := cnt_pos' t
 obtain ⟨M, hM⟩ : ∃ M : Nat, (((base + t.cnt : Nat) : Int) - 1) = (M : Int) := ⟨base + t.cnt - 1, by omega⟩
 have hon := openNews_any L wb w nv ov v ns op tx M hin henv (by omega)
 have hol := opT_len (M : Int) L.news 0 (by have := henv.bd.n; omega)
 have hcl := clN_le L.news (M : Int)
 have hnl := henv.bd.n
 have hfl := ftx_len henv.bd t base hta
 have hfm := fun (w' : World) (v' : Value) (hb : WFr wb w w' v v') (h1 : WIn L wb w' nv ov v' (tx ++ opT L.news 0 M)) => hf base w' v' (tx ++ opT L.news 0 M) hsh hta hwf hle (by simp; omega) h1 (henv.on (hin.fr hb))
 have hw : t.wtx L.regs L.news base = opT L.news 0 M ++ (t.ftx L.regs L.news base ++ List.replicate (clN L.news M) 41) := by unfold PT.wtx clT; rw [hM]
 rw [hM] at hfm ⊢
 rw [hw]
 have hp41 : ∀ w' v' tx' (h : WIn L wb w' nv ov v' tx') (hl : tx'.length ≤ 390000000), Calls Tryz.prog 111 #[.pointer (some ⟨wb, 0, none⟩), .string ⟨#[41]⟩] w' fun e w2 => ∃ v2, e = .returned (.tuple #[]) ∧ WFr wb w' w2 v' v2 ∧ WIn L wb w2 nv ov v2 (tx' ++ [41]) := fun w' v' tx' h hl => put_any wb w' _ _ v' tx' [41] h (by simp; omega)
 have HFM : Hid _ := hfm
 have HP41 : Hid _ := hp41
 generalize t.ftx L.regs L.news base = fx at *
 generalize opT L.news 0 M = ox at *
 generalize clN L.news M = cn at *
 have e0 : tx ++ ox ++ fx = tx ++ ox ++ fx ++ List.replicate 0 41 := by simp
 have hrep : ∀ j, tx ++ ox ++ fx ++ List.replicate j 41 ++ [41] = tx ++ ox ++ fx ++ List.replicate (j + 1) 41 := fun j => by rw [List.append_assoc, ← List.replicate_succ']
 have eend : tx ++ ox ++ fx ++ List.replicate cn 41 = tx ++ (ox ++ (fx ++ List.replicate cn 41)) := by simp
 have HE0 : Hid _ := e0
 have HRP : Hid _ := hrep
 have HEE : Hid _ := eend
 have hcnt9 : t.cnt ≤ 9000 := by have := henv.len; omega
 generalize t.cnt = tc at *
 clear hfm hf hin henv hsh hta hwf hle hM hw hp41 e0 hrep eend
 go_enter Tryz.func67, Tryz.ntmps67
 go_wp2_with fail
 refine hon.mono ?_
 rintro _ w1 ⟨v1, rfl, hf1, hi1⟩
 have HF1 : Hid _ := hf1
 have HI1 : Hid _ := hi1
 clear hf1 hi1 hon
 go_wp2_with fail
 refine (HFM.out _ _ HF1.out HI1.out).mono ?_
 rintro _ w2 ⟨v2, rfl, hfr, hin2⟩
 rw [HE0.out] at hin2
 have HF : Hid _ := HF1.out.trans hfr
 have HI : Hid _ := hin2
 clear hfr hin2 HF1 HI1 HFM HE0
 go_wp2
 go_loopw [4] (fun a wr => ∃ (j : Nat) (vr : Value), j ≤ cn ∧ a = .int .i64 ((cn - j : Nat) : Int) ∧ WFr wb w wr v vr ∧ WIn L wb wr nv ov vr (tx ++ ox ++ fx ++ List.replicate j 41)) (fun a _ => (intOf a).toNat)
 case atStart => exact ⟨0, v2, by omega, by simp, HF.out, HI.out⟩
 case round =>
  obtain ⟨j, vr, hj, rfl, hfr, hinr⟩ := hrel
  have HFR : Hid _ := hfr
  have HIR : Hid _ := hinr
  clear hfr hinr HF HI
  by_cases hlt : j < cn
  ·have hrp := HRP.out j
   have HR2 : Hid _ := hrp
   clear hrp
   obtain ⟨z, hz⟩ : ∃ z, cn - j = z + 1 := ⟨cn - j - 1, by omega⟩
   rw [hz]
   have hzz : cn - (j + 1) = z := by omega
   go_wp2_with fail
   refine (HP41.out _ _ _ HIR.out (by simp; omega)).mono ?_
   rintro _ w3 ⟨v3, rfl, hf3, hi3⟩
   rw [HR2.out] at hi3
   have HF3 : Hid _ := HFR.out.trans hf3
   have HI3 : Hid _ := hi3
   clear hf3 hi3 HFR HIR
   go_wp2
   go_roundw
   case rel => exact ⟨j + 1, v3, by omega, by rw [hzz]; first | done | go_num, HF3.out, HI3.out⟩
   case measure => simp [intOf]
  ·have hj2 : j = cn := by omega
   subst hj2
   have hi := HIR.out
   rw [HEE.out] at hi
   have HI2 : Hid _ := hi
   clear hi HIR
   rw [show j - j = 0 by omega]
   go_wp2
   refine bodyPost_end (v := .tuple #[]) (by simp [results, Tryz.results67, go_sem]) rfl ⟨vr, rfl, HFR.out, HI2.out⟩
set_option maxRecDepth 100000 in
set_option maxHeartbeats 2000000 in
theorem fm_name (L : Ly) (wb : Nat) (x1 : Option Addr) (n1 c1 : Nat) (x2 : Option Addr) (n2 c2 : Nat) (ns : List NR) (op : List Int) (p : Nat) (s : List UInt8) : FmOk L wb (.slice x1 n1 c1) (.slice x2 n2 c2) ns op (.name p s) := by
 intro base w v tx hsh hta hwf hle hlim hin henv
 simp only [Shows] at hsh
 obtain ⟨n, hn, hf, hwd⟩ := hsh
 simp only [PT.tame] at hta
 simp only [PT.cnt] at hle hlim
 have hno := Node_in' w (.slice x1 n1 c1) (.slice x2 n2 c2) ns op (henv.tree w (Below.refl _ _)) base n hn henv.len
 have hbl := henv.len
 have hb := hin.blk
 have y0 : w.cell? ⟨wb, 0, none⟩ = some (.slice x1 n1 c1) := by rw [blk_cell hb]; rfl
 have y1 : w.cell? ⟨wb, 1, none⟩ = some (.slice x2 n2 c2) := by rw [blk_cell hb]; rfl
 have hput := fun w' (h : WIn L wb w' (.slice x1 n1 c1) (.slice x2 n2 c2) v tx) => put_any wb w' _ _ v tx s h (by omega)
 have HP : Hid _ := hput
 have HIN : Hid _ := hin
 have hlt := blk_lt hb
 unfold treeV nrVal at hno
 rw [hf, hwd] at hno
 simp only [PT.ftx, PT.cnt]
 rw [show (((base + 1 : Nat) : Int) - 1) = (base : Int) from by omega]
 clear hb hin henv hput hn
 go_enter Tryz.func110, Tryz.ntmps110
 go_wp2_with (first
  | (go_at_call 94; refine hno.mono ?_; rintro _ w1 ⟨rfl, hb1⟩)
  | (go_at_call 111; refine (HP.out _ (HIN.out.below (hb1.alloc hb1.size _))).mono ?_; rintro _ w2 ⟨v', rfl, hfr, hin'⟩))
 refine bodyPost_end (v := .tuple #[]) (by simp [results, Tryz.results110, go_sem]) rfl ⟨v', rfl, (WFr.of_below v (hb1.alloc hb1.size _)).trans hfr, hin'⟩
set_option maxRecDepth 100000 in
set_option maxHeartbeats 2000000 in
theorem fm_num (L : Ly) (wb : Nat) (x1 : Option Addr) (n1 c1 : Nat) (x2 : Option Addr) (n2 c2 : Nat) (ns : List NR) (op : List Int) (p : Nat) (s : List UInt8) : FmOk L wb (.slice x1 n1 c1) (.slice x2 n2 c2) ns op (.num p s) := by
 intro base w v tx hsh hta hwf hle hlim hin henv
 simp only [Shows] at hsh
 obtain ⟨n, hn, hf, hnum⟩ := hsh
 simp only [PT.tame] at hta
 simp only [PT.cnt] at hle hlim
 obtain ⟨m, hm⟩ : ∃ m : Nat, valueL s = m := ⟨(valueL s).toNat, by omega⟩
 have hno := Node_in' w (.slice x1 n1 c1) (.slice x2 n2 c2) ns op (henv.tree w (Below.refl _ _)) base n hn henv.len
 have hbl := henv.len
 have hb := hin.blk
 have y0 : w.cell? ⟨wb, 0, none⟩ = some (.slice x1 n1 c1) := by rw [blk_cell hb]; rfl
 have y1 : w.cell? ⟨wb, 1, none⟩ = some (.slice x2 n2 c2) := by rw [blk_cell hb]; rfl
 have hd4 := dec_len4 m (by omega)
 have hput := fun w' (h : WIn L wb w' (.slice x1 n1 c1) (.slice x2 n2 c2) v tx) => put_any wb w' _ _ v tx (decDigits m) h (by omega)
 have hlt := blk_lt hb
 have hit : ∀ w', Below w.heap.size w w' → Calls Tryz.prog 49 #[.int .i64 m] w' fun e w2 => e = .returned (.string (bs (decDigits m))) ∧ Below w'.heap.size w' w2 :=
  fun w' h => itoa_ok w' (henv.tab w' (h.mono (Nat.le_of_lt hlt))) m w' (by omega) (Below.refl _ _)
 have HIT : Hid _ := hit
 have HP : Hid _ := hput
 have HIN : Hid _ := hin
 unfold treeV nrVal at hno
 rw [hf, hnum, hm] at hno
 simp only [PT.ftx, PT.cnt]
 rw [show (((base + 1 : Nat) : Int) - 1) = (base : Int) from by omega, hm, Int.toNat_natCast]
 clear hb hin henv hput hn hit hta
 go_enter Tryz.func110, Tryz.ntmps110
 go_wp2_with (first
  | (go_at_call 94; refine hno.mono ?_; rintro _ w1 ⟨rfl, hb1⟩)
  | (go_at_call 49; refine (HIT.out _ (hb1.alloc hb1.size _)).mono ?_; rintro _ w2 ⟨rfl, hb2⟩)
  | (go_at_call 111; refine (HP.out _ (HIN.out.below ((hb1.alloc hb1.size _).trans (hb2.mono (hb1.alloc hb1.size _).size)))).mono ?_; rintro _ w3 ⟨v', rfl, hfr, hin'⟩))
 refine bodyPost_end (v := .tuple #[]) (by simp [results, Tryz.results110, go_sem]) rfl ⟨v', rfl, (WFr.of_below v ((hb1.alloc hb1.size _).trans (hb2.mono (hb1.alloc hb1.size _).size))).trans hfr, hin'⟩
end Go.Proofs.YtpicaknklgccoaaGreatDoor
