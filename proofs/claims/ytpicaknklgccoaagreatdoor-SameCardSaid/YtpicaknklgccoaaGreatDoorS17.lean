import Derived.Deep.LoopGhost
import Derived.Deep.DeepCutAuto
import Derived.Deep.Light
import Derived.Test.YtpicaknklgccoaaGreatDoorS16
import Derived.Lib.AppendStr
set_option maxHeartbeats 8000000
set_option maxRecDepth 100000
namespace Go.Proofs.YtpicaknklgccoaaGreatDoor
open Go.RowKit
def BF (t : PT) : dD := ⟨0, 0, List.replicate t.cnt []⟩
mutual
theorem PE.wf {ae : Bool} : ∀ {l : List Tk} {e : PT} {r : List Tk}, PE ae l e r -> e.wf
 | _, _, _, .num _ => by simp [PT.wf]
 | _, _, _, .name _ => by simp [PT.wf]
 | _, _, _, .node (k := k) _ _ h3 h4 => by
  simp only [PT.wf]
  refine ⟨?_, PW.Vh h4⟩
  rw [PW.nK h4]
  cases k <;> cases ae <;> first | decide | exact absurd rfl h3
theorem PW.Vh {ae : Bool} : ∀ {ws : List Wt} {l : List Tk} {nm rg : List UInt8} {kids : List PT} {r : List Tk}, PW ae ws l nm rg kids r -> oG kids
 | _, _, _, _, _, _, .nil => by simp [oG]
 | _, _, _, _, _, _, .close _ h1 => PW.Vh h1
 | _, _, _, _, _, _, .name _ h1 => PW.Vh h1
 | _, _, _, _, _, _, .region _ h1 => PW.Vh h1
 | _, _, _, _, _, _, .e h h1 => by simp only [oG]; exact ⟨PE.wf h, PW.Vh h1⟩
end
theorem iZ {s : ByteArray} {ae : Bool} {e : PT} (hp : PE ae (tokens s.data.toList) e []) : e.cnt <= s.size := by
 have h1 := hp.used.1
 have h2 := Bf s.data.toList.length 0 s.data.toList
 rw [dE] at h2
 unfold tokens at h1
 rw [dE] at h1
 simp at h1
 omega
def cx (e : PT) : Nat × Nat :=
 if 100 < e.bJ then (3, ((e.DE[100]?).map (·.1)).getD 0)
 else ((aD (List.range e.bJ) e 0 0 [] (BF e)).2.e, (aD (List.range e.bJ) e 0 0 [] (BF e)).2.at_)
theorem FG (st : dD) (e p : Nat) (he : e ≠ 0) : (cS st e p).e = 0 -> (cS st e p).at_ = st.at_ := by
 intro h; exact absurd h (sD st e p he)
theorem fin_at (id p : Nat) (x : Ty × dD) : (fin id p x).2.e = 0 -> x.2.e = 0 /\ (fin id p x).2.at_ = x.2.at_ := by
 unfold fin
 simp only
 split
 ·intro h; exact absurd h (sD _ _ _ (by decide))
 ·intro h; exact ⟨h, rfl⟩
theorem Kb (cls : List Nat) (k : Kw) (p site : Nat) (ks : List Ty) (st : dD) : (bB cls k p site ks st).2.e = 0 -> (bB cls k p site ks st).2.at_ = st.at_ := by
 have err : (cS st 5 p).e = 0 -> (cS st 5 p).at_ = st.at_ := FG st 5 p (by decide)
 unfold bB
 split <;> (first | (intro _; rfl) | exact err | (split <;> first | (intro _; rfl) | exact err))
theorem FH {a b : dD} (h : a.e ≠ 0 -> b.e = a.e /\ b.at_ = a.at_) (hb : b.e = 0) : a.e = 0 := by
 by_cases e : a.e = 0
 ·exact e
 ·exact absurd ((h e).1.symm.trans hb) e
mutual
theorem ja (cls : List Nat) : ∀ (t : PT) (id site : Nat) (env : aQ) (st : dD), (aD cls t id site env st).2.e = 0 -> (aD cls t id site env st).2.at_ = st.at_
 | .num p s, id, site, env, st => by
  simp only [aD]; intro h; exact (fin_at id p _ h).2
 | .name p s, id, site, env, st => by
  simp only [aD]
  intro h
  obtain ⟨h1, h2⟩ := fin_at id p _ h
  rw [h2]
  revert h1
  split
  ·intro _; rfl
  ·exact FG st 4 p (by decide)
 | .node p k nm rg kids, id, site, env, st => by
  simp only [aD]
  intro h
  obtain ⟨h1, h2⟩ := fin_at id p _ h
  rw [h2]
  revert h1
  split
  ·exact Kc cls nm kids (id + 1) site env st
  ·have hx : (if k = .loop then aT cls nm kids (id + 1) site env st else ba cls kids (id + 1) (site + if k = .pair then 1 else 0) env st).2.e = 0 -> (if k = .loop then aT cls nm kids (id + 1) site env st else ba cls kids (id + 1) (site + if k = .pair then 1 else 0) env st).2.at_ = st.at_ := by
    by_cases hk : k = .loop
    ·simp only [if_pos hk]; exact Ho cls nm kids _ _ env st
    ·simp only [if_neg hk]; exact yH cls kids _ _ env st
   generalize (if k = .loop then aT cls nm kids (id + 1) site env st else ba cls kids (id + 1) (site + if k = .pair then 1 else 0) env st) = x at hx
   split
   ·rename_i hne; intro h0; exact absurd h0 hne
   ·rename_i hne
    have h0 : x.2.e = 0 := by simpa using hne
    intro h1
    rw [Kb cls k p site x.1 x.2 h1, hx h0]
theorem yH (cls : List Nat) : ∀ (ts : List PT) (id site : Nat) (env : aQ) (st : dD), (ba cls ts id site env st).2.e = 0 -> (ba cls ts id site env st).2.at_ = st.at_
 | [], _, _, _, st => by simp [ba]
 | a :: r, id, site, env, st => by
  simp only [ba]
  intro h
  have h2 := yH cls r (id + a.cnt) (site + a.bJ) env (aD cls a id site env st).2 h
  have h0 := FH (fun e => nM cls r (id + a.cnt) (site + a.bJ) env _ e) h
  rw [h2, ja cls a id site env st h0]
theorem Kc (cls : List Nat) (nm : List UInt8) : ∀ (ts : List PT) (id site : Nat) (env : aQ) (st : dD), (dx cls nm ts id site env st).2.e = 0 -> (dx cls nm ts id site env st).2.at_ = st.at_
 | [a, b], id, site, env, st => by
  simp only [dx]
  intro h
  have h2 := ja cls b (id + a.cnt) (site + a.bJ) (env ++ [(nm, (aD cls a id site env st).1)]) (aD cls a id site env st).2 h
  have h0 := FH (fun e => cW cls b (id + a.cnt) (site + a.bJ) _ _ e) h
  rw [h2, ja cls a id site env st h0]
 | [], _, _, _, st => by simp [dx]
 | [_], _, _, _, st => by simp [dx]
 | _ :: _ :: _ :: _, _, _, _, st => by simp [dx]
theorem Ho (cls : List Nat) (nm : List UInt8) : ∀ (ts : List PT) (id site : Nat) (env : aQ) (st : dD), (aT cls nm ts id site env st).2.e = 0 -> (aT cls nm ts id site env st).2.at_ = st.at_
 | [a, b, c], id, site, env, st => by
  simp only [aT]
  intro h
  have h3 := ja cls c _ _ _ _ h
  have h0 := FH (fun e => cW cls c _ _ _ _ e) h
  have h2 := ja cls b _ _ _ _ h0
  have h00 := FH (fun e => cW cls b _ _ _ _ e) h0
  rw [h3, h2, ja cls a id site env st h00]
 | [], _, _, _, st => by simp [aT]
 | [_], _, _, _, st => by simp [aT]
 | [_, _], _, _, _, st => by simp [aT]
 | _ :: _ :: _ :: _ :: _, _, _, _, st => by simp [aT]
end
theorem vL {e : PT} {ns : List NR} (bq : NA [] e 0 ns) : mh ns (opn e 0) = cx e := by
 have jm : (opn e 0).filterMap (bP ns) = e.DE.map (·.1) := sK ns e [] 0 ns bq (fun j _ => by rw [Nat.zero_add])
 have hlen : ((opn e 0).filterMap (bP ns)).length = e.bJ := by rw [jm, List.length_map, uI]
 unfold mh cx fp
 rw [hlen]
 by_cases hm : 100 < e.bJ
 ·simp only [if_pos hm]
  rw [if_pos (by decide), jm, List.getElem?_map]
 ·simp only [if_neg hm]
  rw [if_neg (by decide), JN ns JO]
  have hA := Vi (List.range e.bJ) (fun x hx => by rw [List.mem_range] at hx; omega) e [] ns [] (BF e) [] 0 0 bq trivial rfl ⟨by simp, by simp⟩
  have hat := ja (List.range e.bJ) e 0 0 [] (BF e)
  rcases hA with ⟨h0, h1, _⟩ | ⟨_, h1⟩
  ·rw [h1, h0, hat h0]; rfl
  ·exact h1
theorem yI {e : PT} {ns : List NR} (bq : NA [] e 0 ns) : vq ns (opn e 0) := by
 have hl := bq.len
 refine ⟨by rw [FI, hl], fun x hx => ?_⟩
 have := JP e 0 x hx
 simp only [Nat.zero_add] at this
 omega
theorem rA {w w2 : World} {A : Obj} (hb : Below (w.alloc A).heap.size (w.alloc A) w2) : w2.heap[w.heap.size]? = some A := by
 rw [hb.block w.heap.size (by simp)]; exact aj w A
theorem mq {w w2 : World} {A : Obj} (hb : Below (w.alloc A).heap.size (w.alloc A) w2) : Below w.heap.size w w2 := ((Below.refl _ w).alloc (Nat.le_refl _) A).trans (hb.mono (by simp))
theorem mQ (s : ByteArray) (w : World) (hs : s.size <= 9000) : Calls Tryz.prog 87 #[.string s] w fun v w' => rB s true w v w' := by
 have jm := tN s true (w.heap.size + 1) hs _ _ _ _ _ (vM s hs) (Ke s true w (.cells #[.slice none 0 0, .slice none 0 0] 59))
 unfold ptr fq at jm
 unfold rB
 generalize jt true s.size (tokens s.data.toList) = P at *
 go_enter Tryz.func87, Tryz.ntmps87
 go_wp2_with fail
 refine jm.mono ?_
 rintro v w1 ⟨xZ, sr, uq, hfr, hin, hv⟩
 obtain ⟨hb, hr, hsz⟩ := hfr.toBelow
 have r0 : w1.cell? ⟨w.heap.size, 0, none⟩ = some (.slice none 0 0) := by rw [aa hr]; rfl
 have r1 : w1.cell? ⟨w.heap.size, 1, none⟩ = some (.slice none 0 0) := by rw [aa hr]; rfl
 have f0 := ag hr 0
 have f1 := ag hr 1
 have HB : Hid _ := hb
 rcases hv with ⟨q, hfl, rfl⟩ | ⟨hfl, rfl⟩
 ·have JC : Hid _ := hfl
  unfold aK
  clear hfl hfr hin hb hr jm
  go_wp2
  refine bodyPost_ret (v := .tuple #[.agg #[.slice none 0 0, .slice none 0 0], .int .i64 q, .bool false]) (by simp [results, Tryz.results87, go_sem, r0, r1]) rfl ⟨?_, Or.inl ⟨q, JC.out, rfl⟩⟩
  exact (HB.out.setCell (p := ⟨w.heap.size, 0, none⟩) (Nat.le_refl _) _).setCell (p := ⟨w.heap.size, 1, none⟩) (Nat.le_refl _) _
 ·have JC : Hid _ := hfl
  obtain ⟨x6, n6, c6, e6⟩ : ∃ a n c, sr = .slice a n c := by
   rcases hin.nd.2 with ⟨h1, _⟩ | ⟨g, cap, cur, h1, _⟩
   ·exact ⟨_, _, _, h1⟩
   ·exact ⟨_, _, _, h1⟩
  obtain ⟨x7, n7, c7, e7⟩ : ∃ a n c, uq = .slice a n c := by
   rcases hin.op.2 with ⟨h1, _⟩ | ⟨g, cap, cur, h1, _⟩
   ·exact ⟨_, _, _, h1⟩
   ·exact ⟨_, _, _, h1⟩
  have qR : ∀ k, sr.ownBlock = some k -> k ≠ w.heap.size := fun k hk => by
   rcases hfr.n k hk with e | e
   ·simp [Value.ownBlock] at e
   ·simp at e; omega
  have hro : ∀ k, uq.ownBlock = some k -> k ≠ w.heap.size := fun k hk => by
   rcases hfr.o k hk with e | e
   ·simp [Value.ownBlock] at e
   ·simp at e; omega
  subst e6
  subst e7
  have HT : Hid (bh ((w1.setCell ⟨w.heap.size, 0, none⟩ (.slice x6 n6 c6)).setCell ⟨w.heap.size, 1, none⟩ (.slice x7 n7 c7)) (.slice x6 n6 c6) (.slice x7 n7 c7) P.nodes P.opened) := by
   refine ⟨ax hin.nd (fun k hk => ?_), ax hin.op (fun k hk => ?_)⟩
   ·rw [ak _ _ (by simpa using qR k hk), ak _ _ (by simpa using qR k hk)]
   ·rw [ak _ _ (by simpa using hro k hk), ak _ _ (by simpa using hro k hk)]
  unfold aK
  clear hfl hfr hin hb hr jm qR hro
  go_wp2
  refine bodyPost_ret (v := .tuple #[.agg #[.slice x6 n6 c6, .slice x7 n7 c7], .int .i64 0, .bool true]) (by simp [results, Tryz.results87, go_sem, r0, r1]) rfl ⟨?_, Or.inr ⟨JC.out, _, _, rfl, HT.out⟩⟩
  exact (HB.out.setCell (p := ⟨w.heap.size, 0, none⟩) (Nat.le_refl _) _).setCell (p := ⟨w.heap.size, 1, none⟩) (Nat.le_refl _) _
open Go.Lib (strCells)
theorem vN {P : Program} (w : World) (t u ty e : TypeId) (i : TypeInfo) (ht : P.underlying t = some (.slice e)) (hu : P.underlying u = some .string) (hi : P.info? e = some i) (hz : i.zero = some (.int .u8 0))
  (hsize : i.size = 1) (hby : i.bytes = 1) (base : Nat) (v : Value) (n : Nat) (xs : List Value) (hown : w.ownsRow base e 1 v n xs) (s : ByteArray) (mX : n + s.size <= 140737488355328) (hbase : base <= w.heap.size) :
  ∃ v' w', (Builtin.append_ #[t, u] ty #[v, .string s]).run P w = .ok v' w' /\ w'.ownsRow base e 1 v' (n + s.size) (xs ++ strCells s) /\ w.grownBy w' v.ownBlock /\ (∀ g, v'.ownBlock = some g -> v.ownBlock = some g \/ w.heap.size <= g) := by
 have h63 : n + s.size <= maxLen := by unfold maxLen; omega
 obtain ⟨v', w', hr, h2, h3, h4⟩ := Lib.run_append_own_string (P := P) w base t u ty e i ht hu hi hz hsize hby v n xs hown s h63 mX hbase
 refine ⟨v', w', hr, h2, h3, ?_⟩
 intro g hg
 rcases hown.2 with ⟨hv, hn0⟩ | ⟨g0, cap, cur, hv, hgb, hh, hn', hcm, hcs, htake⟩
 ·subst hv
  subst hn0
  have hx : xs = [] := List.eq_nil_of_length_eq_zero (by simpa using hown.1)
  subst hx
  obtain ⟨v2, w2, ez, k2, _, _⟩ := Lib.run_append_own_string (P := P) w w.heap.size t u ty e i ht hu hi hz hsize hby (.slice none 0 0) 0 [] (World.ownsRow_nil w _ e 1) s h63 mX (Nat.le_refl _)
  rw [hr] at ez
  cases ez
  exact Or.inr (k2.lt g hg).1
 ·subst hv
  by_cases hroom : n + s.size <= cap
  ·have ez := Lib.run_append_room_string (P := P) w t u ty e i ht hu hi hsize g0 n cap cur hh s hroom (by omega)
   rw [hr] at ez
   cases ez
   exact Or.inl hg
  ·have ez := Lib.run_append_grow_string (P := P) w t u ty e i (.int .u8 0) ht hu hi hz ⟨g0, 0, none⟩ n cap xs (by rw [hsize]; exact hown.1) (hown.cells (g := g0) rfl) s (by omega) (by unfold maxLen at h63; omega) (by rw [hby]; exact growslice_fits (by omega) (by omega))
   rw [hr] at ez
   cases ez
   simp [Value.ownBlock] at hg
   exact Or.inr (by omega)
theorem rC {P : Program} {w : World} {ops : Array Oper} {rest : List Oper} {o : Oper} {a : Act} {Q : Exit -> Act -> World -> Prop} (hgd : o.guard = none) (sl x : Operand) (t u : TypeId)
  (ho : o.op = .call { callee := .builtin .append, args := #[sl, x], argTypes := #[t, u] }) (base : Nat) (e : TypeId) (i : TypeInfo) (ht : P.underlying t = some (.slice e)) (hu : P.underlying u = some .string) (hi : P.info? e = some i) (hz : i.zero = some (.int .u8 0))
  (hsize : i.size = 1) (hby : i.bytes = 1) (v : Value) (n : Nat) (xs : List Value) (hs : a.eval sl = v) (hown : w.ownsRow base e 1 v n xs) (s : ByteArray) (hx : a.eval x = .string s) (mX : n + s.size <= 140737488355328) (hbase : base <= w.heap.size)
  (h : ∀ v' w', w'.ownsRow base e 1 v' (n + s.size) (xs ++ strCells s) -> w.grownBy w' v.ownBlock -> (∀ g, v'.ownBlock = some g -> v.ownBlock = some g \/ w.heap.size <= g) -> wpList P ops Q rest (a.put o.dst v') w') : wpList P ops Q (o :: rest) a w := by
 refine wpList_plain hgd fun K hK => ?_
 obtain ⟨v', w', hr, h2, h3, h4⟩ := vN (P := P) w t u o.type e i ht hu hi hz hsize hby base v n xs hown s mX hbase
 unfold Oper.wp execOp
 simp only [ho, resolve, invoke, builtin, Sem.run_bind, Sem.run_pure, Result.andThen_ok, List.map_toArray, List.map_cons, List.map_nil, hs, hx, hr]
 exact hK _ _ (h v' w' h2 h3 h4)
theorem Tryz.Rz : (Tryz.prog.info? 5).map (fun i => (i.zero, i.size, i.bytes)) = some (some (.int .u8 0), 1, 1) := by kernel_rfl
theorem Tryz.vO : Tryz.prog.underlying 121 = some (.slice 5) := by kernel_rfl
theorem Tryz.D5 : Tryz.prog.underlying 9 = some .string := by kernel_rfl
structure Ly where
 lr : Value
 la : Value
 regs : List Int
 news : List Int
structure kg (L : Ly) (wb : Nat) (w : World) (nv ov v : Value) (tx : List UInt8) : Prop where
 blk : w.heap[wb]? = some (.cells #[nv, ov, L.lr, L.la, v] 123 (0, 0))
 row : w.ownsRow (wb + 1) 5 1 v tx.length (strCells (bs tx))
structure jF (wb : Nat) (w w' : World) (v v' : Value) : Prop where
 os : w'.os = w.os
 tape : w'.tape = w.tape
 output : w'.output = w.output
 size : w.heap.size <= w'.heap.size
 blk : ∀ k, k < w.heap.size -> k ≠ wb -> v.ownBlock ≠ some k -> w'.heap[k]? = w.heap[k]?
 o : ∀ g, v'.ownBlock = some g -> v.ownBlock = some g \/ w.heap.size <= g
theorem jF.refl (wb : Nat) (w : World) (v : Value) : jF wb w w v v := ⟨rfl, rfl, rfl, Nat.le_refl _, fun _ _ _ _ => rfl, fun _ h => Or.inl h⟩
theorem jF.trans {wb : Nat} {w w1 w2 : World} {v v1 v2 : Value} (h : jF wb w w1 v v1) (h' : jF wb w1 w2 v1 v2) : jF wb w w2 v v2 := by
 refine ⟨h'.os.trans h.os, h'.tape.trans h.tape, h'.output.trans h.output, Nat.le_trans h.size h'.size, ?_, ?_⟩
 ·intro k hk hp ho
  rw [h'.blk k (Nat.lt_of_lt_of_le hk h.size) hp (fun e => by rcases h.o k e with e | e; exact ho e; omega)]
  exact h.blk k hk hp ho
 ·intro g hg
  rcases h'.o g hg with e | e
  ·exact h.o g e
  ·exact Or.inr (Nat.le_trans h.size e)
theorem jF.ju {wb : Nat} {w w' : World} (v : Value) (h : Below w.heap.size w w') : jF wb w w' v v := ⟨h.os, h.tape, h.output, h.size, fun k hk _ _ => h.block k hk, fun _ h => Or.inl h⟩
theorem kg.below {L : Ly} {wb : Nat} {w w' : World} {nv ov v : Value} {tx : List UInt8} (h : kg L wb w nv ov v tx) (hb : Below w.heap.size w w') : kg L wb w' nv ov v tx :=
 ⟨by rw [hb.block wb (af h.blk)]; exact h.blk, aA h.row hb⟩
theorem lu {L : Ly} (wb : Nat) (w : World) (nv ov v : Value) (tx s : List UInt8) (h : kg L wb w nv ov v tx) (hl : tx.length + s.length <= 400000000) :
  Calls Tryz.prog 111 #[.pointer (some ⟨wb, 0, none⟩), .string (bs s)] w fun e w' => ∃ v', e = .returned (.tuple #[]) /\ jF wb w w' v v' /\ kg L wb w' nv ov v' (tx ++ s) := by
 obtain ⟨i0, hi, hz0, hz1, hz2⟩ := info_parts Tryz.Rz
 have HI : Hid _ := hi
 have pq : Hid _ := hz0
 have pz : Hid _ := hz1
 have pF : Hid _ := hz2
 clear hi hz0 hz1 hz2
 have hb := h.blk
 have hlt := af hb
 have x2 : w.cell? ⟨wb, 4, none⟩ = some v := by rw [aa hb]; rfl
 have hsl := dm s
 obtain ⟨xa, xn, xc, hv⟩ : ∃ a n c, v = .slice a n c := by
  rcases h.row.2 with ⟨h1, _⟩ | ⟨g, cap, cur, h1, _⟩
  ·exact ⟨_, _, _, h1⟩
  ·exact ⟨_, _, _, h1⟩
 subst hv
 have HW : Hid _ := h
 have Yu : Hid _ := hb
 clear h hb
 go_enter Tryz.func111, Tryz.ntmps111
 go_wp2_with (at_builtin; go_must (refine rC rfl (.tmp 8) (.tmp 9) 121 9 rfl (wb + 1) 5 i0 Tryz.vO Tryz.D5 HI.out pq.out pz.out pF.out _ tx.length (strCells (bs tx)) rfl HW.out.row (bs s) rfl (by omega) (by omega) ?_))
 intro v' w1 hown hgrow hfresh
 obtain ⟨ya, yn, yc, hv'⟩ : ∃ a n c, v' = .slice a n c := by
  rcases hown.2 with ⟨h1, _⟩ | ⟨g, cap, cur, h1, _⟩
  ·exact ⟨_, _, _, h1⟩
  ·exact ⟨_, _, _, h1⟩
 subst hv'
 have hnb : (Value.slice xa xn xc).ownBlock ≠ some wb := fun e => by have := (HW.out.row.lt wb e).1; omega
 have hb1 : w1.heap[wb]? = some (.cells #[nv, ov, L.lr, L.la, .slice xa xn xc] 123 (0, 0)) := by rw [hgrow.block wb hlt (fun e => hnb e.symm)]; exact Yu.out
 have x2' : w1.cell? ⟨wb, 4, none⟩ = some (.slice xa xn xc) := by rw [aa hb1]; rfl
 have f2 := ag hb1 4
 have Hp := af hb1
 have hset := az hb1 4 (.slice ya yn yc)
 have Aa : Hid _ := hset
 have HO : Hid (w1.ownsRow (wb + 1) 5 1 (.slice ya yn yc) (tx.length + s.length) (strCells (bs tx) ++ strCells (bs s))) := hown
 have HG : Hid _ := hgrow
 have HF : Hid _ := hfresh
 clear hown hgrow hfresh hb1 hset
 go_wp2
 refine bodyPost_end (v := .tuple #[]) (by simp [results, Tryz.results111, go_sem]) rfl ⟨.slice ya yn yc, rfl, ?_, ?_⟩
 ·refine ⟨HG.out.os, HG.out.tape, HG.out.output, by have := HG.out.size; simp [World.setCell]; omega, ?_, HF.out⟩
  intro k hk cB hko
  rw [ak _ _ (by simpa using cB)]
  exact HG.out.block k hk (fun e => hko e.symm)
 ·refine ⟨Aa.out, ?_⟩
  have e : strCells (bs tx) ++ strCells (bs s) = strCells (bs (tx ++ s)) := by simp [strCells, bs]
  have h := HO.out
  rw [e] at h
  rw [List.length_append]
  refine ax h (fun k hk => ak _ _ ?_)
  have := (h.lt k hk).1
  simp only; omega
open Go.Lib (decDigits)
mutual
def fW (ns : List NR) : PT -> Nat -> Prop
 | .num _ s, base => ∃ n, ns[base]? = some n /\ n.form = 1 /\ n.num = au s
 | .name _ s, base => ∃ n, ns[base]? = some n /\ n.form = 2 /\ n.word = s
 | .node _ k nm _ kids, base => (∃ n, ns[base + aB kids]? = some n /\ n.form = aU k /\ n.word = nm /\ n.p0 = (ay kids base).getD 0 (-1) /\ n.p1 = (ay kids base).getD 1 (-1) /\ n.p2 = (ay kids base).getD 2 (-1)) /\ fD ns kids base
def fD (ns : List NR) : List PT -> Nat -> Prop
 | [], _ => True
 | t :: r, base => fW ns t base /\ fD ns r (base + t.cnt)
end
theorem Ab {α : Type} (pre a post : List α) (j : Nat) (x : α) (h : a[j]? = some x) : (pre ++ (a ++ post))[pre.length + j]? = some x := by
 have hj := (List.getElem?_eq_some_iff.1 h).1
 rw [List.getElem?_append_right (by omega), Nat.add_sub_cancel_left, List.getElem?_append_left hj]; exact h
mutual
theorem NA.shows : ∀ {scope : Sc} {t : PT} {base : Nat} {ms : List NR}, NA scope t base ms -> ∀ (pre post : List NR), pre.length = base -> fW (pre ++ (ms ++ post)) t base
 | _, .num _ s, _, _, h, pre, post, hb => by
  simp only [NA] at h; subst h; subst hb
  simp only [fW]
  exact ⟨_, Ab pre _ post 0 _ rfl, rfl, rfl⟩
 | _, .name _ s, _, _, h, pre, post, hb => by
  simp only [NA] at h; subst h; subst hb
  simp only [fW]
  exact ⟨_, Ab pre _ post 0 _ rfl, rfl, rfl⟩
 | _, .node p k nm rg kids, base, _, h, pre, post, hb => by
  simp only [NA] at h
  obtain ⟨ks, aO, h1, rfl⟩ := h
  have hl := cR.len h1
  simp only [fW]
  refine ⟨⟨⟨aU k, p, aO, 0, nm, au rg, -1, (ay kids base).getD 0 (-1), (ay kids base).getD 1 (-1), (ay kids base).getD 2 (-1)⟩, ?_, rfl, rfl, rfl, rfl, rfl⟩, ?_⟩
  ·rw [<- hl]; conv => lhs; rw [show base + ks.length = pre.length + ks.length from by rw [hb]]
   refine Ab pre _ post ks.length _ ?_
   rw [List.getElem?_append_right (Nat.le_refl _), Nat.sub_self]; rfl
  ·have h2 := cR.shows h1 pre (⟨aU k, p, aO, 0, nm, au rg, -1, (ay kids base).getD 0 (-1), (ay kids base).getD 1 (-1), (ay kids base).getD 2 (-1)⟩ :: post) hb
   rw [List.append_assoc, List.singleton_append]
   exact h2
theorem cR.shows : ∀ {scope : Sc} {nm : List UInt8} {ts : List PT} {bs : List Bool} {base : Nat} {ms : List NR}, cR scope nm ts bs base ms -> ∀ (pre post : List NR), pre.length = base -> fD (pre ++ (ms ++ post)) ts base
 | _, _, [], _, _, _, _, _, _, _ => by simp [fD]
 | _, _, _ :: _, [], _, _, h, _, _, _ => by simp [cR] at h
 | _, _, t :: r, b :: bs, _, _, h, pre, post, hb => by
  simp only [cR] at h
  obtain ⟨a, c, h1, h2, rfl⟩ := h
  have hl := NA.len h1
  simp only [fD]
  constructor
  ·have := NA.shows h1 pre (c ++ post) hb
   rw [List.append_assoc]; exact this
  ·have := cR.shows h2 (pre ++ a) post (by rw [List.length_append, hl, hb])
   simp only [List.append_assoc] at this ⊢; exact this
end
theorem NA.D6 {scope : Sc} {t : PT} {ns : List NR} (h : NA scope t 0 ns) : fW ns t 0 := by
 have := NA.shows h [] [] rfl
 simpa using this
theorem D7 (k : Kw) (w : World) (hk : k ≠ .new) : Calls Tryz.prog 169 #[.int .i64 (aU k)] w fun v w' => v = .returned (.string (bs k.bytes)) /\ w' = w := by
 cases k <;> first | exact absurd rfl hk | (go_enter Tryz.func169, Tryz.ntmps169; go_wp2; go_ret; exact ⟨rfl, rfl⟩)
def Hq : Kw -> Int
 | .bb => 0
 | .loop => 1
 | _ => -1
theorem qi (k : Kw) (w : World) : Calls Tryz.prog 170 #[.int .i64 (aU k)] w fun v w' => v = .returned (.int .i64 (Hq k)) /\ w' = w := by
 cases k <;> (go_enter Tryz.func170, Tryz.ntmps170; go_wp2; go_ret; exact ⟨rfl, rfl⟩)
def TU (r : Nat) : List UInt8 := [40, 110, 101, 119] ++ ([32, 35] ++ (decDigits r ++ [32]))
def su : List Int -> Nat -> Int -> List UInt8
 | [], _, _ => []
 | a :: l, r, i => (if a = i then TU r else []) ++ su l (r + 1) i
def sw (news : List Int) (i : Int) : Nat := (news.filter (· == i)).length
def TV (news : List Int) (i : Int) : List UInt8 := List.replicate (sw news i) 41
def jJ (regs : List Int) (i : Nat) : Int := (regs[i]?).getD (-1)
def Na (regs : List Int) (i : Nat) : List UInt8 := if jJ regs i = -1 then [] else [32, 35] ++ decDigits (jJ regs i).toNat
mutual
def PT.xM (regs news : List Int) : PT -> Nat -> List UInt8
 | .num _ s, _ => decDigits (au s).toNat
 | .name _ s, _ => s
 | .node _ k nm _ kids, b => if k = .new then (gF regs news kids b).headD [] else 40 :: (k.bytes ++ (Na regs (b + aB kids) ++ (bC k nm 0 (gF regs news kids b) ++ [41])))
def gF (regs news : List Int) : List PT -> Nat -> List (List UInt8)
 | [], _ => []
 | t :: r, b => (su news 0 ((b + t.cnt : Nat) - 1 : Int) ++ (PT.xM regs news t b ++ TV news ((b + t.cnt : Nat) - 1 : Int))) :: gF regs news r (b + t.cnt)
end
def PT.uJ (regs news : List Int) (t : PT) (b : Nat) : List UInt8 := su news 0 ((b + t.cnt : Nat) - 1 : Int) ++ (t.xM regs news b ++ TV news ((b + t.cnt : Nat) - 1 : Int))
theorem BG (i a : Int) : ∀ (l : List Int) (r : Nat), su (l ++ [a]) r i = su l r i ++ (if a = i then TU (r + l.length) else [])
 | [], r => by simp [su]
 | x :: l, r => by
  simp only [List.cons_append, su, BG i a l (r + 1), List.append_assoc, List.length_cons]
  rw [show r + 1 + l.length = r + (l.length + 1) by omega]
theorem Kf (l : List Int) (a i : Int) : sw (l ++ [a]) i = sw l i + (if a = i then 1 else 0) := by
 unfold sw
 rw [List.filter_append, List.length_append]
 by_cases h : a = i <;> simp [h]
theorem FJ (r : Nat) (h : r <= 9999) : (TU r).length <= 11 := by
 have := kJ r h
 unfold TU; simp only [List.length_append, List.length_cons, List.length_nil]; omega
theorem uK (i : Int) : ∀ (l : List Int) (r : Nat), r + l.length <= 9999 -> (su l r i).length <= 11 * l.length
 | [], _, _ => by simp [su]
 | a :: l, r, h => by
  simp only [List.length_cons] at h
  have h1 := uK i l (r + 1) (by omega)
  have h2 := FJ r (by omega)
  simp only [su, List.length_append, List.length_cons]
  split
  ·omega
  ·simp only [List.length_nil]; omega
theorem D8 (l : List Int) (i : Int) : sw l i <= l.length := List.length_filter_le _ _
theorem Ac (regs : List Int) (i : Nat) (h : jJ regs i <= 9999) : (Na regs i).length <= 6 := by
 unfold Na
 split
 ·simp
 ·have := kJ (jJ regs i).toNat (by omega)
  simp only [List.length_append, List.length_cons, List.length_nil]; omega
structure Vj (regs news : List Int) : Prop where
 n : news.length <= 150
 r : ∀ i, jJ regs i <= 9999
theorem nN (k : Kw) (nm : List UInt8) (h : nm.length <= 9000) : ∀ (l : List (List UInt8)) (i : Nat) (B : Nat), (l.map fun x => x.length + 9002).sum <= B -> (bC k nm i l).length <= B
 | [], _, _, _ => by simp [bC]
 | x :: r, i, B, hb => by
  simp only [List.map_cons, List.sum_cons] at hb
  have h1 := nN k nm h r (i + 1) (B - (x.length + 9002)) (by omega)
  have h2 := D4 k nm i x h
  simp only [bC, List.length_append]; omega
mutual
theorem FK {regs news : List Int} (H : Vj regs news) : ∀ (t : PT) (b : Nat), t.bN -> (t.xM regs news b).length + 9002 + 1800 <= 20000 * t.cnt
 | .num _ s, _, h => by
  simp only [PT.bN] at h
  simp only [PT.xM, PT.cnt]
  have := kJ (au s).toNat (by omega)
  omega
 | .name _ s, _, h => by simp only [PT.bN] at h; simp only [PT.xM, PT.cnt]; omega
 | .node _ k nm _ kids, b, h => by
  simp only [PT.bN] at h
  have h0 := vP H kids b h.2
  have h1 := nN k nm h.1 (gF regs news kids b) 0 _ h0
  have h3 : k.bytes.length <= 4 := by cases k <;> decide
  have h4 := Ac regs (b + aB kids) (H.r _)
  have h5 : ((gF regs news kids b).headD []).length <= 20000 * aB kids := by
   cases hw : gF regs news kids b with
   | nil => simp
   | cons x r => rw [hw] at h0; simp only [List.map_cons, List.sum_cons, List.headD_cons] at h0 ⊢; omega
  simp only [PT.xM, PT.cnt]
  split
  ·omega
  ·simp only [List.length_cons, List.length_append, List.length_nil]; omega
theorem vP {regs news : List Int} (H : Vj regs news) : ∀ (ts : List PT) (b : Nat), bG ts -> ((gF regs news ts b).map fun x => x.length + 9002).sum <= 20000 * aB ts
 | [], _, _ => by simp [gF]
 | t :: r, b, h => by
  simp only [bG] at h
  have h1 := FK H t b h.1
  have h2 := vP H r (b + t.cnt) h.2
  have h3 := uK ((b + t.cnt : Nat) - 1 : Int) news 0 (by have := H.n; omega)
  have h4 := D8 news ((b + t.cnt : Nat) - 1 : Int)
  have h5 := H.n
  simp only [gF, List.map_cons, List.sum_cons, aB, List.length_append, TV, List.length_replicate]
  omega
end
theorem sL (regs news : List Int) : ∀ (ts : List PT) (b j : Nat), gF regs news (ts.take j) b = (gF regs news ts b).take j
 | [], b, j => by simp [gF]
 | t :: r, b, 0 => by simp [gF]
 | t :: r, b, j + 1 => by simp [gF, sL regs news r (b + t.cnt) j]
theorem BH (regs news : List Int) : ∀ (ts : List PT) (b j : Nat) (x : PT), ts[j]? = some x -> (gF regs news ts b)[j]? = some (x.uJ regs news (b + aB (ts.take j)))
 | [], _, _, _, h => by simp at h
 | t :: r, b, 0, x, h => by simp only [List.getElem?_cons_zero, Option.some.injEq] at h; subst h; simp [gF, PT.uJ, aB]
 | t :: r, b, j + 1, x, h => by
  have := BH regs news r (b + t.cnt) j x (by simpa using h)
  simp only [gF, List.getElem?_cons_succ, List.take_succ_cons, aB, <- Nat.add_assoc]
  exact this
theorem nO (regs news : List Int) : ∀ (ts : List PT) (b : Nat), (gF regs news ts b).length = ts.length
 | [], _ => rfl
 | t :: r, b => by simp [gF, nO regs news r]
def lN (regs news : List Int) (k : Kw) (nm : List UInt8) (kids : List PT) (b i j : Nat) : List UInt8 := 40 :: (k.bytes ++ (Na regs i ++ bC k nm 0 (gF regs news (kids.take j) b)))
theorem Hr (regs news : List Int) (k : Kw) (nm : List UInt8) (kids : List PT) (b i j : Nat) (x : PT) (hx : kids[j]? = some x) : lN regs news k nm kids b i (j + 1) = lN regs news k nm kids b i j ++ cI k nm j (x.uJ regs news (b + aB (kids.take j))) := by
 have hlt : j < kids.length := (List.getElem?_eq_some_iff.1 hx).1
 unfold lN
 rw [sL, sL, List.take_add_one, BH regs news kids b j x hx]
 simp only [Option.toList_some]
 rw [qg, List.length_take, nO, Nat.min_eq_left (by omega), Nat.zero_add]
 simp [List.append_assoc]
theorem BI {regs news : List Int} (H : Vj regs news) (k : Kw) (nm : List UInt8) (kids : List PT) (b i j : Nat) (hn : nm.length <= 9000) (ht : bG kids) : (lN regs news k nm kids b i j).length <= 11 + 20000 * aB (kids.take j) := by
 have h0 := vP H (kids.take j) b (vK kids j ht)
 have h1 := nN k nm hn (gF regs news (kids.take j) b) 0 _ h0
 have h3 : k.bytes.length <= 4 := by cases k <;> decide
 have h4 := Ac regs i (H.r _)
 unfold lN
 simp only [List.length_cons, List.length_append]
 omega
theorem Kg (regs news : List Int) (p : Nat) (k : Kw) (nm rg : List UInt8) (kids : List PT) (b : Nat) (hk : k ≠ .new) : lN regs news k nm kids b (b + aB kids) kids.length ++ [41] = (PT.node p k nm rg kids).xM regs news b := by
 unfold lN
 simp [PT.xM, hk]
def fX (l : List Int) : List Value := l.map fun k => Value.int .i64 k
structure vQ (w : World) (L : Ly) : Prop where
 r : w.ownsRow 0 3 1 L.lr L.regs.length (fX L.regs)
 a : w.ownsRow 0 3 1 L.la L.news.length (fX L.news)
theorem vQ.below {w w' : World} {L : Ly} (h : vQ w L) (hb : Below w.heap.size w w') : vQ w' L := ⟨aA h.r hb, aA h.a hb⟩
structure oZ (L : Ly) (wb : Nat) (w : World) (nv ov : Value) (ns : List NR) (op : List Int) : Prop where
 tree : ∀ w', Below wb w w' -> bh w' nv ov ns op
 tab : Lib.TabBelow Tryz.prog wb w "internal/strconv.uint64pow10" .u64 Lib.pow10Tab
 len : ns.length <= 9000
 lay : ∀ w', Below wb w w' -> vQ w' L
 bd : Vj L.regs L.news
 rl : L.regs.length <= 9000
theorem oZ.on {L : Ly} {wb : Nat} {w w1 : World} {nv ov : Value} {ns : List NR} {op : List Int} (h : oZ L wb w nv ov ns op) (hb : Below wb w w1) : oZ L wb w1 nv ov ns op := ⟨fun w' h' => h.tree w' (hb.trans h'), h.tab.on hb, h.len, fun w' h' => h.lay w' (hb.trans h'), h.bd, h.rl⟩
theorem jF.below {wb : Nat} {w w' : World} {v v' : Value} (h : jF wb w w' v v') (hw : wb <= w.heap.size) (hv : ∀ g, v.ownBlock = some g -> wb < g) : Below wb w w' :=
 ⟨h.os, h.tape, h.output, h.size, fun k hk => h.blk k (by omega) (by omega) (fun e => by have := hv k e; omega)⟩
theorem kg.fr {L : Ly} {wb : Nat} {w w' : World} {nv ov v v' : Value} {tx : List UInt8} (h : kg L wb w nv ov v tx) (hf : jF wb w w' v v') : Below wb w w' :=
 hf.below (Nat.le_of_lt (af h.blk)) (fun g hg => by have := (h.row.lt g hg).1; omega)
def yJ (L : Ly) (wb : Nat) (nv ov : Value) (ns : List NR) (op : List Int) (t : PT) : Prop := ∀ (base : Nat) (w : World) (v : Value) (tx : List UInt8), fW ns t base -> t.bN -> t.wf -> base + t.cnt <= ns.length -> tx.length + 22000 * t.cnt <= 200000000 ->
 kg L wb w nv ov v tx -> oZ L wb w nv ov ns op -> Calls Tryz.prog 67 #[.pointer (some ⟨wb, 0, none⟩), .int .i64 (((base + t.cnt : Nat) : Int) - 1)] w fun e w' => ∃ v', e = .returned (.tuple #[]) /\ jF wb w w' v v' /\ kg L wb w' nv ov v' (tx ++ t.uJ L.regs L.news base)
def Kh (L : Ly) (wb : Nat) (nv ov : Value) (ns : List NR) (op : List Int) (t : PT) : Prop := ∀ (base : Nat) (w : World) (v : Value) (tx : List UInt8), fW ns t base -> t.bN -> t.wf -> base + t.cnt <= ns.length -> tx.length + 22000 * t.cnt <= 200001650 ->
 kg L wb w nv ov v tx -> oZ L wb w nv ov ns op -> Calls Tryz.prog 110 #[.pointer (some ⟨wb, 0, none⟩), .int .i64 (((base + t.cnt : Nat) : Int) - 1)] w fun e w' => ∃ v', e = .returned (.tuple #[]) /\ jF wb w w' v v' /\ kg L wb w' nv ov v' (tx ++ t.xM L.regs L.news base)
theorem ints_at {w : World} {l : List Int} {g cap : Nat} (h : w.ownsRow 0 3 1 (.slice (some ⟨g, 0, none⟩) l.length cap) l.length (fX l)) (k : Nat) (x : Int) (hk : l[k]? = some x) : w.cell? ⟨g, k, none⟩ = some (.int .i64 x) := by
 rw [h.cellAt k (by have := (List.getElem?_eq_some_iff.1 hk).1; omega)]; unfold fX; rw [List.getElem?_map, hk]; rfl
theorem BJ (w : World) (L : Ly) (h : vQ w L) : Calls Tryz.prog 138 #[.agg #[L.lr, L.la]] w fun v w' => v = .returned (.int .i64 L.news.length) /\ Below w.heap.size w w' := by
 obtain ⟨a0, c0, e0⟩ := aF h.r
 obtain ⟨a1, c1, e1⟩ := aF h.a
 rw [e0, e1]
 clear h e0 e1
 generalize L.news.length = m
 generalize L.regs.length = n
 go_enter Tryz.func138, Tryz.ntmps138
 go_wp2
 go_ret
 exact ⟨rfl, (Below.refl _ _).alloc (Nat.le_refl _) _⟩
theorem D9 (w : World) (L : Ly) (h : vQ w L) (hl : L.regs.length <= 9000) (i : Nat) (hi : i <= 9000) : Calls Tryz.prog 141 #[.agg #[L.lr, L.la], .int .i64 i] w fun v w' => v = .returned (.int .i64 (jJ L.regs i)) /\ Below w.heap.size w w' := by
 have hr := h.r
 obtain ⟨a1, c1, e1⟩ := aF h.a
 rw [e1]
 clear h e1
 generalize L.news.length = m
 generalize L.lr = lr at *
 generalize L.regs = l at *
 by_cases hlt : i < l.length
 ·obtain ⟨g, cap, rfl⟩ := fB hr (by omega)
  have c := ints_at hr i l[i] (List.getElem?_eq_getElem hlt)
  have e : jJ l i = l[i] := by unfold jJ; rw [List.getElem?_eq_getElem hlt]; rfl
  rw [e]
  have hg : g < w.heap.size := (hr.lt g rfl).2
  generalize l[i] = x at *
  generalize l.length = n at *
  clear hr e
  go_enter Tryz.func141, Tryz.ntmps141
  go_wp2
  go_ret
  exact ⟨rfl, (Below.refl _ _).alloc (Nat.le_refl _) _⟩
 ·have e : jJ l i = -1 := by unfold jJ; rw [List.getElem?_eq_none (by omega)]; rfl
  rw [e]
  obtain ⟨a0, c0, rfl⟩ := aF hr
  generalize l.length = n at *
  clear hr e
  go_enter Tryz.func141, Tryz.ntmps141
  go_wp2
  go_ret
  exact ⟨rfl, (Below.refl _ _).alloc (Nat.le_refl _) _⟩
theorem Hs (w : World) (L : Ly) (h : vQ w L) (i : Nat) (x : Int) (hx : L.news[i]? = some x) (hl : L.news.length <= 9000) : Calls Tryz.prog 139 #[.agg #[L.lr, L.la], .int .i64 i] w fun v w' => v = .returned (.int .i64 x) /\ Below w.heap.size w w' := by
 have hr := h.a
 obtain ⟨a1, c1, e1⟩ := aF h.r
 rw [e1]
 clear h e1
 generalize L.regs.length = m
 generalize L.la = lr at *
 generalize L.news = l at *
 have hlt := (List.getElem?_eq_some_iff.1 hx).1
 obtain ⟨g, cap, rfl⟩ := fB hr (by omega)
 have c := ints_at hr i x hx
 have hg : g < w.heap.size := (hr.lt g rfl).2
 generalize l.length = n at *
 clear hr hx
 go_enter Tryz.func139, Tryz.ntmps139
 go_wp2
 go_ret
 exact ⟨rfl, (Below.refl _ _).alloc (Nat.le_refl _) _⟩
theorem oZ.itoa {L : Ly} {wb : Nat} {w : World} {nv ov : Value} {ns : List NR} {op : List Int} (h : oZ L wb w nv ov ns op) (m : Nat) (hm : m <= 9999) : Calls Tryz.prog 49 #[.int .i64 m] w fun e w2 => e = .returned (.string (bs (decDigits m))) /\ Below w.heap.size w w2 :=
 uH w (h.tab w (Below.refl _ _)) m w (by omega) (Below.refl _ _)
theorem pK (L : Ly) (wb : Nat) (w : World) (nv ov v : Value) (ns : List NR) (op : List Int) (tx : List UInt8) (m : Nat) (hm : m <= 9999) (hin : kg L wb w nv ov v tx) (aW : oZ L wb w nv ov ns op) (hl : tx.length <= 390000000) :
  Calls Tryz.prog 140 #[.pointer (some ⟨wb, 0, none⟩), .int .i64 m] w fun e w' => ∃ v', e = .returned (.tuple #[]) /\ jF wb w w' v v' /\ kg L wb w' nv ov v' (tx ++ ([32, 35] ++ decDigits m)) := by
 have hd := kJ m hm
 have gu : Calls Tryz.prog 111 #[.pointer (some ⟨wb, 0, none⟩), .string ⟨#[32, 35]⟩] w fun e w2 => ∃ v2, e = .returned (.tuple #[]) /\ jF wb w w2 v v2 /\ kg L wb w2 nv ov v2 (tx ++ [32, 35]) := lu wb w nv ov v tx [32, 35] hin (by simp; omega)
 have uE := fun (w' : World) (v' : Value) (h : kg L wb w' nv ov v' (tx ++ [32, 35])) => lu wb w' nv ov v' (tx ++ [32, 35]) (decDigits m) h (by simp; omega)
 have Vk : ∀ (w' : World) (v' : Value), jF wb w w' v v' -> Calls Tryz.prog 49 #[.int .i64 m] w' fun e w2 => e = .returned (.string (bs (decDigits m))) /\ Below w'.heap.size w' w2 := fun w' v' hf => (aW.on (hin.fr hf)).itoa m (by omega)
 have e0 : tx ++ [32, 35] ++ decDigits m = tx ++ ([32, 35] ++ decDigits m) := by simp
 have RA : Hid _ := gu
 have XK : Hid _ := uE
 have HON : Hid _ := Vk
 have HE : Hid _ := e0
 clear gu uE Vk e0 hin aW
 go_enter Tryz.func140, Tryz.ntmps140
 go_wp2_with fail
 refine Calls.mono RA.out ?_
 rintro _ w1 ⟨v1, rfl, hf1, hi1⟩
 have Vm := HON.out _ _ hf1
 have dO : Hid _ := hf1
 have HI1 : Hid _ := hi1
 clear hf1 hi1 HON RA
 go_wp2_with fail
 refine Vm.mono ?_
 rintro _ w2 ⟨rfl, hb2⟩
 have HI2 : Hid _ := HI1.out.below hb2
 have cj : Hid _ := dO.out.trans (jF.ju v1 hb2)
 clear hb2 Vm HI1 dO
 go_wp2_with fail
 refine (XK.out _ _ HI2.out).mono ?_
 rintro _ w3 ⟨v3, rfl, hf3, qU⟩
 rw [HE.out] at qU
 have dC : Hid _ := cj.out.trans hf3
 have HI3 : Hid _ := qU
 clear hf3 qU
 go_wp2_with fail
 refine bodyPost_end (v := .tuple #[]) (by simp [results, Tryz.results140, go_sem]) rfl ⟨v3, rfl, dC.out, HI3.out⟩
theorem Ad (L : Ly) (wb : Nat) (w : World) (nv ov v : Value) (ns : List NR) (op : List Int) (tx : List UInt8) (i : Nat) (hin : kg L wb w nv ov v tx) (aW : oZ L wb w nv ov ns op) (hl : tx.length <= 200000000) :
  Calls Tryz.prog 109 #[.pointer (some ⟨wb, 0, none⟩), .int .i64 i] w fun e w' => ∃ v', e = .returned (.int .i64 (sw L.news i)) /\ jF wb w w' v v' /\ kg L wb w' nv ov v' (tx ++ su L.news 0 i) := by
 have x5 := fun (w' : World) (v' : Value) (h : jF wb w w' v v') => aW.lay w' (hin.fr h)
 have lg := aW.bd.n
 have YQ := fun (w' : World) (v' : Value) (h : jF wb w w' v v') => BJ w' L (x5 w' v' h)
 have YR := fun (w' : World) (v' : Value) (h : jF wb w w' v v') (k : Nat) (x : Int) (hx : L.news[k]? = some x) => Hs w' L (x5 w' v' h) k x hx (by omega)
 have hPR := fun (w' : World) (v' : Value) (iG : List UInt8) (k : Nat) (hk : k <= 9999) (h : jF wb w w' v v') (h1 : kg L wb w' nv ov v' iG) (hl' : iG.length <= 390000000) => pK L wb w' nv ov v' ns op iG k hk h1 (aW.on (hin.fr h)) hl'
 have XL : ∀ w' v' iG (h : kg L wb w' nv ov v' iG) (hl : iG.length <= 390000000), Calls Tryz.prog 111 #[.pointer (some ⟨wb, 0, none⟩), .string ⟨#[40, 110, 101, 119]⟩] w' fun e w2 => ∃ v2, e = .returned (.tuple #[]) /\ jF wb w' w2 v' v2 /\ kg L wb w2 nv ov v2 (iG ++ [40, 110, 101, 119]) := fun w' v' iG h hl => lu wb w' _ _ v' iG [40, 110, 101, 119] h (by simp; omega)
 have Ki : ∀ w' v' iG (h : kg L wb w' nv ov v' iG) (hl : iG.length <= 390000000), Calls Tryz.prog 111 #[.pointer (some ⟨wb, 0, none⟩), .string ⟨#[32]⟩] w' fun e w2 => ∃ v2, e = .returned (.tuple #[]) /\ jF wb w' w2 v' v2 /\ kg L wb w2 nv ov v2 (iG ++ [32]) := fun w' v' iG h hl => lu wb w' _ _ v' iG [32] h (by simp; omega)
 have hlen : ∀ k, (su (L.news.take k) 0 i).length <= 11 * 150 := fun k => by
  have := uK i (L.news.take k) 0 (by simp only [List.length_take]; omega)
  simp only [List.length_take] at this; omega
 have tO : ∀ k x, L.news[k]? = some x -> L.news.take (k + 1) = L.news.take k ++ [x] := fun k x hx => by rw [List.take_add_one, hx]; rfl
 have hcells : ∀ (w' : World) (v' : Value) (iG : List UInt8), kg L wb w' nv ov v' iG -> w'.cell? ⟨wb, 2, none⟩ = some L.lr /\ w'.cell? ⟨wb, 3, none⟩ = some L.la /\ wb < w'.heap.size := fun w' v' iG h => ⟨by rw [aa h.blk]; rfl, by rw [aa h.blk]; rfl, af h.blk⟩
 obtain ⟨a0, c0, e0⟩ := aF (x5 w v (jF.refl _ _ _)).r
 obtain ⟨a1, c1, e1⟩ := aF (x5 w v (jF.refl _ _ _)).a
 have XM : Hid _ := hcells
 rw [e0, e1] at YQ YR XM
 have NT : Hid _ := YQ
 have Nv : Hid _ := YR
 have A6 : Hid _ := hPR
 have HP4 : Hid _ := XL
 have Kj : Hid _ := Ki
 have lH : Hid _ := hlen
 have iQ : Hid _ := tO
 have lR : Hid _ := hin
 obtain ⟨m, hm⟩ : ∃ m, m = L.news.length := ⟨_, rfl⟩
 have HM : Hid _ := hm
 rw [<- hm] at NT Nv XM lg
 generalize L.regs.length = nr at *
 clear YQ YR hPR XL Ki hlen tO x5 hin aW e0 e1 hcells hm
 go_enter Tryz.func109, Tryz.ntmps109
 go_wp2
 go_loopw [5, 6] (fun a b wr => ∃ (k : Nat) (vr : Value), k <= m /\ a = .int .i64 (sw (L.news.take k) i) /\ b = .int .i64 k /\ jF wb w wr v vr /\ kg L wb wr nv ov vr (tx ++ su (L.news.take k) 0 i)) (fun _ b _ => m - (intOf b).toNat)
 case atStart => exact ⟨0, v, by omega, rfl, rfl, jF.refl _ _ _, by simpa [su] using lR.out⟩
 case round =>
  obtain ⟨k, vr, hk, rfl, rfl, hfr, Ht⟩ := hrel
  obtain ⟨y2, y3, yl⟩ := XM.out _ _ _ Ht
  have Qd := NT.out _ _ hfr
  have hll := lH.out k
  have hcn : sw (L.news.take k) i <= 150 := by have := D8 (L.news.take k) i; simp only [List.length_take] at this; omega
  have pV : Hid _ := hfr
  have Vn : Hid _ := Ht
  clear hfr Ht
  go_wp2_with fail
  refine Qd.mono ?_
  rintro _ w1 ⟨rfl, hb1⟩
  have dO : Hid _ := pV.out.trans (jF.ju vr hb1)
  have HI1 : Hid _ := Vn.out.below hb1
  clear hb1 Qd pV Vn y2 y3 yl
  obtain ⟨y2, y3, yl⟩ := XM.out _ _ _ HI1.out
  by_cases hlt : k < m
  ·have hkl : k < L.news.length := by have := HM.out; omega
   obtain ⟨x, hx⟩ : ∃ x, L.news[k]? = some x := ⟨L.news[k], List.getElem?_eq_getElem hkl⟩
   have hab := Nv.out _ _ dO.out k x hx
   have hts := iQ.out k x hx
   have hos := BG i x (L.news.take k) 0
   have hcs := Kf (L.news.take k) x i
   rw [<- hts, List.length_take, Nat.min_eq_left (by omega), Nat.zero_add] at hos
   rw [<- hts] at hcs
   have XN : Hid _ := hos
   have XO : Hid _ := hcs
   clear hx hts hos hcs hkl
   go_wp2_with fail
   refine hab.mono ?_
   rintro _ w2 ⟨rfl, hb2⟩
   have cj : Hid _ := dO.out.trans (jF.ju vr hb2)
   have HI2 : Hid _ := HI1.out.below hb2
   clear hb2 hab dO HI1 y2 y3 yl
   by_cases Qe : x = (i : Int)
   ·have q : (x == (i : Int)) = true := by rw [Qe]; simp
    have e1 : tx ++ su (L.news.take k) 0 i ++ [40, 110, 101, 119] ++ ([32, 35] ++ decDigits k) ++ [32] = tx ++ su (L.news.take (k + 1)) 0 i := by rw [XN.out, if_pos Qe]; simp [TU]
    have e2 : sw (L.news.take (k + 1)) i = sw (L.news.take k) i + 1 := by rw [XO.out, if_pos Qe]
    have HE1 : Hid _ := e1
    have Vo : Hid _ := e2
    have hd4 := kJ k (by omega)
    clear Qe e1 e2 XN XO
    go_wp2_with fail
    refine (HP4.out _ _ _ HI2.out (by simp; omega)).mono ?_
    rintro _ w3 ⟨v3, rfl, hf3, qU⟩
    have dC : Hid _ := cj.out.trans hf3
    have HI3 : Hid _ := qU
    clear hf3 qU cj HI2
    go_wp2_with fail
    refine (A6.out _ _ _ k (by omega) dC.out HI3.out (by simp; omega)).mono ?_
    rintro _ w4 ⟨v4, rfl, cT, hi4⟩
    have js : Hid _ := dC.out.trans cT
    have HI4 : Hid _ := hi4
    clear cT hi4 dC HI3
    go_wp2_with fail
    refine (Kj.out _ _ _ HI4.out (by simp; omega)).mono ?_
    rintro _ w5 ⟨v5, rfl, ew, nA⟩
    rw [HE1.out] at nA
    have fJ : Hid _ := js.out.trans ew
    have iJ : Hid _ := nA
    clear ew nA js HI4
    generalize sw (L.news.take k) i = cc at *
    go_wp2
    go_roundw
    case rel => exact ⟨k + 1, v5, by omega, by rw [Vo.out]; go_num, by go_num, fJ.out, iJ.out⟩
    case measure => simp [intOf]; omega
   ·have q : (x == (i : Int)) = false := by rw [beq_eq_false_iff_ne]; exact Qe
    have qj := HI2.out
    have e2 : sw (L.news.take (k + 1)) i = sw (L.news.take k) i := by rw [XO.out, if_neg Qe]; rfl
    have e1 : su (L.news.take k) 0 i = su (L.news.take (k + 1)) 0 i := by rw [XN.out, if_neg Qe]; simp
    rw [e1] at qj
    have iJ : Hid _ := qj
    have Vo : Hid _ := e2
    clear Qe e1 e2 XN XO qj HI2
    generalize sw (L.news.take k) i = cc at *
    go_wp2
    go_roundw
    case rel => exact ⟨k + 1, vr, by omega, by rw [Vo.out], by go_num, cj.out, iJ.out⟩
    case measure => simp [intOf]; omega
  ·have FC : k = L.news.length := by have := HM.out; omega
   have et : L.news.take k = L.news := by rw [FC]; exact List.take_length
   have hi1 := HI1.out
   rw [et] at hi1 ⊢
   have HI2 : Hid _ := hi1
   clear hi1 et FC HI1
   go_wp2
   go_ret
   exact ⟨_, rfl, dO.out, HI2.out⟩
theorem Ae (L : Ly) (wb : Nat) (nv ov : Value) (ns : List NR) (op : List Int) (t : PT) (hf : Kh L wb nv ov ns op t) : yJ L wb nv ov ns op t := by
 intro base w v tx hsh jU hwf hle mX hin aW
 have XP := dI t
 obtain ⟨M, hM⟩ : ∃ M : Nat, (((base + t.cnt : Nat) : Int) - 1) = (M : Int) := ⟨base + t.cnt - 1, by omega⟩
 have Vk := Ad L wb w nv ov v ns op tx M hin aW (by omega)
 have UQ := uK (M : Int) L.news 0 (by have := aW.bd.n; omega)
 have ui := D8 L.news (M : Int)
 have lg := aW.bd.n
 have hfl := FK aW.bd t base jU
 have hfm := fun (w' : World) (v' : Value) (hb : jF wb w w' v v') (h1 : kg L wb w' nv ov v' (tx ++ su L.news 0 M)) => hf base w' v' (tx ++ su L.news 0 M) hsh jU hwf hle (by simp; omega) h1 (aW.on (hin.fr hb))
 have hw : t.uJ L.regs L.news base = su L.news 0 M ++ (t.xM L.regs L.news base ++ List.replicate (sw L.news M) 41) := by unfold PT.uJ TV; rw [hM]
 rw [hM] at hfm ⊢
 rw [hw]
 have Kk : ∀ w' v' iG (h : kg L wb w' nv ov v' iG) (hl : iG.length <= 390000000), Calls Tryz.prog 111 #[.pointer (some ⟨wb, 0, none⟩), .string ⟨#[41]⟩] w' fun e w2 => ∃ v2, e = .returned (.tuple #[]) /\ jF wb w' w2 v' v2 /\ kg L wb w2 nv ov v2 (iG ++ [41]) := fun w' v' iG h hl => lu wb w' _ _ v' iG [41] h (by simp; omega)
 have HFM : Hid _ := hfm
 have RB : Hid _ := Kk
 generalize t.xM L.regs L.news base = fx at *
 generalize su L.news 0 M = ox at *
 generalize sw L.news M = cn at *
 have e0 : tx ++ ox ++ fx = tx ++ ox ++ fx ++ List.replicate 0 41 := by simp
 have Vp : ∀ j, tx ++ ox ++ fx ++ List.replicate j 41 ++ [41] = tx ++ ox ++ fx ++ List.replicate (j + 1) 41 := fun j => by rw [List.append_assoc, <- List.replicate_succ']
 have Vq : tx ++ ox ++ fx ++ List.replicate cn 41 = tx ++ (ox ++ (fx ++ List.replicate cn 41)) := by simp
 have HE0 : Hid _ := e0
 have XQ : Hid _ := Vp
 have RC : Hid _ := Vq
 have aaA : t.cnt <= 9000 := by have := aW.len; omega
 generalize t.cnt = tc at *
 clear hfm hf hin aW hsh jU hwf hle hM hw Kk e0 Vp Vq
 go_enter Tryz.func67, Tryz.ntmps67
 go_wp2_with fail
 refine Vk.mono ?_
 rintro _ w1 ⟨v1, rfl, hf1, hi1⟩
 have dO : Hid _ := hf1
 have HI1 : Hid _ := hi1
 clear hf1 hi1 Vk
 go_wp2_with fail
 refine (HFM.out _ _ dO.out HI1.out).mono ?_
 rintro _ w2 ⟨v2, rfl, hfr, bf⟩
 rw [HE0.out] at bf
 have HF : Hid _ := dO.out.trans hfr
 have HI : Hid _ := bf
 clear hfr bf dO HI1 HFM HE0
 go_wp2
 go_loopw [4] (fun a wr => ∃ (j : Nat) (vr : Value), j <= cn /\ a = .int .i64 ((cn - j : Nat) : Int) /\ jF wb w wr v vr /\ kg L wb wr nv ov vr (tx ++ ox ++ fx ++ List.replicate j 41)) (fun a _ => (intOf a).toNat)
 case atStart => exact ⟨0, v2, by omega, by simp, HF.out, HI.out⟩
 case round =>
  obtain ⟨j, vr, hj, rfl, hfr, Ht⟩ := hrel
  have pV : Hid _ := hfr
  have XR : Hid _ := Ht
  clear hfr Ht HF HI
  by_cases hlt : j < cn
  ·have Qf := XQ.out j
   have NU : Hid _ := Qf
   clear Qf
   obtain ⟨z, hz⟩ : ∃ z, cn - j = z + 1 := ⟨cn - j - 1, by omega⟩
   rw [hz]
   have hzz : cn - (j + 1) = z := by omega
   go_wp2_with fail
   refine (RB.out _ _ _ XR.out (by simp; omega)).mono ?_
   rintro _ w3 ⟨v3, rfl, hf3, qU⟩
   rw [NU.out] at qU
   have dC : Hid _ := pV.out.trans hf3
   have HI3 : Hid _ := qU
   clear hf3 qU pV XR
   go_wp2
   go_roundw
   case rel => exact ⟨j + 1, v3, by omega, by rw [hzz]; first | done | go_num, dC.out, HI3.out⟩
   case measure => simp [intOf]
  ·have hj2 : j = cn := by omega
   subst hj2
   have hi := XR.out
   rw [RC.out] at hi
   have HI2 : Hid _ := hi
   clear hi XR
   rw [show j - j = 0 by omega]
   go_wp2
   refine bodyPost_end (v := .tuple #[]) (by simp [results, Tryz.results67, go_sem]) rfl ⟨vr, rfl, pV.out, HI2.out⟩
theorem NV (L : Ly) (wb : Nat) (x1 : Option Addr) (n1 c1 : Nat) (x2 : Option Addr) (n2 c2 : Nat) (ns : List NR) (op : List Int) (p : Nat) (s : List UInt8) : Kh L wb (.slice x1 n1 c1) (.slice x2 n2 c2) ns op (.name p s) := by
 intro base w v tx hsh jU hwf hle mX hin aW
 simp only [fW] at hsh
 obtain ⟨n, hn, hf, hwd⟩ := hsh
 simp only [PT.bN] at jU
 simp only [PT.cnt] at hle mX
 have hno := dZ w (.slice x1 n1 c1) (.slice x2 n2 c2) ns op (aW.tree w (Below.refl _ _)) base n hn aW.len
 have hbl := aW.len
 have hb := hin.blk
 have y0 : w.cell? ⟨wb, 0, none⟩ = some (.slice x1 n1 c1) := by rw [aa hb]; rfl
 have y1 : w.cell? ⟨wb, 1, none⟩ = some (.slice x2 n2 c2) := by rw [aa hb]; rfl
 have hput := fun w' (h : kg L wb w' (.slice x1 n1 c1) (.slice x2 n2 c2) v tx) => lu wb w' _ _ v tx s h (by omega)
 have HP : Hid _ := hput
 have lR : Hid _ := hin
 have hlt := af hb
 unfold aK aI at hno
 rw [hf, hwd] at hno
 simp only [PT.xM, PT.cnt]
 rw [show (((base + 1 : Nat) : Int) - 1) = (base : Int) from by omega]
 clear hb hin aW hput hn
 go_enter Tryz.func110, Tryz.ntmps110
 go_wp2_with (first
  | (go_at_call 94; refine hno.mono ?_; rintro _ w1 ⟨rfl, hb1⟩)
  | (go_at_call 111; refine (HP.out _ (lR.out.below (hb1.alloc hb1.size _))).mono ?_; rintro _ w2 ⟨v', rfl, hfr, o4⟩))
 refine bodyPost_end (v := .tuple #[]) (by simp [results, Tryz.results110, go_sem]) rfl ⟨v', rfl, (jF.ju v (hb1.alloc hb1.size _)).trans hfr, o4⟩
theorem RD (L : Ly) (wb : Nat) (x1 : Option Addr) (n1 c1 : Nat) (x2 : Option Addr) (n2 c2 : Nat) (ns : List NR) (op : List Int) (p : Nat) (s : List UInt8) : Kh L wb (.slice x1 n1 c1) (.slice x2 n2 c2) ns op (.num p s) := by
 intro base w v tx hsh jU hwf hle mX hin aW
 simp only [fW] at hsh
 obtain ⟨n, hn, hf, oV⟩ := hsh
 simp only [PT.bN] at jU
 simp only [PT.cnt] at hle mX
 obtain ⟨m, hm⟩ : ∃ m : Nat, au s = m := ⟨(au s).toNat, by omega⟩
 have hno := dZ w (.slice x1 n1 c1) (.slice x2 n2 c2) ns op (aW.tree w (Below.refl _ _)) base n hn aW.len
 have hbl := aW.len
 have hb := hin.blk
 have y0 : w.cell? ⟨wb, 0, none⟩ = some (.slice x1 n1 c1) := by rw [aa hb]; rfl
 have y1 : w.cell? ⟨wb, 1, none⟩ = some (.slice x2 n2 c2) := by rw [aa hb]; rfl
 have hd4 := kJ m (by omega)
 have hput := fun w' (h : kg L wb w' (.slice x1 n1 c1) (.slice x2 n2 c2) v tx) => lu wb w' _ _ v tx (decDigits m) h (by omega)
 have hlt := af hb
 have hit : ∀ w', Below w.heap.size w w' -> Calls Tryz.prog 49 #[.int .i64 m] w' fun e w2 => e = .returned (.string (bs (decDigits m))) /\ Below w'.heap.size w' w2 :=
  fun w' h => uH w' (aW.tab w' (h.mono (Nat.le_of_lt hlt))) m w' (by omega) (Below.refl _ _)
 have Qg : Hid _ := hit
 have HP : Hid _ := hput
 have lR : Hid _ := hin
 unfold aK aI at hno
 rw [hf, oV, hm] at hno
 simp only [PT.xM, PT.cnt]
 rw [show (((base + 1 : Nat) : Int) - 1) = (base : Int) from by omega, hm, Int.toNat_natCast]
 clear hb hin aW hput hn hit jU
 go_enter Tryz.func110, Tryz.ntmps110
 go_wp2_with (first
  | (go_at_call 94; refine hno.mono ?_; rintro _ w1 ⟨rfl, hb1⟩)
  | (go_at_call 49; refine (Qg.out _ (hb1.alloc hb1.size _)).mono ?_; rintro _ w2 ⟨rfl, hb2⟩)
  | (go_at_call 111; refine (HP.out _ (lR.out.below ((hb1.alloc hb1.size _).trans (hb2.mono (hb1.alloc hb1.size _).size)))).mono ?_; rintro _ w3 ⟨v', rfl, hfr, o4⟩))
 refine bodyPost_end (v := .tuple #[]) (by simp [results, Tryz.results110, go_sem]) rfl ⟨v', rfl, (jF.ju v ((hb1.alloc hb1.size _).trans (hb2.mono (hb1.alloc hb1.size _).size))).trans hfr, o4⟩
end Go.Proofs.YtpicaknklgccoaaGreatDoor
