import Derived.Test.YtpicaknklgccoabGreatDoorX14
import Derived.Lib.AppendStr
namespace Go.Proofs.YtpicaknklgccoabGreatDoor
open Go.RowKit
open Go.Lib (strCells)
theorem run_append_str {P : Program} (w : World) (t u ty e : TypeId) (i : TypeInfo) (ht : P.underlying t = some (.slice e)) (hu : P.underlying u = some .string) (hi : P.info? e = some i) (hz : i.zero = some (.int .u8 0))
  (hsize : i.size = 1) (hby : i.bytes = 1) (base : Nat) (v : Value) (n : Nat) (xs : List Value) (hown : w.ownsRow base e 1 v n xs) (s : ByteArray) (hlim : n + s.size ≤ 140737488355328) (hbase : base ≤ w.heap.size) :
  ∃ v' w', (Builtin.append_ #[t, u] ty #[v, .string s]).run P w = .ok v' w' ∧ w'.ownsRow base e 1 v' (n + s.size) (xs ++ strCells s) ∧ w.grownBy w' v.ownBlock ∧ (∀ g, v'.ownBlock = some g → v.ownBlock = some g ∨ w.heap.size ≤ g) := by
 have h63 : n + s.size ≤ maxLen := by unfold maxLen; omega
 obtain ⟨v', w', hr, h2, h3, h4⟩ := Lib.run_append_own_string (P := P) w base t u ty e i ht hu hi hz hsize hby v n xs hown s h63 hlim hbase
 refine ⟨v', w', hr, h2, h3, ?_⟩
 intro g hg
 rcases hown.2 with ⟨hv, hn0⟩ | ⟨g0, cap, cur, hv, hgb, hh, hn', hcm, hcs, htake⟩
 ·subst hv
  subst hn0
  have hx : xs = [] := List.eq_nil_of_length_eq_zero (by simpa using hown.1)
  subst hx
  obtain ⟨v2, w2, hr2, k2, _, _⟩ := Lib.run_append_own_string (P := P) w w.heap.size t u ty e i ht hu hi hz hsize hby (.slice none 0 0) 0 [] (World.ownsRow_nil w _ e 1) s h63 hlim (Nat.le_refl _)
  rw [hr] at hr2
  cases hr2
  exact Or.inr (k2.lt g hg).1
 ·subst hv
  by_cases hroom : n + s.size ≤ cap
  ·have hr2 := Lib.run_append_room_string (P := P) w t u ty e i ht hu hi hsize g0 n cap cur hh s hroom (by omega)
   rw [hr] at hr2
   cases hr2
   exact Or.inl hg
  ·have hr2 := Lib.run_append_grow_string (P := P) w t u ty e i (.int .u8 0) ht hu hi hz ⟨g0, 0, none⟩ n cap xs (by rw [hsize]; exact hown.1) (hown.cells (g := g0) rfl) s (by omega) (by unfold maxLen at h63; omega) (by rw [hby]; exact growslice_fits (by omega) (by omega))
   rw [hr] at hr2
   cases hr2
   simp [Value.ownBlock] at hg
   exact Or.inr (by omega)
theorem wpList_append_str {P : Program} {w : World} {ops : Array Oper} {rest : List Oper} {o : Oper} {a : Act} {Q : Exit → Act → World → Prop} (hgd : o.guard = none) (sl x : Operand) (t u : TypeId)
  (ho : o.op = .call { callee := .builtin .append, args := #[sl, x], argTypes := #[t, u] }) (base : Nat) (e : TypeId) (i : TypeInfo) (ht : P.underlying t = some (.slice e)) (hu : P.underlying u = some .string) (hi : P.info? e = some i) (hz : i.zero = some (.int .u8 0))
  (hsize : i.size = 1) (hby : i.bytes = 1) (v : Value) (n : Nat) (xs : List Value) (hs : a.eval sl = v) (hown : w.ownsRow base e 1 v n xs) (s : ByteArray) (hx : a.eval x = .string s) (hlim : n + s.size ≤ 140737488355328) (hbase : base ≤ w.heap.size)
  (h : ∀ v' w', w'.ownsRow base e 1 v' (n + s.size) (xs ++ strCells s) → w.grownBy w' v.ownBlock → (∀ g, v'.ownBlock = some g → v.ownBlock = some g ∨ w.heap.size ≤ g) → wpList P ops Q rest (a.put o.dst v') w') : wpList P ops Q (o :: rest) a w := by
 refine wpList_plain hgd fun K hK => ?_
 obtain ⟨v', w', hr, h2, h3, h4⟩ := run_append_str (P := P) w t u o.type e i ht hu hi hz hsize hby base v n xs hown s hlim hbase
 unfold Oper.wp execOp
 simp only [ho, resolve, invoke, builtin, Sem.run_bind, Sem.run_pure, Result.andThen_ok, List.map_toArray, List.map_cons, List.map_nil, hs, hx, hr]
 exact hK _ _ (h v' w' h2 h3 h4)
theorem Tryz.infoU8 : (Tryz.prog.info? 5).map (fun i => (i.zero, i.size, i.bytes)) = some (some (.int .u8 0), 1, 1) := by kernel_rfl
theorem Tryz.undBytes : Tryz.prog.underlying 82 = some (.slice 5) := by kernel_rfl
theorem Tryz.undStr : Tryz.prog.underlying 9 = some .string := by kernel_rfl
structure WIn (wb : Nat) (w : World) (nv ov v : Value) (tx : List UInt8) : Prop where
 blk : w.heap[wb]? = some (.cells #[nv, ov, .slice none 0 0, .slice none 0 0, v] 95 (0, 0))
 row : w.ownsRow (wb + 1) 5 1 v tx.length (strCells (bs tx))
structure WFr (wb : Nat) (w w' : World) (v v' : Value) : Prop where
 os : w'.os = w.os
 tape : w'.tape = w.tape
 output : w'.output = w.output
 size : w.heap.size ≤ w'.heap.size
 blk : ∀ k, k < w.heap.size → k ≠ wb → v.ownBlock ≠ some k → w'.heap[k]? = w.heap[k]?
 o : ∀ g, v'.ownBlock = some g → v.ownBlock = some g ∨ w.heap.size ≤ g
theorem WFr.refl (wb : Nat) (w : World) (v : Value) : WFr wb w w v v := ⟨rfl, rfl, rfl, Nat.le_refl _, fun _ _ _ _ => rfl, fun _ h => Or.inl h⟩
theorem WFr.trans {wb : Nat} {w w1 w2 : World} {v v1 v2 : Value} (h : WFr wb w w1 v v1) (h' : WFr wb w1 w2 v1 v2) : WFr wb w w2 v v2 := by
 refine ⟨h'.os.trans h.os, h'.tape.trans h.tape, h'.output.trans h.output, Nat.le_trans h.size h'.size, ?_, ?_⟩
 ·intro k hk hp ho
  rw [h'.blk k (Nat.lt_of_lt_of_le hk h.size) hp (fun e => by rcases h.o k e with e | e; exact ho e; omega)]
  exact h.blk k hk hp ho
 ·intro g hg
  rcases h'.o g hg with e | e
  ·exact h.o g e
  ·exact Or.inr (Nat.le_trans h.size e)
theorem WFr.of_below {wb : Nat} {w w' : World} (v : Value) (h : Below w.heap.size w w') : WFr wb w w' v v := ⟨h.os, h.tape, h.output, h.size, fun k hk _ _ => h.block k hk, fun _ h => Or.inl h⟩
theorem WIn.below {wb : Nat} {w w' : World} {nv ov v : Value} {tx : List UInt8} (h : WIn wb w nv ov v tx) (hb : Below w.heap.size w w') : WIn wb w' nv ov v tx :=
 ⟨by rw [hb.block wb (blk_lt h.blk)]; exact h.blk, owns_below h.row hb⟩
set_option maxRecDepth 100000 in
set_option maxHeartbeats 1000000 in
theorem put_any (wb : Nat) (w : World) (nv ov v : Value) (tx s : List UInt8) (h : WIn wb w nv ov v tx) (hl : tx.length + s.length ≤ 400000000) :
  Calls Tryz.prog 78 #[.pointer (some ⟨wb, 0, none⟩), .string (bs s)] w fun e w' => ∃ v', e = .returned (.tuple #[]) ∧ WFr wb w w' v v' ∧ WIn wb w' nv ov v' (tx ++ s) := by
 obtain ⟨i0, hi, hz0, hz1, hz2⟩ := info_parts Tryz.infoU8
 have HI : Hid _ := hi
 have HZ0 : Hid _ := hz0
 have HZ1 : Hid _ := hz1
 have HZ2 : Hid _ := hz2
 clear hi hz0 hz1 hz2
 have hb := h.blk
 have hlt := blk_lt hb
 have x2 : w.cell? ⟨wb, 4, none⟩ = some v := by rw [blk_cell hb]; rfl
 have hsl := bs_size s
 obtain ⟨xa, xn, xc, hv⟩ : ∃ a n c, v = .slice a n c := by
  rcases h.row.2 with ⟨h1, _⟩ | ⟨g, cap, cur, h1, _⟩
  ·exact ⟨_, _, _, h1⟩
  ·exact ⟨_, _, _, h1⟩
 subst hv
 have HW : Hid _ := h
 have HBK : Hid _ := hb
 clear h hb
 go_enter Tryz.func78, Tryz.ntmps78
 go_wp2_with (at_builtin; go_must (refine wpList_append_str rfl (.tmp 8) (.tmp 9) 82 9 rfl (wb + 1) 5 i0 Tryz.undBytes Tryz.undStr HI.out HZ0.out HZ1.out HZ2.out _ tx.length (strCells (bs tx)) rfl HW.out.row (bs s) rfl (by omega) (by omega) ?_))
 intro v' w1 hown hgrow hfresh
 obtain ⟨ya, yn, yc, hv'⟩ : ∃ a n c, v' = .slice a n c := by
  rcases hown.2 with ⟨h1, _⟩ | ⟨g, cap, cur, h1, _⟩
  ·exact ⟨_, _, _, h1⟩
  ·exact ⟨_, _, _, h1⟩
 subst hv'
 have hnb : (Value.slice xa xn xc).ownBlock ≠ some wb := fun e => by have := (HW.out.row.lt wb e).1; omega
 have hb1 : w1.heap[wb]? = some (.cells #[nv, ov, .slice none 0 0, .slice none 0 0, .slice xa xn xc] 95 (0, 0)) := by rw [hgrow.block wb hlt (fun e => hnb e.symm)]; exact HBK.out
 have x2' : w1.cell? ⟨wb, 4, none⟩ = some (.slice xa xn xc) := by rw [blk_cell hb1]; rfl
 have f2 := blk_free hb1 4
 have hlt1 := blk_lt hb1
 have hset := blk_set hb1 4 (.slice ya yn yc)
 have HSET : Hid _ := hset
 have HO : Hid (w1.ownsRow (wb + 1) 5 1 (.slice ya yn yc) (tx.length + s.length) (strCells (bs tx) ++ strCells (bs s))) := hown
 have HG : Hid _ := hgrow
 have HF : Hid _ := hfresh
 clear hown hgrow hfresh hb1 hset
 go_wp2
 refine bodyPost_end (v := .tuple #[]) (by simp [results, Tryz.results78, go_sem]) rfl ⟨.slice ya yn yc, rfl, ?_, ?_⟩
 ·refine ⟨HG.out.os, HG.out.tape, HG.out.output, by have := HG.out.size; simp [World.setCell]; omega, ?_, HF.out⟩
  intro k hk hkw hko
  rw [blk_other _ _ (by simpa using hkw)]
  exact HG.out.block k hk (fun e => hko e.symm)
 ·refine ⟨HSET.out, ?_⟩
  have e : strCells (bs tx) ++ strCells (bs s) = strCells (bs (tx ++ s)) := by simp [strCells, bs]
  have h := HO.out
  rw [e] at h
  rw [List.length_append]
  refine owns_blk h (fun k hk => blk_other _ _ ?_)
  have := (h.lt k hk).1
  simp only; omega
end Go.Proofs.YtpicaknklgccoabGreatDoor
namespace Go.Proofs.YtpicaknklgccoabGreatDoor
open Go.RowKit
mutual
def Shows (ns : List NR) : PT → Nat → Prop
 | .num _ s, base => ∃ n, ns[base]? = some n ∧ n.form = 1 ∧ n.num = valueL s
 | .name _ s, base => ∃ n, ns[base]? = some n ∧ n.form = 2 ∧ n.word = s
 | .node _ k nm _ kids, base => (∃ n, ns[base + cntL kids]? = some n ∧ n.form = formK k ∧ n.word = nm ∧ n.p0 = (partsL kids base).getD 0 (-1) ∧ n.p1 = (partsL kids base).getD 1 (-1) ∧ n.p2 = (partsL kids base).getD 2 (-1)) ∧ ShowsL ns kids base
def ShowsL (ns : List NR) : List PT → Nat → Prop
 | [], _ => True
 | t :: r, base => Shows ns t base ∧ ShowsL ns r (base + t.cnt)
end
theorem at_mid {α : Type} (pre a post : List α) (j : Nat) (x : α) (h : a[j]? = some x) : (pre ++ (a ++ post))[pre.length + j]? = some x := by
 have hj := (List.getElem?_eq_some_iff.1 h).1
 rw [List.getElem?_append_right (by omega), Nat.add_sub_cancel_left, List.getElem?_append_left hj]; exact h
mutual
theorem NA.shows : ∀ {scope : Sc} {t : PT} {base : Nat} {ms : List NR}, NA scope t base ms → ∀ (pre post : List NR), pre.length = base → Shows (pre ++ (ms ++ post)) t base
 | _, .num _ s, _, _, h, pre, post, hb => by
  simp only [NA] at h; subst h; subst hb
  simp only [Shows]
  exact ⟨_, at_mid pre _ post 0 _ rfl, rfl, rfl⟩
 | _, .name _ s, _, _, h, pre, post, hb => by
  simp only [NA] at h; subst h; subst hb
  simp only [Shows]
  exact ⟨_, at_mid pre _ post 0 _ rfl, rfl, rfl⟩
 | _, .node p k nm rg kids, base, _, h, pre, post, hb => by
  simp only [NA] at h
  obtain ⟨ks, beh, h1, rfl⟩ := h
  have hl := NAs.len h1
  simp only [Shows]
  refine ⟨⟨⟨formK k, p, beh, 0, nm, valueL rg, -1, (partsL kids base).getD 0 (-1), (partsL kids base).getD 1 (-1), (partsL kids base).getD 2 (-1)⟩, ?_, rfl, rfl, rfl, rfl, rfl⟩, ?_⟩
  ·rw [← hl]; conv => lhs; rw [show base + ks.length = pre.length + ks.length from by rw [hb]]
   refine at_mid pre _ post ks.length _ ?_
   rw [List.getElem?_append_right (Nat.le_refl _), Nat.sub_self]; rfl
  ·have h2 := NAs.shows h1 pre (⟨formK k, p, beh, 0, nm, valueL rg, -1, (partsL kids base).getD 0 (-1), (partsL kids base).getD 1 (-1), (partsL kids base).getD 2 (-1)⟩ :: post) hb
   rw [List.append_assoc, List.singleton_append]
   exact h2
theorem NAs.shows : ∀ {scope : Sc} {nm : List UInt8} {ts : List PT} {bs : List Bool} {base : Nat} {ms : List NR}, NAs scope nm ts bs base ms → ∀ (pre post : List NR), pre.length = base → ShowsL (pre ++ (ms ++ post)) ts base
 | _, _, [], _, _, _, _, _, _, _ => by simp [ShowsL]
 | _, _, _ :: _, [], _, _, h, _, _, _ => by simp [NAs] at h
 | _, _, t :: r, b :: bs, _, _, h, pre, post, hb => by
  simp only [NAs] at h
  obtain ⟨a, c, h1, h2, rfl⟩ := h
  have hl := NA.len h1
  simp only [ShowsL]
  constructor
  ·have := NA.shows h1 pre (c ++ post) hb
   rw [List.append_assoc]; exact this
  ·have := NAs.shows h2 (pre ++ a) post (by rw [List.length_append, hl, hb])
   simp only [List.append_assoc] at this ⊢; exact this
end
theorem NA.shows0 {scope : Sc} {t : PT} {ns : List NR} (h : NA scope t 0 ns) : Shows ns t 0 := by
 have := NA.shows h [] [] rfl
 simpa using this
theorem wordOf_any (k : Kw) (w : World) (hk : k ≠ .new) : Calls Tryz.prog 121 #[.int .i64 (formK k)] w fun v w' => v = .returned (.string (bs k.bytes)) ∧ w' = w := by
 cases k <;> first | exact absurd rfl hk | (go_enter Tryz.func121, Tryz.ntmps121; go_wp2; go_ret; exact ⟨rfl, rfl⟩)
def behK : Kw → Int
 | .let_ => 0
 | .loop => 1
 | _ => -1
theorem partBehindName_any (k : Kw) (w : World) : Calls Tryz.prog 122 #[.int .i64 (formK k)] w fun v w' => v = .returned (.int .i64 (behK k)) ∧ w' = w := by
 cases k <;> (go_enter Tryz.func122, Tryz.ntmps122; go_wp2; go_ret; exact ⟨rfl, rfl⟩)
theorem own_ne {w : World} {base : Nat} {e : TypeId} {size : Nat} {v : Value} {n : Nat} {xs : List Value} (h : w.ownsRow base e size v n xs) {b : Nat} {arr : Array Value} {t : TypeId} {fr : Nat × Nat} (hb : w.heap[b]? = some (.cells arr t fr)) (ht : t ≠ e) : ∀ k, v.ownBlock = some k → k ≠ b := by
 intro k hk hkb
 rcases h.2 with ⟨h1, _⟩ | ⟨g, cap, cur, h1, _, hh, _⟩
 ·rw [h1] at hk; simp [Value.ownBlock] at hk
 ·rw [h1] at hk
  simp [Value.ownBlock] at hk
  rw [hk, hkb, hb] at hh
  simp only [Option.some.injEq, Obj.cells.injEq] at hh
  exact ht hh.2.1
set_option maxRecDepth 100000 in
set_option maxHeartbeats 4000000 in
theorem parsePlaced_tree (s : ByteArray) (w : World) (hs : s.size ≤ 9000) (e : PT) (hp : PE true (tokens s.data.toList) e []) : Calls Tryz.prog 36 #[.string s] w fun v w' => ∃ x1 n1 c1 x2 n2 c2 ns, v = .returned (.tuple #[treeV (.slice x1 n1 c1) (.slice x2 n2 c2), .int .i64 0, .int .i64 0]) ∧ Below w.heap.size w w' ∧ TreeIn w' (.slice x1 n1 c1) (.slice x2 n2 c2) ns (opn e 0) ∧ NA [] e 0 ns := by
 obtain ⟨ns, hna, hpg⟩ := prog_yes (len := s.size) hp
 have hpp := fun w => ParsePlaced_any s w (by omega)
 have HPG : Hid _ := hpg
 have HNA : Hid _ := hna
 clear hp hpg hna
 go_enter Tryz.func36, Tryz.ntmps36
 go_wp2_with fail
 refine (hpp _).mono ?_
 rintro v w1 ⟨hb, hv⟩
 have hr := kept1 hb
 have hlt := blk_lt hr
 have HB : Hid _ := below1 hb
 have HR : Hid _ := hr
 rcases hv with ⟨q', hq', _⟩ | ⟨_, nv, ov, rfl, hT⟩
 ·rw [HPG.out] at hq'; cases hq'
 ·rw [HPG.out] at hT
  simp only at hT
  obtain ⟨x1, c1, e1⟩ := slice_any hT.nd
  obtain ⟨x2, c2, e2⟩ := slice_any hT.op
  have hnn := own_ne hT.nd hr (by decide)
  have hno := own_ne hT.op hr (by decide)
  have r0 : w1.cell? ⟨w.heap.size, 0, none⟩ = some (.slice none 0 0) := by rw [blk_cell hr]; rfl
  have r1 : w1.cell? ⟨w.heap.size, 1, none⟩ = some (.slice none 0 0) := by rw [blk_cell hr]; rfl
  have f0 := blk_free hr 0
  have f1 := blk_free hr 1
  subst e1
  subst e2
  have hW := blk_alloc (.cells #[.slice x1 ns.length c1, .slice x2 (opn e 0).length c2] 62) (blk_set (blk_set hr 0 (.slice x1 ns.length c1)) 1 (.slice x2 (opn e 0).length c2))
  have S0 : Hid ((((w1.setCell ⟨w.heap.size, 0, none⟩ (.slice x1 ns.length c1)).setCell ⟨w.heap.size, 1, none⟩ (.slice x2 (opn e 0).length c2)).alloc (.cells #[.slice x1 ns.length c1, .slice x2 (opn e 0).length c2] 62)).cell? ⟨w.heap.size, 0, none⟩ = some (.slice x1 ns.length c1)) := by show _ = _; rw [blk_cell hW]; rfl
  have S1 : Hid ((((w1.setCell ⟨w.heap.size, 0, none⟩ (.slice x1 ns.length c1)).setCell ⟨w.heap.size, 1, none⟩ (.slice x2 (opn e 0).length c2)).alloc (.cells #[.slice x1 ns.length c1, .slice x2 (opn e 0).length c2] 62)).cell? ⟨w.heap.size, 1, none⟩ = some (.slice x2 (opn e 0).length c2)) := by show _ = _; rw [blk_cell hW]; rfl
  have HT1 : Hid _ := hT
  have HNN : Hid _ := hnn
  have HNO : Hid _ := hno
  unfold treeV
  have hne : w.heap.size ≠ w1.heap.size := by omega
  clear hT hb hr hpp hW hnn hno
  go_wp2
  refine bodyPost_ret (v := .tuple #[.agg #[.slice x1 ns.length c1, .slice x2 (opn e 0).length c2], .int .i64 0, .int .i64 0]) (by have s0 := S0.out; have s1 := S1.out; simp [results, Tryz.results36, go_sem, s0, s1]) rfl ⟨x1, ns.length, c1, x2, (opn e 0).length, c2, ns, rfl, ?_, ?_, HNA.out⟩
  ·exact ((HB.out.setCell (p := ⟨w.heap.size, 0, none⟩) (Nat.le_refl _) _).setCell (p := ⟨w.heap.size, 1, none⟩) (Nat.le_refl _) _).alloc (by have := HB.out.size; simp [World.setCell]; omega) _
  ·refine TreeIn.below (w := (w1.setCell ⟨w.heap.size, 0, none⟩ (.slice x1 ns.length c1)).setCell ⟨w.heap.size, 1, none⟩ (.slice x2 (opn e 0).length c2)) ?_ ((Below.refl _ _).alloc (Nat.le_refl _) _)
   refine ⟨owns_blk HT1.out.nd (fun k hk => ?_), owns_blk HT1.out.op (fun k hk => ?_)⟩
   ·rw [blk_other _ _ (by simpa using HNN.out k hk), blk_other _ _ (by simpa using HNN.out k hk)]
   ·rw [blk_other _ _ (by simpa using HNO.out k hk), blk_other _ _ (by simpa using HNO.out k hk)]
end Go.Proofs.YtpicaknklgccoabGreatDoor
namespace Go.Proofs.YtpicaknklgccoabGreatDoor
open Go.RowKit
open Go.Lib (decDigits)
structure WEnv (wb : Nat) (w : World) (nv ov : Value) (ns : List NR) (op : List Int) : Prop where
 tree : ∀ w', Below wb w w' → TreeIn w' nv ov ns op
 tab : Lib.TabBelow Tryz.prog wb w "internal/strconv.uint64pow10" .u64 Lib.pow10Tab
 len : ns.length ≤ 9000
theorem WEnv.on {wb : Nat} {w w1 : World} {nv ov : Value} {ns : List NR} {op : List Int} (h : WEnv wb w nv ov ns op) (hb : Below wb w w1) : WEnv wb w1 nv ov ns op := ⟨fun w' h' => h.tree w' (hb.trans h'), h.tab.on hb, h.len⟩
theorem WFr.below {wb : Nat} {w w' : World} {v v' : Value} (h : WFr wb w w' v v') (hw : wb ≤ w.heap.size) (hv : ∀ g, v.ownBlock = some g → wb < g) : Below wb w w' :=
 ⟨h.os, h.tape, h.output, h.size, fun k hk => h.blk k (by omega) (by omega) (fun e => by have := hv k e; omega)⟩
theorem WIn.fr {wb : Nat} {w w' : World} {nv ov v v' : Value} {tx : List UInt8} (h : WIn wb w nv ov v tx) (hf : WFr wb w w' v v') : Below wb w w' :=
 hf.below (Nat.le_of_lt (blk_lt h.blk)) (fun g hg => by have := (h.row.lt g hg).1; omega)
def ExpOk (wb : Nat) (nv ov : Value) (ns : List NR) (op : List Int) (t : PT) : Prop := ∀ (base : Nat) (w : World) (v : Value) (tx : List UInt8), Shows ns t base → t.tame → t.wf → base + t.cnt ≤ ns.length → tx.length + 20000 * t.cnt ≤ 200000000 →
 WIn wb w nv ov v tx → WEnv wb w nv ov ns op → Calls Tryz.prog 54 #[.pointer (some ⟨wb, 0, none⟩), .int .i64 (((base + t.cnt : Nat) : Int) - 1)] w fun e w' => ∃ v', e = .returned (.tuple #[]) ∧ WFr wb w w' v v' ∧ WIn wb w' nv ov v' (tx ++ t.ptx)
def FmOk (wb : Nat) (nv ov : Value) (ns : List NR) (op : List Int) (t : PT) : Prop := ∀ (base : Nat) (w : World) (v : Value) (tx : List UInt8), Shows ns t base → t.tame → t.wf → base + t.cnt ≤ ns.length → tx.length + 20000 * t.cnt ≤ 200000000 →
 WIn wb w nv ov v tx → WEnv wb w nv ov ns op → Calls Tryz.prog 77 #[.pointer (some ⟨wb, 0, none⟩), .int .i64 (((base + t.cnt : Nat) : Int) - 1)] w fun e w' => ∃ v', e = .returned (.tuple #[]) ∧ WFr wb w w' v v' ∧ WIn wb w' nv ov v' (tx ++ t.ptx)
theorem Regions_nil (w : World) : Calls Tryz.prog 96 #[.agg #[.slice none 0 0, .slice none 0 0]] w fun v w' => v = .returned (.int .i64 0) ∧ Below w.heap.size w w' := by
 go_enter Tryz.func96, Tryz.ntmps96
 go_wp2
 go_ret
 exact ⟨rfl, (Below.refl _ _).alloc (Nat.le_refl _) _⟩
theorem Region_nil (w : World) (i : Nat) : Calls Tryz.prog 99 #[.agg #[.slice none 0 0, .slice none 0 0], .int .i64 i] w fun v w' => v = .returned (.int .i64 (-1)) ∧ Below w.heap.size w w' := by
 go_enter Tryz.func99, Tryz.ntmps99
 go_wp2
 go_ret
 exact ⟨rfl, (Below.refl _ _).alloc (Nat.le_refl _) _⟩
set_option maxRecDepth 100000 in
set_option maxHeartbeats 1000000 in
theorem openNews_nil (wb : Nat) (w : World) (nv ov v : Value) (tx : List UInt8) (i : Nat) (hin : WIn wb w nv ov v tx) : Calls Tryz.prog 76 #[.pointer (some ⟨wb, 0, none⟩), .int .i64 i] w fun v w' => v = .returned (.int .i64 0) ∧ Below w.heap.size w w' := by
 have hb := hin.blk
 have y2 : w.cell? ⟨wb, 2, none⟩ = some (.slice none 0 0) := by rw [blk_cell hb]; rfl
 have y3 : w.cell? ⟨wb, 3, none⟩ = some (.slice none 0 0) := by rw [blk_cell hb]; rfl
 have hre := fun w => Regions_nil w
 clear hb hin
 go_enter Tryz.func76, Tryz.ntmps76
 go_wp2
 go_loopw [5, 6] (fun a b wr => a = .int .i64 0 ∧ b = .int .i64 0 ∧ wr = w) (fun _ _ _ => 0)
 case atStart => exact ⟨rfl, rfl, rfl⟩
 case round =>
  obtain ⟨rfl, rfl, rfl⟩ := hrel
  go_wp2_with fail
  refine (hre _).mono ?_
  rintro _ w1 ⟨rfl, hb1⟩
  go_wp2
  go_ret
  exact ⟨rfl, hb1⟩
set_option maxRecDepth 100000 in
set_option maxHeartbeats 1000000 in
theorem exp_of (wb : Nat) (nv ov : Value) (ns : List NR) (op : List Int) (t : PT) (hf : FmOk wb nv ov ns op t) : ExpOk wb nv ov ns op t := by
 intro base w v tx hsh hta hwf hle hlim hin henv
 have hcx := cnt_pos' t
 obtain ⟨M, hM⟩ : ∃ M : Nat, (((base + t.cnt : Nat) : Int) - 1) = (M : Int) := ⟨base + t.cnt - 1, by omega⟩
 have hon := openNews_nil wb w nv ov v tx M hin
 have hlt := blk_lt hin.blk
 have hfm := fun w' (hb : Below w.heap.size w w') => hf base w' v tx hsh hta hwf hle hlim (hin.below hb) (henv.on (hb.mono (Nat.le_of_lt hlt)))
 rw [hM] at hfm ⊢
 have HFM : Hid _ := hfm
 clear hfm hf hin henv hsh hta hwf hlim hle hM
 go_enter Tryz.func54, Tryz.ntmps54
 go_wp2_with fail
 refine hon.mono ?_
 rintro _ w1 ⟨rfl, hb1⟩
 have HB1 : Hid _ := hb1
 clear hb1 hon
 go_wp2_with fail
 refine (HFM.out _ HB1.out).mono ?_
 rintro _ w2 ⟨v2, rfl, hfr, hin2⟩
 have HF : Hid _ := (WFr.of_below v HB1.out).trans hfr
 have HI : Hid _ := hin2
 clear hfr hin2
 go_wp2
 go_loopw [4] (fun a wr => a = .int .i64 0 ∧ wr = w2) (fun _ _ => 0)
 case atStart => exact ⟨rfl, rfl⟩
 case round =>
  obtain ⟨rfl, rfl⟩ := hrel
  go_wp2
  refine bodyPost_end (v := .tuple #[]) (by simp [results, Tryz.results54, go_sem]) rfl ⟨v2, rfl, HF.out, HI.out⟩
set_option maxRecDepth 100000 in
set_option maxHeartbeats 2000000 in
theorem fm_name (wb : Nat) (x1 : Option Addr) (n1 c1 : Nat) (x2 : Option Addr) (n2 c2 : Nat) (ns : List NR) (op : List Int) (p : Nat) (s : List UInt8) : FmOk wb (.slice x1 n1 c1) (.slice x2 n2 c2) ns op (.name p s) := by
 intro base w v tx hsh hta hwf hle hlim hin henv
 simp only [Shows] at hsh
 obtain ⟨n, hn, hf, hwd⟩ := hsh
 simp only [PT.tame] at hta
 simp only [PT.cnt] at hle hlim
 have hno := Node_in' w (.slice x1 n1 c1) (.slice x2 n2 c2) ns op (henv.tree w (Below.refl _ _)) base n hn henv.len
 have hbl := henv.len
 have hb := hin.blk
 have y0 : w.cell? ⟨wb, 0, none⟩ = some (.slice x1 n1 c1) := by rw [blk_cell hb]; rfl
 have y1 : w.cell? ⟨wb, 1, none⟩ = some (.slice x2 n2 c2) := by rw [blk_cell hb]; rfl
 have hput := fun w' (h : WIn wb w' (.slice x1 n1 c1) (.slice x2 n2 c2) v tx) => put_any wb w' _ _ v tx s h (by omega)
 have HP : Hid _ := hput
 have HIN : Hid _ := hin
 have hlt := blk_lt hb
 unfold treeV nrVal at hno
 rw [hf, hwd] at hno
 simp only [PT.ptx, PT.cnt]
 rw [show (((base + 1 : Nat) : Int) - 1) = (base : Int) from by omega]
 clear hb hin henv hput hn
 go_enter Tryz.func77, Tryz.ntmps77
 go_wp2_with (first
  | (go_at_call 61; refine hno.mono ?_; rintro _ w1 ⟨rfl, hb1⟩)
  | (go_at_call 78; refine (HP.out _ (HIN.out.below (hb1.alloc hb1.size _))).mono ?_; rintro _ w2 ⟨v', rfl, hfr, hin'⟩))
 refine bodyPost_end (v := .tuple #[]) (by simp [results, Tryz.results77, go_sem]) rfl ⟨v', rfl, (WFr.of_below v (hb1.alloc hb1.size _)).trans hfr, hin'⟩
set_option maxRecDepth 100000 in
set_option maxHeartbeats 2000000 in
theorem fm_num (wb : Nat) (x1 : Option Addr) (n1 c1 : Nat) (x2 : Option Addr) (n2 c2 : Nat) (ns : List NR) (op : List Int) (p : Nat) (s : List UInt8) : FmOk wb (.slice x1 n1 c1) (.slice x2 n2 c2) ns op (.num p s) := by
 intro base w v tx hsh hta hwf hle hlim hin henv
 simp only [Shows] at hsh
 obtain ⟨n, hn, hf, hnum⟩ := hsh
 simp only [PT.tame] at hta
 simp only [PT.cnt] at hle hlim
 obtain ⟨m, hm⟩ : ∃ m : Nat, valueL s = m := ⟨(valueL s).toNat, by omega⟩
 have hno := Node_in' w (.slice x1 n1 c1) (.slice x2 n2 c2) ns op (henv.tree w (Below.refl _ _)) base n hn henv.len
 have hbl := henv.len
 have hb := hin.blk
 have y0 : w.cell? ⟨wb, 0, none⟩ = some (.slice x1 n1 c1) := by rw [blk_cell hb]; rfl
 have y1 : w.cell? ⟨wb, 1, none⟩ = some (.slice x2 n2 c2) := by rw [blk_cell hb]; rfl
 have hd4 := dec_len4 m (by omega)
 have hput := fun w' (h : WIn wb w' (.slice x1 n1 c1) (.slice x2 n2 c2) v tx) => put_any wb w' _ _ v tx (decDigits m) h (by omega)
 have hlt := blk_lt hb
 have hit : ∀ w', Below w.heap.size w w' → Calls Tryz.prog 24 #[.int .i64 m] w' fun e w2 => e = .returned (.string (bs (decDigits m))) ∧ Below w'.heap.size w' w2 :=
  fun w' h => itoa_ok w' (henv.tab w' (h.mono (Nat.le_of_lt hlt))) m w' (by omega) (Below.refl _ _)
 have HIT : Hid _ := hit
 have HP : Hid _ := hput
 have HIN : Hid _ := hin
 unfold treeV nrVal at hno
 rw [hf, hnum, hm] at hno
 simp only [PT.ptx, PT.cnt]
 rw [show (((base + 1 : Nat) : Int) - 1) = (base : Int) from by omega, hm, Int.toNat_natCast]
 clear hb hin henv hput hn hit hta
 go_enter Tryz.func77, Tryz.ntmps77
 go_wp2_with (first
  | (go_at_call 61; refine hno.mono ?_; rintro _ w1 ⟨rfl, hb1⟩)
  | (go_at_call 24; refine (HIT.out _ (hb1.alloc hb1.size _)).mono ?_; rintro _ w2 ⟨rfl, hb2⟩)
  | (go_at_call 78; refine (HP.out _ (HIN.out.below ((hb1.alloc hb1.size _).trans (hb2.mono (hb1.alloc hb1.size _).size)))).mono ?_; rintro _ w3 ⟨v', rfl, hfr, hin'⟩))
 refine bodyPost_end (v := .tuple #[]) (by simp [results, Tryz.results77, go_sem]) rfl ⟨v', rfl, (WFr.of_below v ((hb1.alloc hb1.size _).trans (hb2.mono (hb1.alloc hb1.size _).size))).trans hfr, hin'⟩
end Go.Proofs.YtpicaknklgccoabGreatDoor
namespace Go.Proofs.YtpicaknklgccoabGreatDoor
open Go.RowKit
set_option maxRecDepth 100000 in
set_option maxHeartbeats 2000000 in
theorem fm_new (wb : Nat) (x1 : Option Addr) (n1 c1 : Nat) (x2 : Option Addr) (n2 c2 : Nat) (ns : List NR) (op : List Int) (p : Nat) (nm rg : List UInt8) (x : PT) (ih : ExpOk wb (.slice x1 n1 c1) (.slice x2 n2 c2) ns op x) : FmOk wb (.slice x1 n1 c1) (.slice x2 n2 c2) ns op (.node p .new nm rg [x]) := by
 intro base w v tx hsh hta hwf hle hlim hin henv
 simp only [Shows, ShowsL] at hsh
 obtain ⟨⟨n, hn, hf', hwd, hp0, hp1, hp2⟩, hx, _⟩ := hsh
 have hf : n.form = 12 := hf'
 simp only [PT.tame, tameL] at hta
 simp only [PT.wf, wfL] at hwf
 simp only [PT.cnt, cntL, Nat.add_zero] at hle hlim hn
 have hcx := cnt_pos' x
 obtain ⟨M, hM⟩ : ∃ M : Nat, (((base + x.cnt : Nat) : Int) - 1) = (M : Int) := ⟨base + x.cnt - 1, by omega⟩
 have hMb : M ≤ 9000 := by have := henv.len; omega
 have hp0' : n.p0 = (M : Int) := by rw [hp0, ← hM]; rfl
 have hno := Node_in' w (.slice x1 n1 c1) (.slice x2 n2 c2) ns op (henv.tree w (Below.refl _ _)) (base + x.cnt) n hn henv.len
 have hbl := henv.len
 have hb := hin.blk
 have y0 : w.cell? ⟨wb, 0, none⟩ = some (.slice x1 n1 c1) := by rw [blk_cell hb]; rfl
 have y1 : w.cell? ⟨wb, 1, none⟩ = some (.slice x2 n2 c2) := by rw [blk_cell hb]; rfl
 have hcall := fun w' (h1 : WIn wb w' (.slice x1 n1 c1) (.slice x2 n2 c2) v tx) (h2 : WEnv wb w' (.slice x1 n1 c1) (.slice x2 n2 c2) ns op) => ih base w' v tx hx hta.2.1 hwf.2.1 (by omega) (by omega) h1 h2
 rw [hM] at hcall
 have HC : Hid _ := hcall
 have HIN : Hid _ := hin
 have HENV : Hid _ := henv
 have hlt := blk_lt hb
 unfold treeV nrVal at hno
 rw [hf, hp0'] at hno
 generalize n.p1 = m1 at hno
 generalize n.p2 = m2 at hno
 generalize n.region = m3 at hno
 generalize n.source = m4 at hno
 generalize n.num = m5 at hno
 have e1 : PT.ptx (.node p .new nm rg [x]) = x.ptx := by simp [PT.ptx, ptxL]
 rw [e1]
 simp only [PT.cnt, cntL, Nat.add_zero]
 rw [show (((base + (1 + x.cnt) : Nat) : Int) - 1) = ((base + x.cnt : Nat) : Int) from by omega]
 generalize base + x.cnt = K at *
 clear hb hin henv hcall hn hf' hf hwd hp0 hp1 hp2 hx hp0' ih hta hwf hlim e1
 go_enter Tryz.func77, Tryz.ntmps77
 go_wp2_with fail
 refine hno.mono ?_
 rintro _ w1 ⟨rfl, hb1⟩
 have hs1 := hb1.size
 go_wp2_with fail
 have hB := hb1.alloc hb1.size (.cells #[.int .i64 12, .int .i64 n.at_, .int .i64 n.beh, .int .i64 m5, .string (bs n.word), .int .i64 m3, .int .i64 m4, .int .i64 M, .int .i64 m1, .int .i64 m2] 108)
 refine (HC.out _ (HIN.out.below hB) (HENV.out.on (hB.mono (Nat.le_of_lt hlt)))).mono ?_
 rintro _ w3 ⟨v', rfl, hfr, hin'⟩
 go_wp2_with fail
 refine bodyPost_end (v := .tuple #[]) (by simp [results, Tryz.results77, go_sem]) rfl ⟨v', rfl, (WFr.of_below v hB).trans hfr, hin'⟩
end Go.Proofs.YtpicaknklgccoabGreatDoor
