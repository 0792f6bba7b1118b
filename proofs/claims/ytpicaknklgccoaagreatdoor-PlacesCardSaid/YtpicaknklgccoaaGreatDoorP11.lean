import Derived.Test.YtpicaknklgccoaaGreatDoorP10
import Derived.Deep.RegionLaw
namespace Go.Proofs.YtpicaknklgccoaaGreatDoor
open Go.RowKit
theorem step_own {P : Program} {ops : Array Oper} {o : Oper} {a : Act} {w : World} {K : Act → World → Prop} {Q : Exit → Act → World → Prop} {E : Prop}
  (hg : o.guard = none) (s x : Operand) (t : TypeId) (hop : o.op = Op.call { callee := Callee.builtin Builtin.append, args := #[s, x], argTypes := #[t, t] })
  (e : TypeId) (i : TypeInfo) (z : Value) (size bytes : Nat) (h1 : P.underlying t = some (.slice e)) (h2 : P.info? e = some i) (h3 : i.zero = some z) (h4 : i.size = size) (h5 : i.bytes = bytes) (h6 : z.cells.size = size) (h7 : 0 < size)
  (v : Value) (n : Nat) (xs : List Value) (hs : a.eval s = v) (hown : w.ownsRow 0 e size v n xs)
  (ad : Addr) (m c : Nat) (news : List Value) (hx : a.eval x = .slice (some ad) m c) (hn : news.length = m * size) (hc : ∀ j u, news[j]? = some u → w.cell? (ad.add j) = some u) (h1c : ∀ u ∈ news, u.oneCell' = true)
  (hm : 0 < m) (b1 : n + m ≤ maxLen) (b2 : (n + m) * bytes ≤ 140737488355328)
  (hK : ∀ (g cap : Nat) (w' : World), w'.ownsRow 0 e size (.slice (some ⟨g, 0, none⟩) (n + m) cap) (n + m) (xs ++ news) → w.grownBy w' v.ownBlock → (v.ownBlock = some g ∨ w.heap.size ≤ g) → K (a.put o.dst (.slice (some ⟨g, 0, none⟩) (n + m) cap)) w') :
  if Region.wanted o (yielded ops a.tmps) = true then Oper.wp P o a w K Q else E := by
 have hw : Region.wanted o (yielded ops a.tmps) = true := by simp [Region.wanted, hg]
 rw [if_pos hw]
 have fin : ∀ (v' : Value) (w' : World), w'.ownsRow w.heap.size e size v' (n + m) (xs ++ news) → w.grownBy w' none → K (a.put o.dst v') w' := by
  intro v' w' ho' hg'
  obtain ⟨g, cap, hv'⟩ : ∃ g cap, v' = .slice (some ⟨g, 0, none⟩) (n + m) cap := by
   rcases ho'.2 with ⟨_, hh⟩ | ⟨g, cap, cur, hv, _⟩
   ·omega
   ·exact ⟨_, _, hv⟩
  subst hv'
  have hlt := ho'.lt g rfl
  exact hK g cap w' (owns_base ho' (fun k hk => Nat.zero_le _)) ⟨hg'.os, hg'.tape, hg'.output, hg'.size, fun k hk _ => hg'.block k hk (by simp)⟩ (Or.inr hlt.1)
 rcases hown.2 with ⟨hv, hn0⟩ | ⟨g, cap, cur, hv, hgb, hh, hn', hcm, hcs, htake⟩
 ·subst hn0
  have hxs : xs = [] := List.length_eq_zero_iff.1 (by have := hown.1; omega)
  subst hxs
  obtain ⟨v', w', hrun, r1, r2, _⟩ := run_append_own (P := P) w w.heap.size t o.type e i z size bytes h1 h2 h3 h4 h5 h6 h7 (.slice none 0 0) 0 [] (World.ownsRow_nil w _ e size) ad m c news hn hc h1c b1 b2 (Nat.le_refl _)
  unfold Oper.wp
  rw [hv] at hs
  simp [execOp, hop, resolve, invoke, builtin, hs, hx, hrun, Result.andThen]
  exact fin v' w' r1 r2
 ·by_cases hroom : n + m ≤ cap
  ·have hown' := hown
   rw [hv] at hown' hs
   obtain ⟨w', hrun, r1, r2⟩ := run_append_fits (P := P) w 0 t o.type e i size h1 h2 h4 g n cap xs hown' ad m c news hn hc h1c hroom
   unfold Oper.wp
   simp [execOp, hop, resolve, invoke, builtin, hs, hx, hrun, Result.andThen]
   exact hK g cap w' r1 (by rw [hv]; exact r2) (Or.inl (by rw [hv]; rfl))
  ·obtain ⟨v', w', hrun, r1, r2⟩ := run_append_arg_grows (P := P) w t o.type e i z size bytes h1 h2 h3 h4 h5 h6 h7 ⟨g, 0, none⟩ n cap xs hown.1 (fun j u hj => hown.cells (by rw [hv]; rfl) j u hj) ad m c news hn hc (by omega) b1 b2
   unfold Oper.wp
   rw [hv] at hs
   simp [execOp, hop, resolve, invoke, builtin, hs, hx, hrun, Result.andThen]
   exact fin v' w' r1 r2
theorem Tryz.infoNode : (Tryz.prog.info? 160).map (fun i => (i.zero, i.size, i.bytes)) = some (some (.agg #[.int .i64 0, .int .i64 0, .int .i64 0, .int .i64 0, .string ⟨#[]⟩, .int .i64 0, .int .i64 0, .int .i64 0, .int .i64 0, .int .i64 0]), 10, 88) := by kernel_rfl
theorem Tryz.undNodes : Tryz.prog.underlying 57 = some (.slice 160) := by kernel_rfl
theorem Tryz.infoBind : (Tryz.prog.info? 264).map (fun i => (i.zero, i.size, i.bytes)) = some (some (.agg #[.string ⟨#[]⟩, .int .i64 0]), 2, 24) := by kernel_rfl
theorem Tryz.undBinds : Tryz.prog.underlying 148 = some (.slice 264) := by kernel_rfl
def nrVal (n : NR) : Value := .agg #[.int .i64 n.form, .int .i64 n.at_, .int .i64 n.beh, .int .i64 n.num, .string (bs n.word), .int .i64 n.region, .int .i64 n.source, .int .i64 n.p0, .int .i64 n.p1, .int .i64 n.p2]
theorem flat2 : ∀ (l : List (List UInt8 × Int)) (i : Nat), (l.flatMap scL)[i * 2]? = (l[i]?).map (fun x => Value.string (bs x.1)) ∧ (l.flatMap scL)[i * 2 + 1]? = (l[i]?).map (fun x => Value.int .i64 x.2)
 | [], i => by simp
 | x :: l, 0 => by simp [scL]
 | x :: l, i + 1 => by
  have := flat2 l i
  rw [List.flatMap_cons, show (i + 1) * 2 = (scL x).length + i * 2 from by simp [scL]; omega, List.getElem?_append_right (by omega), Nat.add_sub_cancel_left, show (scL x).length + i * 2 + 1 = (scL x).length + (i * 2 + 1) from by omega, List.getElem?_append_right (by omega), Nat.add_sub_cancel_left]
  simpa using this
theorem findS_take (l : List (List UInt8 × Int)) (k : Nat) (hk : k < l.length) (u : List UInt8) : findS (l.take (k + 1)) u = if l[k].1 == u then l[k].2 else findS (l.take k) u := by
 unfold findS
 rw [List.take_succ_eq_append_getElem hk, List.reverse_append, List.reverse_singleton, List.singleton_append, List.find?_cons]
 cases h : (l[k].1 == u) <;> simp
set_option maxRecDepth 100000 in
set_option maxHeartbeats 2000000 in
theorem find_any (s : ByteArray) (placed : Bool) (pb : Nat) (w : World) (sv nv ov : Value) (st : PS) (u : List UInt8) (hl : st.scope.length ≤ 9000) (h : PIn s placed pb w sv nv ov st) :
  Calls Tryz.prog 180 #[ptr pb, .string (bs u)] w fun v w' => v = .returned (.int .i64 (findS st.scope u)) ∧ w' = w := by
 obtain ⟨fr, hf1, hf2, hf3⟩ := h.y
 have hsc := h.sc
 obtain ⟨scope, hscope⟩ : ∃ x, x = st.scope := ⟨_, rfl⟩
 rw [← hscope] at hsc hl ⊢
 obtain ⟨n, hn⟩ : ∃ n, n = scope.length := ⟨_, rfl⟩
 rw [← hn] at hsc hl
 have hsv : (∃ g cap, sv = .slice (some ⟨g, 0, none⟩) n cap) ∨ (sv = .slice none 0 0 ∧ n = 0) := by
  rcases hsc.2 with ⟨h1, h2⟩ | ⟨g, cap, cur, h1, _⟩
  ·exact Or.inr ⟨h1, h2⟩
  ·exact Or.inl ⟨g, cap, h1⟩
 have y5 : w.cell? ⟨pb, 5, none⟩ = some sv := by rw [blk_cell hf3]; rfl
 have HN : Hid _ := hn
 show Calls _ _ #[Value.pointer (some ⟨pb, 0, none⟩), _] w _
 clear hf3 hf1 hf2 h hscope hn
 obtain ⟨ao, cap, rfl, hcell⟩ : ∃ ao cap, sv = .slice ao n cap ∧ (∀ j, j < n → ∃ g, ao = some ⟨g, 0, none⟩ ∧ w.cell? ⟨g, j * 2, none⟩ = (scope[j]?).map (fun x => Value.string (bs x.1)) ∧ w.cell? ⟨g, j * 2 + 1, none⟩ = (scope[j]?).map (fun x => Value.int .i64 x.2)) := by
  rcases hsv with ⟨g, cap, rfl⟩ | ⟨rfl, h0⟩
  ·refine ⟨_, cap, rfl, fun j hj => ⟨g, rfl, ?_, ?_⟩⟩
   ·have h1 := hsc.cellAt (j * 2) (by omega)
    rw [h1, (flat2 scope j).1]
   ·have h1 := hsc.cellAt (j * 2 + 1) (by omega)
    rw [h1, (flat2 scope j).2]
  ·exact ⟨none, 0, by rw [h0], fun j hj => by omega⟩
 clear hsv hsc
 have HCELL : Hid _ := hcell
 clear hcell
 go_enter Tryz.func180, Tryz.ntmps180
 go_wp2
 go_loop [5] (fun i => ∃ k : Nat, k ≤ n ∧ i = .int .i64 ((k : Int) - 1) ∧ findS scope u = findS (scope.take k) u) (fun i => (intOf i + 1).toNat)
 case atStart => exact ⟨n, Nat.le_refl _, rfl, by rw [HN.out, List.take_length]⟩
 case round =>
  obtain ⟨k, hk, rfl, hr⟩ := hrel
  have HR : Hid _ := hr
  clear hr
  cases k with
  | zero =>
   go_wp2
   go_ret
   exact ⟨ret_int (by rw [HR.out]; rfl), rfl⟩
  | succ k =>
   obtain ⟨g, rfl, hc1, hc2⟩ := HCELL.out k (by omega)
   have hkl : k < scope.length := by have := HN.out; omega
   rw [List.getElem?_eq_getElem hkl] at hc1 hc2
   simp only [Option.map_some] at hc1 hc2
   have hft := findS_take scope k hkl u
   have ek : ((k + 1 : Nat) : Int) - 1 = (k : Int) := by omega
   rw [ek]
   cases hb : (scope[k].1 == u) with
   | true =>
    have q : ((bs scope[k].1).toList == (bs u).toList) = true := by rw [bs_beq, Lib.toList_data]; exact hb
    rw [hb] at hft
    have HFT : Hid _ := hft
    clear hft hb ek
    go_wp2
    go_ret
    exact ⟨ret_int (by rw [HR.out, HFT.out]; rfl), rfl⟩
   | false =>
    have q : ((bs scope[k].1).toList == (bs u).toList) = false := by rw [bs_beq, Lib.toList_data]; exact hb
    rw [hb] at hft
    have HFT : Hid _ := hft
    clear hft hb ek
    go_wp2
    go_round
    case rel => exact ⟨k, by omega, rfl, by rw [HR.out, HFT.out]; rfl⟩
    case measure => simp [intOf]
theorem grown_blk {W0 w' : World} {row : Option Nat} {pb : Nat} {X : Obj} (hg : W0.grownBy w' row) (hp : W0.heap[pb]? = some X) (hne : row ≠ some pb) : w'.heap[pb]? = some X := by
 rw [hg.block pb (blk_lt hp) (fun e => hne e.symm)]; exact hp
theorem PIn.addN {s : ByteArray} {placed : Bool} {pb : Nat} {w W0 w' : World} {sv nv ov : Value} {st : PS} (h : PIn s placed pb w sv nv ov st) (n : NR) {g cap : Nat} (hW : Below w.heap.size w W0) (hg : W0.grownBy w' nv.ownBlock)
  (hown : w'.ownsRow 0 160 10 (.slice (some ⟨g, 0, none⟩) (st.nodes.length + 1) cap) (st.nodes.length + 1) (st.nodes.flatMap nrL ++ nrL n)) (hor : nv.ownBlock = some g ∨ W0.heap.size ≤ g) :
  PFr pb pb w (w'.setCell ⟨pb, 6, none⟩ (.slice (some ⟨g, 0, none⟩) (st.nodes.length + 1) cap)) sv nv ov sv (.slice (some ⟨g, 0, none⟩) (st.nodes.length + 1) cap) ov ∧ PIn s placed pb (w'.setCell ⟨pb, 6, none⟩ (.slice (some ⟨g, 0, none⟩) (st.nodes.length + 1) cap)) sv (.slice (some ⟨g, 0, none⟩) (st.nodes.length + 1) cap) ov { st with nodes := st.nodes ++ [n] } := by
 obtain ⟨l1, l2, l3, l4⟩ := h.slt
 have hWs := hW.size
 have hgs := hg.size
 obtain ⟨fr, y1, y2, y3⟩ := h.y
 have yW : W0.heap[pb]? = some (.cells (psCells s placed fr st.fl.isSome (st.fl.getD 0) sv nv ov) 150 (0, 0)) := by rw [hW.block pb l4]; exact y3
 have yw := grown_blk hg yW h.ny
 have hgp : g ≠ pb := by
  rcases hor with e | e
  ·intro e'; rw [e'] at e; exact h.ny e
  ·omega
 have kp : ∀ k, k < w.heap.size → k ≠ pb → nv.ownBlock ≠ some k → (w'.setCell ⟨pb, 6, none⟩ (.slice (some ⟨g, 0, none⟩) (st.nodes.length + 1) cap)).heap[k]? = w.heap[k]? := by
  intro k hk hkp hne
  rw [blk_other _ _ (by simpa using hkp), hg.block k (by omega) (fun e => hne e.symm), hW.block k hk]
 refine ⟨⟨hg.os.trans hW.os, hg.tape.trans hW.tape, hg.output.trans hW.output, by simp only [World.setCell, Array.size_modify]; omega, fun k hk hp _ hs hn ho => kp k hk hp hn, fun _ h => Or.inl h, fun g' hg' => by simp only [Value.ownBlock, Option.some.injEq] at hg'; subst hg'; rcases hor with e | e; exact Or.inl e; exact Or.inr (by omega), fun _ h => Or.inl h⟩, ?_⟩
 refine ⟨⟨fr, y1, y2, blk_set yw 6 _⟩, owns_blk h.sc (fun k hk => kp k (l1 k hk) (fun e => h.sy (by rw [hk, e])) (fun e => h.sn k hk e)), by have := owns_blk (w' := w'.setCell ⟨pb, 6, none⟩ (.slice (some ⟨g, 0, none⟩) (st.nodes.length + 1) cap)) hown (fun k hk => by simp only [Value.ownBlock, Option.some.injEq] at hk; subst hk; exact blk_other _ _ (by simpa using hgp)); simpa using this, owns_blk h.op (fun k hk => kp k (l3 k hk) (fun e => h.oy (by rw [hk, e])) (fun e => h.no.symm k hk e)), h.sy, by simp only [Value.ownBlock, ne_eq, Option.some.injEq]; exact hgp, h.oy, (fun k hk hk' => by
   simp only [Value.ownBlock, Option.some.injEq] at hk'
   rcases hor with e | e
   ·rw [hk'] at e; exact h.sn k hk e
   ·have := l1 k hk; omega), h.so, (fun k hk hk' => by
   simp only [Value.ownBlock, Option.some.injEq] at hk
   rcases hor with e | e
   ·rw [hk] at e; exact h.no.symm k hk' e
   ·have := l3 k hk'; omega)⟩
theorem PIn.addS {s : ByteArray} {placed : Bool} {pb : Nat} {w W0 w' : World} {sv nv ov : Value} {st : PS} (h : PIn s placed pb w sv nv ov st) (x : List UInt8 × Int) {g cap : Nat} (hW : Below w.heap.size w W0) (hg : W0.grownBy w' sv.ownBlock)
  (hown : w'.ownsRow 0 264 2 (.slice (some ⟨g, 0, none⟩) (st.scope.length + 1) cap) (st.scope.length + 1) (st.scope.flatMap scL ++ scL x)) (hor : sv.ownBlock = some g ∨ W0.heap.size ≤ g) :
  PFr pb pb w (w'.setCell ⟨pb, 5, none⟩ (.slice (some ⟨g, 0, none⟩) (st.scope.length + 1) cap)) sv nv ov (.slice (some ⟨g, 0, none⟩) (st.scope.length + 1) cap) nv ov ∧ PIn s placed pb (w'.setCell ⟨pb, 5, none⟩ (.slice (some ⟨g, 0, none⟩) (st.scope.length + 1) cap)) (.slice (some ⟨g, 0, none⟩) (st.scope.length + 1) cap) nv ov { st with scope := st.scope ++ [x] } := by
 obtain ⟨l1, l2, l3, l4⟩ := h.slt
 have hWs := hW.size
 have hgs := hg.size
 obtain ⟨fr, y1, y2, y3⟩ := h.y
 have yW : W0.heap[pb]? = some (.cells (psCells s placed fr st.fl.isSome (st.fl.getD 0) sv nv ov) 150 (0, 0)) := by rw [hW.block pb l4]; exact y3
 have yw := grown_blk hg yW h.sy
 have hgp : g ≠ pb := by
  rcases hor with e | e
  ·intro e'; rw [e'] at e; exact h.sy e
  ·omega
 have kp : ∀ k, k < w.heap.size → k ≠ pb → sv.ownBlock ≠ some k → (w'.setCell ⟨pb, 5, none⟩ (.slice (some ⟨g, 0, none⟩) (st.scope.length + 1) cap)).heap[k]? = w.heap[k]? := by
  intro k hk hkp hne
  rw [blk_other _ _ (by simpa using hkp), hg.block k (by omega) (fun e => hne e.symm), hW.block k hk]
 refine ⟨⟨hg.os.trans hW.os, hg.tape.trans hW.tape, hg.output.trans hW.output, by simp only [World.setCell, Array.size_modify]; omega, fun k hk hp _ hs hn ho => kp k hk hp hs, fun g' hg' => by simp only [Value.ownBlock, Option.some.injEq] at hg'; subst hg'; rcases hor with e | e; exact Or.inl e; exact Or.inr (by omega), fun _ h => Or.inl h, fun _ h => Or.inl h⟩, ?_⟩
 refine ⟨⟨fr, y1, y2, blk_set yw 5 _⟩, by have := owns_blk (w' := w'.setCell ⟨pb, 5, none⟩ (.slice (some ⟨g, 0, none⟩) (st.scope.length + 1) cap)) hown (fun k hk => by simp only [Value.ownBlock, Option.some.injEq] at hk; subst hk; exact blk_other _ _ (by simpa using hgp)); simpa using this, owns_blk h.nd (fun k hk => kp k (l2 k hk) (fun e => h.ny (by rw [hk, e])) (fun e => h.sn.symm k hk e)), owns_blk h.op (fun k hk => kp k (l3 k hk) (fun e => h.oy (by rw [hk, e])) (fun e => h.so.symm k hk e)), by simp only [Value.ownBlock, ne_eq, Option.some.injEq]; exact hgp, h.ny, h.oy, (fun k hk hk' => by
   simp only [Value.ownBlock, Option.some.injEq] at hk
   rcases hor with e | e
   ·rw [hk] at e; exact h.sn.symm k hk' e
   ·have := l2 k hk'; omega), (fun k hk hk' => by
   simp only [Value.ownBlock, Option.some.injEq] at hk
   rcases hor with e | e
   ·rw [hk] at e; exact h.so.symm k hk' e
   ·have := l3 k hk'; omega), h.no⟩
theorem PIn.addO {s : ByteArray} {placed : Bool} {pb : Nat} {w W0 w' : World} {sv nv ov : Value} {st : PS} (h : PIn s placed pb w sv nv ov st) (x : Int) {g cap : Nat} (hW : Below w.heap.size w W0) (hg : W0.grownBy w' ov.ownBlock)
  (hown : w'.ownsRow 0 3 1 (.slice (some ⟨g, 0, none⟩) (st.opened.length + 1) cap) (st.opened.length + 1) (st.opened.map intV ++ [intV x])) (hor : ov.ownBlock = some g ∨ W0.heap.size ≤ g) :
  PFr pb pb w (w'.setCell ⟨pb, 7, none⟩ (.slice (some ⟨g, 0, none⟩) (st.opened.length + 1) cap)) sv nv ov sv nv (.slice (some ⟨g, 0, none⟩) (st.opened.length + 1) cap) ∧ PIn s placed pb (w'.setCell ⟨pb, 7, none⟩ (.slice (some ⟨g, 0, none⟩) (st.opened.length + 1) cap)) sv nv (.slice (some ⟨g, 0, none⟩) (st.opened.length + 1) cap) { st with opened := st.opened ++ [x] } := by
 obtain ⟨l1, l2, l3, l4⟩ := h.slt
 have hWs := hW.size
 have hgs := hg.size
 obtain ⟨fr, y1, y2, y3⟩ := h.y
 have yW : W0.heap[pb]? = some (.cells (psCells s placed fr st.fl.isSome (st.fl.getD 0) sv nv ov) 150 (0, 0)) := by rw [hW.block pb l4]; exact y3
 have yw := grown_blk hg yW h.oy
 have hgp : g ≠ pb := by
  rcases hor with e | e
  ·intro e'; rw [e'] at e; exact h.oy e
  ·omega
 have kp : ∀ k, k < w.heap.size → k ≠ pb → ov.ownBlock ≠ some k → (w'.setCell ⟨pb, 7, none⟩ (.slice (some ⟨g, 0, none⟩) (st.opened.length + 1) cap)).heap[k]? = w.heap[k]? := by
  intro k hk hkp hne
  rw [blk_other _ _ (by simpa using hkp), hg.block k (by omega) (fun e => hne e.symm), hW.block k hk]
 refine ⟨⟨hg.os.trans hW.os, hg.tape.trans hW.tape, hg.output.trans hW.output, by simp only [World.setCell, Array.size_modify]; omega, fun k hk hp _ hs hn ho => kp k hk hp ho, fun _ h => Or.inl h, fun _ h => Or.inl h, fun g' hg' => by simp only [Value.ownBlock, Option.some.injEq] at hg'; subst hg'; rcases hor with e | e; exact Or.inl e; exact Or.inr (by omega)⟩, ?_⟩
 refine ⟨⟨fr, y1, y2, blk_set yw 7 _⟩, owns_blk h.sc (fun k hk => kp k (l1 k hk) (fun e => h.sy (by rw [hk, e])) (fun e => h.so k hk e)), owns_blk h.nd (fun k hk => kp k (l2 k hk) (fun e => h.ny (by rw [hk, e])) (fun e => h.no k hk e)), by have := owns_blk (w' := w'.setCell ⟨pb, 7, none⟩ (.slice (some ⟨g, 0, none⟩) (st.opened.length + 1) cap)) hown (fun k hk => by simp only [Value.ownBlock, Option.some.injEq] at hk; subst hk; exact blk_other _ _ (by simpa using hgp)); simpa using this, h.sy, h.ny, by simp only [Value.ownBlock, ne_eq, Option.some.injEq]; exact hgp, h.sn, (fun k hk hk' => by
   simp only [Value.ownBlock, Option.some.injEq] at hk'
   rcases hor with e | e
   ·rw [hk'] at e; exact h.so k hk e
   ·have := l1 k hk; omega), (fun k hk hk' => by
   simp only [Value.ownBlock, Option.some.injEq] at hk'
   rcases hor with e | e
   ·rw [hk'] at e; exact h.no k hk e
   ·have := l2 k hk; omega)⟩
theorem nr_one (n : NR) : ∀ u ∈ nrL n, u.oneCell' = true := by intro u hu; simp only [nrL, List.mem_cons, List.not_mem_nil, or_false] at hu; rcases hu with rfl | rfl | rfl | rfl | rfl | rfl | rfl | rfl | rfl | rfl <;> rfl
set_option maxRecDepth 100000 in
set_option maxHeartbeats 4000000 in
theorem add_any (s : ByteArray) (placed : Bool) (pb : Nat) (w : World) (sv nv ov : Value) (st : PS) (n : NR) (hl : st.nodes.length ≤ 9000) (h : PIn s placed pb w sv nv ov st) :
  Calls Tryz.prog 179 #[ptr pb, nrVal n] w fun v w' => v = .returned (.int .i64 st.nodes.length) ∧ ∃ nv', PFr pb pb w w' sv nv ov sv nv' ov ∧ PIn s placed pb w' sv nv' ov (st.add n) := by
 obtain ⟨i0, hi, hz0, hz1, hz2⟩ := info_parts Tryz.infoNode
 have HI : Hid _ := hi
 have HZ0 : Hid _ := hz0
 have HZ1 : Hid _ := hz1
 have HZ2 : Hid _ := hz2
 clear hi hz0 hz1 hz2
 obtain ⟨fr, hf1, hf2, hf3⟩ := h.y
 have hpb := blk_lt hf3
 have y6 : w.cell? ⟨pb, 6, none⟩ = some nv := by rw [blk_cell hf3]; rfl
 obtain ⟨B, hB⟩ : ∃ B : Obj, B = .cells #[.int .i64 n.form, .int .i64 n.at_, .int .i64 n.beh, .int .i64 n.num, .string (bs n.word), .int .i64 n.region, .int .i64 n.source, .int .i64 n.p0, .int .i64 n.p1, .int .i64 n.p2] 160 := ⟨_, rfl⟩
 have hW : Below w.heap.size w ((w.alloc B).alloc B).drew := (((Below.refl _ w).alloc (Nat.le_refl _) B).alloc (by simp) B).trans ⟨rfl, rfl, rfl, Nat.le_refl _, fun _ _ => rfl⟩
 have HW : Hid _ := hW
 have HOWN : Hid (((w.alloc B).alloc B).drew.ownsRow 0 160 10 nv st.nodes.length (st.nodes.flatMap nrL)) := owns_below h.nd hW
 have HC1 : Hid (∀ (j : Nat) (u : Value), (nrL n)[j]? = some u → ((w.alloc B).alloc B).drew.cell? ((⟨w.heap.size + 1, 0, none⟩ : Addr).add j) = some u) := by
  intro j u hj
  have hq := alloc_cell_at (w.alloc B) (nrL n) 160 j
  have e : (w.alloc B).heap.size = w.heap.size + 1 := by simp
  rw [e] at hq
  rw [← hj, ← hq, hB]; rfl
 have HYW : Hid (((w.alloc B).alloc B).drew.heap[pb]? = some (.cells (psCells s placed fr st.fl.isSome (st.fl.getD 0) sv nv ov) 150 (0, 0))) := by
  show ((w.alloc B).alloc B).drew.heap[pb]? = _
  rw [hW.block pb hpb]; exact hf3
 have HH : Hid _ := h
 have HNY : Hid _ := h.ny
 clear hf1 hf2 hf3 h hW
 show Calls _ _ #[Value.pointer (some ⟨pb, 0, none⟩), Value.agg _] w _
 go_enter Tryz.func179, Tryz.ntmps179
 subst hB
 go_wp2
 go_region_law (refine step_own rfl (.tmp 10) (.tmp 12) 57 rfl 160 i0 _ 10 88 Tryz.undNodes HI.out HZ0.out HZ1.out HZ2.out rfl (by decide) nv st.nodes.length (st.nodes.flatMap nrL) (by simp [Act.eval]) HOWN.out ⟨w.heap.size + 1, 0, none⟩ 1 1 (nrL n) (by simp [Act.eval]) rfl HC1.out (nr_one n) (by decide) (by unfold maxLen; omega) (by omega) ?_; intro g cap w' hown hgrow hor; have hpb' := grown_blk hgrow HYW.out HNY.out; have c6 : w'.cell? ⟨pb, 6, none⟩ = some nv := (by rw [blk_cell hpb']; rfl); have f6 := blk_free hpb' 6)
 all_goals
  have hadd := PIn.addN HH.out n HW.out hgrow hown hor
  have HADD : Hid _ := hadd
  clear hadd hown hgrow hor
  go_wp2
  go_ret
  exact ⟨ret_int (by omega), _, HADD.out⟩
theorem owns_less {w : World} {base : Nat} {e : TypeId} {size g n cap : Nat} {xs : List Value} (h : w.ownsRow base e size (.slice (some ⟨g, 0, none⟩) n cap) n xs) (m : Nat) (hm : m ≤ n) : w.ownsRow base e size (.slice (some ⟨g, 0, none⟩) m cap) m (xs.take (m * size)) := by
 obtain ⟨h1, h2⟩ := h
 have hms : m * size ≤ n * size := Nat.mul_le_mul_right _ hm
 rcases h2 with ⟨h2, _⟩ | ⟨g', cap', cur, hv, hg, hh, hn, hcm, hcs, htake⟩
 ·cases h2
 ·simp only [Value.slice.injEq, Option.some.injEq, Addr.mk.injEq] at hv
  obtain ⟨⟨e1, _⟩, _, e2⟩ := hv
  subst e1
  subst e2
  refine ⟨by rw [List.length_take, h1]; omega, Or.inr ⟨g, cap, cur, rfl, hg, hh, by omega, hcm, hcs, ?_⟩⟩
  rw [← htake, List.take_take, Nat.min_eq_left hms]
theorem flat_drop (l : List (List UInt8 × Int)) : (l.flatMap scL).take ((l.length - 1) * 2) = l.dropLast.flatMap scL := by
 rcases List.eq_nil_or_concat l with rfl | ⟨r, x, rfl⟩
 ·rfl
 ·rw [List.concat_eq_append, List.dropLast_concat, List.flatMap_append, List.length_append, List.length_singleton, Nat.add_sub_cancel]
  have hlen : (r.flatMap scL).length = r.length * 2 := by
   induction r with
   | nil => rfl
   | cons a r ih => simp [scL, ih]; omega
  rw [← hlen, List.take_left]
theorem ps_same (st : PS) (h : st.scope.dropLast = st.scope) : { st with scope := st.scope.dropLast } = st := by rw [h]
theorem PIn.dropS {s : ByteArray} {placed : Bool} {pb : Nat} {w : World} {nv ov : Value} {st : PS} {g n cap : Nat} (h : PIn s placed pb w (.slice (some ⟨g, 0, none⟩) n cap) nv ov st) (hgp : g ≠ pb)
  (ho : w.ownsRow 0 264 2 (.slice (some ⟨g, 0, none⟩) (n - 1) cap) (n - 1) (st.scope.dropLast.flatMap scL)) (hn : n = st.scope.length) :
  PFr pb pb w (w.setCell ⟨pb, 5, none⟩ (.slice (some ⟨g, 0, none⟩) (n - 1) cap)).drew (.slice (some ⟨g, 0, none⟩) n cap) nv ov (.slice (some ⟨g, 0, none⟩) (n - 1) cap) nv ov ∧
  PIn s placed pb (w.setCell ⟨pb, 5, none⟩ (.slice (some ⟨g, 0, none⟩) (n - 1) cap)).drew (.slice (some ⟨g, 0, none⟩) (n - 1) cap) nv ov { st with scope := st.scope.dropLast } := by
 obtain ⟨fr, y1, y2, y3⟩ := h.y
 have kp : ∀ k, k ≠ pb → (w.setCell ⟨pb, 5, none⟩ (.slice (some ⟨g, 0, none⟩) (n - 1) cap)).drew.heap[k]? = w.heap[k]? := fun k hk => blk_other _ _ (by simpa using hk)
 refine ⟨⟨rfl, rfl, rfl, by show _ ≤ (w.setCell _ _).heap.size; simp only [World.setCell, Array.size_modify]; omega, fun k _ hp _ _ _ _ => kp k hp, fun _ h => Or.inl h, fun _ h => Or.inl h, fun _ h => Or.inl h⟩, ?_⟩
 refine ⟨⟨fr, y1, y2, blk_set y3 5 _⟩, ?_, owns_blk h.nd (fun k hk => kp k (fun e => h.ny (by rw [hk, e]))), owns_blk h.op (fun k hk => kp k (fun e => h.oy (by rw [hk, e]))), by simp only [Value.ownBlock, ne_eq, Option.some.injEq]; exact hgp, h.ny, h.oy, fun k hk => h.sn k hk, fun k hk => h.so k hk, h.no⟩
 have := owns_blk (w' := (w.setCell ⟨pb, 5, none⟩ (.slice (some ⟨g, 0, none⟩) (n - 1) cap)).drew) ho (fun k hk => kp k (by simp only [Value.ownBlock, Option.some.injEq] at hk; omega))
 simp only [List.length_dropLast, ← hn]
 exact this
set_option maxRecDepth 100000 in
set_option maxHeartbeats 4000000 in
theorem unbind_any (s : ByteArray) (placed : Bool) (pb : Nat) (w : World) (sv nv ov : Value) (st : PS) (hl : st.scope.length ≤ 9000) (h : PIn s placed pb w sv nv ov st) :
  Calls Tryz.prog 207 #[ptr pb] w fun v w' => v = .returned (.tuple #[]) ∧ ∃ sv', PFr pb pb w w' sv nv ov sv' nv ov ∧ PIn s placed pb w' sv' nv ov { st with scope := st.scope.dropLast } := by
 obtain ⟨fr, hf1, hf2, hf3⟩ := h.y
 have hpb := blk_lt hf3
 have y5 : w.cell? ⟨pb, 5, none⟩ = some sv := by rw [blk_cell hf3]; rfl
 have f5 : w.frozen? ⟨pb, 5, none⟩ = false := blk_free hf3 5
 obtain ⟨n, hn⟩ : ∃ n, n = st.scope.length := ⟨_, rfl⟩
 have hsc := h.sc
 rw [← hn] at hsc hl
 show Calls _ _ #[Value.pointer (some ⟨pb, 0, none⟩)] w _
 by_cases h0 : n = 0
 ·have hnil : st.scope = [] := List.length_eq_zero_iff.1 (by omega)
  have hst := ps_same st (by rw [hnil]; rfl)
  rw [hst]
  obtain ⟨ao, cap, rfl⟩ : ∃ ao cap, sv = .slice ao n cap := by
   rcases hsc.2 with ⟨h1, h2⟩ | ⟨g, cap, cur, h1, _⟩
   ·exact ⟨none, 0, by rw [h1, h0]⟩
   ·exact ⟨_, _, h1⟩
  have HH : Hid _ := h
  clear h hsc hf3 hst hnil hn
  go_enter Tryz.func207, Tryz.ntmps207
  go_wp2
  refine bodyPost_end (v := .tuple #[]) (by simp [results, Tryz.results207, go_sem]) rfl ⟨rfl, _, PFr.refl _ _ _ _ _ _, HH.out⟩
 ·obtain ⟨g, cap, rfl⟩ : ∃ g cap, sv = .slice (some ⟨g, 0, none⟩) n cap := by
   rcases hsc.2 with ⟨h1, h2⟩ | ⟨g, cap, cur, h1, _⟩
   ·omega
   ·exact ⟨_, _, h1⟩
  have hcap : n ≤ cap := by
   rcases hsc.2 with ⟨h1, h2⟩ | ⟨g', cap', cur, h1, _, _, h3, _⟩
   ·omega
   ·simp only [Value.slice.injEq] at h1; omega
  have hcapm : cap ≤ maxLen := by
   rcases hsc.2 with ⟨h1, h2⟩ | ⟨g', cap', cur, h1, _, _, _, h3, _⟩
   ·omega
   ·simp only [Value.slice.injEq] at h1; omega
  unfold maxLen at hcapm
  have hgp : g ≠ pb := fun e => h.sy (by rw [e]; rfl)
  have HO : Hid (w.ownsRow 0 264 2 (.slice (some ⟨g, 0, none⟩) (n - 1) cap) (n - 1) (st.scope.dropLast.flatMap scL)) := by
   have := owns_less hsc (n - 1) (by omega)
   rw [hn, flat_drop] at this
   rw [hn]; exact this
  have HH : Hid _ := h
  have HF3 : Hid _ := hf3
  have HN : Hid _ := hn
  clear h hsc hf3 hf1 hf2 hn
  go_enter Tryz.func207, Tryz.ntmps207
  go_wp2
  go_region
  all_goals
   go_wp2
   have hd := PIn.dropS HH.out hgp HO.out HN.out
   have HD : Hid _ := hd
   refine bodyPost_end (v := .tuple #[]) (by simp [results, Tryz.results207, go_sem]) rfl ⟨rfl, (.slice (some ⟨g, 0, none⟩) (n - 1) cap), ?_⟩
   exact HD.out
def Bd0 (st : PS) : Prop := st.scope.length + st.l.length ≤ 9000 ∧ st.nodes.length + st.l.length ≤ 9000 ∧ st.opened.length + 4 * st.l.length ≤ 50000
def Bd1 (st : PS) : Prop := st.scope.length + st.l.length ≤ 8999 ∧ st.nodes.length + st.l.length ≤ 8999 ∧ st.opened.length + 4 * st.l.length ≤ 49997
theorem Bd1.to {a b : PS} {j : Nat} (h : Bd1 a) (g : Gs a b j 0) (hj : j ≤ 3) : Bd0 b := by
 obtain ⟨h1, h2, h3⟩ := h
 exact ⟨by rw [g.sc]; have := g.l; omega, by have := g.nd; omega, by have := g.op; omega⟩
theorem Bd1.on {a b : PS} (h : Bd1 a) (g : Gs a b 0 0) : Bd1 b := by
 obtain ⟨h1, h2, h3⟩ := h
 exact ⟨by rw [g.sc]; have := g.l; omega, by have := g.nd; omega, by have := g.op; omega⟩
def EOk (s : ByteArray) (placed : Bool) (pb : Nat) (pE : PS → Int × PS) (m : Nat) : Prop :=
 ∀ (w : World) (sv nv ov : Value) (st : PS), PIn s placed pb w sv nv ov st → st.l.length ≤ m → Bd0 st → Calls Tryz.prog 123 #[ptr pb] w fun v w' => v = .returned (.int .i64 (pE st).1) ∧
  ∃ sv' nv' ov', PFr pb pb w w' sv nv ov sv' nv' ov' ∧ PIn s placed pb w' sv' nv' ov' (pE st).2
set_option maxRecDepth 100000 in
set_option maxHeartbeats 4000000 in
theorem body_any (s : ByteArray) (placed : Bool) (pb : Nat) (pE : PS → Int × PS) (m : Nat) (hE : EOk s placed pb pE m) (hG : GrAll pE m) (w : World) (sv nv ov : Value) (st : PS) (u : List UInt8) (src : Int) (hm : st.l.length ≤ m)
  (hl : st.scope.length + st.l.length ≤ 8999) (hb : Bd0 st) (h : PIn s placed pb w sv nv ov st) :
  Calls Tryz.prog 206 #[ptr pb, .string (bs u), .int .i64 src] w fun v w' => v = .returned (.int .i64 (pBody pE u src st).1) ∧ ∃ sv' nv' ov', PFr pb pb w w' sv nv ov sv' nv' ov' ∧ PIn s placed pb w' sv' nv' ov' (pBody pE u src st).2 := by
 obtain ⟨i0, hi, hz0, hz1, hz2⟩ := info_parts Tryz.infoBind
 have HI : Hid _ := hi
 have HZ0 : Hid _ := hz0
 have HZ1 : Hid _ := hz1
 have HZ2 : Hid _ := hz2
 clear hi hz0 hz1 hz2
 obtain ⟨fr, hf1, hf2, hf3⟩ := h.y
 have hpb := blk_lt hf3
 have y5 : w.cell? ⟨pb, 5, none⟩ = some sv := by rw [blk_cell hf3]; rfl
 have hEx := fun w sv nv ov h => hE w sv nv ov { st with scope := st.scope ++ [(u, src)] } h hm ⟨by simp; omega, hb.2.1, hb.2.2⟩
 have hgr := hG { st with scope := st.scope ++ [(u, src)] } hm
 have hun := fun w sv nv ov h => unbind_any s placed pb w sv nv ov (pE { st with scope := st.scope ++ [(u, src)] }).2 (by rw [hgr.sc]; simp; omega) h
 unfold ptr at hEx hun
 have HEX : Hid _ := hEx
 have HUN : Hid _ := hun
 have HPB : Hid (pBody pE u src st = ((pE { st with scope := st.scope ++ [(u, src)] }).1, { (pE { st with scope := st.scope ++ [(u, src)] }).2 with scope := (pE { st with scope := st.scope ++ [(u, src)] }).2.scope.dropLast })) := rfl
 have HH : Hid _ := h
 have HF3 : Hid _ := hf3
 have hW : Below w.heap.size w (w.alloc (.cells #[.string (bs u), .int .i64 src] 264)) := (Below.refl _ w).alloc (Nat.le_refl _) _
 have HW : Hid _ := hW
 have HOWN : Hid ((w.alloc (.cells #[.string (bs u), .int .i64 src] 264)).ownsRow 0 264 2 sv st.scope.length (st.scope.flatMap scL)) := owns_below h.sc hW
 have HYW : Hid ((w.alloc (.cells #[.string (bs u), .int .i64 src] 264)).heap[pb]? = some (.cells (psCells s placed fr st.fl.isSome (st.fl.getD 0) sv nv ov) 150 (0, 0))) := blk_alloc _ hf3
 clear hf1 hf2 hf3 h hW hEx hun hgr hE hG
 show Calls _ _ #[Value.pointer (some ⟨pb, 0, none⟩), _, _] w _
 go_enter Tryz.func206, Tryz.ntmps206
 go_wp2_with (at_builtin; go_must (refine app_own _ rfl (.tmp 12) (.tmp 16) 148 rfl 264 i0 _ 2 24 Tryz.undBinds HI.out HZ0.out HZ1.out HZ2.out rfl (by decide) sv st.scope.length (st.scope.flatMap scL) rfl HOWN.out ⟨w.heap.size, 0, none⟩ 1 1 (scL (u, src)) rfl rfl ?c1 ?c2 (by decide) ?c3 ?c4 ?_))
 case c1 =>
  intro j v hj
  rw [← hj]
  first | rfl | exact alloc_cell_at _ _ _ _
 case c2 => intro v hv; simp only [scL, List.mem_cons, List.not_mem_nil, or_false] at hv; rcases hv with rfl | rfl <;> rfl
 case c3 => unfold maxLen; omega
 case c4 => omega
 intro g cap w' hown hgrow hor
 have hpb' := grown_blk hgrow HYW.out HH.out.sy
 have c5 : w'.cell? ⟨pb, 5, none⟩ = some sv := by rw [blk_cell hpb']; rfl
 have f5 := blk_free hpb' 5
 have hadd := PIn.addS HH.out (u, src) HW.out hgrow hown (by rw [show (w.alloc (.cells #[.string (bs u), .int .i64 src] 264)).heap.size = w.heap.size + 1 from by simp]; exact hor)
 have hE1 := HEX.out _ _ _ _ hadd.2
 have HADD : Hid _ := hadd.1
 clear hown hgrow hor hpb' hadd
 go_wp2_with fail
 refine hE1.mono ?_
 rintro _ w2 ⟨rfl, sv2, nv2, ov2, hfr2, hin2⟩
 have hU := HUN.out _ _ _ _ hin2
 have HF2 : Hid _ := HADD.out.trans hfr2
 clear hfr2 hin2 hE1
 go_wp2_with fail
 refine hU.mono ?_
 rintro _ w3 ⟨rfl, sv3, hfr3, hin3⟩
 have HR : Hid _ := HF2.out.trans hfr3
 have HI3 : Hid _ := hin3
 clear hfr3 hin3 hU
 go_wp2
 go_ret
 exact ⟨rfl, _, _, _, HR.out, HI3.out⟩
structure Bk (pb k : Nat) (w : World) (sv nv ov : Value) (X : Obj) : Prop where
 b : w.heap[k]? = some X
 ne : k ≠ pb
 s : sv.ownBlock ≠ some k
 n : nv.ownBlock ≠ some k
 o : ov.ownBlock ≠ some k
theorem Bk.keep {pb k : Nat} {w w' : World} {sv nv ov sv' nv' ov' : Value} {X : Obj} (h : Bk pb k w sv nv ov X) (hf : PFr pb pb w w' sv nv ov sv' nv' ov') : Bk pb k w' sv' nv' ov' X := by
 have hk := blk_lt h.b
 refine ⟨by rw [hf.blk k hk h.ne h.ne h.s h.n h.o]; exact h.b, h.ne, ?_, ?_, ?_⟩
 ·intro e; rcases hf.s k e with e | e
  ·exact h.s e
  ·omega
 ·intro e; rcases hf.n k e with e | e
  ·exact h.n e
  ·omega
 ·intro e; rcases hf.o k e with e | e
  ·exact h.o e
  ·omega
theorem Bk.new {s : ByteArray} {placed : Bool} {pb : Nat} {w : World} {sv nv ov : Value} {st : PS} (h : PIn s placed pb w sv nv ov st) (X : Obj) : Bk pb w.heap.size (w.alloc X) sv nv ov X := by
 obtain ⟨l1, l2, l3, l4⟩ := h.slt
 exact ⟨blk_new _ _, by omega, fun e => by have := l1 _ e; omega, fun e => by have := l2 _ e; omega, fun e => by have := l3 _ e; omega⟩
theorem Bk.alloc {pb k : Nat} {w : World} {sv nv ov : Value} {X : Obj} (h : Bk pb k w sv nv ov X) (Y : Obj) : Bk pb k (w.alloc Y) sv nv ov X := ⟨blk_alloc _ h.b, h.ne, h.s, h.n, h.o⟩
theorem PIn.alloc {s : ByteArray} {placed : Bool} {pb : Nat} {w : World} {sv nv ov : Value} {st : PS} (h : PIn s placed pb w sv nv ov st) (Y : Obj) : PIn s placed pb (w.alloc Y) sv nv ov st := h.below ((Below.refl _ w).alloc (Nat.le_refl _) Y)
theorem PFr.alloc {pb nb : Nat} {w w' : World} {sv nv ov sv' nv' ov' : Value} (h : PFr pb nb w w' sv nv ov sv' nv' ov') (Y : Obj) : PFr pb nb w (w'.alloc Y) sv nv ov sv' nv' ov' := h.trans (PFr.below pb nb sv' nv' ov' ((Below.refl _ w').alloc (Nat.le_refl _) Y))
theorem Bk.set {s : ByteArray} {placed : Bool} {pb nb : Nat} {w : World} {sv nv ov : Value} {st : PS} {cs : Array Value} {t : TypeId} (h : Bk pb nb w sv nv ov (.cells cs t (0, 0))) (hin : PIn s placed pb w sv nv ov st) (off : Nat) (v : Value) :
  PFr pb nb w (w.setCell ⟨nb, off, none⟩ v) sv nv ov sv nv ov ∧ PIn s placed pb (w.setCell ⟨nb, off, none⟩ v) sv nv ov st ∧ Bk pb nb (w.setCell ⟨nb, off, none⟩ v) sv nv ov (.cells (cs.setIfInBounds off v) t (0, 0)) := by
 have kp : ∀ k, k ≠ nb → (w.setCell ⟨nb, off, none⟩ v).heap[k]? = w.heap[k]? := fun k hk => blk_other _ _ (by simpa using hk)
 obtain ⟨fr, y1, y2, y3⟩ := hin.y
 refine ⟨⟨rfl, rfl, rfl, by simp only [World.setCell, Array.size_modify]; omega, fun k _ _ hn _ _ _ => kp k hn, fun _ h => Or.inl h, fun _ h => Or.inl h, fun _ h => Or.inl h⟩, ?_, ⟨blk_set h.b off v, h.ne, h.s, h.n, h.o⟩⟩
 exact PIn.move hin st.l st.fl (fun k hk => kp k (fun e => h.s (by rw [← e]; exact hk))) (fun k hk => kp k (fun e => h.n (by rw [← e]; exact hk))) (fun k hk => kp k (fun e => h.o (by rw [← e]; exact hk))) ⟨fr, y1, y2, by rw [kp pb (fun e => h.ne e.symm)]; exact y3⟩
def nrC (n : NR) : Array Value := #[.int .i64 n.form, .int .i64 n.at_, .int .i64 n.beh, .int .i64 n.num, .string (bs n.word), .int .i64 n.region, .int .i64 n.source, .int .i64 n.p0, .int .i64 n.p1, .int .i64 n.p2]
abbrev nrO (n : NR) : Obj := .cells (nrC n) 160 (0, 0)
def tnC (T : TN) : Array Value := #[.int .i64 T.kind, .int .i64 T.at_, .int .i64 T.beh, .string (bs T.word), .int .i64 T.num]
abbrev tnO (T : TN) : Obj := .cells (tnC T) 208 (0, 0)
def FOk (s : ByteArray) (placed : Bool) (pb : Nat) (fn : Nat) (more : Array Value) (f : NR → PS → NR × PS) (m : Nat) : Prop :=
 ∀ (nb : Nat) (w : World) (sv nv ov : Value) (st : PS) (n : NR), PIn s placed pb w sv nv ov st → Bk pb nb w sv nv ov (nrO n) → st.l.length ≤ m → Bd1 st → Calls Tryz.prog fn (#[ptr pb, ptr nb] ++ more) w fun v w' => v = .returned (.tuple #[]) ∧
  ∃ sv' nv' ov', PFr pb nb w w' sv nv ov sv' nv' ov' ∧ PIn s placed pb w' sv' nv' ov' (f n st).2 ∧ Bk pb nb w' sv' nv' ov' (nrO (f n st).1)
set_option maxRecDepth 100000 in
set_option maxHeartbeats 4000000 in
theorem fillRegion_any (s : ByteArray) (placed : Bool) (pb m : Nat) (hs : s.size ≤ 9000) : FOk s placed pb 200 #[] (fun n st => pRegion s.size n st) m := by
 intro nb w sv nv ov st n h hb _ _
 have hex := expect_any s placed pb w sv nv ov st 6 hs h
 unfold pRegion
 obtain ⟨T, hT⟩ : ∃ T, T = tk1 s.size st.l := ⟨_, rfl⟩
 rw [← hT] at hex
 have HT : Hid _ := hT
 clear hT
 unfold tnVal ptr at hex
 simp only [Array.append_empty]
 show Calls _ _ #[Value.pointer (some ⟨pb, 0, none⟩), Value.pointer (some ⟨nb, 0, none⟩)] w _
 have HB : Hid _ := hb
 clear h hb
 go_enter Tryz.func200, Tryz.ntmps200
 go_wp2_with fail
 refine hex.mono ?_
 rintro _ w1 ⟨rfl, hfr, hin⟩
 have hb1 := HB.out.keep hfr
 have c5 : w1.cell? ⟨nb, 5, none⟩ = some (.int .i64 n.region) := by rw [blk_cell hb1.b]; rfl
 have f5 : w1.frozen? ⟨nb, 5, none⟩ = false := blk_free hb1.b 5
 have hne := blk_lt hb1.b
 obtain ⟨s1, s2, s3⟩ := hb1.set hin 5 (.int .i64 T.num)
 have HF : Hid (PFr pb nb w _ sv nv ov sv nv ov) := (hfr.nb (nb := nb)).trans s1
 have H2 : Hid _ := s2
 have H3 : Hid _ := s3
 clear s1 s2 s3 hfr hin hb1 hex
 go_wp2
 refine bodyPost_end (v := .tuple #[]) (by simp [results, Tryz.results200, go_sem]) rfl ⟨rfl, _, _, _, HF.out.alloc _, H2.out.alloc _, by rw [← HT.out]; exact H3.out.alloc _⟩
def pRows (pE : PS → Int × PS) (n : NR) (st : PS) : Nat → NR × PS
 | 0 => (n, st)
 | 1 => pRow1 pE n st
 | 2 => pRow2 pE n st
 | _ => pRow3 pE n st
set_option maxRecDepth 100000 in
set_option maxHeartbeats 4000000 in
theorem fillRow_any (s : ByteArray) (placed : Bool) (pb : Nat) (pE : PS → Int × PS) (m c : Nat) (hc : c ≤ 3) (hE : EOk s placed pb pE m) (hG : GrAll pE m) : FOk s placed pb 201 #[.int .i64 c] (fun n st => pRows pE n st c) m := by
 intro nb w sv nv ov st n h hb hm hbd
 have hg1 := gs_row1 hG n st hm
 have hg2 := gs_row2 hG n st hm
 have hgl : ∀ k, k ≤ 2 → (pRows pE n st k).2.l.length ≤ m ∧ Bd0 (pRows pE n st k).2 := by
  intro k hk
  match k, hk with
  | 0, _ => exact ⟨hm, hbd.to (Gs.refl st) (by omega)⟩
  | 1, _ => exact ⟨Nat.le_trans hg1.l hm, hbd.to hg1 (by omega)⟩
  | 2, _ => exact ⟨Nat.le_trans hg2.l hm, hbd.to hg2 (by omega)⟩
 have hnx : ∀ k, k < 3 → pRows pE n st (k + 1) = (if k = 0 then { (pRows pE n st k).1 with p0 := (pE (pRows pE n st k).2).1 } else if k = 1 then { (pRows pE n st k).1 with p1 := (pE (pRows pE n st k).2).1 } else { (pRows pE n st k).1 with p2 := (pE (pRows pE n st k).2).1 }, (pE (pRows pE n st k).2).2) := by
  intro k hk
  match k, hk with
  | 0, _ => rfl
  | 1, _ => rfl
  | 2, _ => rfl
 have hEx := fun w sv nv ov st h hm hb => hE w sv nv ov st h hm hb
 unfold ptr at hEx
 have HE : Hid _ := hEx
 have HGL : Hid _ := hgl
 have HNX : Hid _ := hnx
 have HB : Hid _ := hb
 have HH : Hid _ := h
 clear hg1 hg2 hgl hnx hb h hE hG hEx hbd
 show Calls _ _ #[Value.pointer (some ⟨pb, 0, none⟩), Value.pointer (some ⟨nb, 0, none⟩), .int .i64 c] w _
 go_enter Tryz.func201, Tryz.ntmps201
 go_wp2
 go_loopw [6, 7] (fun i _ wr => ∃ k : Nat, k ≤ c ∧ i = .int .i64 k ∧ ∃ sv' nv' ov', PFr pb nb w wr sv nv ov sv' nv' ov' ∧ PIn s placed pb wr sv' nv' ov' (pRows pE n st k).2 ∧ Bk pb nb wr sv' nv' ov' (nrO (pRows pE n st k).1)) (fun i _ _ => c - (intOf i).toNat)
 case atStart => exact ⟨0, by omega, rfl, sv, nv, ov, PFr.refl _ _ _ _ _ _, HH.out, HB.out⟩
 case round =>
  obtain ⟨k, hk, rfl, sv1, nv1, ov1, hfr1, hin1, hb1⟩ := hrel
  by_cases hlt : k < c
  ·have hk3 : k < 3 := by omega
   obtain ⟨hl1, hd1⟩ := HGL.out k (by omega)
   have hx := HE.out wr sv1 nv1 ov1 _ hin1 hl1 hd1
   have hnk := HNX.out k hk3
   have HFR1 : Hid _ := hfr1
   have HB1 : Hid _ := hb1
   have HNK : Hid _ := hnk
   clear hfr1 hin1 hb1 hl1 hd1 hnk
   go_wp2_with fail
   refine hx.mono ?_
   rintro _ w2 ⟨rfl, sv2, nv2, ov2, hfr2, hin2⟩
   have hb2 := HB1.out.keep hfr2
   have HF2 : Hid _ := HFR1.out.trans (hfr2.nb (nb := nb))
   have HIN2 : Hid _ := hin2
   have HB2 : Hid _ := hb2
   clear hfr2 hin2 hx HB1 HFR1
   generalize (pE (pRows pE n st k).2).1 = part at *
   obtain ⟨s1, s2, s3⟩ := HB2.out.set HIN2.out (7 + k) (.int .i64 part)
   have c7 : w2.cell? ⟨nb, 7, none⟩ = some (.int .i64 (pRows pE n st k).1.p0) := by rw [blk_cell hb2.b]; rfl
   have c8 : w2.cell? ⟨nb, 8, none⟩ = some (.int .i64 (pRows pE n st k).1.p1) := by rw [blk_cell hb2.b]; rfl
   have c9 : w2.cell? ⟨nb, 9, none⟩ = some (.int .i64 (pRows pE n st k).1.p2) := by rw [blk_cell hb2.b]; rfl
   have f7 := blk_free hb2.b 7
   have f8 := blk_free hb2.b 8
   have f9 := blk_free hb2.b 9
   have H1 : Hid _ := s1
   have H2 : Hid _ := s2
   have H3 : Hid _ := s3
   clear s1 s2 s3 hb2
   rcases (by omega : k = 0 ∨ k = 1 ∨ k = 2) with rfl | rfl | rfl
   ·go_wp2
    go_roundw
    case rel => exact ⟨1, by omega, rfl, sv2, nv2, ov2, HF2.out.trans H1.out, by rw [HNK.out]; exact H2.out, by rw [HNK.out]; exact H3.out⟩
    case measure => simp [intOf]; omega
   ·go_wp2
    go_roundw
    case rel => exact ⟨2, by omega, rfl, sv2, nv2, ov2, HF2.out.trans H1.out, by rw [HNK.out]; exact H2.out, by rw [HNK.out]; exact H3.out⟩
    case measure => simp [intOf]; omega
   ·go_wp2
    go_roundw
    case rel => exact ⟨3, by omega, rfl, sv2, nv2, ov2, HF2.out.trans H1.out, by rw [HNK.out]; exact H2.out, by rw [HNK.out]; exact H3.out⟩
    case measure => simp [intOf]; omega
  ·have hkc : k = c := by omega
   have HF1 : Hid _ := hfr1
   have HI1 : Hid _ := hin1
   have HB1 : Hid _ := hb1
   have HKC : Hid _ := hkc
   clear hfr1 hin1 hb1 hkc
   go_wp2
   refine bodyPost_end (v := .tuple #[]) (by simp [results, Tryz.results201, go_sem]) rfl ⟨rfl, _, _, _, HF1.out, ?_, ?_⟩
   ·rw [← HKC.out]; exact HI1.out
   ·rw [← HKC.out]; exact HB1.out
theorem Bk.set4 {s : ByteArray} {placed : Bool} {pb nb : Nat} {w : World} {sv nv ov : Value} {st : PS} {n : NR} (h : Bk pb nb w sv nv ov (nrO n)) (hin : PIn s placed pb w sv nv ov st) (u : List UInt8) (a b c : Int) :
  PFr pb nb w ((((w.setCell ⟨nb, 4, none⟩ (.string (bs u))).setCell ⟨nb, 7, none⟩ (.int .i64 a)).setCell ⟨nb, 8, none⟩ (.int .i64 b)).setCell ⟨nb, 9, none⟩ (.int .i64 c)) sv nv ov sv nv ov ∧
  PIn s placed pb ((((w.setCell ⟨nb, 4, none⟩ (.string (bs u))).setCell ⟨nb, 7, none⟩ (.int .i64 a)).setCell ⟨nb, 8, none⟩ (.int .i64 b)).setCell ⟨nb, 9, none⟩ (.int .i64 c)) sv nv ov st ∧
  Bk pb nb ((((w.setCell ⟨nb, 4, none⟩ (.string (bs u))).setCell ⟨nb, 7, none⟩ (.int .i64 a)).setCell ⟨nb, 8, none⟩ (.int .i64 b)).setCell ⟨nb, 9, none⟩ (.int .i64 c)) sv nv ov (nrO { n with word := u, p0 := a, p1 := b, p2 := c }) := by
 obtain ⟨a1, a2, a3⟩ := h.set hin 4 (.string (bs u))
 obtain ⟨b1, b2, b3⟩ := a3.set a2 7 (.int .i64 a)
 obtain ⟨c1, c2, c3⟩ := b3.set b2 8 (.int .i64 b)
 obtain ⟨d1, d2, d3⟩ := c3.set c2 9 (.int .i64 c)
 exact ⟨((a1.trans b1).trans c1).trans d1, d2, d3⟩
theorem nr_cells {w : World} {nb : Nat} {n : NR} (h : w.heap[nb]? = some (nrO n)) : w.cell? ⟨nb, 4, none⟩ = some (.string (bs n.word)) ∧ w.cell? ⟨nb, 7, none⟩ = some (.int .i64 n.p0) ∧ w.cell? ⟨nb, 8, none⟩ = some (.int .i64 n.p1) ∧ w.cell? ⟨nb, 9, none⟩ = some (.int .i64 n.p2) :=
 ⟨by rw [blk_cell h]; rfl, by rw [blk_cell h]; rfl, by rw [blk_cell h]; rfl, by rw [blk_cell h]; rfl⟩
set_option maxRecDepth 100000 in
set_option maxHeartbeats 4000000 in
theorem fillLet_any (s : ByteArray) (placed : Bool) (pb : Nat) (pE : PS → Int × PS) (m : Nat) (hs : s.size ≤ 9000) (hE : EOk s placed pb pE m) (hG : GrAll pE m) : FOk s placed pb 198 #[] (fun n st => pLet s.size pE n st) m := by
 intro nb w sv nv ov st n h hb hm hbd
 have hex := expect_any s placed pb w sv nv ov st 4 hs h
 have g1 := gs_expect s.size 4 st
 have g1l := g1.l
 have g2 := gs_pE hG (st.expect s.size 4) (by omega)
 have g2l := g2.l
 have hx := fun w sv nv ov h => hE w sv nv ov (st.expect s.size 4) h (by omega) (hbd.to g1 (by omega))
 have hbo := fun w sv nv ov u src h => body_any s placed pb pE m hE hG w sv nv ov (pE (st.expect s.size 4)).2 u src (by omega) (by rw [(g1.trans g2).sc]; have := hbd.1; omega) (hbd.to (g1.trans g2) (by omega)) h
 have hres : pLet s.size pE n st = ({ n with word := (tk1 s.size st.l).word, p0 := (pE (st.expect s.size 4)).1, p1 := (pBody pE (tk1 s.size st.l).word (pE (st.expect s.size 4)).1 (pE (st.expect s.size 4)).2).1, p2 := -1 }, (pBody pE (tk1 s.size st.l).word (pE (st.expect s.size 4)).1 (pE (st.expect s.size 4)).2).2) := rfl
 simp only [hres]
 clear hres
 generalize tk1 s.size st.l = T at *
 generalize st.expect s.size 4 = st1 at *
 generalize pE st1 = X at *
 generalize hY : pBody pE T.word X.1 X.2 = Y at *
 have hbo' := fun w sv nv ov h => hbo w sv nv ov T.word X.1 h
 rw [hY] at hbo'
 unfold tnVal ptr at hex
 unfold ptr at hx hbo'
 simp only [Array.append_empty]
 show Calls _ _ #[Value.pointer (some ⟨pb, 0, none⟩), Value.pointer (some ⟨nb, 0, none⟩)] w _
 have HB : Hid _ := hb
 have HX : Hid _ := hx
 have HBO : Hid _ := hbo'
 clear h hb hx hbo hbo' g1 g2 g1l g2l hE hG hbd hY
 go_enter Tryz.func198, Tryz.ntmps198
 go_wp2_with fail
 refine hex.mono ?_
 rintro _ w1 ⟨rfl, hfr, hin⟩
 have hb1 := (HB.out.keep hfr).alloc (tnO T)
 have hT1 := Bk.new hin (tnO T)
 have hx1 := HX.out _ _ _ _ (hin.alloc (tnO T))
 have HF1 : Hid _ := hfr.alloc (tnO T)
 have HB1 : Hid _ := hb1
 have HT1 : Hid _ := hT1
 clear hfr hin hb1 hT1 hex HB HX
 unfold tnO tnC at hx1
 go_wp2_with fail
 refine hx1.mono ?_
 rintro _ w2 ⟨rfl, sv2, nv2, ov2, hfr2, hin2⟩
 have hb2 := HB1.out.keep hfr2
 have hT2 := HT1.out.keep hfr2
 have hy2 := HBO.out _ _ _ _ hin2
 have HF2 : Hid _ := HF1.out.trans hfr2
 have HB2 : Hid _ := hb2
 have HT2 : Hid _ := hT2
 have d3 : w2.cell? ⟨w1.heap.size, 3, none⟩ = some (.string (bs T.word)) := by rw [blk_cell hT2.b]; rfl
 clear hfr2 hin2 hb2 hT2 hx1 HB1 HT1 HF1 HBO
 go_wp2_with fail
 refine hy2.mono ?_
 rintro _ w3 ⟨rfl, sv3, nv3, ov3, hfr3, hin3⟩
 have hb3 := HB2.out.keep hfr3
 have hT3 := HT2.out.keep hfr3
 have e3 : w3.cell? ⟨w1.heap.size, 3, none⟩ = some (.string (bs T.word)) := by rw [blk_cell hT3.b]; rfl
 obtain ⟨c4, c7, c8, c9⟩ := nr_cells hb3.b
 have f4 := blk_free hb3.b 4
 have f7 := blk_free hb3.b 7
 have f8 := blk_free hb3.b 8
 have f9 := blk_free hb3.b 9
 obtain ⟨r1, r2, r3⟩ := hb3.set4 hin3 T.word X.1 Y.1 (-1)
 have HR1 : Hid _ := (HF2.out.nb (nb := nb)).trans ((hfr3.nb (nb := nb)).trans r1)
 have HR2 : Hid _ := r2
 have HR3 : Hid _ := r3
 clear hfr3 hin3 hb3 hT3 r1 r2 r3 hy2 HB2 HT2 HF2 d3
 go_wp2
 refine bodyPost_end (v := .tuple #[]) (by simp [results, Tryz.results198, go_sem]) rfl ⟨rfl, _, _, _, HR1.out, HR2.out, HR3.out⟩
set_option maxRecDepth 100000 in
set_option maxHeartbeats 4000000 in
theorem fillLoop_any (s : ByteArray) (placed : Bool) (pb : Nat) (pE : PS → Int × PS) (m : Nat) (hs : s.size ≤ 9000) (hE : EOk s placed pb pE m) (hG : GrAll pE m) : FOk s placed pb 199 #[] (fun n st => pLoop s.size pE n st) m := by
 intro nb w sv nv ov st n h hb hm hbd
 have ht := hE w sv nv ov st h hm (hbd.to (Gs.refl st) (by omega))
 have g0 := gs_pE hG st hm
 have g0l := g0.l
 have hex := fun w sv nv ov h => expect_any s placed pb w sv nv ov (pE st).2 4 hs h
 have g1 := gs_expect s.size 4 (pE st).2
 have g1l := g1.l
 have g2 := gs_pE hG ((pE st).2.expect s.size 4) (by omega)
 have g2l := g2.l
 have hx := fun w sv nv ov h => hE w sv nv ov ((pE st).2.expect s.size 4) h (by omega) (hbd.to (g0.trans g1) (by omega))
 have hbo := fun w sv nv ov u src h => body_any s placed pb pE m hE hG w sv nv ov (pE ((pE st).2.expect s.size 4)).2 u src (by omega) (by rw [((g0.trans g1).trans g2).sc]; have := hbd.1; omega) (hbd.to ((g0.trans g1).trans g2) (by omega)) h
 have hres : pLoop s.size pE n st = ({ n with word := (tk1 s.size (pE st).2.l).word, p0 := (pE st).1, p1 := (pE ((pE st).2.expect s.size 4)).1, p2 := (pBody pE (tk1 s.size (pE st).2.l).word (pE ((pE st).2.expect s.size 4)).1 (pE ((pE st).2.expect s.size 4)).2).1 }, (pBody pE (tk1 s.size (pE st).2.l).word (pE ((pE st).2.expect s.size 4)).1 (pE ((pE st).2.expect s.size 4)).2).2) := rfl
 simp only [hres]
 clear hres
 generalize pE st = Z at *
 generalize tk1 s.size Z.2.l = T at *
 generalize Z.2.expect s.size 4 = st1 at *
 generalize pE st1 = X at *
 generalize hY : pBody pE T.word X.1 X.2 = Y at *
 have hbo' := fun w sv nv ov h => hbo w sv nv ov T.word X.1 h
 rw [hY] at hbo'
 unfold tnVal ptr at hex
 unfold ptr at hx hbo' ht
 simp only [Array.append_empty]
 show Calls _ _ #[Value.pointer (some ⟨pb, 0, none⟩), Value.pointer (some ⟨nb, 0, none⟩)] w _
 have HB : Hid _ := hb
 have HX : Hid _ := hx
 have HEX : Hid _ := hex
 have HBO : Hid _ := hbo'
 clear h hb hx hbo hbo' g0 g1 g2 g0l g1l g2l hE hG hbd hY hex
 go_enter Tryz.func199, Tryz.ntmps199
 go_wp2_with fail
 refine ht.mono ?_
 rintro _ w0 ⟨rfl, sv0, nv0, ov0, hfr0, hin0⟩
 have hex := HEX.out _ _ _ _ hin0
 have HF0 : Hid _ := hfr0
 have HB0 : Hid _ := HB.out.keep hfr0
 clear hfr0 hin0 ht HB HEX
 go_wp2_with fail
 refine hex.mono ?_
 rintro _ w1 ⟨rfl, hfr, hin⟩
 have hb1 := (HB0.out.keep hfr).alloc (tnO T)
 have hT1 := Bk.new hin (tnO T)
 have hx1 := HX.out _ _ _ _ (hin.alloc (tnO T))
 have HF1 : Hid _ := HF0.out.trans (hfr.alloc (tnO T))
 have HB1 : Hid _ := hb1
 have HT1 : Hid _ := hT1
 clear hfr hin hb1 hT1 hex HB0 HX HF0
 unfold tnO tnC at hx1
 go_wp2_with fail
 refine hx1.mono ?_
 rintro _ w2 ⟨rfl, sv2, nv2, ov2, hfr2, hin2⟩
 have hb2 := HB1.out.keep hfr2
 have hT2 := HT1.out.keep hfr2
 have hy2 := HBO.out _ _ _ _ hin2
 have HF2 : Hid _ := HF1.out.trans hfr2
 have HB2 : Hid _ := hb2
 have HT2 : Hid _ := hT2
 have d3 : w2.cell? ⟨w1.heap.size, 3, none⟩ = some (.string (bs T.word)) := by rw [blk_cell hT2.b]; rfl
 clear hfr2 hin2 hb2 hT2 hx1 HB1 HT1 HF1 HBO
 go_wp2_with fail
 refine hy2.mono ?_
 rintro _ w3 ⟨rfl, sv3, nv3, ov3, hfr3, hin3⟩
 have hb3 := HB2.out.keep hfr3
 have hT3 := HT2.out.keep hfr3
 have e3 : w3.cell? ⟨w1.heap.size, 3, none⟩ = some (.string (bs T.word)) := by rw [blk_cell hT3.b]; rfl
 obtain ⟨c4, c7, c8, c9⟩ := nr_cells hb3.b
 have f4 := blk_free hb3.b 4
 have f7 := blk_free hb3.b 7
 have f8 := blk_free hb3.b 8
 have f9 := blk_free hb3.b 9
 obtain ⟨r1, r2, r3⟩ := hb3.set4 hin3 T.word Z.1 X.1 Y.1
 have HR1 : Hid _ := (HF2.out.nb (nb := nb)).trans ((hfr3.nb (nb := nb)).trans r1)
 have HR2 : Hid _ := r2
 have HR3 : Hid _ := r3
 clear hfr3 hin3 hb3 hT3 r1 r2 r3 hy2 HB2 HT2 HF2 d3
 go_wp2
 refine bodyPost_end (v := .tuple #[]) (by simp [results, Tryz.results199, go_sem]) rfl ⟨rfl, _, _, _, HR1.out, HR2.out, HR3.out⟩
end Go.Proofs.YtpicaknklgccoaaGreatDoor
