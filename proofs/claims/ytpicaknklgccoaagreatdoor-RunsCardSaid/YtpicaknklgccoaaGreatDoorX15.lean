import Derived.Test.YtpicaknklgccoaaGreatDoorX14
import Derived.Test.YtpicaknklgccoaaGreatDoorX8
import Derived.Deep.RegionLaw
import Derived.Test.YtpicaknklgccoaaGreatDoorX12
namespace Go.Proofs.YtpicaknklgccoaaGreatDoor
open Go.RowKit
theorem step_own {P : Program} {ops : Array Oper} {o : Oper} {a : Act} {w : World} {K : Act → World → Prop} {Q : Exit → Act → World → Prop} {E : Prop}
  (hg : o.guard = none) (s x : Operand) (t : TypeId) (hop : o.op = Op.call { callee := Callee.builtin Builtin.append, args := #[s, x], argTypes := #[t, t] })
  (e : TypeId) (i : TypeInfo) (z : Value) (size bytes : Nat) (h1 : P.underlying t = some (.slice e)) (h2 : P.info? e = some i) (h3 : i.zero = some z) (h4 : i.size = size) (h5 : i.bytes = bytes) (h6 : z.cells.size = size) (h7 : 0 < size)
  (v : Value) (n : Nat) (xs : List Value) (hs : a.eval s = v) (hown : w.ownsRow 0 e size v n xs)
  (ad : Addr) (m c : Nat) (news : List Value) (hx : a.eval x = .slice (some ad) m c) (hn : news.length = m * size) (hc : ∀ j u, news[j]? = some u → w.cell? (ad.add j) = some u) (h1c : ∀ u ∈ news, u.oneCell' = true)
  (hm : 0 < m) (b1 : n + m ≤ maxLen) (b2 : (n + m) * bytes ≤ 140737488355328)
  (hK : ∀ (g cap : Nat) (w' : World), w'.ownsRow 0 e size (.slice (some ⟨g, 0, none⟩) (n + m) cap) (n + m) (xs ++ news) → w.grownBy w' v.ownBlock → (v.ownBlock = some g ∨ w.heap.size ≤ g) → K (a.put o.dst (.slice (some ⟨g, 0, none⟩) (n + m) cap)) w') :
  if Region.wanted o (yielded ops a.tmps) = true then Oper.wp P o a w K Q else E := by
 have hw : Region.wanted o (yielded ops a.tmps) = true := by simp [Region.wanted, hg]
 rw [if_pos hw]
 have fin : ∀ (v' : Value) (w' : World), w'.ownsRow w.heap.size e size v' (n + m) (xs ++ news) → w.grownBy w' none → K (a.put o.dst v') w' := by
  intro v' w' ho' hg'
  obtain ⟨g, cap, hv'⟩ : ∃ g cap, v' = .slice (some ⟨g, 0, none⟩) (n + m) cap := by
   rcases ho'.2 with ⟨_, hh⟩ | ⟨g, cap, cur, hv, _⟩
   ·omega
   ·exact ⟨_, _, hv⟩
  subst hv'
  have hlt := ho'.lt g rfl
  exact hK g cap w' (owns_base ho' (fun k hk => Nat.zero_le _)) ⟨hg'.os, hg'.tape, hg'.output, hg'.size, fun k hk _ => hg'.block k hk (by simp)⟩ (Or.inr hlt.1)
 rcases hown.2 with ⟨hv, hn0⟩ | ⟨g, cap, cur, hv, hgb, hh, hn', hcm, hcs, htake⟩
 ·subst hn0
  have hxs : xs = [] := List.length_eq_zero_iff.1 (by have := hown.1; omega)
  subst hxs
  obtain ⟨v', w', hrun, r1, r2, _⟩ := run_append_own (P := P) w w.heap.size t o.type e i z size bytes h1 h2 h3 h4 h5 h6 h7 (.slice none 0 0) 0 [] (World.ownsRow_nil w _ e size) ad m c news hn hc h1c b1 b2 (Nat.le_refl _)
  unfold Oper.wp
  rw [hv] at hs
  simp [execOp, hop, resolve, invoke, builtin, hs, hx, hrun, Result.andThen]
  exact fin v' w' r1 r2
 ·by_cases hroom : n + m ≤ cap
  ·have hown' := hown
   rw [hv] at hown' hs
   obtain ⟨w', hrun, r1, r2⟩ := run_append_fits (P := P) w 0 t o.type e i size h1 h2 h4 g n cap xs hown' ad m c news hn hc h1c hroom
   unfold Oper.wp
   simp [execOp, hop, resolve, invoke, builtin, hs, hx, hrun, Result.andThen]
   exact hK g cap w' r1 (by rw [hv]; exact r2) (Or.inl (by rw [hv]; rfl))
  ·obtain ⟨v', w', hrun, r1, r2⟩ := run_append_arg_grows (P := P) w t o.type e i z size bytes h1 h2 h3 h4 h5 h6 h7 ⟨g, 0, none⟩ n cap xs hown.1 (fun j u hj => hown.cells (by rw [hv]; rfl) j u hj) ad m c news hn hc (by omega) b1 b2
   unfold Oper.wp
   rw [hv] at hs
   simp [execOp, hop, resolve, invoke, builtin, hs, hx, hrun, Result.andThen]
   exact fin v' w' r1 r2
theorem Tryz.infoNode : (Tryz.prog.info? 160).map (fun i => (i.zero, i.size, i.bytes)) = some (some (.agg #[.int .i64 0, .int .i64 0, .int .i64 0, .int .i64 0, .string ⟨#[]⟩, .int .i64 0, .int .i64 0, .int .i64 0, .int .i64 0, .int .i64 0]), 10, 88) := by kernel_rfl
theorem Tryz.undNodes : Tryz.prog.underlying 57 = some (.slice 160) := by kernel_rfl
theorem Tryz.infoBind : (Tryz.prog.info? 264).map (fun i => (i.zero, i.size, i.bytes)) = some (some (.agg #[.string ⟨#[]⟩, .int .i64 0]), 2, 24) := by kernel_rfl
theorem Tryz.undBinds : Tryz.prog.underlying 148 = some (.slice 264) := by kernel_rfl
def nrVal (n : NR) : Value := .agg #[.int .i64 n.form, .int .i64 n.at_, .int .i64 n.beh, .int .i64 n.num, .string (bs n.word), .int .i64 n.region, .int .i64 n.source, .int .i64 n.p0, .int .i64 n.p1, .int .i64 n.p2]
theorem flat2 : ∀ (l : List (List UInt8 × Int)) (i : Nat), (l.flatMap scL)[i * 2]? = (l[i]?).map (fun x => Value.string (bs x.1)) ∧ (l.flatMap scL)[i * 2 + 1]? = (l[i]?).map (fun x => Value.int .i64 x.2)
 | [], i => by simp
 | x :: l, 0 => by simp [scL]
 | x :: l, i + 1 => by
  have := flat2 l i
  rw [List.flatMap_cons, show (i + 1) * 2 = (scL x).length + i * 2 from by simp [scL]; omega, List.getElem?_append_right (by omega), Nat.add_sub_cancel_left, show (scL x).length + i * 2 + 1 = (scL x).length + (i * 2 + 1) from by omega, List.getElem?_append_right (by omega), Nat.add_sub_cancel_left]
  simpa using this
theorem findS_take (l : List (List UInt8 × Int)) (k : Nat) (hk : k < l.length) (u : List UInt8) : findS (l.take (k + 1)) u = if l[k].1 == u then l[k].2 else findS (l.take k) u := by
 unfold findS
 rw [List.take_succ_eq_append_getElem hk, List.reverse_append, List.reverse_singleton, List.singleton_append, List.find?_cons]
 cases h : (l[k].1 == u) <;> simp
set_option maxRecDepth 100000 in
set_option maxHeartbeats 2000000 in
theorem find_any (s : ByteArray) (placed : Bool) (pb : Nat) (w : World) (sv nv ov : Value) (st : PS) (u : List UInt8) (hl : st.scope.length ≤ 9000) (h : PIn s placed pb w sv nv ov st) :
  Calls Tryz.prog 180 #[ptr pb, .string (bs u)] w fun v w' => v = .returned (.int .i64 (findS st.scope u)) ∧ w' = w := by
 obtain ⟨fr, hf1, hf2, hf3⟩ := h.y
 have hsc := h.sc
 obtain ⟨scope, hscope⟩ : ∃ x, x = st.scope := ⟨_, rfl⟩
 rw [← hscope] at hsc hl ⊢
 obtain ⟨n, hn⟩ : ∃ n, n = scope.length := ⟨_, rfl⟩
 rw [← hn] at hsc hl
 have hsv : (∃ g cap, sv = .slice (some ⟨g, 0, none⟩) n cap) ∨ (sv = .slice none 0 0 ∧ n = 0) := by
  rcases hsc.2 with ⟨h1, h2⟩ | ⟨g, cap, cur, h1, _⟩
  ·exact Or.inr ⟨h1, h2⟩
  ·exact Or.inl ⟨g, cap, h1⟩
 have y5 : w.cell? ⟨pb, 5, none⟩ = some sv := by rw [blk_cell hf3]; rfl
 have HN : Hid _ := hn
 show Calls _ _ #[Value.pointer (some ⟨pb, 0, none⟩), _] w _
 clear hf3 hf1 hf2 h hscope hn
 obtain ⟨ao, cap, rfl, hcell⟩ : ∃ ao cap, sv = .slice ao n cap ∧ (∀ j, j < n → ∃ g, ao = some ⟨g, 0, none⟩ ∧ w.cell? ⟨g, j * 2, none⟩ = (scope[j]?).map (fun x => Value.string (bs x.1)) ∧ w.cell? ⟨g, j * 2 + 1, none⟩ = (scope[j]?).map (fun x => Value.int .i64 x.2)) := by
  rcases hsv with ⟨g, cap, rfl⟩ | ⟨rfl, h0⟩
  ·refine ⟨_, cap, rfl, fun j hj => ⟨g, rfl, ?_, ?_⟩⟩
   ·have h1 := hsc.cellAt (j * 2) (by omega)
    rw [h1, (flat2 scope j).1]
   ·have h1 := hsc.cellAt (j * 2 + 1) (by omega)
    rw [h1, (flat2 scope j).2]
  ·exact ⟨none, 0, by rw [h0], fun j hj => by omega⟩
 clear hsv hsc
 have HCELL : Hid _ := hcell
 clear hcell
 go_enter Tryz.func180, Tryz.ntmps180
 go_wp2
 go_loop [5] (fun i => ∃ k : Nat, k ≤ n ∧ i = .int .i64 ((k : Int) - 1) ∧ findS scope u = findS (scope.take k) u) (fun i => (intOf i + 1).toNat)
 case atStart => exact ⟨n, Nat.le_refl _, rfl, by rw [HN.out, List.take_length]⟩
 case round =>
  obtain ⟨k, hk, rfl, hr⟩ := hrel
  have HR : Hid _ := hr
  clear hr
  cases k with
  | zero =>
   go_wp2
   go_ret
   exact ⟨ret_int (by rw [HR.out]; rfl), rfl⟩
  | succ k =>
   obtain ⟨g, rfl, hc1, hc2⟩ := HCELL.out k (by omega)
   have hkl : k < scope.length := by have := HN.out; omega
   rw [List.getElem?_eq_getElem hkl] at hc1 hc2
   simp only [Option.map_some] at hc1 hc2
   have hft := findS_take scope k hkl u
   have ek : ((k + 1 : Nat) : Int) - 1 = (k : Int) := by omega
   rw [ek]
   cases hb : (scope[k].1 == u) with
   | true =>
    have q : ((bs scope[k].1).toList == (bs u).toList) = true := by rw [bs_beq, Lib.toList_data]; exact hb
    rw [hb] at hft
    have HFT : Hid _ := hft
    clear hft hb ek
    go_wp2
    go_ret
    exact ⟨ret_int (by rw [HR.out, HFT.out]; rfl), rfl⟩
   | false =>
    have q : ((bs scope[k].1).toList == (bs u).toList) = false := by rw [bs_beq, Lib.toList_data]; exact hb
    rw [hb] at hft
    have HFT : Hid _ := hft
    clear hft hb ek
    go_wp2
    go_round
    case rel => exact ⟨k, by omega, rfl, by rw [HR.out, HFT.out]; rfl⟩
    case measure => simp [intOf]
theorem grown_blk {W0 w' : World} {row : Option Nat} {pb : Nat} {X : Obj} (hg : W0.grownBy w' row) (hp : W0.heap[pb]? = some X) (hne : row ≠ some pb) : w'.heap[pb]? = some X := by
 rw [hg.block pb (blk_lt hp) (fun e => hne e.symm)]; exact hp
theorem PIn.addN {s : ByteArray} {placed : Bool} {pb : Nat} {w W0 w' : World} {sv nv ov : Value} {st : PS} (h : PIn s placed pb w sv nv ov st) (n : NR) {g cap : Nat} (hW : Below w.heap.size w W0) (hg : W0.grownBy w' nv.ownBlock)
  (hown : w'.ownsRow 0 160 10 (.slice (some ⟨g, 0, none⟩) (st.nodes.length + 1) cap) (st.nodes.length + 1) (st.nodes.flatMap nrL ++ nrL n)) (hor : nv.ownBlock = some g ∨ W0.heap.size ≤ g) :
  PFr pb pb w (w'.setCell ⟨pb, 6, none⟩ (.slice (some ⟨g, 0, none⟩) (st.nodes.length + 1) cap)) sv nv ov sv (.slice (some ⟨g, 0, none⟩) (st.nodes.length + 1) cap) ov ∧ PIn s placed pb (w'.setCell ⟨pb, 6, none⟩ (.slice (some ⟨g, 0, none⟩) (st.nodes.length + 1) cap)) sv (.slice (some ⟨g, 0, none⟩) (st.nodes.length + 1) cap) ov { st with nodes := st.nodes ++ [n] } := by
 obtain ⟨l1, l2, l3, l4⟩ := h.slt
 have hWs := hW.size
 have hgs := hg.size
 obtain ⟨fr, y1, y2, y3⟩ := h.y
 have yW : W0.heap[pb]? = some (.cells (psCells s placed fr st.fl.isSome (st.fl.getD 0) sv nv ov) 150 (0, 0)) := by rw [hW.block pb l4]; exact y3
 have yw := grown_blk hg yW h.ny
 have hgp : g ≠ pb := by
  rcases hor with e | e
  ·intro e'; rw [e'] at e; exact h.ny e
  ·omega
 have kp : ∀ k, k < w.heap.size → k ≠ pb → nv.ownBlock ≠ some k → (w'.setCell ⟨pb, 6, none⟩ (.slice (some ⟨g, 0, none⟩) (st.nodes.length + 1) cap)).heap[k]? = w.heap[k]? := by
  intro k hk hkp hne
  rw [blk_other _ _ (by simpa using hkp), hg.block k (by omega) (fun e => hne e.symm), hW.block k hk]
 refine ⟨⟨hg.os.trans hW.os, hg.tape.trans hW.tape, hg.output.trans hW.output, by simp only [World.setCell, Array.size_modify]; omega, fun k hk hp _ hs hn ho => kp k hk hp hn, fun _ h => Or.inl h, fun g' hg' => by simp only [Value.ownBlock, Option.some.injEq] at hg'; subst hg'; rcases hor with e | e; exact Or.inl e; exact Or.inr (by omega), fun _ h => Or.inl h⟩, ?_⟩
 refine ⟨⟨fr, y1, y2, blk_set yw 6 _⟩, owns_blk h.sc (fun k hk => kp k (l1 k hk) (fun e => h.sy (by rw [hk, e])) (fun e => h.sn k hk e)), by have := owns_blk (w' := w'.setCell ⟨pb, 6, none⟩ (.slice (some ⟨g, 0, none⟩) (st.nodes.length + 1) cap)) hown (fun k hk => by simp only [Value.ownBlock, Option.some.injEq] at hk; subst hk; exact blk_other _ _ (by simpa using hgp)); simpa using this, owns_blk h.op (fun k hk => kp k (l3 k hk) (fun e => h.oy (by rw [hk, e])) (fun e => h.no.symm k hk e)), h.sy, by simp only [Value.ownBlock, ne_eq, Option.some.injEq]; exact hgp, h.oy, (fun k hk hk' => by
   simp only [Value.ownBlock, Option.some.injEq] at hk'
   rcases hor with e | e
   ·rw [hk'] at e; exact h.sn k hk e
   ·have := l1 k hk; omega), h.so, (fun k hk hk' => by
   simp only [Value.ownBlock, Option.some.injEq] at hk
   rcases hor with e | e
   ·rw [hk] at e; exact h.no.symm k hk' e
   ·have := l3 k hk'; omega)⟩
theorem PIn.addS {s : ByteArray} {placed : Bool} {pb : Nat} {w W0 w' : World} {sv nv ov : Value} {st : PS} (h : PIn s placed pb w sv nv ov st) (x : List UInt8 × Int) {g cap : Nat} (hW : Below w.heap.size w W0) (hg : W0.grownBy w' sv.ownBlock)
  (hown : w'.ownsRow 0 264 2 (.slice (some ⟨g, 0, none⟩) (st.scope.length + 1) cap) (st.scope.length + 1) (st.scope.flatMap scL ++ scL x)) (hor : sv.ownBlock = some g ∨ W0.heap.size ≤ g) :
  PFr pb pb w (w'.setCell ⟨pb, 5, none⟩ (.slice (some ⟨g, 0, none⟩) (st.scope.length + 1) cap)) sv nv ov (.slice (some ⟨g, 0, none⟩) (st.scope.length + 1) cap) nv ov ∧ PIn s placed pb (w'.setCell ⟨pb, 5, none⟩ (.slice (some ⟨g, 0, none⟩) (st.scope.length + 1) cap)) (.slice (some ⟨g, 0, none⟩) (st.scope.length + 1) cap) nv ov { st with scope := st.scope ++ [x] } := by
 obtain ⟨l1, l2, l3, l4⟩ := h.slt
 have hWs := hW.size
 have hgs := hg.size
 obtain ⟨fr, y1, y2, y3⟩ := h.y
 have yW : W0.heap[pb]? = some (.cells (psCells s placed fr st.fl.isSome (st.fl.getD 0) sv nv ov) 150 (0, 0)) := by rw [hW.block pb l4]; exact y3
 have yw := grown_blk hg yW h.sy
 have hgp : g ≠ pb := by
  rcases hor with e | e
  ·intro e'; rw [e'] at e; exact h.sy e
  ·omega
 have kp : ∀ k, k < w.heap.size → k ≠ pb → sv.ownBlock ≠ some k → (w'.setCell ⟨pb, 5, none⟩ (.slice (some ⟨g, 0, none⟩) (st.scope.length + 1) cap)).heap[k]? = w.heap[k]? := by
  intro k hk hkp hne
  rw [blk_other _ _ (by simpa using hkp), hg.block k (by omega) (fun e => hne e.symm), hW.block k hk]
 refine ⟨⟨hg.os.trans hW.os, hg.tape.trans hW.tape, hg.output.trans hW.output, by simp only [World.setCell, Array.size_modify]; omega, fun k hk hp _ hs hn ho => kp k hk hp hs, fun g' hg' => by simp only [Value.ownBlock, Option.some.injEq] at hg'; subst hg'; rcases hor with e | e; exact Or.inl e; exact Or.inr (by omega), fun _ h => Or.inl h, fun _ h => Or.inl h⟩, ?_⟩
 refine ⟨⟨fr, y1, y2, blk_set yw 5 _⟩, by have := owns_blk (w' := w'.setCell ⟨pb, 5, none⟩ (.slice (some ⟨g, 0, none⟩) (st.scope.length + 1) cap)) hown (fun k hk => by simp only [Value.ownBlock, Option.some.injEq] at hk; subst hk; exact blk_other _ _ (by simpa using hgp)); simpa using this, owns_blk h.nd (fun k hk => kp k (l2 k hk) (fun e => h.ny (by rw [hk, e])) (fun e => h.sn.symm k hk e)), owns_blk h.op (fun k hk => kp k (l3 k hk) (fun e => h.oy (by rw [hk, e])) (fun e => h.so.symm k hk e)), by simp only [Value.ownBlock, ne_eq, Option.some.injEq]; exact hgp, h.ny, h.oy, (fun k hk hk' => by
   simp only [Value.ownBlock, Option.some.injEq] at hk
   rcases hor with e | e
   ·rw [hk] at e; exact h.sn.symm k hk' e
   ·have := l2 k hk'; omega), (fun k hk hk' => by
   simp only [Value.ownBlock, Option.some.injEq] at hk
   rcases hor with e | e
   ·rw [hk] at e; exact h.so.symm k hk' e
   ·have := l3 k hk'; omega), h.no⟩
theorem PIn.addO {s : ByteArray} {placed : Bool} {pb : Nat} {w W0 w' : World} {sv nv ov : Value} {st : PS} (h : PIn s placed pb w sv nv ov st) (x : Int) {g cap : Nat} (hW : Below w.heap.size w W0) (hg : W0.grownBy w' ov.ownBlock)
  (hown : w'.ownsRow 0 3 1 (.slice (some ⟨g, 0, none⟩) (st.opened.length + 1) cap) (st.opened.length + 1) (st.opened.map intV ++ [intV x])) (hor : ov.ownBlock = some g ∨ W0.heap.size ≤ g) :
  PFr pb pb w (w'.setCell ⟨pb, 7, none⟩ (.slice (some ⟨g, 0, none⟩) (st.opened.length + 1) cap)) sv nv ov sv nv (.slice (some ⟨g, 0, none⟩) (st.opened.length + 1) cap) ∧ PIn s placed pb (w'.setCell ⟨pb, 7, none⟩ (.slice (some ⟨g, 0, none⟩) (st.opened.length + 1) cap)) sv nv (.slice (some ⟨g, 0, none⟩) (st.opened.length + 1) cap) { st with opened := st.opened ++ [x] } := by
 obtain ⟨l1, l2, l3, l4⟩ := h.slt
 have hWs := hW.size
 have hgs := hg.size
 obtain ⟨fr, y1, y2, y3⟩ := h.y
 have yW : W0.heap[pb]? = some (.cells (psCells s placed fr st.fl.isSome (st.fl.getD 0) sv nv ov) 150 (0, 0)) := by rw [hW.block pb l4]; exact y3
 have yw := grown_blk hg yW h.oy
 have hgp : g ≠ pb := by
  rcases hor with e | e
  ·intro e'; rw [e'] at e; exact h.oy e
  ·omega
 have kp : ∀ k, k < w.heap.size → k ≠ pb → ov.ownBlock ≠ some k → (w'.setCell ⟨pb, 7, none⟩ (.slice (some ⟨g, 0, none⟩) (st.opened.length + 1) cap)).heap[k]? = w.heap[k]? := by
  intro k hk hkp hne
  rw [blk_other _ _ (by simpa using hkp), hg.block k (by omega) (fun e => hne e.symm), hW.block k hk]
 refine ⟨⟨hg.os.trans hW.os, hg.tape.trans hW.tape, hg.output.trans hW.output, by simp only [World.setCell, Array.size_modify]; omega, fun k hk hp _ hs hn ho => kp k hk hp ho, fun _ h => Or.inl h, fun _ h => Or.inl h, fun g' hg' => by simp only [Value.ownBlock, Option.some.injEq] at hg'; subst hg'; rcases hor with e | e; exact Or.inl e; exact Or.inr (by omega)⟩, ?_⟩
 refine ⟨⟨fr, y1, y2, blk_set yw 7 _⟩, owns_blk h.sc (fun k hk => kp k (l1 k hk) (fun e => h.sy (by rw [hk, e])) (fun e => h.so k hk e)), owns_blk h.nd (fun k hk => kp k (l2 k hk) (fun e => h.ny (by rw [hk, e])) (fun e => h.no k hk e)), by have := owns_blk (w' := w'.setCell ⟨pb, 7, none⟩ (.slice (some ⟨g, 0, none⟩) (st.opened.length + 1) cap)) hown (fun k hk => by simp only [Value.ownBlock, Option.some.injEq] at hk; subst hk; exact blk_other _ _ (by simpa using hgp)); simpa using this, h.sy, h.ny, by simp only [Value.ownBlock, ne_eq, Option.some.injEq]; exact hgp, h.sn, (fun k hk hk' => by
   simp only [Value.ownBlock, Option.some.injEq] at hk'
   rcases hor with e | e
   ·rw [hk'] at e; exact h.so k hk e
   ·have := l1 k hk; omega), (fun k hk hk' => by
   simp only [Value.ownBlock, Option.some.injEq] at hk'
   rcases hor with e | e
   ·rw [hk'] at e; exact h.no k hk e
   ·have := l2 k hk; omega)⟩
theorem nr_one (n : NR) : ∀ u ∈ nrL n, u.oneCell' = true := by intro u hu; simp only [nrL, List.mem_cons, List.not_mem_nil, or_false] at hu; rcases hu with rfl | rfl | rfl | rfl | rfl | rfl | rfl | rfl | rfl | rfl <;> rfl
set_option maxRecDepth 100000 in
set_option maxHeartbeats 4000000 in
theorem add_any (s : ByteArray) (placed : Bool) (pb : Nat) (w : World) (sv nv ov : Value) (st : PS) (n : NR) (hl : st.nodes.length ≤ 9000) (h : PIn s placed pb w sv nv ov st) :
  Calls Tryz.prog 179 #[ptr pb, nrVal n] w fun v w' => v = .returned (.int .i64 st.nodes.length) ∧ ∃ nv', PFr pb pb w w' sv nv ov sv nv' ov ∧ PIn s placed pb w' sv nv' ov (st.add n) := by
 obtain ⟨i0, hi, hz0, hz1, hz2⟩ := info_parts Tryz.infoNode
 have HI : Hid _ := hi
 have HZ0 : Hid _ := hz0
 have HZ1 : Hid _ := hz1
 have HZ2 : Hid _ := hz2
 clear hi hz0 hz1 hz2
 obtain ⟨fr, hf1, hf2, hf3⟩ := h.y
 have hpb := blk_lt hf3
 have y6 : w.cell? ⟨pb, 6, none⟩ = some nv := by rw [blk_cell hf3]; rfl
 obtain ⟨B, hB⟩ : ∃ B : Obj, B = .cells #[.int .i64 n.form, .int .i64 n.at_, .int .i64 n.beh, .int .i64 n.num, .string (bs n.word), .int .i64 n.region, .int .i64 n.source, .int .i64 n.p0, .int .i64 n.p1, .int .i64 n.p2] 160 := ⟨_, rfl⟩
 have hW : Below w.heap.size w ((w.alloc B).alloc B).drew := (((Below.refl _ w).alloc (Nat.le_refl _) B).alloc (by simp) B).trans ⟨rfl, rfl, rfl, Nat.le_refl _, fun _ _ => rfl⟩
 have HW : Hid _ := hW
 have HOWN : Hid (((w.alloc B).alloc B).drew.ownsRow 0 160 10 nv st.nodes.length (st.nodes.flatMap nrL)) := owns_below h.nd hW
 have HC1 : Hid (∀ (j : Nat) (u : Value), (nrL n)[j]? = some u → ((w.alloc B).alloc B).drew.cell? ((⟨w.heap.size + 1, 0, none⟩ : Addr).add j) = some u) := by
  intro j u hj
  have hq := alloc_cell_at (w.alloc B) (nrL n) 160 j
  have e : (w.alloc B).heap.size = w.heap.size + 1 := by simp
  rw [e] at hq
  rw [← hj, ← hq, hB]; rfl
 have HYW : Hid (((w.alloc B).alloc B).drew.heap[pb]? = some (.cells (psCells s placed fr st.fl.isSome (st.fl.getD 0) sv nv ov) 150 (0, 0))) := by
  show ((w.alloc B).alloc B).drew.heap[pb]? = _
  rw [hW.block pb hpb]; exact hf3
 have HH : Hid _ := h
 have HNY : Hid _ := h.ny
 clear hf1 hf2 hf3 h hW
 show Calls _ _ #[Value.pointer (some ⟨pb, 0, none⟩), Value.agg _] w _
 go_enter Tryz.func179, Tryz.ntmps179
 subst hB
 go_wp2
 go_region_law (refine step_own rfl (.tmp 10) (.tmp 12) 57 rfl 160 i0 _ 10 88 Tryz.undNodes HI.out HZ0.out HZ1.out HZ2.out rfl (by decide) nv st.nodes.length (st.nodes.flatMap nrL) (by simp [Act.eval]) HOWN.out ⟨w.heap.size + 1, 0, none⟩ 1 1 (nrL n) (by simp [Act.eval]) rfl HC1.out (nr_one n) (by decide) (by unfold maxLen; omega) (by omega) ?_; intro g cap w' hown hgrow hor; have hpb' := grown_blk hgrow HYW.out HNY.out; have c6 : w'.cell? ⟨pb, 6, none⟩ = some nv := (by rw [blk_cell hpb']; rfl); have f6 := blk_free hpb' 6)
 all_goals
  have hadd := PIn.addN HH.out n HW.out hgrow hown hor
  have HADD : Hid _ := hadd
  clear hadd hown hgrow hor
  go_wp2
  go_ret
  exact ⟨ret_int (by omega), _, HADD.out⟩
theorem owns_less {w : World} {base : Nat} {e : TypeId} {size g n cap : Nat} {xs : List Value} (h : w.ownsRow base e size (.slice (some ⟨g, 0, none⟩) n cap) n xs) (m : Nat) (hm : m ≤ n) : w.ownsRow base e size (.slice (some ⟨g, 0, none⟩) m cap) m (xs.take (m * size)) := by
 obtain ⟨h1, h2⟩ := h
 have hms : m * size ≤ n * size := Nat.mul_le_mul_right _ hm
 rcases h2 with ⟨h2, _⟩ | ⟨g', cap', cur, hv, hg, hh, hn, hcm, hcs, htake⟩
 ·cases h2
 ·simp only [Value.slice.injEq, Option.some.injEq, Addr.mk.injEq] at hv
  obtain ⟨⟨e1, _⟩, _, e2⟩ := hv
  subst e1
  subst e2
  refine ⟨by rw [List.length_take, h1]; omega, Or.inr ⟨g, cap, cur, rfl, hg, hh, by omega, hcm, hcs, ?_⟩⟩
  rw [← htake, List.take_take, Nat.min_eq_left hms]
theorem flat_drop (l : List (List UInt8 × Int)) : (l.flatMap scL).take ((l.length - 1) * 2) = l.dropLast.flatMap scL := by
 rcases List.eq_nil_or_concat l with rfl | ⟨r, x, rfl⟩
 ·rfl
 ·rw [List.concat_eq_append, List.dropLast_concat, List.flatMap_append, List.length_append, List.length_singleton, Nat.add_sub_cancel]
  have hlen : (r.flatMap scL).length = r.length * 2 := by
   induction r with
   | nil => rfl
   | cons a r ih => simp [scL, ih]; omega
  rw [← hlen, List.take_left]
theorem ps_same (st : PS) (h : st.scope.dropLast = st.scope) : { st with scope := st.scope.dropLast } = st := by rw [h]
theorem PIn.dropS {s : ByteArray} {placed : Bool} {pb : Nat} {w : World} {nv ov : Value} {st : PS} {g n cap : Nat} (h : PIn s placed pb w (.slice (some ⟨g, 0, none⟩) n cap) nv ov st) (hgp : g ≠ pb)
  (ho : w.ownsRow 0 264 2 (.slice (some ⟨g, 0, none⟩) (n - 1) cap) (n - 1) (st.scope.dropLast.flatMap scL)) (hn : n = st.scope.length) :
  PFr pb pb w (w.setCell ⟨pb, 5, none⟩ (.slice (some ⟨g, 0, none⟩) (n - 1) cap)).drew (.slice (some ⟨g, 0, none⟩) n cap) nv ov (.slice (some ⟨g, 0, none⟩) (n - 1) cap) nv ov ∧
  PIn s placed pb (w.setCell ⟨pb, 5, none⟩ (.slice (some ⟨g, 0, none⟩) (n - 1) cap)).drew (.slice (some ⟨g, 0, none⟩) (n - 1) cap) nv ov { st with scope := st.scope.dropLast } := by
 obtain ⟨fr, y1, y2, y3⟩ := h.y
 have kp : ∀ k, k ≠ pb → (w.setCell ⟨pb, 5, none⟩ (.slice (some ⟨g, 0, none⟩) (n - 1) cap)).drew.heap[k]? = w.heap[k]? := fun k hk => blk_other _ _ (by simpa using hk)
 refine ⟨⟨rfl, rfl, rfl, by show _ ≤ (w.setCell _ _).heap.size; simp only [World.setCell, Array.size_modify]; omega, fun k _ hp _ _ _ _ => kp k hp, fun _ h => Or.inl h, fun _ h => Or.inl h, fun _ h => Or.inl h⟩, ?_⟩
 refine ⟨⟨fr, y1, y2, blk_set y3 5 _⟩, ?_, owns_blk h.nd (fun k hk => kp k (fun e => h.ny (by rw [hk, e]))), owns_blk h.op (fun k hk => kp k (fun e => h.oy (by rw [hk, e]))), by simp only [Value.ownBlock, ne_eq, Option.some.injEq]; exact hgp, h.ny, h.oy, fun k hk => h.sn k hk, fun k hk => h.so k hk, h.no⟩
 have := owns_blk (w' := (w.setCell ⟨pb, 5, none⟩ (.slice (some ⟨g, 0, none⟩) (n - 1) cap)).drew) ho (fun k hk => kp k (by simp only [Value.ownBlock, Option.some.injEq] at hk; omega))
 simp only [List.length_dropLast, ← hn]
 exact this
set_option maxRecDepth 100000 in
set_option maxHeartbeats 4000000 in
theorem unbind_any (s : ByteArray) (placed : Bool) (pb : Nat) (w : World) (sv nv ov : Value) (st : PS) (hl : st.scope.length ≤ 9000) (h : PIn s placed pb w sv nv ov st) :
  Calls Tryz.prog 207 #[ptr pb] w fun v w' => v = .returned (.tuple #[]) ∧ ∃ sv', PFr pb pb w w' sv nv ov sv' nv ov ∧ PIn s placed pb w' sv' nv ov { st with scope := st.scope.dropLast } := by
 obtain ⟨fr, hf1, hf2, hf3⟩ := h.y
 have hpb := blk_lt hf3
 have y5 : w.cell? ⟨pb, 5, none⟩ = some sv := by rw [blk_cell hf3]; rfl
 have f5 : w.frozen? ⟨pb, 5, none⟩ = false := blk_free hf3 5
 obtain ⟨n, hn⟩ : ∃ n, n = st.scope.length := ⟨_, rfl⟩
 have hsc := h.sc
 rw [← hn] at hsc hl
 show Calls _ _ #[Value.pointer (some ⟨pb, 0, none⟩)] w _
 by_cases h0 : n = 0
 ·have hnil : st.scope = [] := List.length_eq_zero_iff.1 (by omega)
  have hst := ps_same st (by rw [hnil]; rfl)
  rw [hst]
  obtain ⟨ao, cap, rfl⟩ : ∃ ao cap, sv = .slice ao n cap := by
   rcases hsc.2 with ⟨h1, h2⟩ | ⟨g, cap, cur, h1, _⟩
   ·exact ⟨none, 0, by rw [h1, h0]⟩
   ·exact ⟨_, _, h1⟩
  have HH : Hid _ := h
  clear h hsc hf3 hst hnil hn
  go_enter Tryz.func207, Tryz.ntmps207
  go_wp2
  refine bodyPost_end (v := .tuple #[]) (by simp [results, Tryz.results207, go_sem]) rfl ⟨rfl, _, PFr.refl _ _ _ _ _ _, HH.out⟩
 ·obtain ⟨g, cap, rfl⟩ : ∃ g cap, sv = .slice (some ⟨g, 0, none⟩) n cap := by
   rcases hsc.2 with ⟨h1, h2⟩ | ⟨g, cap, cur, h1, _⟩
   ·omega
   ·exact ⟨_, _, h1⟩
  have hcap : n ≤ cap := by
   rcases hsc.2 with ⟨h1, h2⟩ | ⟨g', cap', cur, h1, _, _, h3, _⟩
   ·omega
   ·simp only [Value.slice.injEq] at h1; omega
  have hcapm : cap ≤ maxLen := by
   rcases hsc.2 with ⟨h1, h2⟩ | ⟨g', cap', cur, h1, _, _, _, h3, _⟩
   ·omega
   ·simp only [Value.slice.injEq] at h1; omega
  unfold maxLen at hcapm
  have hgp : g ≠ pb := fun e => h.sy (by rw [e]; rfl)
  have HO : Hid (w.ownsRow 0 264 2 (.slice (some ⟨g, 0, none⟩) (n - 1) cap) (n - 1) (st.scope.dropLast.flatMap scL)) := by
   have := owns_less hsc (n - 1) (by omega)
   rw [hn, flat_drop] at this
   rw [hn]; exact this
  have HH : Hid _ := h
  have HF3 : Hid _ := hf3
  have HN : Hid _ := hn
  clear h hsc hf3 hf1 hf2 hn
  go_enter Tryz.func207, Tryz.ntmps207
  go_wp2
  go_region
  all_goals
   go_wp2
   have hd := PIn.dropS HH.out hgp HO.out HN.out
   have HD : Hid _ := hd
   refine bodyPost_end (v := .tuple #[]) (by simp [results, Tryz.results207, go_sem]) rfl ⟨rfl, (.slice (some ⟨g, 0, none⟩) (n - 1) cap), ?_⟩
   exact HD.out
def Bd0 (st : PS) : Prop := st.scope.length + st.l.length ≤ 9000 ∧ st.nodes.length + st.l.length ≤ 9000 ∧ st.opened.length + 4 * st.l.length ≤ 50000
def Bd1 (st : PS) : Prop := st.scope.length + st.l.length ≤ 8999 ∧ st.nodes.length + st.l.length ≤ 8999 ∧ st.opened.length + 4 * st.l.length ≤ 49997
theorem Bd1.to {a b : PS} {j : Nat} (h : Bd1 a) (g : Gs a b j 0) (hj : j ≤ 3) : Bd0 b := by
 obtain ⟨h1, h2, h3⟩ := h
 exact ⟨by rw [g.sc]; have := g.l; omega, by have := g.nd; omega, by have := g.op; omega⟩
theorem Bd1.on {a b : PS} (h : Bd1 a) (g : Gs a b 0 0) : Bd1 b := by
 obtain ⟨h1, h2, h3⟩ := h
 exact ⟨by rw [g.sc]; have := g.l; omega, by have := g.nd; omega, by have := g.op; omega⟩
def EOk (s : ByteArray) (placed : Bool) (pb : Nat) (pE : PS → Int × PS) (m : Nat) : Prop :=
 ∀ (w : World) (sv nv ov : Value) (st : PS), PIn s placed pb w sv nv ov st → st.l.length ≤ m → Bd0 st → Calls Tryz.prog 123 #[ptr pb] w fun v w' => v = .returned (.int .i64 (pE st).1) ∧
  ∃ sv' nv' ov', PFr pb pb w w' sv nv ov sv' nv' ov' ∧ PIn s placed pb w' sv' nv' ov' (pE st).2
set_option maxRecDepth 100000 in
set_option maxHeartbeats 4000000 in
theorem body_any (s : ByteArray) (placed : Bool) (pb : Nat) (pE : PS → Int × PS) (m : Nat) (hE : EOk s placed pb pE m) (hG : GrAll pE m) (w : World) (sv nv ov : Value) (st : PS) (u : List UInt8) (src : Int) (hm : st.l.length ≤ m)
  (hl : st.scope.length + st.l.length ≤ 8999) (hb : Bd0 st) (h : PIn s placed pb w sv nv ov st) :
  Calls Tryz.prog 206 #[ptr pb, .string (bs u), .int .i64 src] w fun v w' => v = .returned (.int .i64 (pBody pE u src st).1) ∧ ∃ sv' nv' ov', PFr pb pb w w' sv nv ov sv' nv' ov' ∧ PIn s placed pb w' sv' nv' ov' (pBody pE u src st).2 := by
 obtain ⟨i0, hi, hz0, hz1, hz2⟩ := info_parts Tryz.infoBind
 have HI : Hid _ := hi
 have HZ0 : Hid _ := hz0
 have HZ1 : Hid _ := hz1
 have HZ2 : Hid _ := hz2
 clear hi hz0 hz1 hz2
 obtain ⟨fr, hf1, hf2, hf3⟩ := h.y
 have hpb := blk_lt hf3
 have y5 : w.cell? ⟨pb, 5, none⟩ = some sv := by rw [blk_cell hf3]; rfl
 have hEx := fun w sv nv ov h => hE w sv nv ov { st with scope := st.scope ++ [(u, src)] } h hm ⟨by simp; omega, hb.2.1, hb.2.2⟩
 have hgr := hG { st with scope := st.scope ++ [(u, src)] } hm
 have hun := fun w sv nv ov h => unbind_any s placed pb w sv nv ov (pE { st with scope := st.scope ++ [(u, src)] }).2 (by rw [hgr.sc]; simp; omega) h
 unfold ptr at hEx hun
 have HEX : Hid _ := hEx
 have HUN : Hid _ := hun
 have HPB : Hid (pBody pE u src st = ((pE { st with scope := st.scope ++ [(u, src)] }).1, { (pE { st with scope := st.scope ++ [(u, src)] }).2 with scope := (pE { st with scope := st.scope ++ [(u, src)] }).2.scope.dropLast })) := rfl
 have HH : Hid _ := h
 have HF3 : Hid _ := hf3
 have hW : Below w.heap.size w (w.alloc (.cells #[.string (bs u), .int .i64 src] 264)) := (Below.refl _ w).alloc (Nat.le_refl _) _
 have HW : Hid _ := hW
 have HOWN : Hid ((w.alloc (.cells #[.string (bs u), .int .i64 src] 264)).ownsRow 0 264 2 sv st.scope.length (st.scope.flatMap scL)) := owns_below h.sc hW
 have HYW : Hid ((w.alloc (.cells #[.string (bs u), .int .i64 src] 264)).heap[pb]? = some (.cells (psCells s placed fr st.fl.isSome (st.fl.getD 0) sv nv ov) 150 (0, 0))) := blk_alloc _ hf3
 clear hf1 hf2 hf3 h hW hEx hun hgr hE hG
 show Calls _ _ #[Value.pointer (some ⟨pb, 0, none⟩), _, _] w _
 go_enter Tryz.func206, Tryz.ntmps206
 go_wp2_with (at_builtin; go_must (refine app_own _ rfl (.tmp 12) (.tmp 16) 148 rfl 264 i0 _ 2 24 Tryz.undBinds HI.out HZ0.out HZ1.out HZ2.out rfl (by decide) sv st.scope.length (st.scope.flatMap scL) rfl HOWN.out ⟨w.heap.size, 0, none⟩ 1 1 (scL (u, src)) rfl rfl ?c1 ?c2 (by decide) ?c3 ?c4 ?_))
 case c1 =>
  intro j v hj
  rw [← hj]
  first | rfl | exact alloc_cell_at _ _ _ _
 case c2 => intro v hv; simp only [scL, List.mem_cons, List.not_mem_nil, or_false] at hv; rcases hv with rfl | rfl <;> rfl
 case c3 => unfold maxLen; omega
 case c4 => omega
 intro g cap w' hown hgrow hor
 have hpb' := grown_blk hgrow HYW.out HH.out.sy
 have c5 : w'.cell? ⟨pb, 5, none⟩ = some sv := by rw [blk_cell hpb']; rfl
 have f5 := blk_free hpb' 5
 have hadd := PIn.addS HH.out (u, src) HW.out hgrow hown (by rw [show (w.alloc (.cells #[.string (bs u), .int .i64 src] 264)).heap.size = w.heap.size + 1 from by simp]; exact hor)
 have hE1 := HEX.out _ _ _ _ hadd.2
 have HADD : Hid _ := hadd.1
 clear hown hgrow hor hpb' hadd
 go_wp2_with fail
 refine hE1.mono ?_
 rintro _ w2 ⟨rfl, sv2, nv2, ov2, hfr2, hin2⟩
 have hU := HUN.out _ _ _ _ hin2
 have HF2 : Hid _ := HADD.out.trans hfr2
 clear hfr2 hin2 hE1
 go_wp2_with fail
 refine hU.mono ?_
 rintro _ w3 ⟨rfl, sv3, hfr3, hin3⟩
 have HR : Hid _ := HF2.out.trans hfr3
 have HI3 : Hid _ := hin3
 clear hfr3 hin3 hU
 go_wp2
 go_ret
 exact ⟨rfl, _, _, _, HR.out, HI3.out⟩
theorem Tryz.infoIntL : (Tryz.prog.info? 3).map (fun i => (i.zero, i.size, i.bytes)) = some (some (.int .i64 0), 1, 8) := by kernel_rfl
theorem Tryz.undIntsL : Tryz.prog.underlying 42 = some (.slice 3) := by kernel_rfl
theorem wrap_smallL (n : Int) (h : -1000000 ≤ n ∧ n ≤ 1000000) : IntKind.i64.wrap n = n := by
 have e : IntKind.i64.wrap n = (n + 9223372036854775808) % 18446744073709551616 - 9223372036854775808 := by simp [IntKind.wrap, IntKind.bits, IntKind.signed]; omega
 rw [e]; omega
theorem grown_new {w W w' : World} {row : Option Nat} {pb : Nat} {X : Obj} (hp : w.heap[pb]? = some X) (hl : pb < w.heap.size) (hne : row ≠ some pb) (hg : W.grownBy w' row) (hW : Below w.heap.size w W) : w'.heap[pb]? = some X := grown_blk hg (by rw [hW.block pb hl]; exact hp) hne
theorem below_adL (W : World) (B : Obj) : Below W.heap.size W (W.alloc B).drew := ((Below.refl _ W).alloc (Nat.le_refl _) B).trans ⟨rfl, rfl, rfl, Nat.le_refl _, fun _ _ => rfl⟩
theorem modify_set {α : Type} {l : List α} {i : Nat} {a : α} {f : α → α} (h : l[i]? = some a) : l.modify i f = l.set i (f a) := by
 apply List.ext_getElem?
 intro j
 rw [List.getElem?_modify]
 by_cases e : i = j
 ·subst e
  rw [List.getElem?_set_self (List.getElem?_eq_some_iff.1 h).1, h]; simp
 ·rw [List.getElem?_set_ne e]; simp [e]
theorem POk.opened {fuel n : Nat} {st : RS} (h : POk fuel (1 + n) st) (rg : Int) : POk fuel n (st.opened rg) := by
 have h3 := h.t
 have h4 := h.o
 have : n * (fuel - st.steps + 1) ≤ (1 + n) * (fuel - st.steps + 1) := Nat.mul_le_mul_right _ (by omega)
 refine ⟨h.f, h.s, h.c, h.w, ?_, ?_, opened_cb rg h.b⟩
 ·simp only [RS.opened, List.length_append, List.length_singleton]; omega
 ·simp only [RS.opened]; omega
theorem PlIn.popO {w0 w : World} {pb : Nat} {wv tv : Value} {obs : List Nat} {fuel : Nat} {st : RS} {g cap i : Nat} {l : List Nat} (h : PlIn w0 w pb (.slice (some ⟨g, 0, none⟩) (l.length + 1) cap) wv tv obs fuel st) (hl : st.opn = l ++ [i]) :
  PlIn w0 (w.setCell ⟨pb, 0, none⟩ (.slice (some ⟨g, 0, none⟩) l.length cap)) pb (.slice (some ⟨g, 0, none⟩) l.length cap) wv tv obs fuel { st with opn := l } := by
 have ho : w.ownsRow w0.heap.size 130 1 (.slice (some ⟨g, 0, none⟩) l.length cap) l.length (opPtrs obs l) := by
  have h1 := h.o
  rw [hl, opPtrs_snoc, List.length_append, List.length_singleton] at h1
  have h2 := owns_less h1 l.length (by omega)
  rw [Nat.mul_one, List.take_left' (by simp [opPtrs])] at h2
  exact h2
 refine ⟨h.b0.setCell (p := ⟨pb, 0, none⟩) h.hpb _, h.hpb, (blk_set h.y 0 _).trans rfl, row_set h.y ho (by decide), row_set h.y h.wh (by decide), row_set h.y h.t (by decide), fun k hk => h.ow k hk, h.len, ?_, h.nd, ⟨fun j hj => h.il.1 j (by rw [hl]; simp [hj]), h.il.2⟩⟩
 intro j b o e1 e2
 have := h.ob j b o e1 e2
 exact ⟨this.1, blk_set_other h.y this.2 (by decide)⟩
set_option maxRecDepth 100000 in
set_option maxHeartbeats 4000000 in
theorem scope_any {w0 : World} (pb fuel : Nat) (p : Nat) (nm rg : List UInt8) (a : PT) (G : TEnv) (hfa : a.wf) (ih : PWork w0 pb fuel a G)
  (id site b : Nat) (F : Nat → Prop) (env : REnv) (hp : Option Addr) (st : RS) (ov wv tv : Value) (obs : List Nat) (w : World) (hT : IsT w0 F (.node p .new nm rg [a]) id site b) (hP : PlIn w0 w pb ov wv tv obs fuel st) (hH : isH w obs env hp) (henv : REnvHas env G) (hok : POk fuel (1 + a.cnt) st) (he : st.e = 0) :
  Calls Tryz.prog 73 #[ptr pb, ptr b, .pointer hp] w (POut w0 pb fuel w obs (rNew fuel (valueL rg) [a] env st)) := by
 obtain ⟨i0, hi, hz0, hz1, hz2⟩ := info_parts Tryz.infoOpP
 have HI0 : Hid _ := hi
 have HZ0 : Hid _ := hz0
 have HZ1 : Hid _ := hz1
 have HZ2 : Hid _ := hz2
 clear hi hz0 hz1 hz2
 obtain ⟨gk, vc, bx, id1, site1, hka, hT1⟩ := kat1 hT
 have hne : b ≠ pb := by have := hP.hpb; have := hka.hb; omega
 have hgy : gk ≠ pb := by have := hP.hpb; have := hka.hg; omega
 have hN := isT_n hT
 have hnl : st.opn.length ≤ 9000 := by have := hok.o; omega
 have x3 : w.cell? ⟨b, 3, none⟩ = some (.int .i64 (valueL rg)) := (hP.b0.cell (p := ⟨b, 3, none⟩) hka.hb).trans hN
 have hbw : b < w.heap.size := by have := hP.b0.size; have := hka.hb; omega
 have hpl := blk_lt hP.y
 obtain ⟨oa, oc, hov⟩ := rsl hP.o
 have hp1 := hP.newOp (valueL rg)
 have HP1 : Hid _ := hp1
 obtain ⟨W, hW⟩ : ∃ W, W = w.alloc (.cells (roCells ⟨valueL rg, 0, false⟩) 197) := ⟨_, rfl⟩
 have hWs : W.heap.size = w.heap.size + 1 := by rw [hW]; simp
 rw [← hW] at hp1
 have Y0 : W.cell? ⟨pb, 0, none⟩ = some (.slice oa st.opn.length oc) := by rw [blk_cell hp1.y, ← hov]; rfl
 have hplW := blk_lt hp1.y
 have hown : W.ownsRow 0 130 1 (.slice oa st.opn.length oc) st.opn.length (opPtrs (obs ++ [w.heap.size]) st.opn) := by
  have := owns_base (base' := 0) hp1.o (fun _ _ => Nat.zero_le _)
  rw [hov] at this; exact this
 have hown2 := hown.alloc (.cells #[.pointer (some ⟨w.heap.size, 0, none⟩)] 130)
 have HOWN : Hid _ := hown2
 have HC2 : Hid (∀ u ∈ ([.pointer (some ⟨w.heap.size, 0, none⟩)] : List Value), u.oneCell' = true) := by intro v hv; simp only [List.mem_singleton] at hv; subst hv; rfl
 have HW : Hid _ := hW
 have HOV : Hid _ := hov
 have HH : Hid _ := hH
 have HT1 : Hid _ := hT1
 have HK : Hid _ := hka
 have HEN : Hid _ := henv
 have HOK : Hid _ := hok
 have HE : Hid _ := he
 have HP : Hid _ := hP
 clear hp1 hown hown2 hT hP hH henv hok he hT1 hka hN hov
 obtain ⟨R, hR⟩ : ∃ R, R = rNew fuel (valueL rg) [a] env st := ⟨_, rfl⟩
 rw [← hR]
 have HR : Hid _ := hR
 clear hR
 show Calls _ _ #[Value.pointer (some ⟨pb, 0, none⟩), Value.pointer (some ⟨b, 0, none⟩), _] w _
 go_enter Tryz.func73, Tryz.ntmps73
 go_upto_region 2 with fail
 have hW' : W = w.alloc (.cells #[.int .i64 (valueL rg), .int .i64 0, .bool false] 197) := HW.out
 rw [← hW']
 have HWS : Hid _ := hWs
 clear hW' hWs hW
 go_wp2_with (at_builtin; go_must (refine app_own _ rfl (.tmp 25) (.tmp 27) 86 rfl 130 i0 _ 1 8 Tryz.undOps HI0.out HZ0.out HZ1.out HZ2.out rfl (by decide) (.slice oa st.opn.length oc) st.opn.length (opPtrs (obs ++ [w.heap.size]) st.opn) rfl HOWN.out ⟨W.heap.size, 0, none⟩ 1 1 [.pointer (some ⟨w.heap.size, 0, none⟩)] rfl rfl ?c1 HC2.out (by decide) ?c3 ?c4 ?_))
 case c1 => intro j v hj; rw [← hj]; exact alloc_cell_at W [.pointer (some ⟨w.heap.size, 0, none⟩)] 130 j
 case c3 => unfold maxLen; omega
 case c4 => omega
 intro g cap w3 hown3 hgrow hor
 have hHP := HP1.out
 rw [← HW.out] at hHP
 have hpw := PlIn.pushO (g := g) (cap := cap) (w3 := w3) (A := .cells #[.pointer (some ⟨w.heap.size, 0, none⟩)] 130) hHP st.ops.length (by simp) (by rw [HOV.out]; exact hgrow) (by
  have e : (obs ++ [w.heap.size]).getD st.ops.length 0 = w.heap.size := by rw [← HP.out.len]; simp [List.getD_eq_getElem?_getD]
  rw [e]; exact hown3) (by rw [HOV.out]; rcases hor with h | h; exact Or.inl h; exact Or.inr (by simpa using h))
 have hy3 : w3.heap[pb]? = some (.cells (plCells (.slice oa st.opn.length oc) wv tv fuel st) 88 (0, 0)) := by
  have h1 := grow_other (A := .cells #[.pointer (some ⟨w.heap.size, 0, none⟩)] 130) hHP.o (by rw [HOV.out]; exact hgrow) hHP.y (by decide)
  rw [HOV.out] at h1; exact h1
 have c1 : w3.cell? ⟨pb, 0, none⟩ = some (.slice oa st.opn.length oc) := by rw [blk_cell hy3]; rfl
 have zf := blk_free hy3 0
 have zl := blk_lt hy3
 have HPW : Hid _ := hpw.1
 have HIM : Hid (Imm w (w3.setCell ⟨pb, 0, none⟩ (.slice (some ⟨g, 0, none⟩) (st.opn.length + 1) cap))) := (Imm.below ((Below.refl _ w).alloc (Nat.le_refl _) (.cells (roCells ⟨valueL rg, 0, false⟩) 197))).trans (by rw [← HW.out]; exact hpw.2)
 clear hown3 hgrow hor hHP hpw hy3 HOWN HP1
 go_upto_region 4 with fail
 obtain ⟨w4, hw4⟩ : ∃ w4, w4 = w3.setCell ⟨pb, 0, none⟩ (.slice (some ⟨g, 0, none⟩) (st.opn.length + 1) cap) := ⟨_, rfl⟩
 rw [← hw4]
 have hP4 := HPW.out
 have hI4 := HIM.out
 rw [← hw4] at hP4 hI4
 have hkw := HK.out.on hP4.b0
 have x4 := hkw.c4
 have xk0 := hkw.ck 0 bx rfl
 have xl1 := hkw.hb
 have xl2 := hkw.hg
 have hkeep := rW_keeps fuel a env (st.opened (valueL rg))
 have hcb := rW_cb fuel a env (st.opened (valueL rg)) (opened_cb _ HOK.out.b)
 have hrb := rW_rb fuel a env (st.opened (valueL rg)) hfa HE.out HOK.out.s
 have hc := ih id1 site1 bx F env hp (st.opened (valueL rg)) _ wv tv (obs ++ [w.heap.size]) w4 HT1.out hP4 (HH.out.keep hI4 (List.prefix_append _ _)) (fun _ => HEN.out) (fun _ => HOK.out.opened _)
 have hpl4 := blk_lt hP4.y
 have HI4 : Hid _ := hI4
 have hrn : rNew fuel (valueL rg) [a] env st = ((rW fuel a env (st.opened (valueL rg))).1, (rW fuel a env (st.opened (valueL rg))).2.shut st.ops.length) := by simp only [rNew]
 have hRR := HR.out.trans hrn
 clear HR
 generalize rW fuel a env (st.opened (valueL rg)) = r at *
 unfold ptr at hc
 clear hP4 hI4 hkw hw4 HPW HIM c1 zf zl hrn
 go_wp2_with fail
 refine Calls.mono hc ?_
 rintro _ w5 ⟨vb, ov5, wv5, tv5, obs5, rfl, hv5, ho5, hi5, hP5⟩
 have hop5 : r.2.opn = st.opn ++ [st.ops.length] := hkeep.opn
 obtain ⟨g5, cap5, hov5⟩ := rsg hP5.o (by rw [hop5]; simp)
 have hlen5 : r.2.opn.length = st.opn.length + 1 := by rw [hop5]; simp
 rw [hlen5] at hov5
 subst hov5
 have hob : obs5[st.ops.length]? = some w.heap.size := by
  obtain ⟨t, rfl⟩ := ho5
  rw [← HP.out.len]; simp
 have hopl : st.ops.length < r.2.ops.length := by
  rw [← hP5.len]; exact (List.getElem?_eq_some_iff.1 hob).1
 obtain ⟨b', ro, e1, _, e3, e4⟩ := hP5.at hopl
 rw [hob] at e1
 cases e1
 have hro : ro.cells ≤ 20000 := by
  have h1 := hcb.o st.ops.length ro e3
  have h2 := hrb.cells
  have h3 := hrb.steps
  have h4 := HOK.out.c
  have h5 := HOK.out.f
  have h6 : (st.opened (valueL rg)).cells = st.cells := rfl
  have h7 : (st.opened (valueL rg)).steps = st.steps := rfl
  omega
 have hcap5 : st.opn.length + 1 ≤ cap5 := by
  have h := hP5.o.2
  rw [hlen5] at h
  rcases h with ⟨h, _⟩ | ⟨g, cap, cur, h, _, _, h3, _⟩
  ·cases h
  ·simp only [Value.slice.injEq] at h; omega
 have Y0' : w5.cell? ⟨pb, 0, none⟩ = some (.slice (some ⟨g5, 0, none⟩) (st.opn.length + 1) cap5) := by rw [blk_cell hP5.y]; rfl
 have F0 := blk_free hP5.y 0
 have hpl5 := blk_lt hP5.y
 have hp6 := hP5.popO hop5
 have e46 := (hp6.ob st.ops.length w.heap.size ro hob e3).2
 have C2 : (w5.setCell ⟨pb, 0, none⟩ (.slice (some ⟨g5, 0, none⟩) st.opn.length cap5)).cell? ⟨w.heap.size, 2, none⟩ = some (.bool ro.ended) := by rw [blk_cell e46]; rfl
 have F2 := blk_free e46 2
 have L2 := blk_lt e46
 have hp7 := hp6.setOp (st' := { { r.2 with opn := st.opn } with ops := r.2.ops.set st.ops.length { ro with ended := true } }) st.ops.length w.heap.size ro { ro with ended := true } hob e3 2 (.bool true) rfl rfl rfl rfl rfl rfl
 have hshut : r.2.shut st.ops.length = { { { r.2 with opn := st.opn } with ops := r.2.ops.set st.ops.length { ro with ended := true } } with tide := r.2.tide ++ [-(ro.cells : Int)] } := by
  simp only [RS.shut]
  rw [hop5, List.dropLast_concat, modify_set e3, e3]; rfl
 rw [hshut] at hRR
 have HRR : Hid _ := hRR
 have HP7 : Hid _ := hp7
 have HI7 : Hid (Imm w ((w5.setCell ⟨pb, 0, none⟩ (.slice (some ⟨g5, 0, none⟩) st.opn.length cap5)).setCell ⟨w.heap.size, 2, none⟩ (.bool true))) := (HI4.out.trans hi5).trans ((Imm.set hP5.y (by decide) (by decide)).trans (Imm.set e46 (by decide) (by decide)))
 have HV5 : Hid (isV ((w5.setCell ⟨pb, 0, none⟩ (.slice (some ⟨g5, 0, none⟩) st.opn.length cap5)).setCell ⟨w.heap.size, 2, none⟩ (.bool true)) obs5 r.1 vb) := hv5.keep ((Imm.set hP5.y (by decide) (by decide)).trans (Imm.set e46 (by decide) (by decide))) (List.prefix_refl _)
 have HO5 : Hid _ := List.IsPrefix.trans (List.prefix_append obs [w.heap.size]) ho5
 have HOB : Hid _ := hob
 have hs7 : (r.2.ops.set st.ops.length { ro with ended := true })[st.ops.length]? = some { ro with ended := true } := List.getElem?_set_self hopl
 have HS7 : Hid _ := hs7
 have htl : r.2.tide.length ≤ 400000000 := by
  have h1 := hrb.tide
  have h2 := HOK.out.t
  have h3 := hrb.steps
  have h4 : (st.opened (valueL rg)).tide = st.tide := rfl
  have h5 : (st.opened (valueL rg)).steps = st.steps := rfl
  rw [h4, h5] at h1
  have h6 : e01 r.2.e ≤ 1 := by unfold e01; split <;> omega
  have h7 : a.cnt * (r.2.steps - st.steps + e01 r.2.e) ≤ (1 + a.cnt) * (fuel - st.steps + 1) := Nat.le_trans (Nat.mul_le_mul_right _ (show a.cnt ≤ 1 + a.cnt by omega)) (mul_le_of (by omega))
  omega
 clear hRR hp6 hp7 hv5 ho5 hi5 hP5 e46 e3 e4 hob hc hshut hkeep hcb hrb hs7 HI4
 go_upto_region 7 with fail
 obtain ⟨w7, hw7⟩ : ∃ w7, w7 = (w5.setCell ⟨pb, 0, none⟩ (.slice (some ⟨g5, 0, none⟩) st.opn.length cap5)).setCell ⟨w.heap.size, 2, none⟩ (.bool true) := ⟨_, rfl⟩
 rw [← hw7]
 have hp7 := HP7.out
 have hI7 := HI7.out
 have hV7 := HV5.out
 rw [← hw7] at hp7 hI7 hV7
 have HV7 : Hid _ := hV7
 obtain ⟨i1, hi, hz0, hz1, hz2⟩ := info_parts Tryz.infoIntL
 have HJ0 : Hid _ := hi
 have HJ1 : Hid _ := hz0
 have HJ2 : Hid _ := hz1
 have HJ3 : Hid _ := hz2
 obtain ⟨ta, tc, htv⟩ := rsl hp7.t
 have hob7 := (hp7.ob st.ops.length w.heap.size _ HOB.out HS7.out).2
 have T2 : w7.cell? ⟨pb, 2, none⟩ = some (.slice ta r.2.tide.length tc) := by rw [blk_cell hp7.y, ← htv]; rfl
 have T1 : w7.cell? ⟨w.heap.size, 1, none⟩ = some (.int .i64 ro.cells) := by rw [blk_cell hob7]; rfl
 have hpl7 := blk_lt hp7.y
 have hol7 := blk_lt hob7
 have HT : Hid (∀ W', Below w7.heap.size w7 W' ∧ W'.heap[w7.heap.size]? = some (.cells #[.int .i64 (-(ro.cells : Int))] 3 (0, 0)) → W'.ownsRow 0 3 1 (.slice ta r.2.tide.length tc) r.2.tide.length (r.2.tide.map fun k => Value.int .i64 k)) := by
  intro W' hW'
  have h1 := owns_below hp7.t hW'.1
  have h2 := owns_base (base' := 0) h1 (fun _ _ => Nat.zero_le _)
  rw [htv] at h2; exact h2
 have HC1 : Hid (∀ W', Below w7.heap.size w7 W' ∧ W'.heap[w7.heap.size]? = some (.cells #[.int .i64 (-(ro.cells : Int))] 3 (0, 0)) → ∀ (j : Nat) (u : Value), [Value.int .i64 (-(ro.cells : Int))][j]? = some u → W'.cell? ((⟨w7.heap.size, 0, none⟩ : Addr).add j) = some u) := by
  intro W' hW' j u hj
  match j, hj with
  | 0, hj =>
   simp only [List.getElem?_cons_zero, Option.some.injEq] at hj
   subst hj
   show W'.cell? ⟨w7.heap.size, 0, none⟩ = _
   rw [blk_cell hW'.2]; rfl
  | j + 1, hj => simp at hj
 have HC3 : Hid (∀ u ∈ ([Value.int .i64 (-(ro.cells : Int))] : List Value), u.oneCell' = true) := by intro v hv; simp only [List.mem_singleton] at hv; subst hv; rfl
 have HPU : Hid _ := fun (g cap : Nat) (w' : World) => hp7.pushT (w3 := w') (g := g) (cap := cap) (A := .cells #[.int .i64 (-(ro.cells : Int))] 3 (0, 0)) (-(ro.cells : Int))
 have HTV : Hid _ := htv
 have HNE : Hid ((Value.slice ta r.2.tide.length tc).ownBlock ≠ some pb) := by
  intro h
  obtain ⟨arr, hb⟩ := own_type hp7.t (show tv5.ownBlock = some pb by rw [htv]; exact h)
  rw [hp7.y] at hb
  simp only [Option.some.injEq, Obj.cells.injEq] at hb
  exact absurd hb.2.1 (by decide)
 have hwr : IntKind.i64.wrap (-(ro.cells : Int)) = -(ro.cells : Int) := wrap_smallL _ (by omega)
 have HI8 : Hid _ := hI7
 have HY7 : Hid _ := hp7.y
 have HT7 : Hid _ := hp7.t
 clear hp7 hI7 hV7 HV5 hob7 htv HP7 HI7 hi hz0 hz1 hz2 hw7
 go_wp2
 go_region_law (refine step_own rfl (.tmp 56) (.tmp 62) 42 rfl 3 i1 _ 1 8 Tryz.undIntsL HJ0.out HJ1.out HJ2.out HJ3.out rfl (by decide) (.slice ta r.2.tide.length tc) r.2.tide.length (r.2.tide.map fun k => Value.int .i64 k) (by simp [Act.eval]) (HT.out _ (held_new rfl rfl rfl rfl)) ⟨w7.heap.size, 0, none⟩ 1 1 [.int .i64 (-(ro.cells : Int))] (by simp [Act.eval]) rfl (HC1.out _ (held_new rfl rfl rfl rfl)) HC3.out (by decide) (by unfold maxLen; omega) (by omega) ?_; intro g8 cap8 w8 hown8 hgrow8 hor8; have hb8 := grown_new HY7.out hpl7 HNE.out hgrow8 (below_adL w7 _); have c28 : w8.cell? ⟨pb, 2, none⟩ = some tv5 := (blk_cell hb8 2).trans rfl; have f28 := blk_free hb8 2; have l28 := blk_lt hb8)
 all_goals
  have hpu := HPU.out g8 cap8 w8 (by rw [HTV.out]; exact ⟨hgrow8.os, hgrow8.tape, hgrow8.output, hgrow8.size, hgrow8.block⟩) hown8 (by rw [HTV.out]; exact hor8)
  have HPF : Hid _ := hpu.1
  have HIF : Hid _ := hpu.2
  clear hpu hown8 hgrow8 hor8 hb8
  go_wp2
  go_ret
  rw [HRR.out]
  exact ⟨vb, _, wv5, _, obs5, rfl, HV7.out.keep HIF.out (List.prefix_refl _), HO5.out, HI8.out.trans HIF.out, HPF.out⟩
end Go.Proofs.YtpicaknklgccoaaGreatDoor
