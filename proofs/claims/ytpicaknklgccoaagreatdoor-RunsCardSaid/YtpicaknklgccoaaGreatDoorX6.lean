import Derived.Test.YtpicaknklgccoaaGreatDoorX1
import Derived.Test.YtpicaknklgccoaaGreatDoorX5
import Derived.BigQuiet
namespace Go.Proofs.YtpicaknklgccoaaGreatDoor
open Go.RowKit
def plCells (ov wv tv : Value) (fuel : Nat) (st : RS) : Array Value := #[ov, wv, tv, .int .i64 fuel, .int .i64 st.steps, .int .i64 st.cells, .int .i64 st.e]
def roCells (o : RO) : Array Value := #[.int .i64 o.reg, .int .i64 o.cells, .bool o.ended]
def opPtrs (obs : List Nat) (l : List Nat) : List Value := l.map (fun i => ptr (obs.getD i 0))
structure PlIn (w0 w : World) (pb : Nat) (ov wv tv : Value) (obs : List Nat) (fuel : Nat) (st : RS) : Prop where
 b0 : Below w0.heap.size w0 w
 hpb : w0.heap.size ≤ pb
 y : w.heap[pb]? = some (.cells (plCells ov wv tv fuel st) 88 (0, 0))
 o : w.ownsRow w0.heap.size 130 1 ov st.opn.length (opPtrs obs st.opn)
 wh : w.ownsRow w0.heap.size 130 1 wv st.whl.length (opPtrs obs st.whl)
 t : w.ownsRow w0.heap.size 3 1 tv st.tide.length (st.tide.map fun k => Value.int .i64 k)
 ow : apart ov wv
 len : obs.length = st.ops.length
 ob : ∀ (i b : Nat) (o : RO), obs[i]? = some b → st.ops[i]? = some o → w0.heap.size ≤ b ∧ w.heap[b]? = some (.cells (roCells o) 197 (0, 0))
 nd : ∀ (i j b : Nat), obs[i]? = some b → obs[j]? = some b → i = j
 il : (∀ i ∈ st.opn, i < st.ops.length) ∧ (∀ i ∈ st.whl, i < st.ops.length)
structure Imm (w w' : World) : Prop where
 v : ∀ (k : Nat) (arr : Array Value), w.heap[k]? = some (.cells arr 132 (0, 0)) → w'.heap[k]? = some (.cells arr 132 (0, 0))
 h : ∀ (k : Nat) (arr : Array Value), w.heap[k]? = some (.cells arr 134 (0, 0)) → w'.heap[k]? = some (.cells arr 134 (0, 0))
theorem Imm.refl (w : World) : Imm w w := ⟨fun _ _ h => h, fun _ _ h => h⟩
theorem Imm.trans {a b c : World} (h : Imm a b) (h' : Imm b c) : Imm a c := ⟨fun k arr e => h'.v k arr (h.v k arr e), fun k arr e => h'.h k arr (h.h k arr e)⟩
theorem Imm.below {w w' : World} (h : Below w.heap.size w w') : Imm w w' :=
 ⟨fun k arr e => by rw [h.block k (blk_lt e)]; exact e, fun k arr e => by rw [h.block k (blk_lt e)]; exact e⟩
theorem Imm.set {w : World} {b o : Nat} {x : Value} {arr : Array Value} {T : TypeId} (hb : w.heap[b]? = some (.cells arr T (0, 0))) (h1 : T ≠ 132) (h2 : T ≠ 134) : Imm w (w.setCell ⟨b, o, none⟩ x) := by
 refine ⟨fun k a e => ?_, fun k a e => ?_⟩
 ·have hk : k ≠ b := by
   intro hkb; subst hkb
   rw [hb] at e; simp only [Option.some.injEq, Obj.cells.injEq] at e; exact h1 e.2.1
  rw [blk_other _ _ (by simpa using hk)]; exact e
 ·have hk : k ≠ b := by
   intro hkb; subst hkb
   rw [hb] at e; simp only [Option.some.injEq, Obj.cells.injEq] at e; exact h2 e.2.1
  rw [blk_other _ _ (by simpa using hk)]; exact e
theorem own_type {w : World} {base : Nat} {e : TypeId} {v : Value} {n : Nat} {xs : List Value} (h : w.ownsRow base e 1 v n xs) {k : Nat} (hk : v.ownBlock = some k) : ∃ arr : Array Value, w.heap[k]? = some (.cells arr e (0, 0)) := by
 rcases h.2 with ⟨h1, _⟩ | ⟨g, cap, cur, h1, _, hh, _⟩
 ·rw [h1] at hk; simp [Value.ownBlock] at hk
 ·rw [h1] at hk
  simp only [Value.ownBlock, Option.some.injEq] at hk
  subst hk
  exact ⟨_, hh⟩
theorem Imm.grown {w w' : World} {base : Nat} {e : TypeId} {v : Value} {n : Nat} {xs : List Value} (h : w.ownsRow base e 1 v n xs) (hg : w.grownBy w' v.ownBlock) (h1 : e ≠ 132) (h2 : e ≠ 134) : Imm w w' := by
 refine ⟨fun k a he => ?_, fun k a he => ?_⟩
 ·rw [hg.block k (blk_lt he) (fun ho => by
   obtain ⟨arr, hb⟩ := own_type h ho.symm
   rw [hb] at he; simp only [Option.some.injEq, Obj.cells.injEq] at he; exact h1 he.2.1)]; exact he
 ·rw [hg.block k (blk_lt he) (fun ho => by
   obtain ⟨arr, hb⟩ := own_type h ho.symm
   rw [hb] at he; simp only [Option.some.injEq, Obj.cells.injEq] at he; exact h2 he.2.1)]; exact he
def vCells (n : Int) (a b h : Option Addr) : Array Value := #[.int .i64 n, .pointer a, .pointer b, .pointer h]
def isV (w : World) (obs : List Nat) : RV → Nat → Prop
 | .n k, b => w.heap[b]? = some (.cells (vCells k none none none) 132 (0, 0))
 | .p x y h, b => ∃ bx bb o, w.heap[b]? = some (.cells (vCells 0 (some ⟨bx, 0, none⟩) (some ⟨bb, 0, none⟩) (some ⟨o, 0, none⟩)) 132 (0, 0)) ∧ obs[h]? = some o ∧ isV w obs x bx ∧ isV w obs y bb
theorem isV.keep {w w' : World} {obs obs' : List Nat} (hi : Imm w w') (hp : obs <+: obs') : ∀ {v : RV} {b : Nat}, isV w obs v b → isV w' obs' v b
 | .n _, _, h => by simp only [isV] at h ⊢; exact hi.v _ _ h
 | .p x y hh, b, h => by
  simp only [isV] at h ⊢
  obtain ⟨bx, bb, o, h1, h2, h3, h4⟩ := h
  exact ⟨bx, bb, o, hi.v _ _ h1, by
   obtain ⟨t, rfl⟩ := hp
   rw [List.getElem?_append_left (List.getElem?_eq_some_iff.1 h2).1]; exact h2, isV.keep hi hp h3, isV.keep hi hp h4⟩
def hCells (nm : List UInt8) (v : Nat) (more : Option Addr) : Array Value := #[.string (bs nm), .pointer (some ⟨v, 0, none⟩), .pointer more]
def isH (w : World) (obs : List Nat) : REnv → Option Addr → Prop
 | [], p => p = none
 | x :: r, p => ∃ b bv more, p = some ⟨b, 0, none⟩ ∧ w.heap[b]? = some (.cells (hCells x.1 bv more) 134 (0, 0)) ∧ isV w obs x.2 bv ∧ isH w obs r more
theorem isH.keep {w w' : World} {obs obs' : List Nat} (hi : Imm w w') (hp : obs <+: obs') : ∀ {env : REnv} {p : Option Addr}, isH w obs env p → isH w' obs' env p
 | [], _, h => h
 | x :: r, p, h => by
  simp only [isH] at h ⊢
  obtain ⟨b, bv, more, h1, h2, h3, h4⟩ := h
  exact ⟨b, bv, more, h1, hi.h _ _ h2, h3.keep hi hp, isH.keep hi hp h4⟩
theorem PlIn.grow {w0 w w' : World} {pb : Nat} {ov wv tv : Value} {obs : List Nat} {fuel : Nat} {st : RS} (h : PlIn w0 w pb ov wv tv obs fuel st) (hb : Below w.heap.size w w') : PlIn w0 w' pb ov wv tv obs fuel st :=
 ⟨h.b0.trans (hb.mono h.b0.size), h.hpb, by rw [hb.block pb (blk_lt h.y)]; exact h.y, owns_below h.o hb, owns_below h.wh hb, owns_below h.t hb, h.ow, h.len, fun i b o h1 h2 => by
  have := h.ob i b o h1 h2
  exact ⟨this.1, by rw [hb.block b (blk_lt this.2)]; exact this.2⟩, h.nd, h.il⟩
theorem PlIn.set {w0 w : World} {pb : Nat} {ov wv tv : Value} {obs : List Nat} {fuel : Nat} {st st' : RS} (h : PlIn w0 w pb ov wv tv obs fuel st) (o : Nat) (x : Value) (hx : (plCells ov wv tv fuel st).setIfInBounds o x = plCells ov wv tv fuel st')
  (h1 : st'.opn = st.opn) (h2 : st'.whl = st.whl) (h3 : st'.tide = st.tide) (h4 : st'.ops = st.ops) : PlIn w0 (w.setCell ⟨pb, o, none⟩ x) pb ov wv tv obs fuel st' := by
 have oth : ∀ b, b ≠ pb → (w.setCell ⟨pb, o, none⟩ x).heap[b]? = w.heap[b]? := fun b hb => blk_other _ _ (by simpa using hb)
 have row : ∀ (v : Value) (e : TypeId) (n : Nat) (xs : List Value), w.ownsRow w0.heap.size e 1 v n xs → e ≠ 88 → (w.setCell ⟨pb, o, none⟩ x).ownsRow w0.heap.size e 1 v n xs := by
  intro v e n xs hv he
  refine owns_blk hv (fun k hk => oth k (fun hkb => ?_))
  obtain ⟨arr, hb⟩ := own_type hv hk
  rw [hkb, h.y] at hb
  simp only [Option.some.injEq, Obj.cells.injEq] at hb
  exact he hb.2.1.symm
 refine ⟨h.b0.setCell (p := ⟨pb, o, none⟩) h.hpb _, h.hpb, by rw [← hx]; exact blk_set h.y o x, by rw [h1]; exact row _ _ _ _ h.o (by decide), by rw [h2]; exact row _ _ _ _ h.wh (by decide), by rw [h3]; exact row _ _ _ _ h.t (by decide), h.ow, by rw [h4]; exact h.len, ?_, h.nd, by rw [h1, h2, h4]; exact h.il⟩
 intro i b o' e1 e2
 rw [h4] at e2
 have := h.ob i b o' e1 e2
 have hbp : b ≠ pb := by
  intro hb
  have h5 := this.2
  rw [hb, h.y] at h5
  simp only [Option.some.injEq, Obj.cells.injEq] at h5
  exact absurd h5.2.1 (by decide)
 exact ⟨this.1, by rw [oth b hbp]; exact this.2⟩
theorem PlIn.setOp {w0 w : World} {pb : Nat} {ov wv tv : Value} {obs : List Nat} {fuel : Nat} {st st' : RS} (h : PlIn w0 w pb ov wv tv obs fuel st) (i b : Nat) (ro ro' : RO) (hi : obs[i]? = some b) (hr : st.ops[i]? = some ro) (o : Nat) (x : Value) (hx : (roCells ro).setIfInBounds o x = roCells ro')
  (h0 : plCells ov wv tv fuel st' = plCells ov wv tv fuel st) (h1 : st'.opn = st.opn) (h2 : st'.whl = st.whl) (h3 : st'.tide = st.tide) (h4 : st'.ops = st.ops.set i ro') : PlIn w0 (w.setCell ⟨b, o, none⟩ x) pb ov wv tv obs fuel st' := by
 have hb := h.ob i b ro hi hr
 have oth : ∀ k, k ≠ b → (w.setCell ⟨b, o, none⟩ x).heap[k]? = w.heap[k]? := fun k hk => blk_other _ _ (by simpa using hk)
 have row : ∀ (v : Value) (e : TypeId) (n : Nat) (xs : List Value), w.ownsRow w0.heap.size e 1 v n xs → e ≠ 197 → (w.setCell ⟨b, o, none⟩ x).ownsRow w0.heap.size e 1 v n xs := by
  intro v e n xs hv he
  refine owns_blk hv (fun k hk => oth k (fun hkb => ?_))
  obtain ⟨arr, hb'⟩ := own_type hv hk
  rw [hkb, hb.2] at hb'
  simp only [Option.some.injEq, Obj.cells.injEq] at hb'
  exact he hb'.2.1.symm
 have hpbne : pb ≠ b := by
  intro e
  have h5 := hb.2
  rw [← e, h.y] at h5
  simp only [Option.some.injEq, Obj.cells.injEq] at h5
  exact absurd h5.2.1 (by decide)
 refine ⟨h.b0.setCell (p := ⟨b, o, none⟩) hb.1 _, h.hpb, by rw [oth pb hpbne, h.y, h0], by rw [h1]; exact row _ _ _ _ h.o (by decide), by rw [h2]; exact row _ _ _ _ h.wh (by decide), by rw [h3]; exact row _ _ _ _ h.t (by decide), h.ow, by rw [h4, List.length_set]; exact h.len, ?_, h.nd, by rw [h1, h2, h4, List.length_set]; exact h.il⟩
 intro j b' o' e1 e2
 rw [h4] at e2
 by_cases hj : j = i
 ·subst hj
  have hbb : b' = b := by rw [hi] at e1; cases e1; rfl
  subst hbb
  have hl := (List.getElem?_eq_some_iff.1 hr).1
  rw [List.getElem?_set_self hl] at e2
  cases e2
  exact ⟨hb.1, by rw [← hx]; exact blk_set hb.2 o x⟩
 ·rw [List.getElem?_set_ne (fun e => hj e.symm)] at e2
  have := h.ob j b' o' e1 e2
  exact ⟨this.1, by rw [oth b' (fun e => hj (h.nd j i b' e1 (by rw [e]; exact hi)))]; exact this.2⟩
theorem grow_other {w w3 : World} {A : Obj} {base : Nat} {e : TypeId} {v : Value} {n : Nat} {xs : List Value} (hv : w.ownsRow base e 1 v n xs) (hg : (w.alloc A).grownBy w3 v.ownBlock) {k : Nat} {arr : Array Value} {T : TypeId} (hk : w.heap[k]? = some (.cells arr T (0, 0))) (hT : T ≠ e) : w3.heap[k]? = some (.cells arr T (0, 0)) := by
 have hl := blk_lt hk
 rw [hg.block k (by simp; omega) (fun ho => by
  obtain ⟨a, hb⟩ := own_type hv ho.symm
  rw [hb] at hk; simp only [Option.some.injEq, Obj.cells.injEq] at hk; exact hT hk.2.1.symm), Below.heap_alloc _ _ _ hl]
 exact hk
theorem row_other {w w3 : World} {A : Obj} {base : Nat} {e : TypeId} {v : Value} {n : Nat} {xs : List Value} (hv : w.ownsRow base e 1 v n xs) (hg : (w.alloc A).grownBy w3 v.ownBlock) {b2 : Nat} {e2 : TypeId} {v2 : Value} {n2 : Nat} {xs2 : List Value} (h2 : w.ownsRow b2 e2 1 v2 n2 xs2) (hne : e2 ≠ e ∨ apart v2 v) : w3.ownsRow b2 e2 1 v2 n2 xs2 := by
 refine owns_blk h2 (fun k hk => ?_)
 have hl := (h2.lt k hk).2
 rw [hg.block k (by simp; omega) (fun ho => by
  rcases hne with hne | hne
  ·obtain ⟨a, hb⟩ := own_type hv ho.symm
   obtain ⟨a2, hb2⟩ := own_type h2 hk
   rw [hb] at hb2; simp only [Option.some.injEq, Obj.cells.injEq] at hb2; exact hne hb2.2.1.symm
  ·exact hne k hk ho.symm), Below.heap_alloc _ _ _ hl]
theorem imm_grown {w w3 : World} {A : Obj} {base : Nat} {e : TypeId} {v : Value} {n : Nat} {xs : List Value} (hv : w.ownsRow base e 1 v n xs) (hg : (w.alloc A).grownBy w3 v.ownBlock) (h1 : e ≠ 132) (h2 : e ≠ 134) : Imm w w3 :=
 ⟨fun _ _ hk => grow_other hv hg hk (fun e' => h1 e'.symm), fun _ _ hk => grow_other hv hg hk (fun e' => h2 e'.symm)⟩
theorem below_grown {w0 w w3 : World} {A : Obj} {e : TypeId} {v : Value} {n : Nat} {xs : List Value} (h0 : Below w0.heap.size w0 w) (hv : w.ownsRow w0.heap.size e 1 v n xs) (hg : (w.alloc A).grownBy w3 v.ownBlock) : Below w0.heap.size w0 w3 := by
 have hs := h0.size
 have hgs := hg.size
 refine ⟨hg.os.trans h0.os, hg.tape.trans h0.tape, hg.output.trans h0.output, by simp at hgs; omega, fun k hk => ?_⟩
 rw [hg.block k (by simp; omega) (fun ho => by have := (hv.lt k ho.symm).1; omega), Below.heap_alloc _ _ _ (by omega)]
 exact h0.block k hk
theorem row_set {w : World} {pb o : Nat} {x : Value} {arr : Array Value} {T : TypeId} (hp : w.heap[pb]? = some (.cells arr T (0, 0))) {b2 : Nat} {e2 : TypeId} {v2 : Value} {n2 : Nat} {xs2 : List Value} (h2 : w.ownsRow b2 e2 1 v2 n2 xs2) (hne : e2 ≠ T) : (w.setCell ⟨pb, o, none⟩ x).ownsRow b2 e2 1 v2 n2 xs2 := by
 refine owns_blk h2 (fun k hk => blk_other _ _ ?_)
 intro e
 simp only at e
 obtain ⟨a2, hb2⟩ := own_type h2 hk
 rw [e, hp] at hb2; simp only [Option.some.injEq, Obj.cells.injEq] at hb2; exact hne hb2.2.1.symm
theorem blk_set_other {w : World} {pb o : Nat} {x : Value} {arr arr' : Array Value} {T T' : TypeId} (hp : w.heap[pb]? = some (.cells arr T (0, 0))) {k : Nat} (hk : w.heap[k]? = some (.cells arr' T' (0, 0))) (hne : T' ≠ T) : (w.setCell ⟨pb, o, none⟩ x).heap[k]? = some (.cells arr' T' (0, 0)) := by
 rw [blk_other _ _ (by
  simp only
  intro e
  rw [e, hp] at hk; simp only [Option.some.injEq, Obj.cells.injEq] at hk; exact hne hk.2.1.symm)]
 exact hk
theorem PlIn.pushT {w0 w w3 : World} {pb : Nat} {ov wv tv : Value} {obs : List Nat} {fuel : Nat} {st : RS} (h : PlIn w0 w pb ov wv tv obs fuel st) (x : Int) {g cap : Nat} {A : Obj} (hg : (w.alloc A).grownBy w3 tv.ownBlock)
  (ho : w3.ownsRow 0 3 1 (.slice (some ⟨g, 0, none⟩) (st.tide.length + 1) cap) (st.tide.length + 1) ((st.tide.map fun k => Value.int .i64 k) ++ [.int .i64 x])) (hgg : tv.ownBlock = some g ∨ (w.alloc A).heap.size ≤ g) :
  PlIn w0 (w3.setCell ⟨pb, 2, none⟩ (.slice (some ⟨g, 0, none⟩) (st.tide.length + 1) cap)) pb ov wv (.slice (some ⟨g, 0, none⟩) (st.tide.length + 1) cap) obs fuel { st with tide := st.tide ++ [x] } ∧ Imm w (w3.setCell ⟨pb, 2, none⟩ (.slice (some ⟨g, 0, none⟩) (st.tide.length + 1) cap)) := by
 have hy3 := grow_other h.t hg h.y (by decide)
 have hb3 := below_grown h.b0 h.t hg
 have hs := h.b0.size
 have hgb : w0.heap.size ≤ g := by
  rcases hgg with e | e
  ·exact (h.t.lt g e).1
  ·simp at e; omega
 refine ⟨⟨hb3.setCell (p := ⟨pb, 2, none⟩) h.hpb _, h.hpb, (blk_set hy3 2 _).trans rfl, row_set hy3 (row_other h.t hg h.o (Or.inl (by decide))) (by decide), row_set hy3 (row_other h.t hg h.wh (Or.inl (by decide))) (by decide), ?_, h.ow, h.len, ?_, h.nd, h.il⟩, (imm_grown h.t hg (by decide) (by decide)).trans (Imm.set hy3 (by decide) (by decide))⟩
 ·have e1 : (st.tide ++ [x]).length = st.tide.length + 1 := by simp
  have e2 : (st.tide ++ [x]).map (fun k => Value.int .i64 k) = (st.tide.map fun k => Value.int .i64 k) ++ [.int .i64 x] := by simp
  show World.ownsRow _ _ _ _ _ (st.tide ++ [x]).length ((st.tide ++ [x]).map fun k => Value.int .i64 k)
  rw [e1, e2]
  exact row_set hy3 (owns_base ho (fun k hk => by simp only [Value.ownBlock, Option.some.injEq] at hk; subst hk; exact hgb)) (by decide)
 ·intro i b o e1 e2
  have := h.ob i b o e1 e2
  exact ⟨this.1, blk_set_other hy3 (grow_other h.t hg this.2 (by decide)) (by decide)⟩
theorem opPtrs_snoc (obs l : List Nat) (i : Nat) : opPtrs obs (l ++ [i]) = opPtrs obs l ++ [ptr (obs.getD i 0)] := by simp [opPtrs]
theorem PlIn.pushO {w0 w w3 : World} {pb : Nat} {ov wv tv : Value} {obs : List Nat} {fuel : Nat} {st : RS} (h : PlIn w0 w pb ov wv tv obs fuel st) (i : Nat) (hi : i < st.ops.length) {g cap : Nat} {A : Obj} (hg : (w.alloc A).grownBy w3 ov.ownBlock)
  (ho : w3.ownsRow 0 130 1 (.slice (some ⟨g, 0, none⟩) (st.opn.length + 1) cap) (st.opn.length + 1) (opPtrs obs st.opn ++ [ptr (obs.getD i 0)])) (hgg : ov.ownBlock = some g ∨ (w.alloc A).heap.size ≤ g) :
  PlIn w0 (w3.setCell ⟨pb, 0, none⟩ (.slice (some ⟨g, 0, none⟩) (st.opn.length + 1) cap)) pb (.slice (some ⟨g, 0, none⟩) (st.opn.length + 1) cap) wv tv obs fuel { st with opn := st.opn ++ [i] } ∧ Imm w (w3.setCell ⟨pb, 0, none⟩ (.slice (some ⟨g, 0, none⟩) (st.opn.length + 1) cap)) := by
 have hy3 := grow_other h.o hg h.y (by decide)
 have hb3 := below_grown h.b0 h.o hg
 have hs := h.b0.size
 have hgb : w0.heap.size ≤ g := by
  rcases hgg with e | e
  ·exact (h.o.lt g e).1
  ·simp at e; omega
 refine ⟨⟨hb3.setCell (p := ⟨pb, 0, none⟩) h.hpb _, h.hpb, (blk_set hy3 0 _).trans rfl, ?_, row_set hy3 (row_other h.o hg h.wh (Or.inr h.ow.symm)) (by decide), row_set hy3 (row_other h.o hg h.t (Or.inl (by decide))) (by decide), ?_, h.len, ?_, h.nd, ?_⟩, (imm_grown h.o hg (by decide) (by decide)).trans (Imm.set hy3 (by decide) (by decide))⟩
 ·have e1 : (st.opn ++ [i]).length = st.opn.length + 1 := by simp
  show World.ownsRow _ _ _ _ _ (st.opn ++ [i]).length (opPtrs obs (st.opn ++ [i]))
  rw [e1, opPtrs_snoc]
  exact row_set hy3 (owns_base ho (fun k hk => by simp only [Value.ownBlock, Option.some.injEq] at hk; subst hk; exact hgb)) (by decide)
 ·intro k hk hk'
  simp only [Value.ownBlock, Option.some.injEq] at hk
  subst hk
  rcases hgg with e | e
  ·exact h.ow _ e hk'
  ·have := (h.wh.lt _ hk').2
   simp at e; omega
 ·intro j b o e1 e2
  have := h.ob j b o e1 e2
  exact ⟨this.1, blk_set_other hy3 (grow_other h.o hg this.2 (by decide)) (by decide)⟩
 ·refine ⟨?_, h.il.2⟩
  intro j hj
  rcases List.mem_append.1 hj with hj | hj
  ·exact h.il.1 j hj
  ·rw [List.mem_singleton] at hj; subst hj; exact hi
theorem PlIn.pushW {w0 w w3 : World} {pb : Nat} {ov wv tv : Value} {obs : List Nat} {fuel : Nat} {st : RS} (h : PlIn w0 w pb ov wv tv obs fuel st) (i : Nat) (hi : i < st.ops.length) {g cap : Nat} {A : Obj} (hg : (w.alloc A).grownBy w3 wv.ownBlock)
  (ho : w3.ownsRow 0 130 1 (.slice (some ⟨g, 0, none⟩) (st.whl.length + 1) cap) (st.whl.length + 1) (opPtrs obs st.whl ++ [ptr (obs.getD i 0)])) (hgg : wv.ownBlock = some g ∨ (w.alloc A).heap.size ≤ g) :
  PlIn w0 (w3.setCell ⟨pb, 1, none⟩ (.slice (some ⟨g, 0, none⟩) (st.whl.length + 1) cap)) pb ov (.slice (some ⟨g, 0, none⟩) (st.whl.length + 1) cap) tv obs fuel { st with whl := st.whl ++ [i] } ∧ Imm w (w3.setCell ⟨pb, 1, none⟩ (.slice (some ⟨g, 0, none⟩) (st.whl.length + 1) cap)) := by
 have hy3 := grow_other h.wh hg h.y (by decide)
 have hb3 := below_grown h.b0 h.wh hg
 have hs := h.b0.size
 have hgb : w0.heap.size ≤ g := by
  rcases hgg with e | e
  ·exact (h.wh.lt g e).1
  ·simp at e; omega
 refine ⟨⟨hb3.setCell (p := ⟨pb, 1, none⟩) h.hpb _, h.hpb, (blk_set hy3 1 _).trans rfl, row_set hy3 (row_other h.wh hg h.o (Or.inr h.ow)) (by decide), ?_, row_set hy3 (row_other h.wh hg h.t (Or.inl (by decide))) (by decide), ?_, h.len, ?_, h.nd, ?_⟩, (imm_grown h.wh hg (by decide) (by decide)).trans (Imm.set hy3 (by decide) (by decide))⟩
 ·have e1 : (st.whl ++ [i]).length = st.whl.length + 1 := by simp
  show World.ownsRow _ _ _ _ _ (st.whl ++ [i]).length (opPtrs obs (st.whl ++ [i]))
  rw [e1, opPtrs_snoc]
  exact row_set hy3 (owns_base ho (fun k hk => by simp only [Value.ownBlock, Option.some.injEq] at hk; subst hk; exact hgb)) (by decide)
 ·intro k hk hk'
  simp only [Value.ownBlock, Option.some.injEq] at hk'
  subst hk'
  rcases hgg with e | e
  ·exact h.ow _ hk e
  ·have := (h.o.lt _ hk).2
   simp at e; omega
 ·intro j b o e1 e2
  have := h.ob j b o e1 e2
  exact ⟨this.1, blk_set_other hy3 (grow_other h.wh hg this.2 (by decide)) (by decide)⟩
 ·refine ⟨h.il.1, ?_⟩
  intro j hj
  rcases List.mem_append.1 hj with hj | hj
  ·exact h.il.2 j hj
  ·rw [List.mem_singleton] at hj; subst hj; exact hi
theorem PlIn.newOp {w0 w : World} {pb : Nat} {ov wv tv : Value} {obs : List Nat} {fuel : Nat} {st : RS} (h : PlIn w0 w pb ov wv tv obs fuel st) (rg : Int) :
  PlIn w0 (w.alloc (.cells (roCells ⟨rg, 0, false⟩) 197)) pb ov wv tv (obs ++ [w.heap.size]) fuel { st with ops := st.ops ++ [⟨rg, 0, false⟩] } := by
 have hb : Below w.heap.size w (w.alloc (.cells (roCells ⟨rg, 0, false⟩) 197)) := (Below.refl _ _).alloc (Nat.le_refl _) _
 have h1 := h.grow hb
 have hlt : ∀ i b, obs[i]? = some b → b < w.heap.size := fun i b hi => by
  have hl := (List.getElem?_eq_some_iff.1 hi).1
  have hl2 : i < st.ops.length := by rw [← h.len]; exact hl
  have := h.ob i b st.ops[i] hi (List.getElem?_eq_getElem hl2)
  exact blk_lt this.2
 have hpt : ∀ l : List Nat, (∀ i ∈ l, i < st.ops.length) → opPtrs (obs ++ [w.heap.size]) l = opPtrs obs l := by
  intro l hl
  unfold opPtrs
  apply List.map_congr_left
  intro i hi
  have := hl i hi
  rw [List.getD_eq_getElem?_getD, List.getD_eq_getElem?_getD, List.getElem?_append_left (by rw [h.len]; exact this)]
 refine ⟨h1.b0, h.hpb, h1.y, by rw [hpt _ h.il.1]; exact h1.o, by rw [hpt _ h.il.2]; exact h1.wh, h1.t, h.ow, by simp [h.len], ?_, ?_, ?_⟩
 ·intro i b o e1 e2
  by_cases hi : i < obs.length
  ·rw [List.getElem?_append_left hi] at e1
   simp only at e2
   rw [List.getElem?_append_left (by rw [← h.len]; exact hi)] at e2
   exact h1.ob i b o e1 e2
  ·have hie : i = obs.length := by have := (List.getElem?_eq_some_iff.1 e1).1; simp at this; omega
   subst hie
   rw [List.getElem?_append_right (Nat.le_refl _), Nat.sub_self] at e1
   simp only at e2
   rw [h.len, List.getElem?_append_right (Nat.le_refl _), Nat.sub_self] at e2
   simp only [List.getElem?_cons_zero, Option.some.injEq] at e1 e2
   subst e1
   subst e2
   exact ⟨h.b0.size, blk_new _ _⟩
 ·intro i j b e1 e2
  have key : ∀ i, (obs ++ [w.heap.size])[i]? = some b → (obs[i]? = some b ∧ b < w.heap.size) ∨ (i = obs.length ∧ b = w.heap.size) := by
   intro i e
   by_cases hi : i < obs.length
   ·rw [List.getElem?_append_left hi] at e; exact Or.inl ⟨e, hlt i b e⟩
   ·have hie : i = obs.length := by have := (List.getElem?_eq_some_iff.1 e).1; simp at this; omega
    subst hie
    rw [List.getElem?_append_right (Nat.le_refl _), Nat.sub_self] at e
    simp only [List.getElem?_cons_zero, Option.some.injEq] at e
    exact Or.inr ⟨rfl, e.symm⟩
  rcases key i e1 with ⟨a1, a2⟩ | ⟨a1, a2⟩
  ·rcases key j e2 with ⟨c1, _⟩ | ⟨_, c2⟩
   ·exact h.nd i j b a1 c1
   ·omega
  ·rcases key j e2 with ⟨_, c2⟩ | ⟨c1, _⟩
   ·omega
   ·omega
 ·exact ⟨fun i hi => by have := h.il.1 i hi; simp; omega, fun i hi => by have := h.il.2 i hi; simp; omega⟩
theorem Tryz.infoOpP : (Tryz.prog.info? 130).map (fun i => (i.zero, i.size, i.bytes)) = some (some (.pointer none), 1, 8) := by kernel_rfl
theorem Tryz.undOps : Tryz.prog.underlying 86 = some (.slice 130) := by kernel_rfl
theorem rsl {w : World} {base : Nat} {e : TypeId} {v : Value} {n : Nat} {xs : List Value} (h : w.ownsRow base e 1 v n xs) : ∃ a c, v = .slice a n c := by
 rcases h.2 with ⟨h1, h2⟩ | ⟨g, cap, cur, h1, _⟩
 ·exact ⟨none, 0, by rw [h1, h2]⟩
 ·exact ⟨_, _, h1⟩
theorem rsg {w : World} {base : Nat} {e : TypeId} {v : Value} {n : Nat} {xs : List Value} (h : w.ownsRow base e 1 v n xs) (hn : 0 < n) : ∃ g c, v = .slice (some ⟨g, 0, none⟩) n c := by
 rcases h.2 with ⟨_, h2⟩ | ⟨g, cap, cur, h1, _⟩
 ·omega
 ·exact ⟨_, _, h1⟩
theorem revfind_step {l : List Nat} {p : Nat → Bool} {j : Nat} (hj : j < l.length) : (l.take (j + 1)).reverse.find? p = if p l[j] then some l[j] else (l.take j).reverse.find? p := by
 rw [List.take_succ_eq_append_getElem hj, List.reverse_append, List.reverse_singleton, List.singleton_append, List.find?_cons]
 cases p l[j] <;> rfl
theorem dropfind_step {l : List Nat} {p : Nat → Bool} {j : Nat} (hj : j < l.length) : (l.drop j).find? p = if p l[j] then some l[j] else (l.drop (j + 1)).find? p := by
 rw [List.drop_eq_getElem_cons hj, List.find?_cons]
 cases p l[j] <;> rfl
theorem opPtrs_at (obs l : List Nat) (j : Nat) (hj : j < l.length) : (opPtrs obs l)[j]? = some (ptr (obs.getD l[j] 0)) := by
 unfold opPtrs; rw [List.getElem?_map, List.getElem?_eq_getElem hj]; rfl
theorem PlIn.at {w0 w : World} {pb : Nat} {ov wv tv : Value} {obs : List Nat} {fuel : Nat} {st : RS} (h : PlIn w0 w pb ov wv tv obs fuel st) {i : Nat} (hi : i < st.ops.length) : ∃ b o, obs[i]? = some b ∧ obs.getD i 0 = b ∧ st.ops[i]? = some o ∧ w.heap[b]? = some (.cells (roCells o) 197 (0, 0)) := by
 have hl : i < obs.length := by rw [h.len]; exact hi
 refine ⟨obs[i], st.ops[i], List.getElem?_eq_getElem hl, by rw [List.getD_eq_getElem?_getD, List.getElem?_eq_getElem hl]; rfl, List.getElem?_eq_getElem hi, ?_⟩
 exact (h.ob i obs[i] st.ops[i] (List.getElem?_eq_getElem hl) (List.getElem?_eq_getElem hi)).2
theorem below_drewP (w : World) (m : Nat) : Below w.heap.size w (w.drewN m) := ⟨rfl, rfl, rfl, Nat.le_refl _, fun _ _ => rfl⟩
set_option maxRecDepth 100000 in
set_option maxHeartbeats 4000000 in
theorem where_any {w0 : World} (pb fuel : Nat) (ov wv tv : Value) (obs : List Nat) (st : RS) (w : World) (rg : Int) (h : PlIn w0 w pb ov wv tv obs fuel st) (hl : st.opn.length ≤ 40000) (hl2 : st.whl.length ≤ 40000) :
  Calls Tryz.prog 116 #[ptr pb, .int .i64 rg] w fun e w' => ∃ wv' obs' b, e = .returned (ptr b) ∧ obs'[(st.where_ rg).1]? = some b ∧ obs <+: obs' ∧ Imm w w' ∧ PlIn w0 w' pb ov wv' tv obs' fuel (st.where_ rg).2 := by
 obtain ⟨i0, hi, hz0, hz1, hz2⟩ := info_parts Tryz.infoOpP
 have HI : Hid _ := hi
 have HZ0 : Hid _ := hz0
 have HZ1 : Hid _ := hz1
 have HZ2 : Hid _ := hz2
 clear hi hz0 hz1 hz2
 have HP : Hid _ := h
 obtain ⟨oa, oc, hov⟩ := rsl h.o
 obtain ⟨wa, wc, hwv⟩ := rsl h.wh
 have hy := h.y
 rw [hov, hwv] at hy
 have y0 : w.cell? ⟨pb, 0, none⟩ = some (.slice oa st.opn.length oc) := by rw [blk_cell hy]; rfl
 have y1 : w.cell? ⟨pb, 1, none⟩ = some (.slice wa st.whl.length wc) := by rw [blk_cell hy]; rfl
 have f1 : w.frozen? ⟨pb, 1, none⟩ = false := blk_free hy 1
 have hpl := blk_lt hy
 have hat : ∀ (l : List Nat) (v : Value) (a : Option Addr) (c : Nat), (∀ i ∈ l, i < st.ops.length) → v = .slice a l.length c → w.ownsRow w0.heap.size 130 1 v l.length (opPtrs obs l) → ∀ (j : Nat) (hj : j < l.length), ∃ (g b : Nat) (ro : RO), a = some ⟨g, 0, none⟩ ∧ g < w.heap.size ∧ w.cell? ⟨g, j, none⟩ = some (.pointer (some ⟨b, 0, none⟩)) ∧ b < w.heap.size ∧ w.cell? ⟨b, 0, none⟩ = some (.int .i64 ro.reg) ∧ obs[l[j]]? = some b ∧ st.isR rg l[j] = (ro.reg == rg) := by
  intro l v a c hil hv hrow j hj
  obtain ⟨b, ro, e1, e2, e3, e4⟩ := h.at (hil l[j] (List.getElem_mem hj))
  obtain ⟨g, cap, hsl⟩ := rsg hrow (by omega)
  rw [hv] at hsl
  simp only [Value.slice.injEq] at hsl
  rw [hv, hsl.1] at hrow
  have hc : w.cell? ⟨g, j, none⟩ = some (.pointer (some ⟨b, 0, none⟩)) := by
   rw [hrow.cellAt j (by omega), opPtrs_at obs l j hj, e2]; rfl
  refine ⟨g, b, ro, hsl.1, World.block_lt_of_cell? _ _ hc, hc, blk_lt e4, by rw [blk_cell e4]; rfl, e1, ?_⟩
  unfold RS.isR; rw [e3]; rfl
 have hatO := hat st.opn ov oa oc h.il.1 hov h.o
 have hatW := hat st.whl wv wa wc h.il.2 hwv h.wh
 have HAO : Hid _ := hatO
 have HAW : Hid _ := hatW
 have HWV : Hid _ := hwv
 obtain ⟨R, hR⟩ : ∃ R, R = st.where_ rg := ⟨_, rfl⟩
 rw [← hR]
 have HR : Hid _ := hR
 clear hR h hy hat hatO hatW hov hwv
 show Calls _ _ #[Value.pointer (some ⟨pb, 0, none⟩), _] w _
 go_enter Tryz.func116, Tryz.ntmps116
 go_wp2
 go_loopw [5] (fun i wr => ∃ (j m : Nat), j ≤ st.opn.length ∧ i = .int .i64 ((j : Int) - 1) ∧ wr = w.drewN m ∧ st.opn.reverse.find? (st.isR rg) = (st.opn.take j).reverse.find? (st.isR rg)) (fun i _ => (intOf i + 1).toNat)
 case atStart => exact ⟨st.opn.length, 0, Nat.le_refl _, by go_num, rfl, by rw [List.take_length]⟩
 case round =>
  obtain ⟨j, m, hj, rfl, rfl, hfind⟩ := hrel
  have HF : Hid _ := hfind
  clear hfind
  by_cases hj0 : j = 0
  ·subst hj0
   have HN : Hid (st.opn.reverse.find? (st.isR rg) = none) := by rw [HF.out]; exact rfl
   clear HF
   go_wp2
   go_loopw [6] (fun i wr => ∃ (j m : Nat), j ≤ st.whl.length ∧ i = .int .i64 j ∧ wr = w.drewN m ∧ st.whl.find? (st.isR rg) = (st.whl.drop j).find? (st.isR rg)) (fun i _ => st.whl.length - (intOf i).toNat)
   case atStart => exact ⟨0, _, by omega, rfl, rfl, by simp⟩
   case round =>
    obtain ⟨j, m2, hj, rfl, rfl, hfind⟩ := hrel
    have HF : Hid _ := hfind
    clear hfind
    by_cases hlt : j < st.whl.length
    ·obtain ⟨g, b, ro, e1, e2, e3, e4, e5, e6, e7⟩ := HAW.out j hlt
     have hst := dropfind_step (p := st.isR rg) hlt
     rw [e7] at hst
     subst e1
     cases hq : (ro.reg == rg) with
     | true =>
      rw [hq] at hst
      have HRR : Hid (R = (st.whl[j], st)) := by
       rw [HR.out]; unfold RS.where_ RS.whereAt; rw [HN.out, HF.out, hst]; exact rfl
      have HB : Hid _ := e6
      clear hst e6 e7
      go_wp2
      go_ret
      rw [HRR.out]
      exact ⟨wv, obs, b, rfl, HB.out, List.prefix_refl _, Imm.below (below_drewP w _), HP.out.grow (below_drewP w _)⟩
     | false =>
      rw [hq] at hst
      have HS : Hid _ := hst
      clear hst e6 e7
      go_wp2
      go_roundw
      case rel => exact ⟨j + 1, _, by omega, by go_num, rfl, by rw [HF.out, HS.out]; rfl⟩
      case measure => simp [intOf]; omega
    ·have HRR : Hid (R = (st.ops.length, { st with ops := st.ops ++ [⟨rg, 0, false⟩], whl := st.whl ++ [st.ops.length] })) := by
      rw [HR.out]; unfold RS.where_ RS.whereAt; rw [HN.out, HF.out, List.drop_eq_nil_of_le (by omega)]; exact rfl
     have hp1 := (HP.out.grow (below_drewP w m2)).newOp rg
     have HP1 : Hid _ := hp1
     obtain ⟨W, hW⟩ : ∃ W, W = (w.drewN m2).alloc (.cells (roCells ⟨rg, 0, false⟩) 197) := ⟨_, rfl⟩
     have hWs : W.heap.size = w.heap.size + 1 := by rw [hW]; simp
     rw [← hW] at hp1
     have hown : W.ownsRow 0 130 1 (.slice wa st.whl.length wc) st.whl.length (opPtrs (obs ++ [w.heap.size]) st.whl) := by
      have := owns_base (base' := 0) hp1.wh (fun _ _ => Nat.zero_le _)
      rw [HWV.out] at this; exact this
     have hown2 := hown.alloc (.cells #[.pointer (some ⟨w.heap.size, 0, none⟩)] 130)
     rw [hW] at hown2
     have HOWN : Hid ((((w.drewN m2).alloc (.cells #[.int .i64 rg, .int .i64 0, .bool false] 197)).alloc (.cells #[.pointer (some ⟨w.heap.size, 0, none⟩)] 130)).ownsRow 0 130 1 (.slice wa st.whl.length wc) st.whl.length (opPtrs (obs ++ [w.heap.size]) st.whl)) := hown2
     have HW : Hid _ := hW
     have HC2 : Hid (∀ u ∈ ([.pointer (some ⟨w.heap.size, 0, none⟩)] : List Value), u.oneCell' = true) := by intro v hv; simp only [List.mem_singleton] at hv; subst hv; rfl
     have hpne : pb ≠ w.heap.size := by omega
     have Z1 : ((w.drewN m2).alloc (.cells #[.int .i64 rg, .int .i64 0, .bool false] 197)).cell? ⟨pb, 1, none⟩ = some (.slice wa st.whl.length wc) := by
      have h1 : W.cell? ⟨pb, 1, none⟩ = some (.slice wa st.whl.length wc) := by rw [blk_cell hp1.y, ← HWV.out]; rfl
      rw [hW] at h1; exact h1
     have Z2 : pb < ((w.drewN m2).alloc (.cells #[.int .i64 rg, .int .i64 0, .bool false] 197)).heap.size := by simp; omega
     clear hp1 hown hW hown2
     go_wp2_with (at_builtin; go_must (refine app_own _ rfl (.tmp 72) (.tmp 74) 86 rfl 130 i0 _ 1 8 Tryz.undOps HI.out HZ0.out HZ1.out HZ2.out rfl (by decide) (.slice wa st.whl.length wc) st.whl.length (opPtrs (obs ++ [w.heap.size]) st.whl) rfl HOWN.out ⟨w.heap.size + 1, 0, none⟩ 1 1 [.pointer (some ⟨w.heap.size, 0, none⟩)] rfl rfl ?c1 HC2.out (by decide) ?c3 ?c4 ?_))
     case c1 =>
      intro j v hj
      have hq := alloc_cell_at ((w.drewN m2).alloc (.cells #[.int .i64 rg, .int .i64 0, .bool false] 197)) [.pointer (some ⟨w.heap.size, 0, none⟩)] 130 j
      rw [show ((w.drewN m2).alloc (.cells #[.int .i64 rg, .int .i64 0, .bool false] 197)).heap.size = w.heap.size + 1 from by simp] at hq
      rw [← hj]; exact hq
     case c3 => unfold maxLen; omega
     case c4 => omega
     intro g cap w3 hown3 hgrow hor
     have hHP := HP1.out
     rw [← HW.out] at hHP
     have eW : (w.drewN m2).heap.size = w.heap.size := rfl
     have hpw := PlIn.pushW (g := g) (cap := cap) (w3 := w3) (A := .cells #[.pointer (some ⟨w.heap.size, 0, none⟩)] 130) hHP st.ops.length (by simp) (by rw [HWV.out, HW.out]; exact hgrow) (by
      have e : (obs ++ [(w.drewN m2).heap.size]).getD st.ops.length 0 = w.heap.size := by rw [← HP.out.len]; simp [List.getD_eq_getElem?_getD]
      rw [e]; exact hown3) (by rw [HWV.out]; rcases hor with h | h; exact Or.inl h; exact Or.inr (by rw [World.size_alloc, hWs]; exact h))
     have hy3 : w3.heap[pb]? = some (.cells (plCells ov (.slice wa st.whl.length wc) tv fuel st) 88 (0, 0)) := by
      have h1 := grow_other (A := .cells #[.pointer (some ⟨w.heap.size, 0, none⟩)] 130) hHP.wh (by rw [HWV.out, HW.out]; exact hgrow) hHP.y (by decide)
      rw [HWV.out] at h1; exact h1
     have c1 : w3.cell? ⟨pb, 1, none⟩ = some (.slice wa st.whl.length wc) := by rw [blk_cell hy3]; rfl
     have zf := blk_free hy3 1
     have zl := blk_lt hy3
     have HPW : Hid _ := hpw.1
     have HIM : Hid _ := (Imm.below (below_drewP w m2)).trans ((Imm.below ((Below.refl _ (w.drewN m2)).alloc (Nat.le_refl _) (.cells (roCells ⟨rg, 0, false⟩) 197))).trans (by rw [← HW.out]; exact hpw.2))
     clear hown3 hgrow hor hHP hpw hy3
     go_wp2
     go_ret
     rw [HRR.out]
     refine ⟨_, obs ++ [w.heap.size], w.heap.size, rfl, ?_, List.prefix_append _ _, HIM.out, HPW.out⟩
     rw [← HP.out.len, List.getElem?_append_right (Nat.le_refl _), Nat.sub_self]; rfl
  ·obtain ⟨k, rfl⟩ : ∃ k, j = k + 1 := ⟨j - 1, by omega⟩
   have hkl : k < st.opn.length := by omega
   obtain ⟨g, b, ro, e1, e2, e3, e4, e5, e6, e7⟩ := HAO.out k hkl
   have hst := revfind_step (p := st.isR rg) hkl
   rw [e7] at hst
   have ek : ((k + 1 : Nat) : Int) - 1 = (k : Int) := by omega
   rw [ek]
   subst e1
   cases hq : (ro.reg == rg) with
   | true =>
    rw [hq] at hst
    have HRR : Hid (R = (st.opn[k], st)) := by
     rw [HR.out]; unfold RS.where_ RS.whereAt; rw [HF.out, hst]; exact rfl
    have HB : Hid _ := e6
    clear hst e6 e7 ek
    go_wp2
    go_ret
    rw [HRR.out]
    exact ⟨wv, obs, b, rfl, HB.out, List.prefix_refl _, Imm.below (below_drewP w _), HP.out.grow (below_drewP w _)⟩
   | false =>
    rw [hq] at hst
    have HS : Hid _ := hst
    clear hst e6 e7 ek
    go_wp2
    go_roundw
    case rel => exact ⟨k, _, by omega, by go_num, rfl, by rw [HF.out, HS.out]; rfl⟩
    case measure => simp [intOf]
theorem TyIn.grow {w0 w w' : World} {yb : Nat} {cls : List Nat} {cv nv tv ov : Value} {env : TEnv} {st : TSt} (h : TyIn w0 w yb cls cv nv tv ov env st) (hb : Below w.heap.size w w') : TyIn w0 w' yb cls cv nv tv ov env st :=
 ⟨h.b0.trans (hb.mono h.b0.size), h.hyb, by rw [hb.block yb (blk_lt h.y)]; exact h.y, owns_below h.c hb, owns_below h.n hb, owns_below h.t hb, owns_below h.o hb, h.cy, h.ny, h.ty, h.oy, h.cn, h.ct, h.co, h.nt, h.no, h.tov⟩
set_option maxRecDepth 100000 in
set_option maxHeartbeats 1000000 in
theorem form_num (w0 : World) (yb : Nat) (cls : List Nat) (p : Nat) (s : List UInt8) : FormOk w0 yb cls (.num p s) (fun _ _ _ st => (.n, st)) := by
 intro id site b F env st cv nv tv ov w hT hin _ _ _ _ _
 simp only [IsT] at hT
 have hb := blk_lt hT.2
 have x0 : w.cell? ⟨b, 0, none⟩ = some (.string (bs numB)) := by rw [hin.b0.cell (p := ⟨b, 0, none⟩) hb, blk_cell hT.2]; rfl
 have q0 : ((bs numB).toList == [110, 117, 109, 98, 101, 114]) = true := by rw [bs_beq0]; decide
 have hbw : b < w.heap.size := by have := hin.b0.size; omega
 have HIN : Hid _ := hin
 clear hT hin
 show Calls _ _ #[Value.pointer (some ⟨yb, 0, none⟩), Value.pointer (some ⟨b, 0, none⟩)] w _
 go_enter Tryz.func113, Tryz.ntmps113
 go_wp2
 go_ret
 exact ⟨rfl, nv, tv, Fr.below ((Below.refl _ _).alloc (Nat.le_refl _) _) _ _ _ _, HIN.out.grow ((Below.refl _ _).alloc (Nat.le_refl _) _)⟩
theorem look_snoc (env : TEnv) (x : List UInt8 × Ty) (s : List UInt8) : look (env ++ [x]) s = if x.1 == s then some x.2 else look env s := by
 unfold look
 rw [List.reverse_append, List.reverse_singleton, List.singleton_append, List.find?_cons]
 cases h : (x.1 == s) <;> simp
theorem look_take (env : TEnv) (j : Nat) (hj : j < env.length) (s : List UInt8) : look (env.take (j + 1)) s = if (env[j].1 == s) then some env[j].2 else look (env.take j) s := by
 rw [List.take_succ_eq_append_getElem hj, look_snoc]
def nameF (p : Nat) (s : List UInt8) (env : TEnv) (st : TSt) : Ty × TSt := match look env s with
 | some t => (t, st)
 | none => (.n, errS st 4 p)
theorem nameF_none {p : Nat} {s : List UInt8} {env : TEnv} {st : TSt} (h : look env s = none) : nameF p s env st = (.n, errS st 4 p) := by unfold nameF; rw [h]
theorem nameF_some {p : Nat} {s : List UInt8} {env : TEnv} {st : TSt} {t : Ty} (h : look env s = some t) : nameF p s env st = (t, st) := by unfold nameF; rw [h]
set_option maxRecDepth 100000 in
set_option maxHeartbeats 2000000 in
theorem form_name (w0 : World) (yb : Nat) (cls : List Nat) (p : Nat) (s : List UInt8) : FormOk w0 yb cls (.name p s) (fun _ _ env st => nameF p s env st) := by
 intro id site b F env st cv nv tv ov w hT hin _ _ _ _ henv
 simp only [PT.cnt] at henv
 simp only [IsT] at hT
 have hb := blk_lt hT.2
 have hbw : b < w.heap.size := by have := hin.b0.size; omega
 have hbx : w.heap[b]? = some (.cells (exCells nameB p s 0 (.slice none 0 0) id id site) 82 (0, 0)) := by rw [hin.b0.block b hb]; exact hT.2
 have x0 : w.cell? ⟨b, 0, none⟩ = some (.string (bs nameB)) := by rw [blk_cell hbx]; rfl
 have x2 : w.cell? ⟨b, 2, none⟩ = some (.string (bs s)) := by rw [blk_cell hbx]; rfl
 have q0 : ((bs nameB).toList == [110, 117, 109, 98, 101, 114]) = false := by rw [bs_beq0]; decide
 have q1 : ((bs nameB).toList == [110, 97, 109, 101]) = true := by rw [bs_beq0]; decide
 have hG := hin.toG
 obtain ⟨na, nc, hnv, hna⟩ := hG.shapeN
 obtain ⟨ta, tc, htv, hta⟩ := hG.shapeT
 rw [List.length_map] at hnv htv hna hta
 have hy := hin.y
 have hyl := blk_lt hy
 rw [hnv, htv] at hy
 have y1 : w.cell? ⟨yb, 1, none⟩ = some (.slice na env.length nc) := by rw [blk_cell hy]; rfl
 have y2 : w.cell? ⟨yb, 2, none⟩ = some (.slice ta env.length tc) := by rw [blk_cell hy]; rfl
 have HIN : Hid _ := hin
 have HNV : Hid _ := hnv
 have HTV : Hid _ := htv
 have HBX : Hid _ := hbx
 have HNA : Hid _ := hna
 have HTA : Hid _ := hta
 have hne : b ≠ yb := by have := hin.hyb; omega
 clear hT hin hG hnv htv hy hbx hna hta
 show Calls _ _ #[Value.pointer (some ⟨yb, 0, none⟩), Value.pointer (some ⟨b, 0, none⟩)] w _
 go_enter Tryz.func113, Tryz.ntmps113
 go_wp2
 go_loopw [6] (fun i wr => ∃ (j m : Nat), j ≤ env.length ∧ i = .int .i64 ((j : Int) - 1) ∧ wr = (w.alloc (.cells #[.string ⟨#[]⟩, .string ⟨#[]⟩, .string ⟨#[]⟩] 139)).drewN m ∧ look env s = look (env.take j) s) (fun i _ => (intOf i + 1).toNat)
 case atStart => exact ⟨env.length, 0, by omega, rfl, rfl, by rw [List.take_length]⟩
 case round =>
  obtain ⟨j, m, hj, rfl, rfl, hl⟩ := hrel
  have HL : Hid _ := hl
  clear hl
  by_cases hj0 : j = 0
  ·subst hj0
   have her := fun (o : Obj) (m : Nat) => err_any ((w.alloc o).drewN m) yb b cv nv tv ov (.slice none 0 0) st.e st.at_ 4 nameB s p 0 id id site hne (blk_alloc o HIN.out.y) (blk_alloc o HBX.out)
   unfold ptr at her
   go_wp2_with (go_at_call 115; refine (her _ _).mono ?_; rintro e w2 ⟨rfl, hg1, hy1⟩)
   go_ret
   have e : look env s = none := by rw [HL.out]; rfl
   rw [nameF_none e]
   refine ⟨rfl, nv, tv, (Fr.below (below_box w _ m) _ _ _ _).trans (Fr.grown hg1 _ _ _), ?_⟩
   have h := (HIN.out.grow (below_box w _ m)).err hg1 hy1
   unfold errS
   by_cases h0 : st.e = 0
   ·rw [if_pos h0, if_pos h0] at h; rw [if_pos h0]; exact h
   ·rw [if_neg h0, if_neg h0] at h; rw [if_neg h0]; exact h
  ·obtain ⟨k, hk⟩ : ∃ k, j = k + 1 := ⟨j - 1, by omega⟩
   subst hk
   have hkl : k < env.length := by omega
   obtain ⟨gn, hgn⟩ := HNA.out (by omega)
   obtain ⟨gt, hgt⟩ := HTA.out (by omega)
   have hcn : w.cell? ⟨gn, k, none⟩ = some (.string (bs env[k].1)) := by
    have h := HIN.out.n
    rw [HNV.out, hgn] at h
    rw [h.cellAt k (by omega), List.getElem?_map, List.getElem?_eq_getElem hkl]; rfl
   have hct : w.cell? ⟨gt, k, none⟩ = some (.string (bs env[k].2.txt)) := by
    have h := HIN.out.t
    rw [HTV.out, hgt] at h
    rw [h.cellAt k (by omega), List.getElem?_map, List.getElem?_eq_getElem hkl]; rfl
   have hgnw : gn < w.heap.size := World.block_lt_of_cell? _ _ hcn
   have hgtw : gt < w.heap.size := World.block_lt_of_cell? _ _ hct
   rw [hgn] at y1
   rw [hgt] at y2
   have ek : ((k + 1 : Nat) : Int) - 1 = (k : Int) := by omega
   rw [ek]
   have hlt := look_take env k hkl s
   by_cases hs : (env[k].1 == s) = true
   ·rw [if_pos hs] at hlt
    have qs : ((bs env[k].1).toList == (bs s).toList) = true := by rw [bs_beq0, Lib.toList_data]; exact hs
    have HR : Hid (look env s = some env[k].2) := HL.out.trans hlt
    clear hlt hs hgn hgt ek
    go_wp2
    go_quiet (fail)
    go_wp2
    go_ret
    rw [nameF_some HR.out]
    exact ⟨rfl, nv, tv, Fr.below (below_box w _ _) _ _ _ _, HIN.out.grow (below_box w _ _)⟩
   ·have hs' : (env[k].1 == s) = false := by simpa using hs
    rw [if_neg hs] at hlt
    have qs : ((bs env[k].1).toList == (bs s).toList) = false := by rw [bs_beq0, Lib.toList_data]; exact hs'
    have HR : Hid (look env s = look (env.take k) s) := HL.out.trans hlt
    clear hlt hs hs' hgn hgt ek
    go_wp2
    go_quiet (fail)
    go_wp2
    go_roundw
    case rel => exact ⟨k, _, by omega, by go_num, rfl, HR.out⟩
    case measure => simp [intOf]
def kt (ks : List Ty) (i : Nat) : List UInt8 := match ks[i]? with
 | some t => t.txt
 | none => []
def arity (k : Kw) : Nat := match k with
 | .let_ => 2
 | .pair => 2
 | .fst => 1
 | .snd => 1
 | .if_ => 3
 | .add => 2
 | .sub => 2
 | .less => 2
 | .loop => 3
 | .new => 1
theorem made_any (w : World) (yb xb : Nat) (cls : List Nat) (cv nv tv ov kv : Value) (st : TSt) (nm : List UInt8) (px : Nat) (n : Int) (id last site : Nat) (base : Nat) (k : Kw) (ks : List Ty) (hne : xb ≠ yb) (h0 : st.e = 0)
  (hy : w.heap[yb]? = some (.cells (tyCells cv nv tv ov st.e st.at_) 115 (0, 0)))
  (hx : w.heap[xb]? = some (.cells (exCells k.bytes px nm n kv id last site) 82 (0, 0)))
  (hc : w.ownsRow base 3 1 cv cls.length (cls.map fun (k : Nat) => Value.int .i64 k)) (hcl : cls.length ≤ 9000) (hc100 : ∀ x ∈ cls, x < 1000) (hit : ∀ x ∈ cls, ∀ w', Below w.heap.size w w' → Calls Tryz.prog 49 #[.int .i64 (x : Nat)] w' fun e w2 => e = .returned (.string (bs (Go.Lib.decDigits x))) ∧ Below w'.heap.size w' w2) (hsite : k = .pair → site < cls.length)
  (hk : k ≠ .let_) (har : ks.length = arity k) (hfit : ∀ t ∈ ks, t.fit) :
  Calls Tryz.prog 144 #[ptr yb, ptr xb, .agg #[.string (bs (kt ks 0)), .string (bs (kt ks 1)), .string (bs (kt ks 2))]] w fun v w' =>
   v = .returned (.string (bs (madeT cls k px site ks st).1.txt)) ∧ w.grownBy w' (some yb) ∧ w'.heap[yb]? = some (.cells (tyCells cv nv tv ov (madeT cls k px site ks st).2.e (madeT cls k px site ks st).2.at_) 115 (0, 0)) := by
 have hl : ∀ t ∈ ks, t.txt.length ≤ 1000 := fun t ht => fit_len (hfit t ht)
 rw [h0] at hy
 have ee : (errS st 5 px).e = 5 ∧ (errS st 5 px).at_ = px := by unfold errS; rw [if_pos h0]; exact ⟨rfl, rfl⟩
 cases k with
 | let_ => exact absurd rfl hk
 | new =>
  match ks, har with
  | [a], _ =>
   simp only [madeT, h0]
   exact made_new w yb xb cv nv tv ov kv st.at_ nm px n id last site hy hx a (by have := hl a (by simp); omega)
 | fst =>
  match ks, har with
  | [.n], _ => simp only [madeT, ee.1, ee.2]; exact made_fst_no w yb xb cv nv tv ov kv st.at_ nm px n id last site hne hy hx
  | [.p r a b], _ => simp only [madeT, h0]; exact made_fst_ok w yb xb cv nv tv ov kv st.at_ nm px n id last site hy hx r a b (by have := hl (.p r a b) (by simp); omega)
 | snd =>
  match ks, har with
  | [.n], _ => simp only [madeT, ee.1, ee.2]; exact made_snd_no w yb xb cv nv tv ov kv st.at_ nm px n id last site hne hy hx
  | [.p r a b], _ => simp only [madeT, h0]; exact made_snd_ok w yb xb cv nv tv ov kv st.at_ nm px n id last site hy hx r a b (by have := hl (.p r a b) (by simp); omega)
 | add =>
  match ks, har with
  | [.n, .n], _ => simp only [madeT]; rw [if_pos (by simp)]; simp only [h0]; exact made_add_ok w yb xb cv nv tv ov kv st.at_ nm px n id last site hy hx
  | [.p r a b, u], _ => simp only [madeT]; rw [if_neg (by simp)]; simp only [ee.1, ee.2]; exact made_add_p w yb xb cv nv tv ov kv st.at_ nm px n id last site hne hy hx r a b u (by have := hl (.p r a b) (by simp); omega)
  | [.n, .p r a b], _ => simp only [madeT]; rw [if_neg (by simp)]; simp only [ee.1, ee.2]; exact made_add_q w yb xb cv nv tv ov kv st.at_ nm px n id last site hne hy hx r a b
 | sub =>
  match ks, har with
  | [.n, .n], _ => simp only [madeT]; rw [if_pos (by simp)]; simp only [h0]; exact made_sub_ok w yb xb cv nv tv ov kv st.at_ nm px n id last site hy hx
  | [.p r a b, u], _ => simp only [madeT]; rw [if_neg (by simp)]; simp only [ee.1, ee.2]; exact made_sub_p w yb xb cv nv tv ov kv st.at_ nm px n id last site hne hy hx r a b u (by have := hl (.p r a b) (by simp); omega)
  | [.n, .p r a b], _ => simp only [madeT]; rw [if_neg (by simp)]; simp only [ee.1, ee.2]; exact made_sub_q w yb xb cv nv tv ov kv st.at_ nm px n id last site hne hy hx r a b
 | less =>
  match ks, har with
  | [.n, .n], _ => simp only [madeT]; rw [if_pos (by simp)]; simp only [h0]; exact made_less_ok w yb xb cv nv tv ov kv st.at_ nm px n id last site hy hx
  | [.p r a b, u], _ => simp only [madeT]; rw [if_neg (by simp)]; simp only [ee.1, ee.2]; exact made_less_p w yb xb cv nv tv ov kv st.at_ nm px n id last site hne hy hx r a b u (by have := hl (.p r a b) (by simp); omega)
  | [.n, .p r a b], _ => simp only [madeT]; rw [if_neg (by simp)]; simp only [ee.1, ee.2]; exact made_less_q w yb xb cv nv tv ov kv st.at_ nm px n id last site hne hy hx r a b
 | if_ =>
  match ks, har with
  | [.n, b, c], _ =>
   simp only [madeT]
   by_cases hb : b.bare = c.bare
   ·rw [if_pos ⟨trivial, hb⟩]; simp only [h0]; exact made_if__ok w yb xb cv nv tv ov kv st.at_ nm px n id last site hy hx b c (by have := hl b (by simp); omega) (by have := hl c (by simp); omega) hb
   ·rw [if_neg (fun h => hb h.2)]; simp only [ee.1, ee.2]; exact made_if__no w yb xb cv nv tv ov kv st.at_ nm px n id last site hne hy hx b c (by have := hl b (by simp); omega) (by have := hl c (by simp); omega) hb
  | [.p r a a', b, c], _ => simp only [madeT]; rw [if_neg (by simp)]; simp only [ee.1, ee.2]; exact made_if__p w yb xb cv nv tv ov kv st.at_ nm px n id last site hne hy hx r a a' (by have := hl (.p r a a') (by simp); omega) _ _
 | loop =>
  match ks, har with
  | [.n, b, c], _ =>
   simp only [madeT]
   by_cases hb : b.bare = c.bare
   ·rw [if_pos ⟨trivial, hb⟩]; simp only [h0]; exact made_loop_ok w yb xb cv nv tv ov kv st.at_ nm px n id last site hy hx b c (by have := hl b (by simp); omega) (by have := hl c (by simp); omega) hb
   ·rw [if_neg (fun h => hb h.2)]; simp only [ee.1, ee.2]; exact made_loop_no w yb xb cv nv tv ov kv st.at_ nm px n id last site hne hy hx b c (by have := hl b (by simp); omega) (by have := hl c (by simp); omega) hb
  | [.p r a a', b, c], _ => simp only [madeT]; rw [if_neg (by simp)]; simp only [ee.1, ee.2]; exact made_loop_p w yb xb cv nv tv ov kv st.at_ nm px n id last site hne hy hx r a a' (by have := hl (.p r a a') (by simp); omega) _ _
 | pair =>
  match ks, har with
  | [a, b], _ =>
   simp only [madeT, h0]
   have hs := hsite rfl
   obtain ⟨gc, cc, hcv⟩ : ∃ gc cc, cv = .slice (some ⟨gc, 0, none⟩) cls.length cc := by
    rcases hc.2 with ⟨_, h⟩ | ⟨g, cap, cur, h, _⟩
    ·omega
    ·exact ⟨_, _, h⟩
   subst hcv
   have hcell : w.cell? ⟨gc, site, none⟩ = some (.int .i64 (cls.getD site 0 : Nat)) := by
    rw [hc.cellAt site (by omega), List.getElem?_map, List.getElem?_eq_getElem hs]
    simp [List.getD, List.getElem?_eq_getElem hs]
   exact made_pair w gc cls.length cc yb xb nv tv ov kv st.at_ nm px n id last site hy hx (cls.getD site 0) a b (by rw [List.getD_eq_getElem?_getD, List.getElem?_eq_getElem hs]; exact hc100 _ (List.getElem_mem hs)) (by rw [List.getD_eq_getElem?_getD, List.getElem?_eq_getElem hs]; exact hit _ (List.getElem_mem hs)) (by have := hl a (by simp); have := hl b (by simp); omega) hs hcl hcell
end Go.Proofs.YtpicaknklgccoaaGreatDoor
