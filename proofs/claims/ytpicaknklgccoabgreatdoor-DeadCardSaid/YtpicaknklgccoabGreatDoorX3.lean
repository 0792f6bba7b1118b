import Derived.Test.YtpicaknklgccoabGreatDoorX2
import Derived.Test.YtpicaknklgccoabGreatDoorX1
import Derived.BigRegion
import Derived.BigQuiet
import Derived.Deep.QuietTactic
import Derived.Deep.CutRange
import Derived.Deep.RegionLaw
namespace Go.Proofs.YtpicaknklgccoabGreatDoor
structure Gr (pE : PS → Int × PS) (st : PS) : Prop where
 sc : (pE st).2.scope = st.scope
 l : (pE st).2.l.length ≤ st.l.length
 nd : (pE st).2.nodes.length + (pE st).2.l.length ≤ st.nodes.length + st.l.length
 op : (pE st).2.opened.length + 4 * (pE st).2.l.length ≤ st.opened.length + 4 * st.l.length + 1
 up : st.opened.length ≤ (pE st).2.opened.length
def GrAll (pE : PS → Int × PS) (m : Nat) : Prop := ∀ st : PS, st.l.length ≤ m → Gr pE st
structure Gs (a b : PS) (j n : Nat) : Prop where
 sc : b.scope = a.scope
 l : b.l.length ≤ a.l.length
 nd : b.nodes.length + b.l.length ≤ a.nodes.length + a.l.length + n
 op : b.opened.length + 4 * b.l.length ≤ a.opened.length + 4 * a.l.length + j
 up : a.opened.length ≤ b.opened.length
theorem Gs.refl (a : PS) : Gs a a 0 0 := ⟨rfl, Nat.le_refl _, Nat.le_refl _, Nat.le_refl _, Nat.le_refl _⟩
theorem Gs.trans {a b c : PS} {i j n m : Nat} (h : Gs a b i n) (h' : Gs b c j m) : Gs a c (i + j) (n + m) :=
 ⟨h'.sc.trans h.sc, by have := h.l; have := h'.l; omega, by have := h.nd; have := h'.nd; omega, by have := h.op; have := h'.op; omega, by have := h.up; have := h'.up; omega⟩
theorem gs_tail (st : PS) : Gs st st.tail 0 0 := by
 refine ⟨rfl, tail_len st, ?_, ?_, Nat.le_refl _⟩
 ·have := tail_len st; simp only [PS.tail] at this ⊢; omega
 ·have := tail_len st; simp only [PS.tail] at this ⊢; omega
theorem gs_fail (a : Nat) (st : PS) : Gs st (st.fail a) 0 0 := by
 unfold PS.fail
 split
 ·exact Gs.refl _
 ·exact ⟨rfl, by simp, by simp, by simp, Nat.le_refl _⟩
theorem gs_expect (len k : Nat) (st : PS) : Gs st (st.expect len k) 0 0 := by
 unfold PS.expect
 split
 ·exact (gs_tail st).trans (gs_fail _ _)
 ·exact gs_tail st
theorem gs_pE {pE : PS → Int × PS} {m : Nat} (h : GrAll pE m) (st : PS) (hl : st.l.length ≤ m) : Gs st (pE st).2 1 0 :=
 have g := h st hl
 ⟨g.sc, g.l, g.nd, g.op, g.up⟩
theorem gs_body {pE : PS → Int × PS} {m : Nat} (h : GrAll pE m) (w : List UInt8) (src : Int) (st : PS) (hl : st.l.length ≤ m) : Gs st (pBody pE w src st).2 1 0 := by
 have g := h { st with scope := st.scope ++ [(w, src)] } hl
 refine ⟨?_, g.l, g.nd, g.op, g.up⟩
 unfold pBody
 simp only [g.sc, List.dropLast_concat]
theorem gs_row1 {pE : PS → Int × PS} {m : Nat} (h : GrAll pE m) (n : NR) (st : PS) (hl : st.l.length ≤ m) : Gs st (pRow1 pE n st).2 1 0 := gs_pE h st hl
theorem gs_row2 {pE : PS → Int × PS} {m : Nat} (h : GrAll pE m) (n : NR) (st : PS) (hl : st.l.length ≤ m) : Gs st (pRow2 pE n st).2 2 0 :=
 have g := gs_row1 h n st hl
 g.trans (gs_pE h _ (Nat.le_trans g.l hl))
theorem gs_row3 {pE : PS → Int × PS} {m : Nat} (h : GrAll pE m) (n : NR) (st : PS) (hl : st.l.length ≤ m) : Gs st (pRow3 pE n st).2 3 0 :=
 have g := gs_row2 h n st hl
 g.trans (gs_pE h _ (Nat.le_trans g.l hl))
theorem gs_let {pE : PS → Int × PS} {m : Nat} (h : GrAll pE m) (len : Nat) (n : NR) (st : PS) (hl : st.l.length ≤ m) : Gs st (pLet len pE n st).2 2 0 := by
 have g1 := gs_expect len 4 st
 have g2 := gs_pE h (st.expect len 4) (Nat.le_trans g1.l hl)
 have g3 := gs_body h (tk1 len st.l).word (pE (st.expect len 4)).1 (pE (st.expect len 4)).2 (by have := g1.l; have := g2.l; omega)
 exact (g1.trans g2).trans g3
theorem gs_loop {pE : PS → Int × PS} {m : Nat} (h : GrAll pE m) (len : Nat) (n : NR) (st : PS) (hl : st.l.length ≤ m) : Gs st (pLoop len pE n st).2 3 0 := by
 have g0 := gs_pE h st hl
 have g1 := gs_expect len 4 (pE st).2
 have g2 := gs_pE h ((pE st).2.expect len 4) (by have := g0.l; have := g1.l; omega)
 have g3 := gs_body h (tk1 len (pE st).2.l).word (pE ((pE st).2.expect len 4)).1 (pE ((pE st).2.expect len 4)).2 (by have := g0.l; have := g1.l; have := g2.l; omega)
 exact ((g0.trans g1).trans g2).trans g3
theorem Gs.le {a b : PS} {j j' n n' : Nat} (h : Gs a b j n) (hj : j ≤ j') (hn : n ≤ n') : Gs a b j' n' := ⟨h.sc, h.l, by have := h.nd; omega, by have := h.op; omega, h.up⟩
theorem gs_fill {pE : PS → Int × PS} {m : Nat} (h : GrAll pE m) (placed : Bool) (len : Nat) (n : NR) (st : PS) (hl : st.l.length ≤ m) : Gs st (pFill placed len pE n st).2 3 0 := by
 have hr : Gs st (pRegion len n st).2 0 0 := gs_expect len 6 st
 have hrl := hr.l
 unfold pFill
 split
 ·exact (gs_let h len n st hl).le (by omega) (by omega)
 split
 ·exact gs_loop h len n st hl
 split
 ·split
  ·exact (hr.trans (gs_row2 h _ _ (by omega))).le (by omega) (by omega)
  ·exact (gs_row2 h n st hl).le (by omega) (by omega)
 split
 ·exact (hr.trans (gs_row1 h _ _ (by omega))).le (by omega) (by omega)
 split
 ·exact (gs_row1 h n st hl).le (by omega) (by omega)
 split
 ·exact gs_row3 h n st hl
 ·exact (gs_row2 h n st hl).le (by omega) (by omega)
theorem gs_add (n : NR) (st : PS) : Gs st (st.add n) 0 1 := ⟨rfl, Nat.le_refl _, by simp [PS.add]; omega, Nat.le_refl _, Nat.le_refl _⟩
theorem gs_bracket {pE : PS → Int × PS} {m : Nat} (h : GrAll pE m) (placed : Bool) (len : Nat) (n : NR) (st : PS) (hl : st.l.length ≤ m) : Gs st (pBracket placed len pE n st).2 3 1 := by
 have ht := gs_tail st
 have htl := ht.l
 unfold pBracket
 simp only
 split
 ·exact (ht.trans (gs_fail _ _)).le (by omega) (by omega)
 ·have h1 := gs_fill h placed len { n with form := formN (tk1 len st.l).kind } st.tail (by omega)
  exact ((ht.trans h1).trans (gs_expect len 3 _)).trans (gs_add _ _)
theorem gr_any {pB : NR → PS → Int × PS} (len : Nat) (st : PS) (h : ∀ n, st.l ≠ [] → Gs st.tail (pB n st.tail).2 3 1) :
  (pAny len pB st).2.scope = st.scope ∧ (pAny len pB st).2.l.length ≤ st.l.length ∧ (pAny len pB st).2.nodes.length + (pAny len pB st).2.l.length ≤ st.nodes.length + st.l.length ∧
   (pAny len pB st).2.opened.length + 4 * (pAny len pB st).2.l.length ≤ st.opened.length + 4 * st.l.length ∧ st.opened.length ≤ (pAny len pB st).2.opened.length := by
 cases hl : st.l with
 | nil =>
  have e : pAny len pB st = (-1, st.tail.fail len) := by simp [pAny, hl, tk1]
  rw [e]
  have g := (gs_tail st).trans (gs_fail len st.tail)
  have g1 := g.sc; have g2 := g.l; have g3 := g.nd; have g4 := g.op; have g5 := g.up
  rw [hl] at g2 g3 g4
  exact ⟨g1, g2, by omega, by omega, g5⟩
 | cons t r =>
  have ht : st.tail.l = r := by simp [PS.tail, hl]
  unfold pAny
  rw [hl]
  simp only [List.length_cons]
  split
  ·refine ⟨rfl, ?_, ?_, ?_, Nat.le_refl _⟩ <;> simp only [PS.add, PS.tail, hl, List.tail_cons, List.length_append, List.length_cons, List.length_nil] <;> omega
  split
  ·refine ⟨rfl, ?_, ?_, ?_, Nat.le_refl _⟩ <;> simp only [PS.add, PS.tail, hl, List.tail_cons, List.length_append, List.length_cons, List.length_nil] <;> omega
  split
  ·have g := h (nodeT (tk1 len (t :: r))) (by rw [hl]; simp)
   have g1 := g.sc; have g2 := g.l; have g3 := g.nd; have g4 := g.op; have g5 := g.up
   rw [ht] at g2 g3 g4
   have e1 : st.tail.nodes = st.nodes := rfl
   have e2 : st.tail.opened = st.opened := rfl
   rw [e1] at g3
   rw [e2] at g4 g5
   refine ⟨g1, ?_, ?_, ?_, g5⟩ <;> omega
  ·have g := (gs_tail st).trans (gs_fail (tk1 len (t :: r)).at_ st.tail)
   have g1 := g.sc; have g2 := g.l; have g3 := g.nd; have g4 := g.op; have g5 := g.up
   rw [hl] at g2 g3 g4
   simp only [List.length_cons] at g2 g3 g4
   exact ⟨g1, by omega, by omega, by omega, g5⟩
theorem gr_seat {f : PS → Int × PS} (st : PS) (h : let a := { st with opened := st.opened ++ [-1] }; (f a).2.scope = a.scope ∧ (f a).2.l.length ≤ a.l.length ∧ (f a).2.nodes.length + (f a).2.l.length ≤ a.nodes.length + a.l.length ∧
   (f a).2.opened.length + 4 * (f a).2.l.length ≤ a.opened.length + 4 * a.l.length ∧ a.opened.length ≤ (f a).2.opened.length) : Gr (pSeat f) st := by
 simp only at h
 obtain ⟨h1, h2, h3, h4, h5⟩ := h
 refine ⟨h1, h2, h3, ?_, ?_⟩
 ·unfold pSeat; simp only [List.length_set]
  simp only [List.length_append, List.length_cons, List.length_nil] at h4; omega
 ·unfold pSeat; simp only [List.length_set]
  simp only [List.length_append, List.length_cons, List.length_nil] at h5; omega
theorem gr_expr (placed : Bool) (len : Nat) : ∀ n : Nat, GrAll (pExpr placed len n) n := by
 intro n
 induction n with
 | zero =>
  intro st hl
  unfold pExpr
  refine gr_seat st (gr_any len _ (fun n hn => absurd (List.length_eq_zero_iff.1 (by simpa using hl)) hn))
 | succ m ih =>
  intro st hl
  unfold pExpr
  refine gr_seat st (gr_any len _ (fun n hn => gs_bracket ih placed len n _ ?_))
  simp [PS.tail]; omega
end Go.Proofs.YtpicaknklgccoabGreatDoor
namespace Go.Proofs.YtpicaknklgccoabGreatDoor
open Go.RowKit
def psCells (s : ByteArray) (placed : Bool) (fr : Nat) (fl : Bool) (a : Nat) (sv nv ov : Value) : Array Value := #[.string s, .bool placed, .int .i64 fr, .bool fl, .int .i64 a, sv, nv, ov]
def nrL (n : NR) : List Value := [.int .i64 n.form, .int .i64 n.at_, .int .i64 n.beh, .int .i64 n.num, .string (bs n.word), .int .i64 n.region, .int .i64 n.source, .int .i64 n.p0, .int .i64 n.p1, .int .i64 n.p2]
def scL (x : List UInt8 × Int) : List Value := [.string (bs x.1), .int .i64 x.2]
def intV (i : Int) : Value := .int .i64 i
structure PIn (s : ByteArray) (placed : Bool) (pb : Nat) (w : World) (sv nv ov : Value) (st : PS) : Prop where
 y : ∃ fr, fr ≤ s.size ∧ tksAt s.data.toList fr = st.l ∧ w.heap[pb]? = some (.cells (psCells s placed fr st.fl.isSome (st.fl.getD 0) sv nv ov) 127 (0, 0))
 sc : w.ownsRow 0 190 2 sv st.scope.length (st.scope.flatMap scL)
 nd : w.ownsRow 0 108 10 nv st.nodes.length (st.nodes.flatMap nrL)
 op : w.ownsRow 0 3 1 ov st.opened.length (st.opened.map intV)
 sy : sv.ownBlock ≠ some pb
 ny : nv.ownBlock ≠ some pb
 oy : ov.ownBlock ≠ some pb
 sn : apart sv nv
 so : apart sv ov
 no : apart nv ov
structure PFr (pb nb : Nat) (w w' : World) (sv nv ov sv' nv' ov' : Value) : Prop where
 os : w'.os = w.os
 tape : w'.tape = w.tape
 output : w'.output = w.output
 size : w.heap.size ≤ w'.heap.size
 blk : ∀ k, k < w.heap.size → k ≠ pb → k ≠ nb → sv.ownBlock ≠ some k → nv.ownBlock ≠ some k → ov.ownBlock ≠ some k → w'.heap[k]? = w.heap[k]?
 s : ∀ g, sv'.ownBlock = some g → sv.ownBlock = some g ∨ w.heap.size ≤ g
 n : ∀ g, nv'.ownBlock = some g → nv.ownBlock = some g ∨ w.heap.size ≤ g
 o : ∀ g, ov'.ownBlock = some g → ov.ownBlock = some g ∨ w.heap.size ≤ g
theorem PFr.refl (pb nb : Nat) (w : World) (sv nv ov : Value) : PFr pb nb w w sv nv ov sv nv ov := ⟨rfl, rfl, rfl, Nat.le_refl _, fun _ _ _ _ _ _ _ => rfl, fun _ h => Or.inl h, fun _ h => Or.inl h, fun _ h => Or.inl h⟩
theorem PFr.trans {pb nb : Nat} {w w1 w2 : World} {sv nv ov sv1 nv1 ov1 sv2 nv2 ov2 : Value} (h : PFr pb nb w w1 sv nv ov sv1 nv1 ov1) (h' : PFr pb nb w1 w2 sv1 nv1 ov1 sv2 nv2 ov2) : PFr pb nb w w2 sv nv ov sv2 nv2 ov2 := by
 refine ⟨h'.os.trans h.os, h'.tape.trans h.tape, h'.output.trans h.output, Nat.le_trans h.size h'.size, ?_, ?_, ?_, ?_⟩
 ·intro k hk hp hnb hs hn ho
  rw [h'.blk k (Nat.lt_of_lt_of_le hk h.size) hp hnb (fun e => by rcases h.s k e with e | e; exact hs e; omega) (fun e => by rcases h.n k e with e | e; exact hn e; omega) (fun e => by rcases h.o k e with e | e; exact ho e; omega)]
  exact h.blk k hk hp hnb hs hn ho
 ·intro g hg
  rcases h'.s g hg with e | e
  ·exact h.s g e
  ·exact Or.inr (Nat.le_trans h.size e)
 ·intro g hg
  rcases h'.n g hg with e | e
  ·exact h.n g e
  ·exact Or.inr (Nat.le_trans h.size e)
 ·intro g hg
  rcases h'.o g hg with e | e
  ·exact h.o g e
  ·exact Or.inr (Nat.le_trans h.size e)
theorem PFr.below {w w' : World} (pb nb : Nat) (sv nv ov : Value) (h : Below w.heap.size w w') : PFr pb nb w w' sv nv ov sv nv ov := ⟨h.os, h.tape, h.output, h.size, fun k hk _ _ _ _ _ => h.block k hk, fun _ h => Or.inl h, fun _ h => Or.inl h, fun _ h => Or.inl h⟩
theorem PFr.nb {pb nb : Nat} {w w' : World} {sv nv ov sv' nv' ov' : Value} (h : PFr pb pb w w' sv nv ov sv' nv' ov') : PFr pb nb w w' sv nv ov sv' nv' ov' := ⟨h.os, h.tape, h.output, h.size, fun k hk hp _ hs hn ho => h.blk k hk hp hp hs hn ho, h.s, h.n, h.o⟩
theorem PIn.move {s : ByteArray} {placed : Bool} {pb : Nat} {w w' : World} {sv nv ov : Value} {st : PS} (h : PIn s placed pb w sv nv ov st) (l : List Tk) (fl : Option Nat)
  (hs : ∀ k, sv.ownBlock = some k → w'.heap[k]? = w.heap[k]?) (hn : ∀ k, nv.ownBlock = some k → w'.heap[k]? = w.heap[k]?) (ho : ∀ k, ov.ownBlock = some k → w'.heap[k]? = w.heap[k]?)
  (hy : ∃ fr, fr ≤ s.size ∧ tksAt s.data.toList fr = l ∧ w'.heap[pb]? = some (.cells (psCells s placed fr fl.isSome (fl.getD 0) sv nv ov) 127 (0, 0))) :
  PIn s placed pb w' sv nv ov { st with l := l, fl := fl } :=
 ⟨hy, owns_blk h.sc hs, owns_blk h.nd hn, owns_blk h.op ho, h.sy, h.ny, h.oy, h.sn, h.so, h.no⟩
theorem PIn.slt {s : ByteArray} {placed : Bool} {pb : Nat} {w : World} {sv nv ov : Value} {st : PS} (h : PIn s placed pb w sv nv ov st) : (∀ k, sv.ownBlock = some k → k < w.heap.size) ∧ (∀ k, nv.ownBlock = some k → k < w.heap.size) ∧ (∀ k, ov.ownBlock = some k → k < w.heap.size) ∧ pb < w.heap.size :=
 ⟨fun k hk => (h.sc.lt k hk).2, fun k hk => (h.nd.lt k hk).2, fun k hk => (h.op.lt k hk).2, by obtain ⟨fr, _, _, hy⟩ := h.y; exact blk_lt hy⟩
theorem PIn.below {s : ByteArray} {placed : Bool} {pb : Nat} {w w' : World} {sv nv ov : Value} {st : PS} (h : PIn s placed pb w sv nv ov st) (hb : Below w.heap.size w w') : PIn s placed pb w' sv nv ov st := by
 obtain ⟨h1, h2, h3, h4⟩ := h.slt
 obtain ⟨fr, hf1, hf2, hf3⟩ := h.y
 exact PIn.move h st.l st.fl (fun k hk => hb.block k (h1 k hk)) (fun k hk => hb.block k (h2 k hk)) (fun k hk => hb.block k (h3 k hk)) ⟨fr, hf1, hf2, by rw [hb.block pb h4]; exact hf3⟩
theorem alloc2_kept {w w2 : World} {A : Obj} {cs : Array Value} {t : TypeId} (hb : Below ((w.alloc A).alloc (.cells cs t)).drew.heap.size ((w.alloc A).alloc (.cells cs t)).drew w2) : w2.heap[w.heap.size + 1]? = some (.cells cs t (0, 0)) := by
 rw [hb.block (w.heap.size + 1) (by show w.heap.size + 1 < ((w.alloc A).alloc (.cells cs t)).heap.size; simp)]
 have h := blk_new (w.alloc A) (.cells cs t)
 have e : (w.alloc A).heap.size = w.heap.size + 1 := by simp
 rw [e] at h
 exact h
theorem tok_cells {w : World} {g : Nat} {t : TypeId} {a b c d e : Value} (h : w.heap[g]? = some (.cells #[a, b, c, d, e] t (0, 0))) : w.cell? ⟨g, 0, none⟩ = some a ∧ w.cell? ⟨g, 1, none⟩ = some b ∧ w.cell? ⟨g, 2, none⟩ = some c ∧ w.cell? ⟨g, 3, none⟩ = some d ∧ w.cell? ⟨g, 4, none⟩ = some e :=
 ⟨by rw [blk_cell h]; rfl, by rw [blk_cell h]; rfl, by rw [blk_cell h]; rfl, by rw [blk_cell h]; rfl, by rw [blk_cell h]; rfl⟩
theorem next_beh (s : ByteArray) (a : Nat) (ha : a ≤ s.size) : tksAt s.data.toList (tk1 s.size (tksAt s.data.toList a)).beh = (tksAt s.data.toList a).tail ∧ (tk1 s.size (tksAt s.data.toList a)).beh ≤ s.size := by
 obtain ⟨h1, h2⟩ := tks_skip s s.size a (by omega)
 have hnl := nbl_le (s.data.toList.drop a)
 rw [List.length_drop, size_list] at hnl
 rw [← h1]
 obtain ⟨p, hp⟩ : ∃ p, p = a + nbl (s.data.toList.drop a) := ⟨_, rfl⟩
 rw [← hp]
 have h3 : ∀ h : p < s.size, blankB s[p] = false := by subst hp; exact h2
 by_cases hlt : p < s.size
 ·have ht := tks_tok s p hlt (h3 hlt)
  rw [ht]
  have hlen := tkAt_len s p hlt
  have hle := tokenOf_le (s.data.toList.drop p) (by rw [drop_cons s p hlt]; simp)
  rw [List.length_drop, size_list] at hle
  have hb : (tk1 s.size (tkAt s p :: tksAt s.data.toList (p + (tokenOf (s.data.toList.drop p)).1))).beh = p + (tokenOf (s.data.toList.drop p)).1 := by
   show (tkAt s p).at_ + (tkAt s p).s.length = _
   rw [hlen]; rfl
  rw [hb]
  exact ⟨rfl, by omega⟩
 ·have ht := tks_end s p (by omega)
  rw [ht]
  exact ⟨tks_end s s.size (Nat.le_refl _), Nat.le_refl _⟩
theorem take_meet_b {w w2 : World} {T : TN} {A : Array Value} {t : TypeId} (hb : Below ((w.alloc (.cells A t)).drew).heap.size ((w.alloc (.cells A t)).drew) w2) :
  ∃ g, w.heap.size < g ∧ Value.pointer (some ⟨w2.heap.size, 0, none⟩) = .pointer (some ⟨g, 0, none⟩) ∧ (w2.alloc (.cells #[.int .i64 T.kind, .int .i64 T.at_, .int .i64 T.beh, .string (bs T.word), .int .i64 T.num] t)).heap[g]? = some (.cells #[.int .i64 T.kind, .int .i64 T.at_, .int .i64 T.beh, .string (bs T.word), .int .i64 T.num] t (0, 0)) ∧
   (w2.alloc (.cells #[.int .i64 T.kind, .int .i64 T.at_, .int .i64 T.beh, .string (bs T.word), .int .i64 T.num] t)).heap[w.heap.size]? = some (.cells A t (0, 0)) ∧ Below w.heap.size w (w2.alloc (.cells #[.int .i64 T.kind, .int .i64 T.at_, .int .i64 T.beh, .string (bs T.word), .int .i64 T.num] t)) := by
 have hs : w.heap.size + 1 ≤ w2.heap.size := by have := hb.size; simpa using this
 have h0 : w2.heap[w.heap.size]? = some (.cells A t (0, 0)) := by
  rw [hb.block w.heap.size (by show w.heap.size < (w.alloc (.cells A t)).heap.size; simp)]
  exact blk_new w (.cells A t)
 refine ⟨w2.heap.size, by omega, rfl, blk_new _ _, blk_alloc _ h0, ?_⟩
 have h1 : Below w.heap.size w (w.alloc (.cells A t)).drew := ((Below.refl _ w).alloc (Nat.le_refl _) (.cells A t)).trans ⟨rfl, rfl, rfl, Nat.le_refl _, fun _ _ => rfl⟩
 exact (h1.trans (hb.mono (by show w.heap.size ≤ (w.alloc (.cells A t)).heap.size; simp))).alloc (by omega) _
theorem take_meet_a {w w2 : World} {T : TN} {A : Array Value} {a b c d e : Value} {t : TypeId} (hb : Below ((w.alloc (.cells A t)).alloc (.cells #[a, b, c, d, e] t)).drew.heap.size ((w.alloc (.cells A t)).alloc (.cells #[a, b, c, d, e] t)).drew w2) :
  ∃ g, w.heap.size < g ∧ Value.pointer (some ⟨w.heap.size + 1, 0, none⟩) = .pointer (some ⟨g, 0, none⟩) ∧ (((((w2.setCell ⟨w.heap.size + 1, 0, none⟩ (.int .i64 T.kind)).setCell ⟨w.heap.size + 1, 1, none⟩ (.int .i64 T.at_)).setCell ⟨w.heap.size + 1, 2, none⟩ (.int .i64 T.beh)).setCell ⟨w.heap.size + 1, 3, none⟩ (.string (bs T.word))).setCell ⟨w.heap.size + 1, 4, none⟩ (.int .i64 T.num)).heap[g]? = some (.cells #[.int .i64 T.kind, .int .i64 T.at_, .int .i64 T.beh, .string (bs T.word), .int .i64 T.num] t (0, 0)) ∧
   (((((w2.setCell ⟨w.heap.size + 1, 0, none⟩ (.int .i64 T.kind)).setCell ⟨w.heap.size + 1, 1, none⟩ (.int .i64 T.at_)).setCell ⟨w.heap.size + 1, 2, none⟩ (.int .i64 T.beh)).setCell ⟨w.heap.size + 1, 3, none⟩ (.string (bs T.word))).setCell ⟨w.heap.size + 1, 4, none⟩ (.int .i64 T.num)).heap[w.heap.size]? = some (.cells A t (0, 0)) ∧
   Below w.heap.size w (((((w2.setCell ⟨w.heap.size + 1, 0, none⟩ (.int .i64 T.kind)).setCell ⟨w.heap.size + 1, 1, none⟩ (.int .i64 T.at_)).setCell ⟨w.heap.size + 1, 2, none⟩ (.int .i64 T.beh)).setCell ⟨w.heap.size + 1, 3, none⟩ (.string (bs T.word))).setCell ⟨w.heap.size + 1, 4, none⟩ (.int .i64 T.num)) := by
 have hq := alloc2_kept hb
 have h0 : w2.heap[w.heap.size]? = some (.cells A t (0, 0)) := by
  rw [hb.block w.heap.size (by show w.heap.size < ((w.alloc (.cells A t)).alloc (.cells #[a, b, c, d, e] t)).heap.size; simp; omega)]
  exact blk_alloc _ (blk_new w (.cells A t))
 refine ⟨w.heap.size + 1, by omega, rfl, ?_, ?_, ?_⟩
 ·exact blk_set (blk_set (blk_set (blk_set (blk_set hq 0 _) 1 _) 2 _) 3 _) 4 _
 ·rw [blk_other _ _ (by simp only; omega), blk_other _ _ (by simp only; omega), blk_other _ _ (by simp only; omega), blk_other _ _ (by simp only; omega), blk_other _ _ (by simp only; omega)]
  exact h0
 ·have h1 : Below w.heap.size w ((w.alloc (.cells A t)).alloc (.cells #[a, b, c, d, e] t)).drew := (((Below.refl _ w).alloc (Nat.le_refl _) (.cells A t)).alloc (by simp) (.cells #[a, b, c, d, e] t)).trans ⟨rfl, rfl, rfl, Nat.le_refl _, fun _ _ => rfl⟩
  have h2 := h1.trans (hb.mono (by show w.heap.size ≤ ((w.alloc (.cells A t)).alloc (.cells #[a, b, c, d, e] t)).heap.size; simp; omega))
  exact ((((h2.setCell (p := ⟨w.heap.size + 1, 0, none⟩) (by simp) _).setCell (p := ⟨w.heap.size + 1, 1, none⟩) (by simp) _).setCell (p := ⟨w.heap.size + 1, 2, none⟩) (by simp) _).setCell (p := ⟨w.heap.size + 1, 3, none⟩) (by simp) _).setCell (p := ⟨w.heap.size + 1, 4, none⟩) (by simp) _
set_option maxRecDepth 100000 in
set_option maxHeartbeats 2000000 in
theorem take_any (s : ByteArray) (placed : Bool) (pb : Nat) (w : World) (sv nv ov : Value) (st : PS) (hs : s.size ≤ 9000) (h : PIn s placed pb w sv nv ov st) :
  Calls Tryz.prog 118 #[ptr pb] w fun v w' => v = .returned (tnVal (tk1 s.size st.l)) ∧ PFr pb pb w w' sv nv ov sv nv ov ∧ PIn s placed pb w' sv nv ov st.tail := by
 obtain ⟨fr, hf1, hf2, hf3⟩ := h.y
 obtain ⟨l1, l2, l3, l4⟩ := h.slt
 have hnx := fun w => Next_any s fr w hs hf1
 have hnb := next_beh s fr hf1
 rw [hf2] at hnx hnb
 have y0 : w.cell? ⟨pb, 0, none⟩ = some (.string s) := by rw [blk_cell hf3]; rfl
 have y2 : w.cell? ⟨pb, 2, none⟩ = some (.int .i64 fr) := by rw [blk_cell hf3]; rfl
 have HNB : Hid _ := hnb
 have HH : Hid _ := h
 have HF3 : Hid _ := hf3
 have HL1 : Hid _ := l1
 have HL2 : Hid _ := l2
 have HL3 : Hid _ := l3
 generalize tk1 s.size st.l = T at hnx HNB
 unfold tnVal at hnx
 clear hf1 hf2 hf3 hnb h l1 l2 l3
 show Calls _ _ #[Value.pointer (some ⟨pb, 0, none⟩)] w _
 go_enter Tryz.func118, Tryz.ntmps118
 go_upto_region 1 with fail
 go_cut [3] from 4 to 12 (fun t3 wx => ∃ g, w.heap.size < g ∧ t3 = .pointer (some ⟨g, 0, none⟩) ∧ wx.heap[g]? = some (.cells #[.int .i64 T.kind, .int .i64 T.at_, .int .i64 T.beh, .string (bs T.word), .int .i64 T.num] 159 (0, 0)) ∧
   wx.heap[w.heap.size]? = some (.cells #[.int .i64 0, .int .i64 0, .int .i64 0, .string ⟨#[]⟩, .int .i64 0] 159 (0, 0)) ∧ Below w.heap.size w wx)
 case first =>
  go_region_with (go_at_call 130; refine (hnx _).mono ?_; rintro e w2 ⟨rfl, hb2⟩; (try (have hq := alloc2_kept hb2; obtain ⟨c0, c1, c2, c3, c4⟩ := tok_cells hq; have f0 := blk_free hq 0; have f1 := blk_free hq 1; have f2 := blk_free hq 2; have f3 := blk_free hq 3; have f4 := blk_free hq 4)))
  all_goals (go_wp2_with fail; go_meet)
  all_goals first
   | exact take_meet_b hb2
   | exact take_meet_a hb2
 case rest =>
 obtain ⟨g, hg, rfl, hcg, hcr, hbc⟩ := hcut
 obtain ⟨c0, c1, c2, c3, c4⟩ := tok_cells hcg
 have yc : wc.heap[pb]? = some (.cells (psCells s placed fr st.fl.isSome (st.fl.getD 0) sv nv ov) 127 (0, 0)) := by rw [hbc.block pb l4]; exact HF3.out
 have z2 : wc.cell? ⟨pb, 2, none⟩ = some (.int .i64 fr) := by rw [blk_cell yc]; rfl
 have zf2 : wc.frozen? ⟨pb, 2, none⟩ = false := blk_free yc 2
 have hgp : g ≠ pb := by omega
 have hrp : w.heap.size ≠ pb := by omega
 have hr2 : (wc.setCell ⟨pb, 2, none⟩ (.int .i64 T.beh)).heap[w.heap.size]? = some (.cells #[.int .i64 0, .int .i64 0, .int .i64 0, .string ⟨#[]⟩, .int .i64 0] 159 (0, 0)) := by
  rw [blk_other _ _ (by simp only; omega)]; exact hcr
 have HYC : Hid _ := yc
 have HBC : Hid _ := hbc
 have hgw := blk_lt hcg
 clear yc hbc hcr hcg y0 y2 hnx
 go_wp2_with (refine st_row rfl 159 (.tmp 2) (.tmp 18) rfl w.heap.size #[.int .i64 T.kind, .int .i64 T.at_, .int .i64 T.beh, .string (bs T.word), .int .i64 T.num] rfl rfl 159 _ hr2 Tryz.infoTN rfl (tn_one T) ?_; intro W hW hWs hWo hW1 hW2 hW3)
 obtain ⟨d0, d1, d2, d3, d4⟩ := tok_cells hW
 refine bodyPost_ret (v := .agg #[.int .i64 T.kind, .int .i64 T.at_, .int .i64 T.beh, .string (bs T.word), .int .i64 T.num]) (by simp [results, Tryz.results118, go_sem, d0, d1, d2, d3, d4]) rfl ⟨rfl, ?_, ?_⟩
 ·have hb := HBC.out
  refine ⟨hW1.trans hb.os, hW2.trans hb.tape, hW3.trans hb.output, by rw [hWs]; simp only [World.setCell, Array.size_modify]; exact hb.size, ?_, fun _ h => Or.inl h, fun _ h => Or.inl h, fun _ h => Or.inl h⟩
  intro k hk hkp _ _ _ _
  rw [hWo k (by omega), blk_other _ _ (by simpa using hkp)]
  exact hb.block k hk
 ·have kp : ∀ k, k < w.heap.size → k ≠ pb → W.heap[k]? = w.heap[k]? := by
   intro k hk hkp
   rw [hWo k (by omega), blk_other _ _ (by simpa using hkp)]
   exact HBC.out.block k hk
  refine PIn.move HH.out st.tail.l st.tail.fl (fun k hk => kp k (HL1.out k hk) (fun e => HH.out.sy (by rw [hk, e]))) (fun k hk => kp k (HL2.out k hk) (fun e => HH.out.ny (by rw [hk, e]))) (fun k hk => kp k (HL3.out k hk) (fun e => HH.out.oy (by rw [hk, e]))) ⟨T.beh, HNB.out.2, HNB.out.1, ?_⟩
  rw [hWo pb (by omega)]
  exact blk_set HYC.out 2 _
set_option maxRecDepth 100000 in
set_option maxHeartbeats 2000000 in
theorem fail_any (s : ByteArray) (placed : Bool) (pb : Nat) (w : World) (sv nv ov : Value) (st : PS) (a : Nat) (h : PIn s placed pb w sv nv ov st) :
  Calls Tryz.prog 119 #[ptr pb, .int .i64 a] w fun v w' => v = .returned (.tuple #[]) ∧ PFr pb pb w w' sv nv ov sv nv ov ∧ PIn s placed pb w' sv nv ov (st.fail a) := by
 obtain ⟨fr, hf1, hf2, hf3⟩ := h.y
 have y0 : w.cell? ⟨pb, 0, none⟩ = some (.string s) := by rw [blk_cell hf3]; rfl
 have y2 : w.cell? ⟨pb, 2, none⟩ = some (.int .i64 fr) := by rw [blk_cell hf3]; rfl
 have y3 : w.cell? ⟨pb, 3, none⟩ = some (.bool st.fl.isSome) := by rw [blk_cell hf3]; rfl
 have y4 : w.cell? ⟨pb, 4, none⟩ = some (.int .i64 (st.fl.getD 0)) := by rw [blk_cell hf3]; rfl
 have g2 : w.frozen? ⟨pb, 2, none⟩ = false := blk_free hf3 2
 have g3 : w.frozen? ⟨pb, 3, none⟩ = false := blk_free hf3 3
 have g4 : w.frozen? ⟨pb, 4, none⟩ = false := blk_free hf3 4
 have HH : Hid _ := h
 have HF3 : Hid _ := hf3
 have hpb := blk_lt hf3
 clear hf1 hf2 hf3 h
 show Calls _ _ #[Value.pointer (some ⟨pb, 0, none⟩), _] w _
 cases hfl : st.fl with
 | some q =>
  have e : st.fail a = st := by unfold PS.fail; rw [hfl]
  rw [hfl] at y3 y4
  rw [e]
  simp only [Option.isSome_some] at y3
  clear e hfl
  go_enter Tryz.func119, Tryz.ntmps119
  go_wp2
  refine bodyPost_ret (v := .tuple #[]) (by simp [results, Tryz.results119, go_sem]) rfl ⟨rfl, PFr.refl _ _ _ _ _ _, HH.out⟩
 | none =>
  have e : st.fail a = { st with l := [], fl := some a } := by unfold PS.fail; rw [hfl]
  rw [hfl] at y3 y4
  rw [e]
  simp only [Option.isSome_none] at y3
  have HFL : Hid _ := hfl
  clear e hfl
  go_enter Tryz.func119, Tryz.ntmps119
  go_wp2
  refine bodyPost_end (v := .tuple #[]) (by simp [results, Tryz.results119, go_sem]) rfl ⟨rfl, ?_, ?_⟩
  ·refine ⟨rfl, rfl, rfl, by simp [World.setCell], ?_, fun _ h => Or.inl h, fun _ h => Or.inl h, fun _ h => Or.inl h⟩
   intro k hk hkp _ _ _ _
   rw [blk_other _ _ (by simpa using hkp), blk_other _ _ (by simpa using hkp), blk_other _ _ (by simpa using hkp)]
  ·have kp : ∀ k, k ≠ pb → (((w.setCell ⟨pb, 3, none⟩ (.bool true)).setCell ⟨pb, 4, none⟩ (.int .i64 a)).setCell ⟨pb, 2, none⟩ (.int .i64 s.size)).heap[k]? = w.heap[k]? := by
    intro k hkp
    rw [blk_other _ _ (by simpa using hkp), blk_other _ _ (by simpa using hkp), blk_other _ _ (by simpa using hkp)]
   refine PIn.move HH.out [] (some a) (fun k hk => kp k (fun e => HH.out.sy (by rw [hk, e]))) (fun k hk => kp k (fun e => HH.out.ny (by rw [hk, e]))) (fun k hk => kp k (fun e => HH.out.oy (by rw [hk, e]))) ⟨s.size, Nat.le_refl _, tks_end s s.size (Nat.le_refl _), ?_⟩
   exact blk_set (blk_set (blk_set HF3.out 3 _) 4 _) 2 _
theorem res_end {s : ByteArray} {placed : Bool} {pb nb : Nat} {w w1 w2 W : World} {A : Obj} {sv nv ov sv' nv' ov' : Value} {st st' : PS} (h : PIn s placed pb w sv nv ov st) (hfr : PFr pb nb (w.alloc A) w1 sv nv ov sv' nv' ov') (hin : PIn s placed pb w1 sv' nv' ov' st')
  (hb : Below w1.heap.size w1 w2) (hWs : W.heap.size = w2.heap.size) (hWo : ∀ k, k ≠ w.heap.size → W.heap[k]? = w2.heap[k]?) (e1 : W.os = w2.os) (e2 : W.tape = w2.tape) (e3 : W.output = w2.output) :
  PFr pb nb w W sv nv ov sv' nv' ov' ∧ PIn s placed pb W sv' nv' ov' st' := by
 obtain ⟨l1, l2, l3, l4⟩ := h.slt
 have hsz : w.heap.size + 1 ≤ w1.heap.size := by have := hfr.size; simpa using this
 have hbs := hb.size
 have f0 : PFr pb nb w w1 sv nv ov sv' nv' ov' := (PFr.below pb nb sv nv ov ((Below.refl _ w).alloc (Nat.le_refl _) A)).trans hfr
 have f1 := f0.trans (PFr.below pb nb sv' nv' ov' hb)
 refine ⟨⟨e1.trans f1.os, e2.trans f1.tape, e3.trans f1.output, by rw [hWs]; exact f1.size, fun k hk hp hn a b c => by rw [hWo k (by omega)]; exact f1.blk k hk hp hn a b c, f1.s, f1.n, f1.o⟩, ?_⟩
 obtain ⟨m1, m2, m3, m4⟩ := hin.slt
 have hal : (w.alloc A).heap.size = w.heap.size + 1 := by simp
 have kp : ∀ k, k < w1.heap.size → k ≠ w.heap.size → W.heap[k]? = w1.heap[k]? := fun k hk hne => by rw [hWo k hne]; exact hb.block k hk
 obtain ⟨fr, y1, y2, y3⟩ := hin.y
 refine PIn.move hin st'.l st'.fl (fun k hk => kp k (m1 k hk) ?_) (fun k hk => kp k (m2 k hk) ?_) (fun k hk => kp k (m3 k hk) ?_) ⟨fr, y1, y2, by rw [kp pb m4 (by omega)]; exact y3⟩
 ·rcases hfr.s k hk with e | e
  ·have := l1 k e; omega
  ·omega
 ·rcases hfr.n k hk with e | e
  ·have := l2 k e; omega
  ·omega
 ·rcases hfr.o k hk with e | e
  ·have := l3 k e; omega
  ·omega
theorem PFr.newBlk {pb nb : Nat} {w w1 : World} {A : Obj} {sv nv ov sv' nv' ov' : Value} (hfr : PFr pb nb (w.alloc A) w1 sv nv ov sv' nv' ov') (l1 : ∀ k, sv.ownBlock = some k → k < w.heap.size) (l2 : ∀ k, nv.ownBlock = some k → k < w.heap.size) (l3 : ∀ k, ov.ownBlock = some k → k < w.heap.size) (l4 : pb < w.heap.size) (l5 : nb < w.heap.size) :
  w1.heap[w.heap.size]? = some A := by
 rw [hfr.blk w.heap.size (by simp) (by omega) (by omega) (fun e => by have := l1 _ e; omega) (fun e => by have := l2 _ e; omega) (fun e => by have := l3 _ e; omega)]
 exact blk_new _ _
set_option maxRecDepth 100000 in
set_option maxHeartbeats 2000000 in
theorem expect_any (s : ByteArray) (placed : Bool) (pb : Nat) (w : World) (sv nv ov : Value) (st : PS) (k : Nat) (hs : s.size ≤ 9000) (h : PIn s placed pb w sv nv ov st) :
  Calls Tryz.prog 92 #[ptr pb, .int .i64 k] w fun v w' => v = .returned (tnVal (tk1 s.size st.l)) ∧ PFr pb pb w w' sv nv ov sv nv ov ∧ PIn s placed pb w' sv nv ov (st.expect s.size k) := by
 have htk := fun w h => take_any s placed pb w sv nv ov st hs h
 have hfa := fun w a h => fail_any s placed pb w sv nv ov st.tail a h
 have HH : Hid _ := h
 obtain ⟨l1, l2, l3, l4⟩ := h.slt
 have HL1 : Hid _ := l1
 have HL2 : Hid _ := l2
 have HL3 : Hid _ := l3
 have hex : st.expect s.size k = if (tk1 s.size st.l).kind ≠ k then st.tail.fail (tk1 s.size st.l).at_ else st.tail := rfl
 rw [hex]
 clear hex l1 l2 l3 h
 generalize tk1 s.size st.l = T at htk
 unfold tnVal ptr at htk
 unfold ptr at hfa
 have ha : PIn s placed pb (w.alloc (.cells #[.int .i64 0, .int .i64 0, .int .i64 0, .string ⟨#[]⟩, .int .i64 0] 159)) sv nv ov st := HH.out.below ((Below.refl _ w).alloc (Nat.le_refl _) _)
 have htk' := htk _ ha
 show Calls _ _ #[Value.pointer (some ⟨pb, 0, none⟩), _] w _
 clear htk ha
 by_cases hk : T.kind = k
 ·have hkb : ((T.kind : Int) != (k : Int)) = false := by simp [hk]
  rw [if_neg (by simp [hk])]
  clear hk hfa
  go_enter Tryz.func92, Tryz.ntmps92
  go_wp2_with fail
  refine htk'.mono ?_
  rintro _ w1 ⟨rfl, hfr, hin⟩
  have hs1 : w.heap.size + 1 ≤ w1.heap.size := by have := hfr.size; simpa using this
  have hrb : w1.heap[w.heap.size]? = some (.cells #[.int .i64 0, .int .i64 0, .int .i64 0, .string ⟨#[]⟩, .int .i64 0] 159 (0, 0)) := by
   rw [hfr.blk w.heap.size (by simp) (by omega) (by omega) (fun e => by have := HL1.out _ e; omega) (fun e => by have := HL2.out _ e; omega) (fun e => by have := HL3.out _ e; omega)]
   exact blk_new _ _
  have hrb2 := blk_alloc (.cells #[.int .i64 T.kind, .int .i64 T.at_, .int .i64 T.beh, .string (bs T.word), .int .i64 T.num] 159) hrb
  have HFR : Hid _ := hfr
  have HIN : Hid _ := hin
  have hgne : w.heap.size ≠ w1.heap.size := by omega
  clear hfr hin hrb htk'
  go_wp2_with (refine st_row rfl 159 (.tmp 4) (.tmp 16) rfl w.heap.size #[.int .i64 T.kind, .int .i64 T.at_, .int .i64 T.beh, .string (bs T.word), .int .i64 T.num] rfl rfl 159 _ hrb2 Tryz.infoTN rfl (tn_one T) ?_; intro W hW hWs hWo hW1 hW2 hW3)
  obtain ⟨d0, d1, d2, d3, d4⟩ := tok_cells hW
  refine bodyPost_ret (v := .agg #[.int .i64 T.kind, .int .i64 T.at_, .int .i64 T.beh, .string (bs T.word), .int .i64 T.num]) (by simp [results, Tryz.results92, go_sem, d0, d1, d2, d3, d4]) rfl ⟨rfl, res_end HH.out HFR.out HIN.out ((Below.refl _ w1).alloc (Nat.le_refl _) _) hWs hWo hW1 hW2 hW3⟩
 ·have hkb : ((T.kind : Int) != (k : Int)) = true := by simp; omega
  rw [if_pos hk]
  clear hk
  go_enter Tryz.func92, Tryz.ntmps92
  go_wp2_with fail
  refine htk'.mono ?_
  rintro _ w1 ⟨rfl, hfr, hin⟩
  have hrb := hfr.newBlk HL1.out HL2.out HL3.out l4 l4
  have hs1 : w.heap.size + 1 ≤ w1.heap.size := by have := hfr.size; simpa using this
  have HFR : Hid _ := hfr
  have HIN : Hid _ := hin
  have hgne : w.heap.size ≠ w1.heap.size := by omega
  clear hfr hin htk'
  go_wp2_with fail
  refine (hfa _ T.at_ (HIN.out.below ((Below.refl _ w1).alloc (Nat.le_refl _) _))).mono ?_
  rintro _ w3 ⟨rfl, hfr3, hin3⟩
  have hlt := HIN.out.slt
  have hq := hfr3.newBlk hlt.1 hlt.2.1 hlt.2.2.1 hlt.2.2.2 hlt.2.2.2
  obtain ⟨c0, c1, c2, c3, c4⟩ := tok_cells hq
  have hrb3 : w3.heap[w.heap.size]? = some (.cells #[.int .i64 0, .int .i64 0, .int .i64 0, .string ⟨#[]⟩, .int .i64 0] 159 (0, 0)) := by
   rw [hfr3.blk w.heap.size (by simp; omega) (by omega) (by omega) (fun e => by have := HL1.out _ e; omega) (fun e => by have := HL2.out _ e; omega) (fun e => by have := HL3.out _ e; omega)]
   exact blk_alloc _ hrb
  have HF3 : Hid _ := HFR.out.trans ((PFr.below pb pb sv nv ov ((Below.refl _ w1).alloc (Nat.le_refl _) _)).trans hfr3)
  have HIN3 : Hid _ := hin3
  clear hfr3 hin3 hq hlt hrb
  go_wp2_with (refine st_row rfl 159 (.tmp 4) (.tmp 16) rfl w.heap.size #[.int .i64 T.kind, .int .i64 T.at_, .int .i64 T.beh, .string (bs T.word), .int .i64 T.num] rfl rfl 159 _ hrb3 Tryz.infoTN rfl (tn_one T) ?_; intro W hW hWs hWo hW1 hW2 hW3)
  obtain ⟨d0, d1, d2, d3, d4⟩ := tok_cells hW
  refine bodyPost_ret (v := .agg #[.int .i64 T.kind, .int .i64 T.at_, .int .i64 T.beh, .string (bs T.word), .int .i64 T.num]) (by simp [results, Tryz.results92, go_sem, d0, d1, d2, d3, d4]) rfl ⟨rfl, res_end HH.out HF3.out HIN3.out (Below.refl _ _) hWs hWo hW1 hW2 hW3⟩
theorem step_own {P : Program} {ops : Array Oper} {o : Oper} {a : Act} {w : World} {K : Act → World → Prop} {Q : Exit → Act → World → Prop} {E : Prop}
  (hg : o.guard = none) (s x : Operand) (t : TypeId) (hop : o.op = Op.call { callee := Callee.builtin Builtin.append, args := #[s, x], argTypes := #[t, t] })
  (e : TypeId) (i : TypeInfo) (z : Value) (size bytes : Nat) (h1 : P.underlying t = some (.slice e)) (h2 : P.info? e = some i) (h3 : i.zero = some z) (h4 : i.size = size) (h5 : i.bytes = bytes) (h6 : z.cells.size = size) (h7 : 0 < size)
  (v : Value) (n : Nat) (xs : List Value) (hs : a.eval s = v) (hown : w.ownsRow 0 e size v n xs)
  (ad : Addr) (m c : Nat) (news : List Value) (hx : a.eval x = .slice (some ad) m c) (hn : news.length = m * size) (hc : ∀ j u, news[j]? = some u → w.cell? (ad.add j) = some u) (h1c : ∀ u ∈ news, u.oneCell' = true)
  (hm : 0 < m) (b1 : n + m ≤ maxLen) (b2 : (n + m) * bytes ≤ 140737488355328)
  (hK : ∀ (g cap : Nat) (w' : World), w'.ownsRow 0 e size (.slice (some ⟨g, 0, none⟩) (n + m) cap) (n + m) (xs ++ news) → w.grownBy w' v.ownBlock → (v.ownBlock = some g ∨ w.heap.size ≤ g) → K (a.put o.dst (.slice (some ⟨g, 0, none⟩) (n + m) cap)) w') :
  if Region.wanted o (yielded ops a.tmps) = true then Oper.wp P o a w K Q else E := by
 have hw : Region.wanted o (yielded ops a.tmps) = true := by simp [Region.wanted, hg]
 rw [if_pos hw]
 have fin : ∀ (v' : Value) (w' : World), w'.ownsRow w.heap.size e size v' (n + m) (xs ++ news) → w.grownBy w' none → K (a.put o.dst v') w' := by
  intro v' w' ho' hg'
  obtain ⟨g, cap, hv'⟩ : ∃ g cap, v' = .slice (some ⟨g, 0, none⟩) (n + m) cap := by
   rcases ho'.2 with ⟨_, hh⟩ | ⟨g, cap, cur, hv, _⟩
   ·omega
   ·exact ⟨_, _, hv⟩
  subst hv'
  have hlt := ho'.lt g rfl
  exact hK g cap w' (owns_base ho' (fun k hk => Nat.zero_le _)) ⟨hg'.os, hg'.tape, hg'.output, hg'.size, fun k hk _ => hg'.block k hk (by simp)⟩ (Or.inr hlt.1)
 rcases hown.2 with ⟨hv, hn0⟩ | ⟨g, cap, cur, hv, hgb, hh, hn', hcm, hcs, htake⟩
 ·subst hn0
  have hxs : xs = [] := List.length_eq_zero_iff.1 (by have := hown.1; omega)
  subst hxs
  obtain ⟨v', w', hrun, r1, r2, _⟩ := run_append_own (P := P) w w.heap.size t o.type e i z size bytes h1 h2 h3 h4 h5 h6 h7 (.slice none 0 0) 0 [] (World.ownsRow_nil w _ e size) ad m c news hn hc h1c b1 b2 (Nat.le_refl _)
  unfold Oper.wp
  rw [hv] at hs
  simp [execOp, hop, resolve, invoke, builtin, hs, hx, hrun, Result.andThen]
  exact fin v' w' r1 r2
 ·by_cases hroom : n + m ≤ cap
  ·have hown' := hown
   rw [hv] at hown' hs
   obtain ⟨w', hrun, r1, r2⟩ := run_append_fits (P := P) w 0 t o.type e i size h1 h2 h4 g n cap xs hown' ad m c news hn hc h1c hroom
   unfold Oper.wp
   simp [execOp, hop, resolve, invoke, builtin, hs, hx, hrun, Result.andThen]
   exact hK g cap w' r1 (by rw [hv]; exact r2) (Or.inl (by rw [hv]; rfl))
  ·obtain ⟨v', w', hrun, r1, r2⟩ := run_append_arg_grows (P := P) w t o.type e i z size bytes h1 h2 h3 h4 h5 h6 h7 ⟨g, 0, none⟩ n cap xs hown.1 (fun j u hj => hown.cells (by rw [hv]; rfl) j u hj) ad m c news hn hc (by omega) b1 b2
   unfold Oper.wp
   rw [hv] at hs
   simp [execOp, hop, resolve, invoke, builtin, hs, hx, hrun, Result.andThen]
   exact fin v' w' r1 r2
theorem Tryz.infoNode : (Tryz.prog.info? 108).map (fun i => (i.zero, i.size, i.bytes)) = some (some (.agg #[.int .i64 0, .int .i64 0, .int .i64 0, .int .i64 0, .string ⟨#[]⟩, .int .i64 0, .int .i64 0, .int .i64 0, .int .i64 0, .int .i64 0]), 10, 88) := by kernel_rfl
theorem Tryz.undNodes : Tryz.prog.underlying 60 = some (.slice 108) := by kernel_rfl
theorem Tryz.infoBind : (Tryz.prog.info? 190).map (fun i => (i.zero, i.size, i.bytes)) = some (some (.agg #[.string ⟨#[]⟩, .int .i64 0]), 2, 24) := by kernel_rfl
theorem Tryz.undBinds : Tryz.prog.underlying 125 = some (.slice 190) := by kernel_rfl
def nrVal (n : NR) : Value := .agg #[.int .i64 n.form, .int .i64 n.at_, .int .i64 n.beh, .int .i64 n.num, .string (bs n.word), .int .i64 n.region, .int .i64 n.source, .int .i64 n.p0, .int .i64 n.p1, .int .i64 n.p2]
theorem flat2 : ∀ (l : List (List UInt8 × Int)) (i : Nat), (l.flatMap scL)[i * 2]? = (l[i]?).map (fun x => Value.string (bs x.1)) ∧ (l.flatMap scL)[i * 2 + 1]? = (l[i]?).map (fun x => Value.int .i64 x.2)
 | [], i => by simp
 | x :: l, 0 => by simp [scL]
 | x :: l, i + 1 => by
  have := flat2 l i
  rw [List.flatMap_cons, show (i + 1) * 2 = (scL x).length + i * 2 from by simp [scL]; omega, List.getElem?_append_right (by omega), Nat.add_sub_cancel_left, show (scL x).length + i * 2 + 1 = (scL x).length + (i * 2 + 1) from by omega, List.getElem?_append_right (by omega), Nat.add_sub_cancel_left]
  simpa using this
theorem findS_take (l : List (List UInt8 × Int)) (k : Nat) (hk : k < l.length) (u : List UInt8) : findS (l.take (k + 1)) u = if l[k].1 == u then l[k].2 else findS (l.take k) u := by
 unfold findS
 rw [List.take_succ_eq_append_getElem hk, List.reverse_append, List.reverse_singleton, List.singleton_append, List.find?_cons]
 cases h : (l[k].1 == u) <;> simp
set_option maxRecDepth 100000 in
set_option maxHeartbeats 2000000 in
theorem find_any (s : ByteArray) (placed : Bool) (pb : Nat) (w : World) (sv nv ov : Value) (st : PS) (u : List UInt8) (hl : st.scope.length ≤ 9000) (h : PIn s placed pb w sv nv ov st) :
  Calls Tryz.prog 128 #[ptr pb, .string (bs u)] w fun v w' => v = .returned (.int .i64 (findS st.scope u)) ∧ w' = w := by
 obtain ⟨fr, hf1, hf2, hf3⟩ := h.y
 have hsc := h.sc
 obtain ⟨scope, hscope⟩ : ∃ x, x = st.scope := ⟨_, rfl⟩
 rw [← hscope] at hsc hl ⊢
 obtain ⟨n, hn⟩ : ∃ n, n = scope.length := ⟨_, rfl⟩
 rw [← hn] at hsc hl
 have hsv : (∃ g cap, sv = .slice (some ⟨g, 0, none⟩) n cap) ∨ (sv = .slice none 0 0 ∧ n = 0) := by
  rcases hsc.2 with ⟨h1, h2⟩ | ⟨g, cap, cur, h1, _⟩
  ·exact Or.inr ⟨h1, h2⟩
  ·exact Or.inl ⟨g, cap, h1⟩
 have y5 : w.cell? ⟨pb, 5, none⟩ = some sv := by rw [blk_cell hf3]; rfl
 have HN : Hid _ := hn
 show Calls _ _ #[Value.pointer (some ⟨pb, 0, none⟩), _] w _
 clear hf3 hf1 hf2 h hscope hn
 obtain ⟨ao, cap, rfl, hcell⟩ : ∃ ao cap, sv = .slice ao n cap ∧ (∀ j, j < n → ∃ g, ao = some ⟨g, 0, none⟩ ∧ w.cell? ⟨g, j * 2, none⟩ = (scope[j]?).map (fun x => Value.string (bs x.1)) ∧ w.cell? ⟨g, j * 2 + 1, none⟩ = (scope[j]?).map (fun x => Value.int .i64 x.2)) := by
  rcases hsv with ⟨g, cap, rfl⟩ | ⟨rfl, h0⟩
  ·refine ⟨_, cap, rfl, fun j hj => ⟨g, rfl, ?_, ?_⟩⟩
   ·have h1 := hsc.cellAt (j * 2) (by omega)
    rw [h1, (flat2 scope j).1]
   ·have h1 := hsc.cellAt (j * 2 + 1) (by omega)
    rw [h1, (flat2 scope j).2]
  ·exact ⟨none, 0, by rw [h0], fun j hj => by omega⟩
 clear hsv hsc
 have HCELL : Hid _ := hcell
 clear hcell
 go_enter Tryz.func128, Tryz.ntmps128
 go_wp2
 go_loop [5] (fun i => ∃ k : Nat, k ≤ n ∧ i = .int .i64 ((k : Int) - 1) ∧ findS scope u = findS (scope.take k) u) (fun i => (intOf i + 1).toNat)
 case atStart => exact ⟨n, Nat.le_refl _, rfl, by rw [HN.out, List.take_length]⟩
 case round =>
  obtain ⟨k, hk, rfl, hr⟩ := hrel
  have HR : Hid _ := hr
  clear hr
  cases k with
  | zero =>
   go_wp2
   go_ret
   exact ⟨ret_int (by rw [HR.out]; rfl), rfl⟩
  | succ k =>
   obtain ⟨g, rfl, hc1, hc2⟩ := HCELL.out k (by omega)
   have hkl : k < scope.length := by have := HN.out; omega
   rw [List.getElem?_eq_getElem hkl] at hc1 hc2
   simp only [Option.map_some] at hc1 hc2
   have hft := findS_take scope k hkl u
   have ek : ((k + 1 : Nat) : Int) - 1 = (k : Int) := by omega
   rw [ek]
   cases hb : (scope[k].1 == u) with
   | true =>
    have q : ((bs scope[k].1).toList == (bs u).toList) = true := by rw [bs_beq, Lib.toList_data]; exact hb
    rw [hb] at hft
    have HFT : Hid _ := hft
    clear hft hb ek
    go_wp2
    go_ret
    exact ⟨ret_int (by rw [HR.out, HFT.out]; rfl), rfl⟩
   | false =>
    have q : ((bs scope[k].1).toList == (bs u).toList) = false := by rw [bs_beq, Lib.toList_data]; exact hb
    rw [hb] at hft
    have HFT : Hid _ := hft
    clear hft hb ek
    go_wp2
    go_round
    case rel => exact ⟨k, by omega, rfl, by rw [HR.out, HFT.out]; rfl⟩
    case measure => simp [intOf]
theorem grown_blk {W0 w' : World} {row : Option Nat} {pb : Nat} {X : Obj} (hg : W0.grownBy w' row) (hp : W0.heap[pb]? = some X) (hne : row ≠ some pb) : w'.heap[pb]? = some X := by
 rw [hg.block pb (blk_lt hp) (fun e => hne e.symm)]; exact hp
theorem PIn.addN {s : ByteArray} {placed : Bool} {pb : Nat} {w W0 w' : World} {sv nv ov : Value} {st : PS} (h : PIn s placed pb w sv nv ov st) (n : NR) {g cap : Nat} (hW : Below w.heap.size w W0) (hg : W0.grownBy w' nv.ownBlock)
  (hown : w'.ownsRow 0 108 10 (.slice (some ⟨g, 0, none⟩) (st.nodes.length + 1) cap) (st.nodes.length + 1) (st.nodes.flatMap nrL ++ nrL n)) (hor : nv.ownBlock = some g ∨ W0.heap.size ≤ g) :
  PFr pb pb w (w'.setCell ⟨pb, 6, none⟩ (.slice (some ⟨g, 0, none⟩) (st.nodes.length + 1) cap)) sv nv ov sv (.slice (some ⟨g, 0, none⟩) (st.nodes.length + 1) cap) ov ∧ PIn s placed pb (w'.setCell ⟨pb, 6, none⟩ (.slice (some ⟨g, 0, none⟩) (st.nodes.length + 1) cap)) sv (.slice (some ⟨g, 0, none⟩) (st.nodes.length + 1) cap) ov { st with nodes := st.nodes ++ [n] } := by
 obtain ⟨l1, l2, l3, l4⟩ := h.slt
 have hWs := hW.size
 have hgs := hg.size
 obtain ⟨fr, y1, y2, y3⟩ := h.y
 have yW : W0.heap[pb]? = some (.cells (psCells s placed fr st.fl.isSome (st.fl.getD 0) sv nv ov) 127 (0, 0)) := by rw [hW.block pb l4]; exact y3
 have yw := grown_blk hg yW h.ny
 have hgp : g ≠ pb := by
  rcases hor with e | e
  ·intro e'; rw [e'] at e; exact h.ny e
  ·omega
 have kp : ∀ k, k < w.heap.size → k ≠ pb → nv.ownBlock ≠ some k → (w'.setCell ⟨pb, 6, none⟩ (.slice (some ⟨g, 0, none⟩) (st.nodes.length + 1) cap)).heap[k]? = w.heap[k]? := by
  intro k hk hkp hne
  rw [blk_other _ _ (by simpa using hkp), hg.block k (by omega) (fun e => hne e.symm), hW.block k hk]
 refine ⟨⟨hg.os.trans hW.os, hg.tape.trans hW.tape, hg.output.trans hW.output, by simp only [World.setCell, Array.size_modify]; omega, fun k hk hp _ hs hn ho => kp k hk hp hn, fun _ h => Or.inl h, fun g' hg' => by simp only [Value.ownBlock, Option.some.injEq] at hg'; subst hg'; rcases hor with e | e; exact Or.inl e; exact Or.inr (by omega), fun _ h => Or.inl h⟩, ?_⟩
 refine ⟨⟨fr, y1, y2, blk_set yw 6 _⟩, owns_blk h.sc (fun k hk => kp k (l1 k hk) (fun e => h.sy (by rw [hk, e])) (fun e => h.sn k hk e)), by have := owns_blk (w' := w'.setCell ⟨pb, 6, none⟩ (.slice (some ⟨g, 0, none⟩) (st.nodes.length + 1) cap)) hown (fun k hk => by simp only [Value.ownBlock, Option.some.injEq] at hk; subst hk; exact blk_other _ _ (by simpa using hgp)); simpa using this, owns_blk h.op (fun k hk => kp k (l3 k hk) (fun e => h.oy (by rw [hk, e])) (fun e => h.no.symm k hk e)), h.sy, by simp only [Value.ownBlock, ne_eq, Option.some.injEq]; exact hgp, h.oy, (fun k hk hk' => by
   simp only [Value.ownBlock, Option.some.injEq] at hk'
   rcases hor with e | e
   ·rw [hk'] at e; exact h.sn k hk e
   ·have := l1 k hk; omega), h.so, (fun k hk hk' => by
   simp only [Value.ownBlock, Option.some.injEq] at hk
   rcases hor with e | e
   ·rw [hk] at e; exact h.no.symm k hk' e
   ·have := l3 k hk'; omega)⟩
theorem PIn.addS {s : ByteArray} {placed : Bool} {pb : Nat} {w W0 w' : World} {sv nv ov : Value} {st : PS} (h : PIn s placed pb w sv nv ov st) (x : List UInt8 × Int) {g cap : Nat} (hW : Below w.heap.size w W0) (hg : W0.grownBy w' sv.ownBlock)
  (hown : w'.ownsRow 0 190 2 (.slice (some ⟨g, 0, none⟩) (st.scope.length + 1) cap) (st.scope.length + 1) (st.scope.flatMap scL ++ scL x)) (hor : sv.ownBlock = some g ∨ W0.heap.size ≤ g) :
  PFr pb pb w (w'.setCell ⟨pb, 5, none⟩ (.slice (some ⟨g, 0, none⟩) (st.scope.length + 1) cap)) sv nv ov (.slice (some ⟨g, 0, none⟩) (st.scope.length + 1) cap) nv ov ∧ PIn s placed pb (w'.setCell ⟨pb, 5, none⟩ (.slice (some ⟨g, 0, none⟩) (st.scope.length + 1) cap)) (.slice (some ⟨g, 0, none⟩) (st.scope.length + 1) cap) nv ov { st with scope := st.scope ++ [x] } := by
 obtain ⟨l1, l2, l3, l4⟩ := h.slt
 have hWs := hW.size
 have hgs := hg.size
 obtain ⟨fr, y1, y2, y3⟩ := h.y
 have yW : W0.heap[pb]? = some (.cells (psCells s placed fr st.fl.isSome (st.fl.getD 0) sv nv ov) 127 (0, 0)) := by rw [hW.block pb l4]; exact y3
 have yw := grown_blk hg yW h.sy
 have hgp : g ≠ pb := by
  rcases hor with e | e
  ·intro e'; rw [e'] at e; exact h.sy e
  ·omega
 have kp : ∀ k, k < w.heap.size → k ≠ pb → sv.ownBlock ≠ some k → (w'.setCell ⟨pb, 5, none⟩ (.slice (some ⟨g, 0, none⟩) (st.scope.length + 1) cap)).heap[k]? = w.heap[k]? := by
  intro k hk hkp hne
  rw [blk_other _ _ (by simpa using hkp), hg.block k (by omega) (fun e => hne e.symm), hW.block k hk]
 refine ⟨⟨hg.os.trans hW.os, hg.tape.trans hW.tape, hg.output.trans hW.output, by simp only [World.setCell, Array.size_modify]; omega, fun k hk hp _ hs hn ho => kp k hk hp hs, fun g' hg' => by simp only [Value.ownBlock, Option.some.injEq] at hg'; subst hg'; rcases hor with e | e; exact Or.inl e; exact Or.inr (by omega), fun _ h => Or.inl h, fun _ h => Or.inl h⟩, ?_⟩
 refine ⟨⟨fr, y1, y2, blk_set yw 5 _⟩, by have := owns_blk (w' := w'.setCell ⟨pb, 5, none⟩ (.slice (some ⟨g, 0, none⟩) (st.scope.length + 1) cap)) hown (fun k hk => by simp only [Value.ownBlock, Option.some.injEq] at hk; subst hk; exact blk_other _ _ (by simpa using hgp)); simpa using this, owns_blk h.nd (fun k hk => kp k (l2 k hk) (fun e => h.ny (by rw [hk, e])) (fun e => h.sn.symm k hk e)), owns_blk h.op (fun k hk => kp k (l3 k hk) (fun e => h.oy (by rw [hk, e])) (fun e => h.so.symm k hk e)), by simp only [Value.ownBlock, ne_eq, Option.some.injEq]; exact hgp, h.ny, h.oy, (fun k hk hk' => by
   simp only [Value.ownBlock, Option.some.injEq] at hk
   rcases hor with e | e
   ·rw [hk] at e; exact h.sn.symm k hk' e
   ·have := l2 k hk'; omega), (fun k hk hk' => by
   simp only [Value.ownBlock, Option.some.injEq] at hk
   rcases hor with e | e
   ·rw [hk] at e; exact h.so.symm k hk' e
   ·have := l3 k hk'; omega), h.no⟩
theorem PIn.addO {s : ByteArray} {placed : Bool} {pb : Nat} {w W0 w' : World} {sv nv ov : Value} {st : PS} (h : PIn s placed pb w sv nv ov st) (x : Int) {g cap : Nat} (hW : Below w.heap.size w W0) (hg : W0.grownBy w' ov.ownBlock)
  (hown : w'.ownsRow 0 3 1 (.slice (some ⟨g, 0, none⟩) (st.opened.length + 1) cap) (st.opened.length + 1) (st.opened.map intV ++ [intV x])) (hor : ov.ownBlock = some g ∨ W0.heap.size ≤ g) :
  PFr pb pb w (w'.setCell ⟨pb, 7, none⟩ (.slice (some ⟨g, 0, none⟩) (st.opened.length + 1) cap)) sv nv ov sv nv (.slice (some ⟨g, 0, none⟩) (st.opened.length + 1) cap) ∧ PIn s placed pb (w'.setCell ⟨pb, 7, none⟩ (.slice (some ⟨g, 0, none⟩) (st.opened.length + 1) cap)) sv nv (.slice (some ⟨g, 0, none⟩) (st.opened.length + 1) cap) { st with opened := st.opened ++ [x] } := by
 obtain ⟨l1, l2, l3, l4⟩ := h.slt
 have hWs := hW.size
 have hgs := hg.size
 obtain ⟨fr, y1, y2, y3⟩ := h.y
 have yW : W0.heap[pb]? = some (.cells (psCells s placed fr st.fl.isSome (st.fl.getD 0) sv nv ov) 127 (0, 0)) := by rw [hW.block pb l4]; exact y3
 have yw := grown_blk hg yW h.oy
 have hgp : g ≠ pb := by
  rcases hor with e | e
  ·intro e'; rw [e'] at e; exact h.oy e
  ·omega
 have kp : ∀ k, k < w.heap.size → k ≠ pb → ov.ownBlock ≠ some k → (w'.setCell ⟨pb, 7, none⟩ (.slice (some ⟨g, 0, none⟩) (st.opened.length + 1) cap)).heap[k]? = w.heap[k]? := by
  intro k hk hkp hne
  rw [blk_other _ _ (by simpa using hkp), hg.block k (by omega) (fun e => hne e.symm), hW.block k hk]
 refine ⟨⟨hg.os.trans hW.os, hg.tape.trans hW.tape, hg.output.trans hW.output, by simp only [World.setCell, Array.size_modify]; omega, fun k hk hp _ hs hn ho => kp k hk hp ho, fun _ h => Or.inl h, fun _ h => Or.inl h, fun g' hg' => by simp only [Value.ownBlock, Option.some.injEq] at hg'; subst hg'; rcases hor with e | e; exact Or.inl e; exact Or.inr (by omega)⟩, ?_⟩
 refine ⟨⟨fr, y1, y2, blk_set yw 7 _⟩, owns_blk h.sc (fun k hk => kp k (l1 k hk) (fun e => h.sy (by rw [hk, e])) (fun e => h.so k hk e)), owns_blk h.nd (fun k hk => kp k (l2 k hk) (fun e => h.ny (by rw [hk, e])) (fun e => h.no k hk e)), by have := owns_blk (w' := w'.setCell ⟨pb, 7, none⟩ (.slice (some ⟨g, 0, none⟩) (st.opened.length + 1) cap)) hown (fun k hk => by simp only [Value.ownBlock, Option.some.injEq] at hk; subst hk; exact blk_other _ _ (by simpa using hgp)); simpa using this, h.sy, h.ny, by simp only [Value.ownBlock, ne_eq, Option.some.injEq]; exact hgp, h.sn, (fun k hk hk' => by
   simp only [Value.ownBlock, Option.some.injEq] at hk'
   rcases hor with e | e
   ·rw [hk'] at e; exact h.so k hk e
   ·have := l1 k hk; omega), (fun k hk hk' => by
   simp only [Value.ownBlock, Option.some.injEq] at hk'
   rcases hor with e | e
   ·rw [hk'] at e; exact h.no k hk e
   ·have := l2 k hk; omega)⟩
theorem nr_one (n : NR) : ∀ u ∈ nrL n, u.oneCell' = true := by intro u hu; simp only [nrL, List.mem_cons, List.not_mem_nil, or_false] at hu; rcases hu with rfl | rfl | rfl | rfl | rfl | rfl | rfl | rfl | rfl | rfl <;> rfl
set_option maxRecDepth 100000 in
set_option maxHeartbeats 4000000 in
theorem add_any (s : ByteArray) (placed : Bool) (pb : Nat) (w : World) (sv nv ov : Value) (st : PS) (n : NR) (hl : st.nodes.length ≤ 9000) (h : PIn s placed pb w sv nv ov st) :
  Calls Tryz.prog 127 #[ptr pb, nrVal n] w fun v w' => v = .returned (.int .i64 st.nodes.length) ∧ ∃ nv', PFr pb pb w w' sv nv ov sv nv' ov ∧ PIn s placed pb w' sv nv' ov (st.add n) := by
 obtain ⟨i0, hi, hz0, hz1, hz2⟩ := info_parts Tryz.infoNode
 have HI : Hid _ := hi
 have HZ0 : Hid _ := hz0
 have HZ1 : Hid _ := hz1
 have HZ2 : Hid _ := hz2
 clear hi hz0 hz1 hz2
 obtain ⟨fr, hf1, hf2, hf3⟩ := h.y
 have hpb := blk_lt hf3
 have y6 : w.cell? ⟨pb, 6, none⟩ = some nv := by rw [blk_cell hf3]; rfl
 obtain ⟨B, hB⟩ : ∃ B : Obj, B = .cells #[.int .i64 n.form, .int .i64 n.at_, .int .i64 n.beh, .int .i64 n.num, .string (bs n.word), .int .i64 n.region, .int .i64 n.source, .int .i64 n.p0, .int .i64 n.p1, .int .i64 n.p2] 108 := ⟨_, rfl⟩
 have hW : Below w.heap.size w ((w.alloc B).alloc B).drew := (((Below.refl _ w).alloc (Nat.le_refl _) B).alloc (by simp) B).trans ⟨rfl, rfl, rfl, Nat.le_refl _, fun _ _ => rfl⟩
 have HW : Hid _ := hW
 have HOWN : Hid (((w.alloc B).alloc B).drew.ownsRow 0 108 10 nv st.nodes.length (st.nodes.flatMap nrL)) := owns_below h.nd hW
 have HC1 : Hid (∀ (j : Nat) (u : Value), (nrL n)[j]? = some u → ((w.alloc B).alloc B).drew.cell? ((⟨w.heap.size + 1, 0, none⟩ : Addr).add j) = some u) := by
  intro j u hj
  have hq := alloc_cell_at (w.alloc B) (nrL n) 108 j
  have e : (w.alloc B).heap.size = w.heap.size + 1 := by simp
  rw [e] at hq
  rw [← hj, ← hq, hB]; rfl
 have HYW : Hid (((w.alloc B).alloc B).drew.heap[pb]? = some (.cells (psCells s placed fr st.fl.isSome (st.fl.getD 0) sv nv ov) 127 (0, 0))) := by
  show ((w.alloc B).alloc B).drew.heap[pb]? = _
  rw [hW.block pb hpb]; exact hf3
 have HH : Hid _ := h
 have HNY : Hid _ := h.ny
 clear hf1 hf2 hf3 h hW
 show Calls _ _ #[Value.pointer (some ⟨pb, 0, none⟩), Value.agg _] w _
 go_enter Tryz.func127, Tryz.ntmps127
 subst hB
 go_wp2
 go_region_law (refine step_own rfl (.tmp 10) (.tmp 12) 60 rfl 108 i0 _ 10 88 Tryz.undNodes HI.out HZ0.out HZ1.out HZ2.out rfl (by decide) nv st.nodes.length (st.nodes.flatMap nrL) (by simp [Act.eval]) HOWN.out ⟨w.heap.size + 1, 0, none⟩ 1 1 (nrL n) (by simp [Act.eval]) rfl HC1.out (nr_one n) (by decide) (by unfold maxLen; omega) (by omega) ?_; intro g cap w' hown hgrow hor; have hpb' := grown_blk hgrow HYW.out HNY.out; have c6 : w'.cell? ⟨pb, 6, none⟩ = some nv := (by rw [blk_cell hpb']; rfl); have f6 := blk_free hpb' 6)
 all_goals
  have hadd := PIn.addN HH.out n HW.out hgrow hown hor
  have HADD : Hid _ := hadd
  clear hadd hown hgrow hor
  go_wp2
  go_ret
  exact ⟨ret_int (by omega), _, HADD.out⟩
end Go.Proofs.YtpicaknklgccoabGreatDoor
