import Derived.Test.YtglkpkmdoohdcaaDoorRp
import Derived.Test.YtglkpkmdoohdcaaDoorRl
namespace Go.Proofs.YtglkpkmdoohdcaaDoor
open Go.RowKit
open Go.Lib (decDigits)

def strV (l : List UInt8) : Value := .string (bs l)
/-- two slices do not lie in one block -/
def apart (u v : Value) : Prop := ∀ g, u.ownBlock = some g → v.ownBlock ≠ some g
theorem apart.symm {u v : Value} (h : apart u v) : apart v u := fun g hg hu => h g hu hg

/-- how a Typing lies in memory -/
structure TyIn (w0 w : World) (yb : Nat) (cls : List Nat) (cv nv tv ov : Value) (env : TEnv) (st : TSt) : Prop where
  b0 : Below w0.heap.size w0 w
  hyb : w0.heap.size ≤ yb
  y : w.heap[yb]? = some (.cells (tyCells cv nv tv ov st.e st.at_) 86 (0, 0))
  c : w.ownsRow w0.heap.size 3 1 cv cls.length (cls.map fun (k : Nat) => Value.int .i64 k)
  n : w.ownsRow w0.heap.size 9 1 nv env.length (env.map fun x => strV x.1)
  t : w.ownsRow w0.heap.size 9 1 tv env.length (env.map fun x => strV x.2.txt)
  o : w.ownsRow w0.heap.size 9 1 ov st.of.length (st.of.map strV)
  cy : cv.ownBlock ≠ some yb
  ny : nv.ownBlock ≠ some yb
  ty : tv.ownBlock ≠ some yb
  oy : ov.ownBlock ≠ some yb
  cn : apart cv nv
  ct : apart cv tv
  co : apart cv ov
  nt : apart nv tv
  no : apart nv ov
  to : apart tv ov

/-- what a call on a Typing leaves alone; where its rows lie now -/
structure Fr (w w' : World) (yb : Nat) (nv tv ov nv' tv' : Value) : Prop where
  size : w.heap.size ≤ w'.heap.size
  blk : ∀ k, k < w.heap.size → k ≠ yb → nv.ownBlock ≠ some k → tv.ownBlock ≠ some k → ov.ownBlock ≠ some k → w'.heap[k]? = w.heap[k]?
  n : ∀ g, nv'.ownBlock = some g → nv.ownBlock = some g ∨ w.heap.size ≤ g
  t : ∀ g, tv'.ownBlock = some g → tv.ownBlock = some g ∨ w.heap.size ≤ g
theorem Fr.refl (w : World) (yb : Nat) (nv tv ov : Value) : Fr w w yb nv tv ov nv tv := ⟨Nat.le_refl _, fun _ _ _ _ _ _ => rfl, fun _ h => Or.inl h, fun _ h => Or.inl h⟩
theorem Fr.trans {w w1 w2 : World} {yb : Nat} {nv tv ov nv1 tv1 nv2 tv2 : Value} (h : Fr w w1 yb nv tv ov nv1 tv1) (h' : Fr w1 w2 yb nv1 tv1 ov nv2 tv2) : Fr w w2 yb nv tv ov nv2 tv2 := by
  refine ⟨Nat.le_trans h.size h'.size, ?_, ?_, ?_⟩
  · intro k hk hy hn ht ho
    rw [h'.blk k (Nat.lt_of_lt_of_le hk h.size) hy (fun e => by rcases h.n k e with e | e; exact hn e; omega) (fun e => by rcases h.t k e with e | e; exact ht e; omega) ho]
    exact h.blk k hk hy hn ht ho
  · intro g hg
    rcases h'.n g hg with e | e
    · exact h.n g e
    · exact Or.inr (Nat.le_trans h.size e)
  · intro g hg
    rcases h'.t g hg with e | e
    · exact h.t g e
    · exact Or.inr (Nat.le_trans h.size e)
theorem Fr.below {w w' : World} (h : Below w.heap.size w w') (yb : Nat) (nv tv ov : Value) : Fr w w' yb nv tv ov nv tv := ⟨h.size, fun k hk _ _ _ _ => h.block k hk, fun _ h => Or.inl h, fun _ h => Or.inl h⟩
theorem Fr.grown {w w' : World} {yb : Nat} (h : w.grownBy w' (some yb)) (nv tv ov : Value) : Fr w w' yb nv tv ov nv tv := ⟨h.size, fun k hk hy _ _ _ => h.block k hk (fun e => by cases e; exact hy rfl), fun _ h => Or.inl h, fun _ h => Or.inl h⟩
theorem Fr.set {w w' : World} {yb g o : Nat} {x : Value} (nv tv ov : Value) (ho : ov.ownBlock = some g) (hW : w'.heap = (w.setCell ⟨g, o, none⟩ x).heap) : Fr w w' yb nv tv ov nv tv :=
  ⟨by rw [hW]; simp [World.setCell], fun k _ _ _ _ h => by rw [hW, blk_other _ _ (by simp only; intro e; subst e; exact h ho)], fun _ h => Or.inl h, fun _ h => Or.inl h⟩

/-- what find is good for, at a tree: everything below w0 stays; the Typing is as tyFind says -/
def FindOk (w0 : World) (yb : Nat) (cls : List Nat) (t : PT) : Prop :=
  ∀ (id site b : Nat) (F : Nat → Prop) (env : TEnv) (st : TSt) (cv nv tv ov : Value) (w : World), IsT w0 F t id site b → TyIn w0 w yb cls cv nv tv ov env st →
    id + t.cnt ≤ st.of.length → site + t.prs ≤ cls.length → (∀ x ∈ env, x.2.fit) → (st.e = 0 → ∀ x ∈ env, x.2.size ≤ 63) → env.length + t.cnt ≤ 9000 →
    Calls Tryd.prog 58 #[ptr yb, ptr b] w fun v w' => v = .returned (.string (bs (tyFind cls t id site env st).1.txt)) ∧
      ∃ nv' tv', Fr w w' yb nv tv ov nv' tv' ∧ TyIn w0 w' yb cls cv nv' tv' ov env (tyFind cls t id site env st).2

def FormOk (w0 : World) (yb : Nat) (cls : List Nat) (t : PT) (f : Nat → Nat → TEnv → TSt → Ty × TSt) : Prop :=
  ∀ (id site b : Nat) (F : Nat → Prop) (env : TEnv) (st : TSt) (cv nv tv ov : Value) (w : World), IsT w0 F t id site b → TyIn w0 w yb cls cv nv tv ov env st →
    id + t.cnt ≤ st.of.length → site + t.prs ≤ cls.length → (∀ x ∈ env, x.2.fit) → (st.e = 0 → ∀ x ∈ env, x.2.size ≤ 63) → env.length + t.cnt ≤ 9000 →
    Calls Tryd.prog 83 #[ptr yb, ptr b] w fun v w' => v = .returned (.string (bs (f id site env st).1.txt)) ∧
      ∃ nv' tv', Fr w w' yb nv tv ov nv' tv' ∧ TyIn w0 w' yb cls cv nv' tv' ov env (f id site env st).2

def PT.pl : PT → Nat
  | .num p _ => p
  | .name p _ => p
  | .node p _ _ _ _ => p

theorem isT_blk {w : World} {F : Nat → Prop} {t : PT} {id site b : Nat} (h : IsT w F t id site b) : ∃ op nm n kv last, w.heap[b]? = some (.cells (exCells op t.pl nm n kv id last site) 82 (0, 0)) := by
  cases t with
  | num p s => simp only [IsT] at h; exact ⟨_, _, _, _, _, h.2⟩
  | name p s => simp only [IsT] at h; exact ⟨_, _, _, _, _, h.2⟩
  | node p k nm rg kids => simp only [IsT] at h; obtain ⟨_, kv, bl, h1, _⟩ := h; exact ⟨_, _, _, _, _, h1⟩

/-- a store into the Typing's own error and place -/
theorem TyIn.err {w0 w w' : World} {yb : Nat} {cls : List Nat} {cv nv tv ov : Value} {env : TEnv} {st : TSt} (h : TyIn w0 w yb cls cv nv tv ov env st) (hg : w.grownBy w' (some yb)) {e p : Nat}
    (hy : w'.heap[yb]? = some (.cells (tyCells cv nv tv ov e p) 86 (0, 0))) : TyIn w0 w' yb cls cv nv tv ov env { st with e := e, at_ := p } := by
  have keep : ∀ (v : Value) (base : Nat) (ty : TypeId) (n : Nat) (xs : List Value), w.ownsRow base ty 1 v n xs → v.ownBlock ≠ some yb → w'.ownsRow base ty 1 v n xs := by
    intro v base ty n xs ho hv
    exact owns_blk ho (fun k hk => hg.block k (ho.lt k hk).2 (fun e => by cases e; exact hv hk))
  refine ⟨?_, h.hyb, hy, keep _ _ _ _ _ h.c h.cy, keep _ _ _ _ _ h.n h.ny, keep _ _ _ _ _ h.t h.ty, keep _ _ _ _ _ h.o h.oy, h.cy, h.ny, h.ty, h.oy, h.cn, h.ct, h.co, h.nt, h.no, h.to⟩
  refine h.b0.trans ⟨hg.os, hg.tape, hg.output, hg.size, fun k hk => hg.block k (by have := h.b0.size; omega) (fun e => by cases e; have := h.hyb; omega)⟩

/-- a store into Of -/
theorem TyIn.setOf {w0 w w' : World} {yb : Nat} {cls : List Nat} {cv nv tv : Value} {env : TEnv} {st : TSt} {g cap : Nat} (h : TyIn w0 w yb cls cv nv tv (.slice (some ⟨g, 0, none⟩) st.of.length cap) env st) (id : Nat) (x : List UInt8)
    (hW : w'.heap = (w.setCell ⟨g, id, none⟩ (strV x)).heap) (h1 : w'.os = w.os) (h2 : w'.tape = w.tape) (h3 : w'.output = w.output) :
    TyIn w0 w' yb cls cv nv tv (.slice (some ⟨g, 0, none⟩) (st.of.set id x).length cap) env { st with of := st.of.set id x } := by
  have hlt := h.o.lt g rfl
  have hoth : ∀ k, k ≠ g → w'.heap[k]? = w.heap[k]? := fun k hk => by rw [hW, blk_other _ _ (by simpa using hk)]
  have hs : w'.heap.size = w.heap.size := by rw [hW]; simp [World.setCell]
  have keep : ∀ (v : Value) (base : Nat) (ty : TypeId) (n : Nat) (xs : List Value), w.ownsRow base ty 1 v n xs → apart v (.slice (some ⟨g, 0, none⟩) st.of.length cap) → w'.ownsRow base ty 1 v n xs := by
    intro v base ty n xs ho hv
    exact owns_blk ho (fun k hk => hoth k (fun e => hv k hk (by rw [e]; rfl)))
  have ho' := (h.o.stored id (strV x)).1
  refine ⟨?_, h.hyb, ?_, keep _ _ _ _ _ h.c h.co, keep _ _ _ _ _ h.n h.no, keep _ _ _ _ _ h.t h.to, ?_, h.cy, h.ny, h.ty, ?_, h.cn, h.ct, ?_, h.nt, ?_, ?_⟩
  · exact h.b0.trans ⟨h1, h2, h3, by omega, fun k hk => hoth k (by omega)⟩
  · rw [hoth yb (fun e => h.oy (by rw [e]; rfl))]
    have e : (st.of.set id x).length = st.of.length := by simp
    rw [e]; exact h.y
  · have e : (st.of.set id x).length = st.of.length := by simp
    show w'.ownsRow _ _ _ (.slice (some ⟨g, 0, none⟩) (st.of.set id x).length cap) (st.of.set id x).length ((st.of.set id x).map strV)
    rw [e, List.map_set]
    exact owns_blk ho' (fun k _ => by rw [hW])
  · exact h.oy
  · exact h.co
  · exact h.no
  · exact h.to
end Go.Proofs.YtglkpkmdoohdcaaDoor
