import Derived.Test.YtpicaknklgccoaaGreatDoorX10
import Derived.Test.YtpicaknklgccoaaGreatDoorX5
import Derived.Test.YtpicaknklgccoaaGreatDoorX3
import Derived.Shelf.Lay
import Derived.Shelf.LaysM
import Derived.Shelf.Strconv.Itoa3
import Derived.Lib.AppendIntMem
import Derived.Test.YtpicaknklgccoaaGreatDoorX8
/- leaseref's Tale in memory; names are bound and let go. -/
namespace Go.Proofs.YtpicaknklgccoaaGreatDoor
open Go.RowKit

def taCells (nv tv : Value) (fuel : Nat) (st : ESt) : Array Value := #[nv, tv, .int .i64 fuel, .int .i64 st.steps, .int .i64 st.cells, .int .i64 st.e]
/-- how a Tale lies in memory -/
structure TaIn (w0 w : World) (yb : Nat) (nv tv : Value) (env : VEnv) (fuel : Nat) (st : ESt) : Prop where
  b0 : Below w0.heap.size w0 w
  hyb : w0.heap.size ≤ yb
  y : w.heap[yb]? = some (.cells (taCells nv tv fuel st) 70 (0, 0))
  n : w.ownsRow w0.heap.size 9 1 nv env.length (env.map fun x => strV x.1)
  t : w.ownsRow w0.heap.size 9 1 tv env.length (env.map fun x => strV x.2.txt)
  ny : nv.ownBlock ≠ some yb
  ty : tv.ownBlock ≠ some yb
  nt : apart nv tv
/-- as TaIn, names and values told apart -/
structure TaG (w0 w : World) (yb : Nat) (nv tv : Value) (ns ts : List (List UInt8)) (fuel : Nat) (st : ESt) : Prop where
  b0 : Below w0.heap.size w0 w
  hyb : w0.heap.size ≤ yb
  y : w.heap[yb]? = some (.cells (taCells nv tv fuel st) 70 (0, 0))
  n : w.ownsRow w0.heap.size 9 1 nv ns.length (ns.map strV)
  t : w.ownsRow w0.heap.size 9 1 tv ts.length (ts.map strV)
  ny : nv.ownBlock ≠ some yb
  ty : tv.ownBlock ≠ some yb
  nt : apart nv tv

theorem TaIn.toG {w0 w : World} {yb : Nat} {nv tv : Value} {env : VEnv} {fuel : Nat} {st : ESt} (h : TaIn w0 w yb nv tv env fuel st) : TaG w0 w yb nv tv (env.map (·.1)) (env.map (·.2.txt)) fuel st :=
  ⟨h.b0, h.hyb, h.y, by rw [List.length_map, List.map_map]; exact h.n, by rw [List.length_map, List.map_map]; exact h.t, h.ny, h.ty, h.nt⟩
theorem TaG.toIn {w0 w : World} {yb : Nat} {nv tv : Value} {env : VEnv} {fuel : Nat} {st : ESt} (h : TaG w0 w yb nv tv (env.map (·.1)) (env.map (·.2.txt)) fuel st) : TaIn w0 w yb nv tv env fuel st :=
  ⟨h.b0, h.hyb, h.y, by have := h.n; rw [List.length_map, List.map_map] at this; exact this, by have := h.t; rw [List.length_map, List.map_map] at this; exact this, h.ny, h.ty, h.nt⟩
/-- new blocks and draws leave a Tale as it was -/
theorem TaIn.grow {w0 w w' : World} {yb : Nat} {nv tv : Value} {env : VEnv} {fuel : Nat} {st : ESt} (h : TaIn w0 w yb nv tv env fuel st) (hb : Below w.heap.size w w') : TaIn w0 w' yb nv tv env fuel st :=
  ⟨h.b0.trans (hb.mono h.b0.size), h.hyb, by rw [hb.block yb (blk_lt h.y)]; exact h.y, owns_below h.n hb, owns_below h.t hb, h.ny, h.ty, h.nt⟩
/-- a number of a Tale is stored -/
theorem TaIn.set {w0 w : World} {yb : Nat} {nv tv : Value} {env : VEnv} {fuel : Nat} {st st' : ESt} (h : TaIn w0 w yb nv tv env fuel st) (o : Nat) (x : Value) (hx : (taCells nv tv fuel st).setIfInBounds o x = taCells nv tv fuel st') :
    TaIn w0 (w.setCell ⟨yb, o, none⟩ x) yb nv tv env fuel st' := by
  have oth : ∀ b, b ≠ yb → (w.setCell ⟨yb, o, none⟩ x).heap[b]? = w.heap[b]? := fun b hb => blk_other _ _ (by simpa using hb)
  refine ⟨h.b0.setCell (p := ⟨yb, o, none⟩) h.hyb _, h.hyb, by rw [← hx]; exact blk_set h.y o x, ?_, ?_, h.ny, h.ty, h.nt⟩
  · exact owns_blk h.n (fun k hk => oth k (fun e => h.ny (by rw [← e]; exact hk)))
  · exact owns_blk h.t (fun k hk => oth k (fun e => h.ty (by rw [← e]; exact hk)))

/-- the names appended to, and the new slice stored -/
theorem TaG.pushN {w0 w w3 W : World} {yb : Nat} {nv tv : Value} {ns ts : List (List UInt8)} {fuel : Nat} {st : ESt} {x : List UInt8} {g cap : Nat} {A : Obj}
    (h : TaG w0 w yb nv tv ns ts fuel st) (hg : (w.alloc A).grownBy w3 nv.ownBlock) (ho : w3.ownsRow 0 9 1 (.slice (some ⟨g, 0, none⟩) (ns.length + 1) cap) (ns.length + 1) (ns.map strV ++ [strV x]))
    (hgg : nv.ownBlock = some g ∨ (w.alloc A).heap.size ≤ g) (hW : W = w3.setCell ⟨yb, 0, none⟩ (.slice (some ⟨g, 0, none⟩) (ns.length + 1) cap)) :
    TaG w0 W yb (.slice (some ⟨g, 0, none⟩) (ns.length + 1) cap) tv (ns ++ [x]) ts fuel st ∧ Fr w W yb nv tv (.slice none 0 0) (.slice (some ⟨g, 0, none⟩) (ns.length + 1) cap) tv := by
  have hb0 := h.b0.size
  have hyl := blk_lt h.y
  have ea : (w.alloc A).heap.size = w.heap.size + 1 := by simp
  have hs3 := hg.size
  rw [ea] at hgg hs3
  have hsW : W.heap.size = w3.heap.size := by rw [hW]; simp [World.setCell]
  have hnlt : ∀ g, nv.ownBlock = some g → w0.heap.size ≤ g ∧ g < w.heap.size := fun g hg => h.n.lt g hg
  have o3 : ∀ b, b < w.heap.size → nv.ownBlock ≠ some b → w3.heap[b]? = w.heap[b]? := by
    intro b hb hn
    rw [hg.block b (by rw [ea]; omega) (fun e => hn e.symm), Below.heap_alloc _ _ _ hb]
  have oW : ∀ b, b < w.heap.size → b ≠ yb → nv.ownBlock ≠ some b → W.heap[b]? = w.heap[b]? := by
    intro b hb hby hn
    rw [hW, blk_other _ _ (by simpa using hby), o3 b hb hn]
  have keep : ∀ (v : Value) (base : Nat) (ty : TypeId) (n : Nat) (xs : List Value), w.ownsRow base ty 1 v n xs → v.ownBlock ≠ some yb → apart v nv → W.ownsRow base ty 1 v n xs := by
    intro v base ty n xs hv h1 h2
    exact owns_blk hv (fun k hk => oW k (hv.lt k hk).2 (fun e => h1 (by rw [← e]; exact hk)) (h2 k hk))
  have hgy : g ≠ yb := by
    intro e
    rcases hgg with hh | hh
    · exact h.ny (by rw [hh, e])
    · omega
  have hgb : w0.heap.size ≤ g := by
    rcases hgg with hh | hh
    · exact (hnlt g hh).1
    · omega
  have hap : ∀ (v : Value) (base : Nat) (ty : TypeId) (n : Nat) (xs : List Value), w.ownsRow base ty 1 v n xs → apart v nv → apart v (.slice (some ⟨g, 0, none⟩) (ns.length + 1) cap) := by
    intro v base ty n xs hv h2 k hk hk'
    simp only [Value.ownBlock, Option.some.injEq] at hk'
    subst hk'
    rcases hgg with hh | hh
    · exact h2 _ hk hh
    · have := (hv.lt _ hk).2; omega
  have hyW : W.heap[yb]? = some (.cells (taCells (.slice (some ⟨g, 0, none⟩) (ns.length + 1) cap) tv fuel st) 70 (0, 0)) := by
    rw [hW]
    refine (blk_set (arr := taCells nv tv fuel st) ?_ 0 _).trans rfl
    rw [o3 yb hyl h.ny]; exact h.y
  refine ⟨⟨?_, h.hyb, hyW, ?_, keep _ _ _ _ _ h.t h.ty h.nt.symm, ?_, h.ty, (hap _ _ _ _ _ h.t h.nt.symm).symm⟩, ⟨by omega, fun k hk hy hn _ _ => oW k hk hy hn, fun g' hg' => by simp only [Value.ownBlock, Option.some.injEq] at hg'; subst hg'; rcases hgg with e | e; exact Or.inl e; exact Or.inr (by omega), fun _ h => Or.inl h⟩⟩
  · refine h.b0.trans ⟨?_, ?_, ?_, by omega, fun k hk => oW k (by omega) (by have := h.hyb; omega) (fun e => by have := hnlt k e; omega)⟩
    · rw [hW]; exact hg.os
    · rw [hW]; exact hg.tape
    · rw [hW]; exact hg.output
  · have e1 : (ns ++ [x]).length = ns.length + 1 := by simp
    have e2 : (ns ++ [x]).map strV = ns.map strV ++ [strV x] := by simp
    rw [e1, e2]
    refine owns_base (owns_blk ho (fun k hk => ?_)) (fun k hk => ?_)
    · simp only [Value.ownBlock, Option.some.injEq] at hk
      subst hk
      rw [hW, blk_other _ _ (by simpa using hgy)]
    · simp only [Value.ownBlock, Option.some.injEq] at hk
      subst hk; exact hgb
  · simp only [Value.ownBlock, ne_eq, Option.some.injEq]; exact hgy

/-- the types appended to, and the new slice stored -/
theorem TaG.pushT {w0 w w3 W : World} {yb : Nat} {nv tv : Value} {ns ts : List (List UInt8)} {fuel : Nat} {st : ESt} {x : List UInt8} {g cap : Nat} {A : Obj}
    (h : TaG w0 w yb nv tv ns ts fuel st) (hg : (w.alloc A).grownBy w3 tv.ownBlock) (ho : w3.ownsRow 0 9 1 (.slice (some ⟨g, 0, none⟩) (ts.length + 1) cap) (ts.length + 1) (ts.map strV ++ [strV x]))
    (hgg : tv.ownBlock = some g ∨ (w.alloc A).heap.size ≤ g) (hW : W = w3.setCell ⟨yb, 1, none⟩ (.slice (some ⟨g, 0, none⟩) (ts.length + 1) cap)) :
    TaG w0 W yb nv (.slice (some ⟨g, 0, none⟩) (ts.length + 1) cap) ns (ts ++ [x]) fuel st ∧ Fr w W yb nv tv (.slice none 0 0) nv (.slice (some ⟨g, 0, none⟩) (ts.length + 1) cap) := by
  have hb0 := h.b0.size
  have hyl := blk_lt h.y
  have ea : (w.alloc A).heap.size = w.heap.size + 1 := by simp
  have hs3 := hg.size
  rw [ea] at hgg hs3
  have hsW : W.heap.size = w3.heap.size := by rw [hW]; simp [World.setCell]
  have hnlt : ∀ g, tv.ownBlock = some g → w0.heap.size ≤ g ∧ g < w.heap.size := fun g hg => h.t.lt g hg
  have o3 : ∀ b, b < w.heap.size → tv.ownBlock ≠ some b → w3.heap[b]? = w.heap[b]? := by
    intro b hb hn
    rw [hg.block b (by rw [ea]; omega) (fun e => hn e.symm), Below.heap_alloc _ _ _ hb]
  have oW : ∀ b, b < w.heap.size → b ≠ yb → tv.ownBlock ≠ some b → W.heap[b]? = w.heap[b]? := by
    intro b hb hby hn
    rw [hW, blk_other _ _ (by simpa using hby), o3 b hb hn]
  have keep : ∀ (v : Value) (base : Nat) (ty : TypeId) (n : Nat) (xs : List Value), w.ownsRow base ty 1 v n xs → v.ownBlock ≠ some yb → apart v tv → W.ownsRow base ty 1 v n xs := by
    intro v base ty n xs hv h1 h2
    exact owns_blk hv (fun k hk => oW k (hv.lt k hk).2 (fun e => h1 (by rw [← e]; exact hk)) (h2 k hk))
  have hgy : g ≠ yb := by
    intro e
    rcases hgg with hh | hh
    · exact h.ty (by rw [hh, e])
    · omega
  have hgb : w0.heap.size ≤ g := by
    rcases hgg with hh | hh
    · exact (hnlt g hh).1
    · omega
  have hap : ∀ (v : Value) (base : Nat) (ty : TypeId) (n : Nat) (xs : List Value), w.ownsRow base ty 1 v n xs → apart v tv → apart v (.slice (some ⟨g, 0, none⟩) (ts.length + 1) cap) := by
    intro v base ty n xs hv h2 k hk hk'
    simp only [Value.ownBlock, Option.some.injEq] at hk'
    subst hk'
    rcases hgg with hh | hh
    · exact h2 _ hk hh
    · have := (hv.lt _ hk).2; omega
  have hyW : W.heap[yb]? = some (.cells (taCells nv (.slice (some ⟨g, 0, none⟩) (ts.length + 1) cap) fuel st) 70 (0, 0)) := by
    rw [hW]
    refine (blk_set (arr := taCells nv tv fuel st) ?_ 1 _).trans rfl
    rw [o3 yb hyl h.ty]; exact h.y
  refine ⟨⟨?_, h.hyb, hyW, keep _ _ _ _ _ h.n h.ny h.nt, ?_, h.ny, ?_, hap _ _ _ _ _ h.n h.nt⟩, ⟨by omega, fun k hk hy _ ht _ => oW k hk hy ht, fun _ h => Or.inl h, fun g' hg' => by simp only [Value.ownBlock, Option.some.injEq] at hg'; subst hg'; rcases hgg with e | e; exact Or.inl e; exact Or.inr (by omega)⟩⟩
  · refine h.b0.trans ⟨?_, ?_, ?_, by omega, fun k hk => oW k (by omega) (by have := h.hyb; omega) (fun e => by have := hnlt k e; omega)⟩
    · rw [hW]; exact hg.os
    · rw [hW]; exact hg.tape
    · rw [hW]; exact hg.output
  · have e1 : (ts ++ [x]).length = ts.length + 1 := by simp
    have e2 : (ts ++ [x]).map strV = ts.map strV ++ [strV x] := by simp
    rw [e1, e2]
    refine owns_base (owns_blk ho (fun k hk => ?_)) (fun k hk => ?_)
    · simp only [Value.ownBlock, Option.some.injEq] at hk
      subst hk
      rw [hW, blk_other _ _ (by simpa using hgy)]
    · simp only [Value.ownBlock, Option.some.injEq] at hk
      subst hk; exact hgb
  · simp only [Value.ownBlock, ne_eq, Option.some.injEq]; exact hgy

theorem TaG.popN {w0 w : World} {yb : Nat} {tv : Value} {ns ts : List (List UInt8)} {fuel : Nat} {st : ESt} {x : List UInt8} {g cap : Nat}
    (h : TaG w0 w yb (.slice (some ⟨g, 0, none⟩) (ns.length + 1) cap) tv (ns ++ [x]) ts fuel st) :
    TaG w0 (w.setCell ⟨yb, 0, none⟩ (.slice (some ⟨g, 0, none⟩) ns.length cap)) yb (.slice (some ⟨g, 0, none⟩) ns.length cap) tv ns ts fuel st := by
  have oth : ∀ b, b ≠ yb → (w.setCell ⟨yb, 0, none⟩ (.slice (some ⟨g, 0, none⟩) ns.length cap)).heap[b]? = w.heap[b]? := fun b hb => blk_other _ _ (by simpa using hb)
  have keep : ∀ (v : Value) (base : Nat) (ty : TypeId) (n : Nat) (xs : List Value), w.ownsRow base ty 1 v n xs → v.ownBlock ≠ some yb → (w.setCell ⟨yb, 0, none⟩ (.slice (some ⟨g, 0, none⟩) ns.length cap)).ownsRow base ty 1 v n xs :=
    fun v base ty n xs hv h1 => owns_blk hv (fun k hk => oth k (fun e => h1 (by rw [← e]; exact hk)))
  have hp : w.ownsRow w0.heap.size 9 1 (.slice (some ⟨g, 0, none⟩) ns.length cap) ns.length (ns.map strV) := by
    refine ownsRow_pop (last := [strV x]) (by simp) ?_
    have := h.n
    simpa using this
  refine ⟨?_, h.hyb, (blk_set h.y 0 _).trans rfl, keep _ _ _ _ _ hp h.ny, keep _ _ _ _ _ h.t h.ty, h.ny, h.ty, h.nt⟩
  exact h.b0.setCell (p := ⟨yb, 0, none⟩) h.hyb _

theorem TaG.popT {w0 w : World} {yb : Nat} {nv : Value} {ns ts : List (List UInt8)} {fuel : Nat} {st : ESt} {x : List UInt8} {g cap : Nat}
    (h : TaG w0 w yb nv (.slice (some ⟨g, 0, none⟩) (ts.length + 1) cap) ns (ts ++ [x]) fuel st) :
    TaG w0 (w.setCell ⟨yb, 1, none⟩ (.slice (some ⟨g, 0, none⟩) ts.length cap)) yb nv (.slice (some ⟨g, 0, none⟩) ts.length cap) ns ts fuel st := by
  have oth : ∀ b, b ≠ yb → (w.setCell ⟨yb, 1, none⟩ (.slice (some ⟨g, 0, none⟩) ts.length cap)).heap[b]? = w.heap[b]? := fun b hb => blk_other _ _ (by simpa using hb)
  have keep : ∀ (v : Value) (base : Nat) (ty : TypeId) (n : Nat) (xs : List Value), w.ownsRow base ty 1 v n xs → v.ownBlock ≠ some yb → (w.setCell ⟨yb, 1, none⟩ (.slice (some ⟨g, 0, none⟩) ts.length cap)).ownsRow base ty 1 v n xs :=
    fun v base ty n xs hv h1 => owns_blk hv (fun k hk => oth k (fun e => h1 (by rw [← e]; exact hk)))
  have hp : w.ownsRow w0.heap.size 9 1 (.slice (some ⟨g, 0, none⟩) ts.length cap) ts.length (ts.map strV) := by
    refine ownsRow_pop (last := [strV x]) (by simp) ?_
    have := h.t
    simpa using this
  refine ⟨?_, h.hyb, (blk_set h.y 1 _).trans rfl, keep _ _ _ _ _ h.n h.ny, keep _ _ _ _ _ hp h.ty, h.ny, h.ty, h.nt⟩
  exact h.b0.setCell (p := ⟨yb, 1, none⟩) h.hyb _

theorem TaG.shapeN {w0 w : World} {yb : Nat} {nv tv : Value} {ns ts : List (List UInt8)} {fuel : Nat} {st : ESt} (h : TaG w0 w yb nv tv ns ts fuel st) : ∃ a cap, nv = .slice a ns.length cap ∧ (0 < ns.length → ∃ g, a = some ⟨g, 0, none⟩) := by
  rcases h.n.2 with ⟨hv, hn⟩ | ⟨g, cap, cur, hv, _⟩
  · exact ⟨none, 0, by rw [hv, hn], fun h => by omega⟩
  · exact ⟨_, cap, hv, fun _ => ⟨g, rfl⟩⟩
theorem TaG.shapeT {w0 w : World} {yb : Nat} {nv tv : Value} {ns ts : List (List UInt8)} {fuel : Nat} {st : ESt} (h : TaG w0 w yb nv tv ns ts fuel st) : ∃ a cap, tv = .slice a ts.length cap ∧ (0 < ts.length → ∃ g, a = some ⟨g, 0, none⟩) := by
  rcases h.t.2 with ⟨hv, hn⟩ | ⟨g, cap, cur, hv, _⟩
  · exact ⟨none, 0, by rw [hv, hn], fun h => by omega⟩
  · exact ⟨_, cap, hv, fun _ => ⟨g, rfl⟩⟩

set_option maxRecDepth 100000 in
set_option maxHeartbeats 2000000 in
theorem tunder_of {w0 : World} {yb fuel : Nat} {t : PT} (b : Nat) (env : VEnv) (st : ESt) (nv tv : Value) (w : World) (nm : List UInt8) (v : Vl)
    (hf : ∀ (nv tv : Value) (w : World), TaIn w0 w yb nv tv (env ++ [(nm, v)]) fuel st → Calls Tryz.prog 34 #[ptr yb, ptr b] w fun e w' => e = .returned (.string (bs (ev fuel t (env ++ [(nm, v)]) st).1.txt)) ∧
      ∃ nv' tv', Fr w w' yb nv tv (.slice none 0 0) nv' tv' ∧ TaIn w0 w' yb nv' tv' (env ++ [(nm, v)]) fuel (ev fuel t (env ++ [(nm, v)]) st).2)
    (hin : TaIn w0 w yb nv tv env fuel st) (henv : env.length ≤ 9000) :
    Calls Tryz.prog 62 #[ptr yb, .string (bs nm), .string (bs v.txt), ptr b] w fun e w' => e = .returned (.string (bs (ev fuel t (env ++ [(nm, v)]) st).1.txt)) ∧
      ∃ nv' tv', Fr w w' yb nv tv (.slice none 0 0) nv' tv' ∧ TaIn w0 w' yb nv' tv' env fuel (ev fuel t (env ++ [(nm, v)]) st).2 := by
  obtain ⟨i0, hi, hz0, hz1, hz2⟩ := info_parts Tryz.infoStr
  have HI : Hid _ := hi
  have HZ0 : Hid _ := hz0
  have HZ1 : Hid _ := hz1
  have HZ2 : Hid _ := hz2
  have hG := hin.toG
  have HG : Hid _ := hG
  obtain ⟨na, nc, hnv, _⟩ := hG.shapeN
  obtain ⟨ta, tc, htv, _⟩ := hG.shapeT
  rw [List.length_map] at hnv htv
  have hy := hG.y
  have hyl := blk_lt hy
  rw [hnv, htv] at hy
  have y1 : w.cell? ⟨yb, 0, none⟩ = some (.slice na env.length nc) := by rw [blk_cell hy]; rfl
  have y2 : w.cell? ⟨yb, 1, none⟩ = some (.slice ta env.length tc) := by rw [blk_cell hy]; rfl
  have f1 : w.frozen? ⟨yb, 0, none⟩ = false := blk_free hy 0
  have f2 : w.frozen? ⟨yb, 1, none⟩ = false := blk_free hy 1
  have HNV : Hid _ := hnv
  have HTV : Hid _ := htv
  have hown : w.ownsRow 0 9 1 (.slice na env.length nc) env.length (env.map fun x => strV x.1) := by
    rw [← hnv]; exact owns_base hin.n (fun _ _ => Nat.zero_le _)
  have HOWN : Hid (w.ownsRow 0 9 1 (.slice na env.length nc) env.length (env.map fun x => strV x.1)) := hown
  clear hi hz0 hz1 hz2 hG hy hown hnv htv
  show Calls _ _ #[Value.pointer (some ⟨yb, 0, none⟩), _, _, Value.pointer (some ⟨b, 0, none⟩)] w _
  go_enter Tryz.func62, Tryz.ntmps62
  go_wp2_with (at_builtin; go_must (refine app_own _ rfl (.tmp 20) (.tmp 22) 68 rfl 9 i0 _ 1 16 Tryz.undStrs HI.out HZ0.out HZ1.out HZ2.out rfl (by decide) (.slice na env.length nc) env.length (env.map fun x => strV x.1) rfl (HOWN.out.alloc _) ⟨w.heap.size, 0, none⟩ 1 1 [strV nm] rfl rfl ?d1 ?d2 (by decide) ?d3 ?d4 ?_))
  case d1 =>
    intro j' u hj'
    match j', hj' with
    | 0, hj' => simp at hj'; subst hj'; simp [Addr.add, strV]
    | j' + 1, hj' => simp at hj'
  case d2 => intro u hu; simp at hu; subst hu; rfl
  case d3 => unfold maxLen; omega
  case d4 => omega
  intro g1 c1 w3 ho3 hg3 hgg3
  have hp1 := TaG.pushN (x := nm) (W := w3.setCell ⟨yb, 0, none⟩ (.slice (some ⟨g1, 0, none⟩) (env.length + 1) c1)) HG.out (by rw [HNV.out]; exact hg3) (by rw [List.length_map, List.map_map]; exact ho3) (by rw [HNV.out]; simpa using hgg3) (by rw [List.length_map])
  rw [List.length_map] at hp1
  obtain ⟨hG1, hs1'⟩ := hp1
  have HG1 : Hid (TaG w0 (w3.setCell ⟨yb, 0, none⟩ (.slice (some ⟨g1, 0, none⟩) (env.length + 1) c1)) yb (.slice (some ⟨g1, 0, none⟩) (env.length + 1) c1) tv (env.map (·.1) ++ [nm]) (env.map (·.2.txt)) fuel st) := hG1
  have hy3 : w3.heap[yb]? = some (.cells (taCells nv tv fuel st) 70 (0, 0)) := by
    rw [hg3.block yb (by simp; omega) (fun e => HG.out.ny (by rw [HNV.out]; exact e.symm)), Below.heap_alloc _ _ _ hyl]; exact HG.out.y
  have hyl3 := blk_lt hy3
  rw [HNV.out, HTV.out] at hy3
  have y13 : w3.cell? ⟨yb, 0, none⟩ = some (.slice na env.length nc) := by rw [blk_cell hy3]; rfl
  have y23 : w3.cell? ⟨yb, 1, none⟩ = some (.slice ta env.length tc) := by rw [blk_cell hy3]; rfl
  have f13 : w3.frozen? ⟨yb, 0, none⟩ = false := blk_free hy3 0
  have f23 : w3.frozen? ⟨yb, 1, none⟩ = false := blk_free hy3 1
  have hown2 : (w3.setCell ⟨yb, 0, none⟩ (.slice (some ⟨g1, 0, none⟩) (env.length + 1) c1)).ownsRow 0 9 1 (.slice ta env.length tc) env.length (env.map fun x => strV x.2.txt) := by
    have h := owns_base (base' := 0) hG1.t (fun _ _ => Nat.zero_le _)
    rw [List.length_map, List.map_map, HTV.out] at h; exact h
  have HOWN2 : Hid ((w3.setCell ⟨yb, 0, none⟩ (.slice (some ⟨g1, 0, none⟩) (env.length + 1) c1)).ownsRow 0 9 1 (.slice ta env.length tc) env.length (env.map fun x => strV x.2.txt)) := hown2
  have hsz3 : (w3.setCell ⟨yb, 0, none⟩ (.slice (some ⟨g1, 0, none⟩) (env.length + 1) c1)).heap.size = w3.heap.size := by simp [World.setCell]
  have HSZ3 : Hid _ := hsz3
  clear ho3 hg3 hgg3 hG1 hy3 hown2 y1 y2 f1 f2 hsz3
  go_wp2_with (at_builtin; go_must (refine app_own _ rfl (.tmp 30) (.tmp 32) 68 rfl 9 i0 _ 1 16 Tryz.undStrs HI.out HZ0.out HZ1.out HZ2.out rfl (by decide) (.slice ta env.length tc) env.length (env.map fun x => strV x.2.txt) rfl (HOWN2.out.alloc _) ⟨w3.heap.size, 0, none⟩ 1 1 [strV v.txt] rfl rfl ?e1 ?e2 (by decide) ?e3 ?e4 ?_))
  case e1 =>
    intro j' u hj'
    match j', hj' with
    | 0, hj' =>
      simp only [List.getElem?_cons_zero, Option.some.injEq] at hj'
      subst hj'
      exact (World.cell?_alloc_at _ _ _ _ HSZ3.out.symm).trans rfl
    | j' + 1, hj' => simp at hj'
  case e2 => intro u hu; simp at hu; subst hu; rfl
  case e3 => unfold maxLen; omega
  case e4 => omega
  intro g2 c2 w5 ho5 hg5 hgg5
  have hp2 := TaG.pushT (x := v.txt) (W := w5.setCell ⟨yb, 1, none⟩ (.slice (some ⟨g2, 0, none⟩) (env.length + 1) c2)) HG1.out (by rw [HTV.out]; exact hg5) (by rw [List.length_map, List.map_map]; exact ho5) (by rw [HTV.out]; rcases hgg5 with h | h; exact Or.inl h; exact Or.inr (by rw [World.size_alloc, HSZ3.out]; exact h)) (by rw [List.length_map])
  rw [List.length_map] at hp2
  obtain ⟨hG2, hs2'⟩ := hp2
  have hin2 : TaIn w0 (w5.setCell ⟨yb, 1, none⟩ (.slice (some ⟨g2, 0, none⟩) (env.length + 1) c2)) yb (.slice (some ⟨g1, 0, none⟩) (env.length + 1) c1) (.slice (some ⟨g2, 0, none⟩) (env.length + 1) c2) (env ++ [(nm, v)]) fuel st := by
    apply TaG.toIn
    rw [List.map_append, List.map_append]; exact hG2
  have hfo := hf _ _ _ hin2
  have hy5 : w5.heap[yb]? = some (.cells (taCells (.slice (some ⟨g1, 0, none⟩) (env.length + 1) c1) tv fuel st) 70 (0, 0)) := by
    rw [hg5.block yb (by rw [World.size_alloc, HSZ3.out]; omega) (fun e => HG.out.ty (by rw [HTV.out]; exact e.symm)), Below.heap_alloc _ _ _ (by rw [HSZ3.out]; exact hyl3)]; exact HG1.out.y
  rw [HTV.out] at hy5
  have y15 : w5.cell? ⟨yb, 0, none⟩ = some (.slice (some ⟨g1, 0, none⟩) (env.length + 1) c1) := by rw [blk_cell hy5]; rfl
  have y25 : w5.cell? ⟨yb, 1, none⟩ = some (.slice ta env.length tc) := by rw [blk_cell hy5]; rfl
  have f25 : w5.frozen? ⟨yb, 1, none⟩ = false := blk_free hy5 1
  have hsw := hs1'.trans hs2'
  clear ho5 hg5 hgg5 hG2 hin2 hy5 y13 y23 f13 f23
  unfold ptr at hfo
  go_wp2_with fail
  refine hfo.mono ?_
  rintro _ w7 ⟨rfl, nv7, tv7, hs7, hin7⟩
  have hG7 := hin7.toG
  rw [List.map_append, List.map_append] at hG7
  obtain ⟨na7, nc7, hnv7, hna7⟩ := hG7.shapeN
  obtain ⟨ta7, tc7, htv7, hta7⟩ := hG7.shapeT
  obtain ⟨g7, hg7⟩ := hna7 (by simp)
  obtain ⟨g8, hg8⟩ := hta7 (by simp)
  have el : (env.map (fun x => x.1) ++ List.map (fun x => x.1) [(nm, v)]).length = env.length + 1 := by simp
  have el2 : (env.map (fun x => x.2.txt) ++ List.map (fun x => x.2.txt) [(nm, v)]).length = env.length + 1 := by simp
  rw [el, hg7] at hnv7
  rw [el2, hg8] at htv7
  have hcap7 : env.length + 1 ≤ nc7 := by
    have h := hG7.n.2
    rw [hnv7, el] at h
    rcases h with ⟨h, _⟩ | ⟨g, cap, cur, h, _, _, h3, _⟩
    · cases h
    · simp only [Value.slice.injEq] at h; omega
  have hcap8 : env.length + 1 ≤ tc7 := by
    have h := hG7.t.2
    rw [htv7, el2] at h
    rcases h with ⟨h, _⟩ | ⟨g, cap, cur, h, _, _, h3, _⟩
    · cases h
    · simp only [Value.slice.injEq] at h; omega
  rw [hnv7, htv7] at hG7
  obtain ⟨st7, hst7⟩ : ∃ st7, st7 = (ev fuel t (env ++ [(nm, v)]) st).2 := ⟨_, rfl⟩
  rw [← hst7] at hG7
  have y17 : w7.cell? ⟨yb, 0, none⟩ = some (.slice (some ⟨g7, 0, none⟩) (env.length + 1) nc7) := by rw [blk_cell hG7.y]; rfl
  have y27 : w7.cell? ⟨yb, 1, none⟩ = some (.slice (some ⟨g8, 0, none⟩) (env.length + 1) tc7) := by rw [blk_cell hG7.y]; rfl
  have f17 : w7.frozen? ⟨yb, 0, none⟩ = false := blk_free hG7.y 0
  have f27 : w7.frozen? ⟨yb, 1, none⟩ = false := blk_free hG7.y 1
  have hP : TaG w0 ((w7.setCell ⟨yb, 0, none⟩ (.slice (some ⟨g7, 0, none⟩) env.length nc7)).setCell ⟨yb, 1, none⟩ (.slice (some ⟨g8, 0, none⟩) env.length tc7)) yb (.slice (some ⟨g7, 0, none⟩) env.length nc7) (.slice (some ⟨g8, 0, none⟩) env.length tc7) (env.map (·.1)) (env.map (·.2.txt)) fuel st7 := by
    have l1 : (env.map (fun x => x.1)).length = env.length := by simp
    have l2 : (env.map (fun x => x.2.txt)).length = env.length := by simp
    have q1 := TaG.popN (ns := env.map (fun x => x.1)) (x := nm) (g := g7) (cap := nc7) (by rw [l1]; exact hG7)
    have q2 := TaG.popT (ts := env.map (fun x => x.2.txt)) (x := v.txt) (g := g8) (cap := tc7) (by rw [l2]; exact q1)
    rw [l1, l2] at q2
    exact q2
  have HP : Hid _ := hP
  have HST : Hid _ := hst7
  have hs8 := hsw.trans hs7
  rw [hnv7, htv7] at hs8
  have HS7 : Hid _ := hs8
  clear hs8 hs1' hs2' hP hst7 hG7 hin7 hs7 hnv7 htv7 hna7 hta7 hg7 hg8 el el2 y15 y25 f25 hfo hsw
  go_wp2
  go_ret
  refine ⟨rfl, .slice (some ⟨g7, 0, none⟩) env.length nc7, .slice (some ⟨g8, 0, none⟩) env.length tc7, ?_, ?_⟩
  · have h := HS7.out
    have g1 := (Fr.grown (yb := yb) (gr_set w7 ⟨yb, 0, none⟩ (.slice (some ⟨g7, 0, none⟩) env.length nc7)) (.slice (some ⟨g7, 0, none⟩) (env.length + 1) nc7) (.slice (some ⟨g8, 0, none⟩) (env.length + 1) tc7) (.slice none 0 0))
    have g2 := (Fr.grown (yb := yb) (gr_set (w7.setCell ⟨yb, 0, none⟩ (.slice (some ⟨g7, 0, none⟩) env.length nc7)) ⟨yb, 1, none⟩ (.slice (some ⟨g8, 0, none⟩) env.length tc7)) (.slice (some ⟨g7, 0, none⟩) (env.length + 1) nc7) (.slice (some ⟨g8, 0, none⟩) (env.length + 1) tc7) (.slice none 0 0))
    have h2 := (h.trans g1).trans g2
    exact ⟨h2.size, h2.blk, h2.n, h2.t⟩
  rw [← HST.out]
  exact HP.out.toIn
end Go.Proofs.YtpicaknklgccoaaGreatDoor

/- strconv.Itoa, off the shelf: in every world that came out of one where the table reads as it is laid. -/
namespace Go.Proofs.YtpicaknklgccoaaGreatDoor
open Go.RowKit Go.Shelf Go.Sort
open Go.Lib (decDigits)
/-- strconv.Itoa below 10000, in worlds that came out of w0 -/
def ItoaOk (w0 : World) : Prop := ∀ (n : Nat) (w : World), n ≤ 9999 → Below w0.heap.size w0 w → Calls Tryz.prog 49 #[.int .i64 n] w fun e w' => e = .returned (.string (bs (decDigits n))) ∧ Below w.heap.size w w'

shelf_lay LaysM.n171 Nm 171 at Tryz as Tryz.laysM171

theorem itoa_ok (w0 : World) (htab : Lib.TabIs Tryz.prog w0 "internal/strconv.uint64pow10" .u64 Lib.pow10Tab) : ItoaOk w0 := by
  intro n w hn hb
  refine (Any.strconv_Itoa Tryz.laysM171 (n : Int) (by omega) (by omega) w (Lib.tabBelow_of_tabIs htab w hb)).mono ?_
  rintro e w' ⟨rfl, k, os, rfl⟩
  refine ⟨?_, Lib.below_grow _ _ (Nat.le_refl _) k os⟩
  have e1 : Lib.itoa (n : Int) = decDigits n := by
    unfold Lib.itoa; rw [if_neg (by omega)]; rfl
  rw [e1]; rfl
end Go.Proofs.YtpicaknklgccoaaGreatDoor

/- leaseref's Text without regions and news: a tree's plain text. -/
namespace Go.Proofs.YtpicaknklgccoaaGreatDoor
open Go.RowKit
open Go.Lib (decDigits)

def TextOk (w0 : World) (t : PT) : Prop := ∀ (id site b : Nat) (F : Nat → Prop), t.cnt ≤ 9000 → t.tame → t.wf → IsT w0 F t id site b → ∀ w : World, Below w0.heap.size w0 w →
  Calls Tryz.prog 41 #[ptr b, .slice none 0 0, .slice none 0 0] w fun e w' => e = .returned (.string (bs t.ptx)) ∧ Below w.heap.size w w'

set_option maxRecDepth 100000 in
set_option maxHeartbeats 1000000 in
theorem Text_num (w0 : World) (hit : ItoaOk w0) (p : Nat) (s : List UInt8) : TextOk w0 (.num p s) := by
  intro id site b F hcnt ht hwf hT w hw0
  simp only [IsT] at hT
  simp only [PT.tame] at ht
  have hb := hT.2
  have hbw := blk_lt hb
  have x0 : w.cell? ⟨b, 0, none⟩ = some (.string (bs numB)) := (hw0.cell (p := ⟨b, 0, none⟩) hbw).trans (by rw [blk_cell hb]; rfl)
  obtain ⟨n, hn⟩ : ∃ n : Nat, valueL s = n := ⟨(valueL s).toNat, by omega⟩
  have x3 : w.cell? ⟨b, 3, none⟩ = some (.int .i64 n) := (hw0.cell (p := ⟨b, 3, none⟩) hbw).trans (by rw [blk_cell hb, ← hn]; rfl)
  have hse : ((bs numB).toList == [110, 117, 109, 98, 101, 114]) = true := by rw [bs_beq0]; decide
  have hi := hit n w (by omega) hw0
  simp only [PT.ptx]
  rw [hn] at ht ⊢
  clear hb hT hit hn hw0
  show Calls _ _ #[Value.pointer (some ⟨b, 0, none⟩), _, _] w _
  go_enter Tryz.func41, Tryz.ntmps41
  go_wp2_with (go_at_call 49; refine hi.mono ?_; rintro e w1 ⟨rfl, hb1⟩)
  go_ret
  exact ⟨by simp, hb1⟩

set_option maxRecDepth 100000 in
set_option maxHeartbeats 1000000 in
theorem Text_name (w0 : World) (p : Nat) (s : List UInt8) : TextOk w0 (.name p s) := by
  intro id site b F hcnt ht hwf hT w hw0
  simp only [IsT] at hT
  have hb := hT.2
  have hbw := blk_lt hb
  have x0 : w.cell? ⟨b, 0, none⟩ = some (.string (bs nameB)) := (hw0.cell (p := ⟨b, 0, none⟩) hbw).trans (by rw [blk_cell hb]; rfl)
  have x2 : w.cell? ⟨b, 2, none⟩ = some (.string (bs s)) := (hw0.cell (p := ⟨b, 2, none⟩) hbw).trans (by rw [blk_cell hb]; rfl)
  have hse : ((bs nameB).toList == [110, 117, 109, 98, 101, 114]) = false := by rw [bs_beq0]; decide
  have hse2 : ((bs nameB).toList == [110, 97, 109, 101]) = true := by rw [bs_beq0]; decide
  simp only [PT.ptx]
  clear hb hT hw0 ht hwf hcnt
  show Calls _ _ #[Value.pointer (some ⟨b, 0, none⟩), _, _] w _
  go_enter Tryz.func41, Tryz.ntmps41
  go_wp2_with fail
  go_ret
  exact ⟨rfl, Below.refl _ _⟩

/-- a node's row of parts -/
theorem node_kid {w0 : World} {F : Nat → Prop} {p : Nat} {k : Kw} {nm rg : List UInt8} {kids : List PT} {id site b : Nat} (hT : IsT w0 F (.node p k nm rg kids) id site b) :
    ∃ va vc, (w0.cell? ⟨b, 0, none⟩ = some (.string (bs k.bytes)) ∧ w0.cell? ⟨b, 2, none⟩ = some (.string (bs nm)) ∧ w0.cell? ⟨b, 4, none⟩ = some (.slice va kids.length vc)) ∧ b < w0.heap.size ∧
      ∀ j x, kids[j]? = some x → ∃ gk bx id' site', va = some ⟨gk, 0, none⟩ ∧ gk < w0.heap.size ∧ w0.cell? ⟨gk, j, none⟩ = some (ptr bx) ∧ IsT w0 F x id' site' bx := by
  simp only [IsT] at hT
  obtain ⟨hFb, kv, bl, hb, hF, hkv, hts⟩ := hT
  obtain ⟨va, vc, hvk⟩ : ∃ va vc, kv = .slice va kids.length vc := by
    rcases hkv.2 with ⟨h, h'⟩ | ⟨g, cap, cur, h, _⟩
    · exact ⟨none, 0, by rw [h, h']⟩
    · exact ⟨_, _, h⟩
  have hbw := blk_lt hb
  refine ⟨va, vc, ⟨by rw [blk_cell hb]; rfl, by rw [blk_cell hb]; rfl, by rw [blk_cell hb, ← hvk]; rfl⟩, hbw, ?_⟩
  intro j x hx
  obtain ⟨bx, hbx, hTx⟩ := IsTs.at _ _ _ _ hts j x hx
  have hlt : j < kids.length := (List.getElem?_eq_some_iff.1 hx).1
  obtain ⟨gk, hgk⟩ : ∃ gk, va = some ⟨gk, 0, none⟩ := by
    have h := hkv.2
    rw [hvk] at h
    rcases h with ⟨h, h'⟩ | ⟨g, cap, cur, h, _⟩
    · omega
    · simp only [Value.slice.injEq] at h; exact ⟨_, h.1⟩
  have hkc : w0.cell? ⟨gk, j, none⟩ = some (ptr bx) := by
    have h : w0.ownsRow 0 63 1 (.slice (some ⟨gk, 0, none⟩) kids.length vc) kids.length (bl.map ptr) := by rw [← hgk, ← hvk]; exact hkv
    rw [h.cellAt j (by omega)]; simp [hbx]
  exact ⟨gk, bx, _, _, hgk, World.block_lt_of_cell? _ _ hkc, hkc, hTx⟩

set_option maxRecDepth 100000 in
set_option maxHeartbeats 1000000 in
theorem Text_new (w0 : World) (p : Nat) (nm rg : List UInt8) (x : PT) (ih : TextOk w0 x) : TextOk w0 (.node p .new nm rg [x]) := by
  intro id site b F hcnt ht hwf hT w hw0
  obtain ⟨va, vc, ⟨y0, _, y4⟩, hbw, hk⟩ := node_kid hT
  obtain ⟨gk, bx, id', site', rfl, hg, hc, hTx⟩ := hk 0 x rfl
  have x0 : w.cell? ⟨b, 0, none⟩ = some (.string (bs Kw.new.bytes)) := (hw0.cell (p := ⟨b, 0, none⟩) hbw).trans y0
  have x4 : w.cell? ⟨b, 4, none⟩ = some (.slice (some ⟨gk, 0, none⟩) 1 vc) := (hw0.cell (p := ⟨b, 4, none⟩) hbw).trans y4
  have xc : w.cell? ⟨gk, 0, none⟩ = some (.pointer (some ⟨bx, 0, none⟩)) := (hw0.cell (p := ⟨gk, 0, none⟩) hg).trans hc
  have h1 : ((bs Kw.new.bytes).toList == [110, 117, 109, 98, 101, 114]) = false := by rw [bs_beq0]; decide
  have h2 : ((bs Kw.new.bytes).toList == [110, 97, 109, 101]) = false := by rw [bs_beq0]; decide
  have h3 : ((bs Kw.new.bytes).toList == [110, 101, 119]) = true := by rw [bs_beq0]; decide
  simp only [PT.cnt, cntL] at hcnt
  simp only [PT.tame, tameL] at ht
  simp only [PT.wf, wfL] at hwf
  have hi := ih id' site' bx F (by omega) ht.2.1 hwf.2.1 hTx w hw0
  unfold ptr at hi
  simp only [PT.ptx, ptxL, if_pos, List.headD_cons]
  clear hT hk hw0 ht hwf hcnt y0 y4 hc hTx ih
  show Calls _ _ #[Value.pointer (some ⟨b, 0, none⟩), _, _] w _
  go_enter Tryz.func41, Tryz.ntmps41
  go_wp2_with (go_at_call 41; refine hi.mono ?_; rintro e w1 ⟨rfl, hb1⟩)
  go_ret
  exact ⟨rfl, hb1⟩
end Go.Proofs.YtpicaknklgccoaaGreatDoor

/- leaseref's Tale.work: numbers, names, let, if. -/
namespace Go.Proofs.YtpicaknklgccoaaGreatDoor
open Go.RowKit
open Go.Lib (decDigits)

structure SOk (fuel : Nat) (st : ESt) : Prop where
  f : fuel ≤ 20000
  s : st.steps ≤ fuel
  c : st.cells ≤ st.steps
theorem SOk.mono {fuel : Nat} {st st' : ESt} (h : SOk fuel st) (hm : Mono fuel st st') : SOk fuel st' := by
  have h1 := hm h.s
  exact ⟨h.f, h1.1, by have := h.c; omega⟩
theorem SOk.on {fuel : Nat} {st : ESt} (h : SOk fuel st) (t : PT) (env : VEnv) : SOk fuel (ev fuel t env st).2 := h.mono (ev_mono fuel t env st)

theorem below_drew (w : World) (m : Nat) : Below w.heap.size w (w.drewN m) := ⟨rfl, rfl, rfl, Nat.le_refl _, fun _ _ => rfl⟩
theorem TaIn.drew {w0 w : World} {yb : Nat} {nv tv : Value} {env : VEnv} {fuel : Nat} {st : ESt} (h : TaIn w0 w yb nv tv env fuel st) (m : Nat) : TaIn w0 (w.drewN m) yb nv tv env fuel st := h.grow (below_drew w m)
theorem Fr.setAt (w : World) (yb : Nat) (nv tv : Value) (m o : Nat) (x : Value) : Fr w ((w.drewN m).setCell ⟨yb, o, none⟩ x) yb nv tv (.slice none 0 0) nv tv := (Fr.below (below_drew w m) _ _ _ _).trans (Fr.grown (gr_set (w.drewN m) ⟨yb, o, none⟩ _) _ _ _)
/-- what work is good for, at a tree -/
def TWork (w0 : World) (yb fuel : Nat) (t : PT) (G : TEnv) : Prop :=
  ∀ (id site b : Nat) (F : Nat → Prop) (env : VEnv) (st : ESt) (nv tv : Value) (w : World), IsT w0 F t id site b → TaIn w0 w yb nv tv env fuel st → (st.e = 0 → EnvHas env G) → env.length + t.cnt ≤ 9000 → SOk fuel st →
    Calls Tryz.prog 34 #[ptr yb, ptr b] w fun e w' => e = .returned (.string (bs (ev fuel t env st).1.txt)) ∧
      ∃ nv' tv', Fr w w' yb nv tv (.slice none 0 0) nv' tv' ∧ TaIn w0 w' yb nv' tv' env fuel (ev fuel t env st).2
/-- the same, where there is no error yet and fuel left -/
def TGo (w0 : World) (yb fuel : Nat) (t : PT) (G : TEnv) : Prop :=
  ∀ (id site b : Nat) (F : Nat → Prop) (env : VEnv) (st : ESt) (nv tv : Value) (w : World), IsT w0 F t id site b → TaIn w0 w yb nv tv env fuel st → EnvHas env G → env.length + t.cnt ≤ 9000 → SOk fuel st → st.e = 0 → st.steps ≠ fuel →
    Calls Tryz.prog 34 #[ptr yb, ptr b] w fun e w' => e = .returned (.string (bs (ev fuel t env st).1.txt)) ∧
      ∃ nv' tv', Fr w w' yb nv tv (.slice none 0 0) nv' tv' ∧ TaIn w0 w' yb nv' tv' env fuel (ev fuel t env st).2

theorem begun_bad {fuel : Nat} {st : ESt} {f : ESt → Vl × ESt} (h : st.e ≠ 0) : begun fuel st f = (.n 0, st) := by unfold begun; rw [if_pos h]
theorem begun_end {fuel : Nat} {st : ESt} {f : ESt → Vl × ESt} (h0 : st.e = 0) (h : st.steps = fuel) : begun fuel st f = (.n 0, { st with e := 12 }) := by unfold begun; rw [if_neg (by simpa using h0), if_pos h]
theorem begun_go {fuel : Nat} {st : ESt} {f : ESt → Vl × ESt} (h0 : st.e = 0) (h : st.steps ≠ fuel) : begun fuel st f = f { st with steps := st.steps + 1 } := by unfold begun; rw [if_neg (by simpa using h0), if_neg h]
theorem ev_begun (fuel : Nat) (t : PT) (env : VEnv) : ∃ f, ∀ st, ev fuel t env st = begun fuel st f := by
  cases t with
  | num p s => exact ⟨_, fun st => by unfold ev; rfl⟩
  | name p s => exact ⟨_, fun st => by unfold ev; rfl⟩
  | node p k nm rg kids => exact ⟨_, fun st => by unfold ev; rfl⟩
theorem txt_zero : bs (Vl.n 0).txt = ⟨#[48]⟩ := by
  simp only [Vl.txt]
  rw [decDigits, dif_pos (by omega)]; rfl

set_option maxRecDepth 100000 in
set_option maxHeartbeats 1000000 in
theorem work_of {w0 : World} {yb fuel : Nat} {t : PT} {G : TEnv} (h : TGo w0 yb fuel t G) : TWork w0 yb fuel t G := by
  intro id site b F env st nv tv w hT hin henv hlen hs
  obtain ⟨f, hf⟩ := ev_begun fuel t env
  have y2 : w.cell? ⟨yb, 2, none⟩ = some (.int .i64 fuel) := by rw [blk_cell hin.y]; rfl
  have y3 : w.cell? ⟨yb, 3, none⟩ = some (.int .i64 st.steps) := by rw [blk_cell hin.y]; rfl
  have y5 : w.cell? ⟨yb, 5, none⟩ = some (.int .i64 st.e) := by rw [blk_cell hin.y]; rfl
  have f5 : w.frozen? ⟨yb, 5, none⟩ = false := blk_free hin.y 5
  have hyl := blk_lt hin.y
  by_cases he : st.e = 0
  · by_cases hq : st.steps = fuel
    · rw [hf, begun_end he hq]
      have q0 : ((st.e : Int) != 0) = false := by rw [he]; rfl
      have q1 : ((st.steps : Int) == (fuel : Int)) = true := by rw [hq]; simp
      have hset := fun m => (hin.drew m).set 5 (.int .i64 12) (st' := { st with e := 12 }) rfl
      have HSET : Hid _ := hset
      clear hT hin henv hs hset h hf he hq
      show Calls _ _ #[Value.pointer (some ⟨yb, 0, none⟩), Value.pointer (some ⟨b, 0, none⟩)] w _
      go_enter Tryz.func34, Tryz.ntmps34
      go_wp2
      go_quiet (fail)
      go_wp2
      go_ret
      exact ⟨by rw [txt_zero]; rfl, nv, tv, Fr.setAt w yb nv tv _ 5 _, HSET.out _⟩
    · exact h id site b F env st nv tv w hT hin (henv he) hlen hs he hq
  · rw [hf, begun_bad he]
    have q0 : ((st.e : Int) != 0) = true := by simp; omega
    have HIN : Hid _ := hin
    clear hT hin henv hs h hf he
    show Calls _ _ #[Value.pointer (some ⟨yb, 0, none⟩), Value.pointer (some ⟨b, 0, none⟩)] w _
    go_enter Tryz.func34, Tryz.ntmps34
    go_wp2
    go_ret
    exact ⟨by rw [txt_zero]; rfl, nv, tv, Fr.refl _ _ _ _ _, HIN.out⟩

theorem TaIn.e0 {w0 w : World} {yb : Nat} {nv tv : Value} {env : VEnv} {fuel : Nat} {st : ESt} (h : TaIn w0 w yb nv tv env fuel st) (he : st.e = 0) : w.cell? ⟨yb, 5, none⟩ = some (.int .i64 0) := by
  have : w.cell? ⟨yb, 5, none⟩ = some (.int .i64 st.e) := by rw [blk_cell h.y]; rfl
  rw [he] at this; exact this
/-- one more step is told -/
theorem TaIn.step {w0 w : World} {yb : Nat} {nv tv : Value} {env : VEnv} {fuel : Nat} {st : ESt} (h : TaIn w0 w yb nv tv env fuel st) (m : Nat) : TaIn w0 ((w.drewN m).setCell ⟨yb, 3, none⟩ (.int .i64 ((st.steps : Int) + 1))) yb nv tv env fuel { st with steps := st.steps + 1 } :=
  (h.drew m).set 3 _ (by simp [taCells])

set_option maxRecDepth 100000 in
set_option maxHeartbeats 1000000 in
theorem work_num {w0 : World} (hit : ItoaOk w0) (yb fuel : Nat) (p : Nat) (s : List UInt8) (G : TEnv) (ht : (PT.num p s).tame) : TGo w0 yb fuel (.num p s) G := by
  intro id site b F env st nv tv w hT hin henv hlen hs he hq
  simp only [PT.tame] at ht
  simp only [IsT] at hT
  have hb := blk_lt hT.2
  have hne : b ≠ yb := by have := hin.hyb; omega
  have hbx : w.heap[b]? = some _ := (hin.b0.block b hb).trans hT.2
  obtain ⟨n, hn⟩ : ∃ n : Nat, valueL s = n := ⟨(valueL s).toNat, by omega⟩
  have x0 : w.cell? ⟨b, 0, none⟩ = some (.string (bs numB)) := by rw [blk_cell hbx]; rfl
  have x3 : w.cell? ⟨b, 3, none⟩ = some (.int .i64 n) := by rw [blk_cell hbx, ← hn]; rfl
  have q0 : ((bs numB).toList == [110, 117, 109, 98, 101, 114]) = true := by rw [bs_beq0]; decide
  have y2 : w.cell? ⟨yb, 2, none⟩ = some (.int .i64 fuel) := by rw [blk_cell hin.y]; rfl
  have y3 : w.cell? ⟨yb, 3, none⟩ = some (.int .i64 st.steps) := by rw [blk_cell hin.y]; rfl
  have y5 : w.cell? ⟨yb, 5, none⟩ = some (.int .i64 0) := hin.e0 he
  have f3 : w.frozen? ⟨yb, 3, none⟩ = false := blk_free hin.y 3
  have hyl := blk_lt hin.y
  have hbw : b < w.heap.size := blk_lt hbx
  have q1 : ((st.steps : Int) == (fuel : Int)) = false := by rw [beq_eq_false_iff_ne]; omega
  have hev : ev fuel (.num p s) env st = (.n n, { st with steps := st.steps + 1 }) := by unfold ev; rw [begun_go he hq, hn]; rfl
  rw [hev]
  have hi := fun m => hit n ((w.drewN m).setCell ⟨yb, 3, none⟩ (.int .i64 ((st.steps : Int) + 1))) (by omega) (hin.step m).b0
  have HIN : Hid _ := fun m => hin.step m
  have hs1 := hs.s
  have hs2 := hs.f
  clear hT hin henv hs he hev hbx hn ht hit hq
  show Calls _ _ #[Value.pointer (some ⟨yb, 0, none⟩), Value.pointer (some ⟨b, 0, none⟩)] w _
  go_enter Tryz.func34, Tryz.ntmps34
  go_wp2_with fail
  go_quiet (fail)
  go_wp2_with fail
  refine (hi _).mono ?_
  rintro _ w2 ⟨rfl, hb2⟩
  go_wp2
  go_ret
  exact ⟨rfl, nv, tv, (Fr.setAt w yb nv tv _ 3 _).trans (Fr.below hb2 _ _ _ _), (HIN.out _).grow hb2⟩

set_option maxRecDepth 100000 in
set_option maxHeartbeats 2000000 in
theorem work_let {w0 : World} (yb fuel : Nat) (p : Nat) (nm rg : List UInt8) (x y : PT) (G : TEnv) (A : Ty) (hwx : WT G x A) (htx : x.tame) (hnx : NoNew x) (ihx : TWork w0 yb fuel x G) (ihy : TWork w0 yb fuel y (G ++ [(nm, A)])) : TGo w0 yb fuel (.node p .let_ nm rg [x, y]) G := by
  intro id site b F env st nv tv w hT hin henv hlen hs he hq
  obtain ⟨va, vc, ⟨g0, g2, g4⟩, hb, hk⟩ := node_kid hT
  obtain ⟨gk, bx, id1, site1, rfl, hg, hc1, hT1⟩ := hk 0 x rfl
  obtain ⟨gk', by_, id2, site2, hgk', _, hc2, hT2⟩ := hk 1 y rfl
  have egk : gk' = gk := by simp only [Option.some.injEq, Addr.mk.injEq] at hgk'; exact hgk'.1.symm
  subst egk
  have hne : b ≠ yb := by have := hin.hyb; omega
  have hgy : gk' ≠ yb := by have := hin.hyb; omega
  simp only [PT.cnt, cntL] at hlen
  have hev : ev fuel (.node p .let_ nm rg [x, y]) env st = ev fuel y (env ++ [(nm, (ev fuel x env { st with steps := st.steps + 1 }).1)]) (ev fuel x env { st with steps := st.steps + 1 }).2 := by
    conv => lhs; unfold ev
    rw [begun_go he hq]; simp only [if_pos, evLet]
  rw [hev]
  have hs' : SOk fuel { st with steps := st.steps + 1 } := ⟨hs.f, by have := hs.s; show st.steps + 1 ≤ fuel; omega, by have := hs.c; show st.cells ≤ st.steps + 1; omega⟩
  have hr1 := ev_res fuel hwx env { st with steps := st.steps + 1 } htx hnx (fun _ => henv)
  have h1 := fun m => ihx id1 site1 bx F env { st with steps := st.steps + 1 } nv tv _ hT1 (hin.step m) (fun _ => henv) (by omega) hs'
  have hs2 := hs'.on x env
  generalize ev fuel x env { st with steps := st.steps + 1 } = r1 at *
  have h2 := fun nv2 tv2 w2 (hin2 : TaIn w0 w2 yb nv2 tv2 env fuel r1.2) => tunder_of (t := y) by_ env r1.2 nv2 tv2 w2 nm r1.1 (fun nv' tv' w' hin' => ihy id2 site2 by_ F (env ++ [(nm, r1.1)]) r1.2 nv' tv' w' hT2 hin' (fun e => henv.snoc (hr1.1 e).2) (by simp; omega) hs2) hin2 (by omega)
  have cells : ∀ w', Below w0.heap.size w0 w' → w'.cell? ⟨b, 0, none⟩ = some (.string (bs Kw.let_.bytes)) ∧ w'.cell? ⟨b, 2, none⟩ = some (.string (bs nm)) ∧ w'.cell? ⟨b, 4, none⟩ = some (.slice (some ⟨gk', 0, none⟩) 2 vc) ∧ w'.cell? ⟨gk', 0, none⟩ = some (.pointer (some ⟨bx, 0, none⟩)) ∧ w'.cell? ⟨gk', 1, none⟩ = some (.pointer (some ⟨by_, 0, none⟩)) ∧ b < w'.heap.size ∧ gk' < w'.heap.size :=
    fun w' h => ⟨(h.cell (p := ⟨b, 0, none⟩) hb).trans g0, (h.cell (p := ⟨b, 2, none⟩) hb).trans g2, (h.cell (p := ⟨b, 4, none⟩) hb).trans g4, (h.cell (p := ⟨gk', 0, none⟩) hg).trans hc1, (h.cell (p := ⟨gk', 1, none⟩) hg).trans hc2, by have := h.size; omega, by have := h.size; omega⟩
  obtain ⟨x0, x2, x4, xk0, xk1, xl1, xl2⟩ := cells w hin.b0
  have q0 : ((bs Kw.let_.bytes).toList == [110, 117, 109, 98, 101, 114]) = false := by rw [bs_beq0]; decide
  have q1 : ((bs Kw.let_.bytes).toList == [110, 97, 109, 101]) = false := by rw [bs_beq0]; decide
  have q2 : ((bs Kw.let_.bytes).toList == [108, 101, 116]) = true := by rw [bs_beq0]; decide
  have y2 : w.cell? ⟨yb, 2, none⟩ = some (.int .i64 fuel) := by rw [blk_cell hin.y]; rfl
  have y3 : w.cell? ⟨yb, 3, none⟩ = some (.int .i64 st.steps) := by rw [blk_cell hin.y]; rfl
  have y5 : w.cell? ⟨yb, 5, none⟩ = some (.int .i64 0) := hin.e0 he
  have f3 : w.frozen? ⟨yb, 3, none⟩ = false := blk_free hin.y 3
  have hyl := blk_lt hin.y
  have q9 : ((st.steps : Int) == (fuel : Int)) = false := by rw [beq_eq_false_iff_ne]; omega
  have hss := hs.s
  have hsf := hs.f
  have HC : Hid _ := cells
  have H1 : Hid _ := h1
  have H2 : Hid _ := h2
  clear cells hT hin henv hs he hev hq hk hT1 hT2 hc1 hc2 g0 g2 g4 ihx ihy hs' hs2 hr1 h1 h2 hgk'
  show Calls _ _ #[Value.pointer (some ⟨yb, 0, none⟩), Value.pointer (some ⟨b, 0, none⟩)] w _
  go_enter Tryz.func34, Tryz.ntmps34
  go_wp2_with fail
  go_quiet (fail)
  go_wp2_with fail
  refine Calls.mono (H1.out _) ?_
  rintro _ w2 ⟨rfl, nv2, tv2, hfr2, hin2⟩
  obtain ⟨z0, z2, z4, zk0, zk1, zl1, zl2⟩ := HC.out w2 hin2.b0
  have hun : ∀ W, Below w2.heap.size w2 W → Calls Tryz.prog 62 #[.pointer (some ⟨yb, 0, none⟩), .string (bs nm), .string (bs r1.1.txt), .pointer (some ⟨by_, 0, none⟩)] W fun e w' => e = .returned (.string (bs (ev fuel y (env ++ [(nm, r1.1)]) r1.2).1.txt)) ∧
      ∃ nv' tv', Fr w w' yb nv tv (.slice none 0 0) nv' tv' ∧ TaIn w0 w' yb nv' tv' env fuel (ev fuel y (env ++ [(nm, r1.1)]) r1.2).2 := by
    intro W hW
    refine (H2.out nv2 tv2 W (hin2.grow hW)).mono ?_
    rintro e w' ⟨rfl, nv', tv', hfr', hin'⟩
    exact ⟨rfl, nv', tv', ((Fr.setAt w yb nv tv _ 3 _).trans hfr2).trans ((Fr.below hW _ _ _ _).trans hfr'), hin'⟩
  clear hfr2 hin2 HC H1 H2
  go_wp2
  go_region_with (go_at_call 62; refine (hun _ ?_).mono ?_; exact ⟨rfl, rfl, rfl, Nat.le_refl _, fun _ _ => rfl⟩; rintro e w3 ⟨rfl, hw3⟩)
  all_goals (go_wp2_with fail; go_ret; exact ⟨rfl, hw3⟩)
end Go.Proofs.YtpicaknklgccoaaGreatDoor
