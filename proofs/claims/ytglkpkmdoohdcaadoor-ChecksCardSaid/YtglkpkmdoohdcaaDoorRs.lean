import Derived.Test.YtglkpkmdoohdcaaDoorRr
namespace Go.Proofs.YtglkpkmdoohdcaaDoor
open Go.RowKit

/-- as TyIn, names and types told apart -/
structure TyG (w0 w : World) (yb : Nat) (cls : List Nat) (cv nv tv ov : Value) (ns ts : List (List UInt8)) (st : TSt) : Prop where
  b0 : Below w0.heap.size w0 w
  hyb : w0.heap.size ≤ yb
  y : w.heap[yb]? = some (.cells (tyCells cv nv tv ov st.e st.at_) 86 (0, 0))
  c : w.ownsRow w0.heap.size 3 1 cv cls.length (cls.map fun (k : Nat) => Value.int .i64 k)
  n : w.ownsRow w0.heap.size 9 1 nv ns.length (ns.map strV)
  t : w.ownsRow w0.heap.size 9 1 tv ts.length (ts.map strV)
  o : w.ownsRow w0.heap.size 9 1 ov st.of.length (st.of.map strV)
  cy : cv.ownBlock ≠ some yb
  ny : nv.ownBlock ≠ some yb
  ty : tv.ownBlock ≠ some yb
  oy : ov.ownBlock ≠ some yb
  cn : apart cv nv
  ct : apart cv tv
  co : apart cv ov
  nt : apart nv tv
  no : apart nv ov
  to : apart tv ov

theorem TyIn.toG {w0 w : World} {yb : Nat} {cls : List Nat} {cv nv tv ov : Value} {env : TEnv} {st : TSt} (h : TyIn w0 w yb cls cv nv tv ov env st) : TyG w0 w yb cls cv nv tv ov (env.map (·.1)) (env.map (·.2.txt)) st :=
  ⟨h.b0, h.hyb, h.y, h.c, by rw [List.length_map, List.map_map]; exact h.n, by rw [List.length_map, List.map_map]; exact h.t, h.o, h.cy, h.ny, h.ty, h.oy, h.cn, h.ct, h.co, h.nt, h.no, h.to⟩
theorem TyG.toIn {w0 w : World} {yb : Nat} {cls : List Nat} {cv nv tv ov : Value} {env : TEnv} {st : TSt} (h : TyG w0 w yb cls cv nv tv ov (env.map (·.1)) (env.map (·.2.txt)) st) : TyIn w0 w yb cls cv nv tv ov env st :=
  ⟨h.b0, h.hyb, h.y, h.c, by have := h.n; rw [List.length_map, List.map_map] at this; exact this, by have := h.t; rw [List.length_map, List.map_map] at this; exact this, h.o, h.cy, h.ny, h.ty, h.oy, h.cn, h.ct, h.co, h.nt, h.no, h.to⟩

/-- the names appended to, and the new slice stored -/
theorem TyG.pushN {w0 w w3 W : World} {yb : Nat} {cls : List Nat} {cv nv tv ov : Value} {ns ts : List (List UInt8)} {st : TSt} {x : List UInt8} {g cap : Nat} {A : Obj}
    (h : TyG w0 w yb cls cv nv tv ov ns ts st) (hg : (w.alloc A).grownBy w3 nv.ownBlock) (ho : w3.ownsRow 0 9 1 (.slice (some ⟨g, 0, none⟩) (ns.length + 1) cap) (ns.length + 1) (ns.map strV ++ [strV x]))
    (hgg : nv.ownBlock = some g ∨ (w.alloc A).heap.size ≤ g) (hW : W = w3.setCell ⟨yb, 1, none⟩ (.slice (some ⟨g, 0, none⟩) (ns.length + 1) cap)) :
    TyG w0 W yb cls cv (.slice (some ⟨g, 0, none⟩) (ns.length + 1) cap) tv ov (ns ++ [x]) ts st ∧ Fr w W yb nv tv ov (.slice (some ⟨g, 0, none⟩) (ns.length + 1) cap) tv := by
  have hb0 := h.b0.size
  have hyl := blk_lt h.y
  have ea : (w.alloc A).heap.size = w.heap.size + 1 := by simp
  have hs3 := hg.size
  rw [ea] at hgg hs3
  have hsW : W.heap.size = w3.heap.size := by rw [hW]; simp [World.setCell]
  have hnlt : ∀ g, nv.ownBlock = some g → w0.heap.size ≤ g ∧ g < w.heap.size := fun g hg => h.n.lt g hg
  have o3 : ∀ b, b < w.heap.size → nv.ownBlock ≠ some b → w3.heap[b]? = w.heap[b]? := by
    intro b hb hn
    rw [hg.block b (by rw [ea]; omega) (fun e => hn e.symm), Below.heap_alloc _ _ _ hb]
  have oW : ∀ b, b < w.heap.size → b ≠ yb → nv.ownBlock ≠ some b → W.heap[b]? = w.heap[b]? := by
    intro b hb hby hn
    rw [hW, blk_other _ _ (by simpa using hby), o3 b hb hn]
  have keep : ∀ (v : Value) (base : Nat) (ty : TypeId) (n : Nat) (xs : List Value), w.ownsRow base ty 1 v n xs → v.ownBlock ≠ some yb → apart v nv → W.ownsRow base ty 1 v n xs := by
    intro v base ty n xs hv h1 h2
    exact owns_blk hv (fun k hk => oW k (hv.lt k hk).2 (fun e => h1 (by rw [← e]; exact hk)) (h2 k hk))
  have hgy : g ≠ yb := by
    intro e
    rcases hgg with hh | hh
    · exact h.ny (by rw [hh, e])
    · omega
  have hgb : w0.heap.size ≤ g := by
    rcases hgg with hh | hh
    · exact (hnlt g hh).1
    · omega
  have hap : ∀ (v : Value) (base : Nat) (ty : TypeId) (n : Nat) (xs : List Value), w.ownsRow base ty 1 v n xs → apart v nv → apart v (.slice (some ⟨g, 0, none⟩) (ns.length + 1) cap) := by
    intro v base ty n xs hv h2 k hk hk'
    simp only [Value.ownBlock, Option.some.injEq] at hk'
    subst hk'
    rcases hgg with hh | hh
    · exact h2 _ hk hh
    · have := (hv.lt _ hk).2; omega
  have hyW : W.heap[yb]? = some (.cells (tyCells cv (.slice (some ⟨g, 0, none⟩) (ns.length + 1) cap) tv ov st.e st.at_) 86 (0, 0)) := by
    rw [hW]
    refine (blk_set (arr := tyCells cv nv tv ov st.e st.at_) ?_ 1 _).trans rfl
    rw [o3 yb hyl h.ny]; exact h.y
  refine ⟨⟨?_, h.hyb, hyW, keep _ _ _ _ _ h.c h.cy h.cn, ?_, keep _ _ _ _ _ h.t h.ty h.nt.symm, keep _ _ _ _ _ h.o h.oy h.no.symm, h.cy, ?_, h.ty, h.oy, hap _ _ _ _ _ h.c h.cn, h.ct, h.co, (hap _ _ _ _ _ h.t h.nt.symm).symm, (hap _ _ _ _ _ h.o h.no.symm).symm, h.to⟩, ⟨by omega, fun k hk hy hn _ _ => oW k hk hy hn, fun g' hg' => by simp only [Value.ownBlock, Option.some.injEq] at hg'; subst hg'; rcases hgg with e | e; exact Or.inl e; exact Or.inr (by omega), fun _ h => Or.inl h⟩⟩
  · refine h.b0.trans ⟨?_, ?_, ?_, by omega, fun k hk => oW k (by omega) (by have := h.hyb; omega) (fun e => by have := hnlt k e; omega)⟩
    · rw [hW]; exact hg.os
    · rw [hW]; exact hg.tape
    · rw [hW]; exact hg.output
  · have e1 : (ns ++ [x]).length = ns.length + 1 := by simp
    have e2 : (ns ++ [x]).map strV = ns.map strV ++ [strV x] := by simp
    rw [e1, e2]
    refine owns_base (owns_blk ho (fun k hk => ?_)) (fun k hk => ?_)
    · simp only [Value.ownBlock, Option.some.injEq] at hk
      subst hk
      rw [hW, blk_other _ _ (by simpa using hgy)]
    · simp only [Value.ownBlock, Option.some.injEq] at hk
      subst hk; exact hgb
  · simp only [Value.ownBlock, ne_eq, Option.some.injEq]; exact hgy

/-- the types appended to, and the new slice stored -/
theorem TyG.pushT {w0 w w3 W : World} {yb : Nat} {cls : List Nat} {cv nv tv ov : Value} {ns ts : List (List UInt8)} {st : TSt} {x : List UInt8} {g cap : Nat} {A : Obj}
    (h : TyG w0 w yb cls cv nv tv ov ns ts st) (hg : (w.alloc A).grownBy w3 tv.ownBlock) (ho : w3.ownsRow 0 9 1 (.slice (some ⟨g, 0, none⟩) (ts.length + 1) cap) (ts.length + 1) (ts.map strV ++ [strV x]))
    (hgg : tv.ownBlock = some g ∨ (w.alloc A).heap.size ≤ g) (hW : W = w3.setCell ⟨yb, 2, none⟩ (.slice (some ⟨g, 0, none⟩) (ts.length + 1) cap)) :
    TyG w0 W yb cls cv nv (.slice (some ⟨g, 0, none⟩) (ts.length + 1) cap) ov ns (ts ++ [x]) st ∧ Fr w W yb nv tv ov nv (.slice (some ⟨g, 0, none⟩) (ts.length + 1) cap) := by
  have hb0 := h.b0.size
  have hyl := blk_lt h.y
  have ea : (w.alloc A).heap.size = w.heap.size + 1 := by simp
  have hs3 := hg.size
  rw [ea] at hgg hs3
  have hsW : W.heap.size = w3.heap.size := by rw [hW]; simp [World.setCell]
  have hnlt : ∀ g, tv.ownBlock = some g → w0.heap.size ≤ g ∧ g < w.heap.size := fun g hg => h.t.lt g hg
  have o3 : ∀ b, b < w.heap.size → tv.ownBlock ≠ some b → w3.heap[b]? = w.heap[b]? := by
    intro b hb hn
    rw [hg.block b (by rw [ea]; omega) (fun e => hn e.symm), Below.heap_alloc _ _ _ hb]
  have oW : ∀ b, b < w.heap.size → b ≠ yb → tv.ownBlock ≠ some b → W.heap[b]? = w.heap[b]? := by
    intro b hb hby hn
    rw [hW, blk_other _ _ (by simpa using hby), o3 b hb hn]
  have keep : ∀ (v : Value) (base : Nat) (ty : TypeId) (n : Nat) (xs : List Value), w.ownsRow base ty 1 v n xs → v.ownBlock ≠ some yb → apart v tv → W.ownsRow base ty 1 v n xs := by
    intro v base ty n xs hv h1 h2
    exact owns_blk hv (fun k hk => oW k (hv.lt k hk).2 (fun e => h1 (by rw [← e]; exact hk)) (h2 k hk))
  have hgy : g ≠ yb := by
    intro e
    rcases hgg with hh | hh
    · exact h.ty (by rw [hh, e])
    · omega
  have hgb : w0.heap.size ≤ g := by
    rcases hgg with hh | hh
    · exact (hnlt g hh).1
    · omega
  have hap : ∀ (v : Value) (base : Nat) (ty : TypeId) (n : Nat) (xs : List Value), w.ownsRow base ty 1 v n xs → apart v tv → apart v (.slice (some ⟨g, 0, none⟩) (ts.length + 1) cap) := by
    intro v base ty n xs hv h2 k hk hk'
    simp only [Value.ownBlock, Option.some.injEq] at hk'
    subst hk'
    rcases hgg with hh | hh
    · exact h2 _ hk hh
    · have := (hv.lt _ hk).2; omega
  have hyW : W.heap[yb]? = some (.cells (tyCells cv nv (.slice (some ⟨g, 0, none⟩) (ts.length + 1) cap) ov st.e st.at_) 86 (0, 0)) := by
    rw [hW]
    refine (blk_set (arr := tyCells cv nv tv ov st.e st.at_) ?_ 2 _).trans rfl
    rw [o3 yb hyl h.ty]; exact h.y
  refine ⟨⟨?_, h.hyb, hyW, keep _ _ _ _ _ h.c h.cy h.ct, keep _ _ _ _ _ h.n h.ny h.nt, ?_, keep _ _ _ _ _ h.o h.oy h.to.symm, h.cy, h.ny, ?_, h.oy, h.cn, hap _ _ _ _ _ h.c h.ct, h.co, hap _ _ _ _ _ h.n h.nt, h.no, (hap _ _ _ _ _ h.o h.to.symm).symm⟩, ⟨by omega, fun k hk hy _ ht _ => oW k hk hy ht, fun _ h => Or.inl h, fun g' hg' => by simp only [Value.ownBlock, Option.some.injEq] at hg'; subst hg'; rcases hgg with e | e; exact Or.inl e; exact Or.inr (by omega)⟩⟩
  · refine h.b0.trans ⟨?_, ?_, ?_, by omega, fun k hk => oW k (by omega) (by have := h.hyb; omega) (fun e => by have := hnlt k e; omega)⟩
    · rw [hW]; exact hg.os
    · rw [hW]; exact hg.tape
    · rw [hW]; exact hg.output
  · have e1 : (ts ++ [x]).length = ts.length + 1 := by simp
    have e2 : (ts ++ [x]).map strV = ts.map strV ++ [strV x] := by simp
    rw [e1, e2]
    refine owns_base (owns_blk ho (fun k hk => ?_)) (fun k hk => ?_)
    · simp only [Value.ownBlock, Option.some.injEq] at hk
      subst hk
      rw [hW, blk_other _ _ (by simpa using hgy)]
    · simp only [Value.ownBlock, Option.some.injEq] at hk
      subst hk; exact hgb
  · simp only [Value.ownBlock, ne_eq, Option.some.injEq]; exact hgy

theorem TyG.popN {w0 w : World} {yb : Nat} {cls : List Nat} {cv tv ov : Value} {ns ts : List (List UInt8)} {st : TSt} {x : List UInt8} {g cap : Nat}
    (h : TyG w0 w yb cls cv (.slice (some ⟨g, 0, none⟩) (ns.length + 1) cap) tv ov (ns ++ [x]) ts st) :
    TyG w0 (w.setCell ⟨yb, 1, none⟩ (.slice (some ⟨g, 0, none⟩) ns.length cap)) yb cls cv (.slice (some ⟨g, 0, none⟩) ns.length cap) tv ov ns ts st := by
  have oth : ∀ b, b ≠ yb → (w.setCell ⟨yb, 1, none⟩ (.slice (some ⟨g, 0, none⟩) ns.length cap)).heap[b]? = w.heap[b]? := fun b hb => blk_other _ _ (by simpa using hb)
  have keep : ∀ (v : Value) (base : Nat) (ty : TypeId) (n : Nat) (xs : List Value), w.ownsRow base ty 1 v n xs → v.ownBlock ≠ some yb → (w.setCell ⟨yb, 1, none⟩ (.slice (some ⟨g, 0, none⟩) ns.length cap)).ownsRow base ty 1 v n xs :=
    fun v base ty n xs hv h1 => owns_blk hv (fun k hk => oth k (fun e => h1 (by rw [← e]; exact hk)))
  have hp : w.ownsRow w0.heap.size 9 1 (.slice (some ⟨g, 0, none⟩) ns.length cap) ns.length (ns.map strV) := by
    refine ownsRow_pop (last := [strV x]) (by simp) ?_
    have := h.n
    simpa using this
  refine ⟨?_, h.hyb, (blk_set h.y 1 _).trans rfl, keep _ _ _ _ _ h.c h.cy, keep _ _ _ _ _ hp h.ny, keep _ _ _ _ _ h.t h.ty, keep _ _ _ _ _ h.o h.oy, h.cy, h.ny, h.ty, h.oy, h.cn, h.ct, h.co, h.nt, h.no, h.to⟩
  exact h.b0.setCell (p := ⟨yb, 1, none⟩) h.hyb _

theorem TyG.popT {w0 w : World} {yb : Nat} {cls : List Nat} {cv nv ov : Value} {ns ts : List (List UInt8)} {st : TSt} {x : List UInt8} {g cap : Nat}
    (h : TyG w0 w yb cls cv nv (.slice (some ⟨g, 0, none⟩) (ts.length + 1) cap) ov ns (ts ++ [x]) st) :
    TyG w0 (w.setCell ⟨yb, 2, none⟩ (.slice (some ⟨g, 0, none⟩) ts.length cap)) yb cls cv nv (.slice (some ⟨g, 0, none⟩) ts.length cap) ov ns ts st := by
  have oth : ∀ b, b ≠ yb → (w.setCell ⟨yb, 2, none⟩ (.slice (some ⟨g, 0, none⟩) ts.length cap)).heap[b]? = w.heap[b]? := fun b hb => blk_other _ _ (by simpa using hb)
  have keep : ∀ (v : Value) (base : Nat) (ty : TypeId) (n : Nat) (xs : List Value), w.ownsRow base ty 1 v n xs → v.ownBlock ≠ some yb → (w.setCell ⟨yb, 2, none⟩ (.slice (some ⟨g, 0, none⟩) ts.length cap)).ownsRow base ty 1 v n xs :=
    fun v base ty n xs hv h1 => owns_blk hv (fun k hk => oth k (fun e => h1 (by rw [← e]; exact hk)))
  have hp : w.ownsRow w0.heap.size 9 1 (.slice (some ⟨g, 0, none⟩) ts.length cap) ts.length (ts.map strV) := by
    refine ownsRow_pop (last := [strV x]) (by simp) ?_
    have := h.t
    simpa using this
  refine ⟨?_, h.hyb, (blk_set h.y 2 _).trans rfl, keep _ _ _ _ _ h.c h.cy, keep _ _ _ _ _ h.n h.ny, keep _ _ _ _ _ hp h.ty, keep _ _ _ _ _ h.o h.oy, h.cy, h.ny, h.ty, h.oy, h.cn, h.ct, h.co, h.nt, h.no, h.to⟩
  exact h.b0.setCell (p := ⟨yb, 2, none⟩) h.hyb _

theorem TyG.shapeN {w0 w : World} {yb : Nat} {cls : List Nat} {cv nv tv ov : Value} {ns ts : List (List UInt8)} {st : TSt} (h : TyG w0 w yb cls cv nv tv ov ns ts st) : ∃ a cap, nv = .slice a ns.length cap ∧ (0 < ns.length → ∃ g, a = some ⟨g, 0, none⟩) := by
  rcases h.n.2 with ⟨hv, hn⟩ | ⟨g, cap, cur, hv, _⟩
  · exact ⟨none, 0, by rw [hv, hn], fun h => by omega⟩
  · exact ⟨_, cap, hv, fun _ => ⟨g, rfl⟩⟩
theorem TyG.shapeT {w0 w : World} {yb : Nat} {cls : List Nat} {cv nv tv ov : Value} {ns ts : List (List UInt8)} {st : TSt} (h : TyG w0 w yb cls cv nv tv ov ns ts st) : ∃ a cap, tv = .slice a ts.length cap ∧ (0 < ts.length → ∃ g, a = some ⟨g, 0, none⟩) := by
  rcases h.t.2 with ⟨hv, hn⟩ | ⟨g, cap, cur, hv, _⟩
  · exact ⟨none, 0, by rw [hv, hn], fun h => by omega⟩
  · exact ⟨_, cap, hv, fun _ => ⟨g, rfl⟩⟩

set_option maxRecDepth 100000 in
set_option maxHeartbeats 2000000 in
theorem under_of {w0 : World} {yb : Nat} {cls : List Nat} {t : PT} (hf : FindOk w0 yb cls t) (id site b : Nat) (F : Nat → Prop) (env : TEnv) (st : TSt) (cv nv tv ov : Value) (w : World) (nm : List UInt8) (ty : Ty)
    (hT : IsT w0 F t id site b) (hin : TyIn w0 w yb cls cv nv tv ov env st) (hid : id + t.cnt ≤ st.of.length) (hsite : site + t.prs ≤ cls.length) (hs1 : ∀ x ∈ env, x.2.fit) (hs2 : st.e = 0 → ∀ x ∈ env, x.2.size ≤ 63)
    (ht1 : ty.fit) (ht2 : st.e = 0 → ty.size ≤ 63) (henv : env.length + 1 + t.cnt ≤ 9000) :
    Calls Tryd.prog 100 #[ptr yb, .string (bs nm), .string (bs ty.txt), ptr b] w fun v w' => v = .returned (.string (bs (tyFind cls t id site (env ++ [(nm, ty)]) st).1.txt)) ∧
      ∃ nv' tv', Fr w w' yb nv tv ov nv' tv' ∧ TyIn w0 w' yb cls cv nv' tv' ov env (tyFind cls t id site (env ++ [(nm, ty)]) st).2 := by
  obtain ⟨i0, hi, hz0, hz1, hz2⟩ := info_parts Tryd.infoStr
  have HI : Hid _ := hi
  have HZ0 : Hid _ := hz0
  have HZ1 : Hid _ := hz1
  have HZ2 : Hid _ := hz2
  have hG := hin.toG
  have HG : Hid _ := hG
  obtain ⟨na, nc, hnv, _⟩ := hG.shapeN
  obtain ⟨ta, tc, htv, _⟩ := hG.shapeT
  rw [List.length_map] at hnv htv
  have hy := hG.y
  have hyl := blk_lt hy
  rw [hnv, htv] at hy
  have y1 : w.cell? ⟨yb, 1, none⟩ = some (.slice na env.length nc) := by rw [blk_cell hy]; rfl
  have y2 : w.cell? ⟨yb, 2, none⟩ = some (.slice ta env.length tc) := by rw [blk_cell hy]; rfl
  have f1 : w.frozen? ⟨yb, 1, none⟩ = false := blk_free hy 1
  have f2 : w.frozen? ⟨yb, 2, none⟩ = false := blk_free hy 2
  have HNV : Hid _ := hnv
  have HTV : Hid _ := htv
  have hown : w.ownsRow 0 9 1 (.slice na env.length nc) env.length (env.map fun x => strV x.1) := by
    rw [← hnv]; exact owns_base hin.n (fun _ _ => Nat.zero_le _)
  have HOWN : Hid (w.ownsRow 0 9 1 (.slice na env.length nc) env.length (env.map fun x => strV x.1)) := hown
  clear hi hz0 hz1 hz2 hG hy hown hnv htv
  show Calls _ _ #[Value.pointer (some ⟨yb, 0, none⟩), _, _, Value.pointer (some ⟨b, 0, none⟩)] w _
  go_enter Tryd.func100, Tryd.ntmps100
  go_wp2_with (at_builtin; go_must (refine app_own _ rfl (.tmp 20) (.tmp 22) 84 rfl 9 i0 _ 1 16 Tryd.undStrs HI.out HZ0.out HZ1.out HZ2.out rfl (by decide) (.slice na env.length nc) env.length (env.map fun x => strV x.1) rfl (HOWN.out.alloc _) ⟨w.heap.size, 0, none⟩ 1 1 [strV nm] rfl rfl ?d1 ?d2 (by decide) ?d3 ?d4 ?_))
  case d1 =>
    intro j' u hj'
    match j', hj' with
    | 0, hj' => simp at hj'; subst hj'; simp [Addr.add, strV]
    | j' + 1, hj' => simp at hj'
  case d2 => intro u hu; simp at hu; subst hu; rfl
  case d3 => unfold maxLen; omega
  case d4 => omega
  intro g1 c1 w3 ho3 hg3 hgg3
  have hp1 := TyG.pushN (x := nm) (W := w3.setCell ⟨yb, 1, none⟩ (.slice (some ⟨g1, 0, none⟩) (env.length + 1) c1)) HG.out (by rw [HNV.out]; exact hg3) (by rw [List.length_map, List.map_map]; exact ho3) (by rw [HNV.out]; simpa using hgg3) (by rw [List.length_map])
  rw [List.length_map] at hp1
  obtain ⟨hG1, hs1'⟩ := hp1
  have HG1 : Hid (TyG w0 (w3.setCell ⟨yb, 1, none⟩ (.slice (some ⟨g1, 0, none⟩) (env.length + 1) c1)) yb cls cv (.slice (some ⟨g1, 0, none⟩) (env.length + 1) c1) tv ov (env.map (·.1) ++ [nm]) (env.map (·.2.txt)) st) := hG1
  have hy3 : w3.heap[yb]? = some (.cells (tyCells cv nv tv ov st.e st.at_) 86 (0, 0)) := by
    rw [hg3.block yb (by simp; omega) (fun e => HG.out.ny (by rw [HNV.out]; exact e.symm)), Below.heap_alloc _ _ _ hyl]; exact HG.out.y
  have hyl3 := blk_lt hy3
  rw [HNV.out, HTV.out] at hy3
  have y13 : w3.cell? ⟨yb, 1, none⟩ = some (.slice na env.length nc) := by rw [blk_cell hy3]; rfl
  have y23 : w3.cell? ⟨yb, 2, none⟩ = some (.slice ta env.length tc) := by rw [blk_cell hy3]; rfl
  have f13 : w3.frozen? ⟨yb, 1, none⟩ = false := blk_free hy3 1
  have f23 : w3.frozen? ⟨yb, 2, none⟩ = false := blk_free hy3 2
  have hown2 : (w3.setCell ⟨yb, 1, none⟩ (.slice (some ⟨g1, 0, none⟩) (env.length + 1) c1)).ownsRow 0 9 1 (.slice ta env.length tc) env.length (env.map fun x => strV x.2.txt) := by
    have h := owns_base (base' := 0) hG1.t (fun _ _ => Nat.zero_le _)
    rw [List.length_map, List.map_map, HTV.out] at h; exact h
  have HOWN2 : Hid ((w3.setCell ⟨yb, 1, none⟩ (.slice (some ⟨g1, 0, none⟩) (env.length + 1) c1)).ownsRow 0 9 1 (.slice ta env.length tc) env.length (env.map fun x => strV x.2.txt)) := hown2
  have hsz3 : (w3.setCell ⟨yb, 1, none⟩ (.slice (some ⟨g1, 0, none⟩) (env.length + 1) c1)).heap.size = w3.heap.size := by simp [World.setCell]
  have HSZ3 : Hid _ := hsz3
  clear ho3 hg3 hgg3 hG1 hy3 hown2 y1 y2 f1 f2 hsz3
  go_wp2_with (at_builtin; go_must (refine app_own _ rfl (.tmp 30) (.tmp 32) 84 rfl 9 i0 _ 1 16 Tryd.undStrs HI.out HZ0.out HZ1.out HZ2.out rfl (by decide) (.slice ta env.length tc) env.length (env.map fun x => strV x.2.txt) rfl (HOWN2.out.alloc _) ⟨w3.heap.size, 0, none⟩ 1 1 [strV ty.txt] rfl rfl ?e1 ?e2 (by decide) ?e3 ?e4 ?_))
  case e1 =>
    intro j' u hj'
    match j', hj' with
    | 0, hj' =>
      simp only [List.getElem?_cons_zero, Option.some.injEq] at hj'
      subst hj'
      exact (World.cell?_alloc_at _ _ _ _ HSZ3.out.symm).trans rfl
    | j' + 1, hj' => simp at hj'
  case e2 => intro u hu; simp at hu; subst hu; rfl
  case e3 => unfold maxLen; omega
  case e4 => omega
  intro g2 c2 w5 ho5 hg5 hgg5
  have hp2 := TyG.pushT (x := ty.txt) (W := w5.setCell ⟨yb, 2, none⟩ (.slice (some ⟨g2, 0, none⟩) (env.length + 1) c2)) HG1.out (by rw [HTV.out]; exact hg5) (by rw [List.length_map, List.map_map]; exact ho5) (by rw [HTV.out]; rcases hgg5 with h | h; exact Or.inl h; exact Or.inr (by rw [World.size_alloc, HSZ3.out]; exact h)) (by rw [List.length_map])
  rw [List.length_map] at hp2
  obtain ⟨hG2, hs2'⟩ := hp2
  have hin2 : TyIn w0 (w5.setCell ⟨yb, 2, none⟩ (.slice (some ⟨g2, 0, none⟩) (env.length + 1) c2)) yb cls cv (.slice (some ⟨g1, 0, none⟩) (env.length + 1) c1) (.slice (some ⟨g2, 0, none⟩) (env.length + 1) c2) ov (env ++ [(nm, ty)]) st := by
    apply TyG.toIn
    rw [List.map_append, List.map_append]; exact hG2
  have hfo := hf id site b F (env ++ [(nm, ty)]) st cv _ _ ov _ hT hin2 hid hsite (by intro x hx; rcases List.mem_append.1 hx with h | h; exact hs1 x h; simp at h; subst h; exact ht1) (by intro h0 x hx; rcases List.mem_append.1 hx with h | h; exact hs2 h0 x h; simp at h; subst h; exact ht2 h0) (by simp; omega)
  have hy5 : w5.heap[yb]? = some (.cells (tyCells cv (.slice (some ⟨g1, 0, none⟩) (env.length + 1) c1) tv ov st.e st.at_) 86 (0, 0)) := by
    rw [hg5.block yb (by rw [World.size_alloc, HSZ3.out]; omega) (fun e => HG.out.ty (by rw [HTV.out]; exact e.symm)), Below.heap_alloc _ _ _ (by rw [HSZ3.out]; exact hyl3)]; exact HG1.out.y
  rw [HTV.out] at hy5
  have y15 : w5.cell? ⟨yb, 1, none⟩ = some (.slice (some ⟨g1, 0, none⟩) (env.length + 1) c1) := by rw [blk_cell hy5]; rfl
  have y25 : w5.cell? ⟨yb, 2, none⟩ = some (.slice ta env.length tc) := by rw [blk_cell hy5]; rfl
  have f25 : w5.frozen? ⟨yb, 2, none⟩ = false := blk_free hy5 2
  have hsw := hs1'.trans hs2'
  clear ho5 hg5 hgg5 hG2 hin2 hy5 y13 y23 f13 f23
  unfold ptr at hfo
  go_wp2_with fail
  refine hfo.mono ?_
  rintro e w7 ⟨rfl, nv7, tv7, hs7, hin7⟩
  have hG7 := hin7.toG
  rw [List.map_append, List.map_append] at hG7
  obtain ⟨na7, nc7, hnv7, hna7⟩ := hG7.shapeN
  obtain ⟨ta7, tc7, htv7, hta7⟩ := hG7.shapeT
  obtain ⟨g7, hg7⟩ := hna7 (by simp)
  obtain ⟨g8, hg8⟩ := hta7 (by simp)
  have el : (env.map (fun x => x.1) ++ List.map (fun x => x.1) [(nm, ty)]).length = env.length + 1 := by simp
  have el2 : (env.map (fun x => x.2.txt) ++ List.map (fun x => x.2.txt) [(nm, ty)]).length = env.length + 1 := by simp
  rw [el, hg7] at hnv7
  rw [el2, hg8] at htv7
  have hcap7 : env.length + 1 ≤ nc7 := by
    have h := hG7.n.2
    rw [hnv7, el] at h
    rcases h with ⟨h, _⟩ | ⟨g, cap, cur, h, _, _, h3, _⟩
    · cases h
    · simp only [Value.slice.injEq] at h; omega
  have hcap8 : env.length + 1 ≤ tc7 := by
    have h := hG7.t.2
    rw [htv7, el2] at h
    rcases h with ⟨h, _⟩ | ⟨g, cap, cur, h, _, _, h3, _⟩
    · cases h
    · simp only [Value.slice.injEq] at h; omega
  rw [hnv7, htv7] at hG7
  obtain ⟨st7, hst7⟩ : ∃ st7, st7 = (tyFind cls t id site (env ++ [(nm, ty)]) st).2 := ⟨_, rfl⟩
  rw [← hst7] at hG7
  have y17 : w7.cell? ⟨yb, 1, none⟩ = some (.slice (some ⟨g7, 0, none⟩) (env.length + 1) nc7) := by rw [blk_cell hG7.y]; rfl
  have y27 : w7.cell? ⟨yb, 2, none⟩ = some (.slice (some ⟨g8, 0, none⟩) (env.length + 1) tc7) := by rw [blk_cell hG7.y]; rfl
  have f17 : w7.frozen? ⟨yb, 1, none⟩ = false := blk_free hG7.y 1
  have f27 : w7.frozen? ⟨yb, 2, none⟩ = false := blk_free hG7.y 2
  have hP : TyG w0 ((w7.setCell ⟨yb, 1, none⟩ (.slice (some ⟨g7, 0, none⟩) env.length nc7)).setCell ⟨yb, 2, none⟩ (.slice (some ⟨g8, 0, none⟩) env.length tc7)) yb cls cv (.slice (some ⟨g7, 0, none⟩) env.length nc7) (.slice (some ⟨g8, 0, none⟩) env.length tc7) ov (env.map (·.1)) (env.map (·.2.txt)) st7 := by
    have l1 : (env.map (fun x => x.1)).length = env.length := by simp
    have l2 : (env.map (fun x => x.2.txt)).length = env.length := by simp
    have q1 := TyG.popN (ns := env.map (fun x => x.1)) (x := nm) (g := g7) (cap := nc7) (by rw [l1]; exact hG7)
    have q2 := TyG.popT (ts := env.map (fun x => x.2.txt)) (x := ty.txt) (g := g8) (cap := tc7) (by rw [l2]; exact q1)
    rw [l1, l2] at q2
    exact q2
  have HP : Hid _ := hP
  have HST : Hid _ := hst7
  have hs8 := hsw.trans hs7
  rw [hnv7, htv7] at hs8
  have HS7 : Hid _ := hs8
  clear hs8 hs1' hs2' hP hst7 hG7 hin7 hs7 hnv7 htv7 hna7 hta7 hg7 hg8 el el2 y15 y25 f25 hfo hsw
  go_wp2
  go_ret
  refine ⟨rfl, .slice (some ⟨g7, 0, none⟩) env.length nc7, .slice (some ⟨g8, 0, none⟩) env.length tc7, ?_, ?_⟩
  · have h := HS7.out
    have g1 := (Fr.grown (yb := yb) (gr_set w7 ⟨yb, 1, none⟩ (.slice (some ⟨g7, 0, none⟩) env.length nc7)) (.slice (some ⟨g7, 0, none⟩) (env.length + 1) nc7) (.slice (some ⟨g8, 0, none⟩) (env.length + 1) tc7) ov)
    have g2 := (Fr.grown (yb := yb) (gr_set (w7.setCell ⟨yb, 1, none⟩ (.slice (some ⟨g7, 0, none⟩) env.length nc7)) ⟨yb, 2, none⟩ (.slice (some ⟨g8, 0, none⟩) env.length tc7)) (.slice (some ⟨g7, 0, none⟩) (env.length + 1) nc7) (.slice (some ⟨g8, 0, none⟩) (env.length + 1) tc7) ov)
    have h2 := (h.trans g1).trans g2
    exact ⟨h2.size, h2.blk, h2.n, h2.t⟩
  rw [← HST.out]
  exact HP.out.toIn
end Go.Proofs.YtglkpkmdoohdcaaDoor
