import Derived.Test.YtpicaknklgccoaaGreatDoorP4
namespace Go.Proofs.YtpicaknklgccoaaGreatDoor
open Go.RowKit
structure TyG (w0 w : World) (yb : Nat) (cls : List Nat) (cv nv tv ov : Value) (ns ts : List (List UInt8)) (st : TSt) : Prop where
 b0 : Below w0.heap.size w0 w
 hyb : w0.heap.size ≤ yb
 y : w.heap[yb]? = some (.cells (tyCells cv nv tv ov st.e st.at_) 115 (0, 0))
 c : w.ownsRow w0.heap.size 3 1 cv cls.length (cls.map fun (k : Nat) => Value.int .i64 k)
 n : w.ownsRow w0.heap.size 9 1 nv ns.length (ns.map strV)
 t : w.ownsRow w0.heap.size 9 1 tv ts.length (ts.map strV)
 o : w.ownsRow w0.heap.size 9 1 ov st.of.length (st.of.map strV)
 cy : cv.ownBlock ≠ some yb
 ny : nv.ownBlock ≠ some yb
 ty : tv.ownBlock ≠ some yb
 oy : ov.ownBlock ≠ some yb
 cn : apart cv nv
 ct : apart cv tv
 co : apart cv ov
 nt : apart nv tv
 no : apart nv ov
 tov : apart tv ov
theorem TyIn.toG {w0 w : World} {yb : Nat} {cls : List Nat} {cv nv tv ov : Value} {env : TEnv} {st : TSt} (h : TyIn w0 w yb cls cv nv tv ov env st) : TyG w0 w yb cls cv nv tv ov (env.map (·.1)) (env.map (·.2.txt)) st :=
 ⟨h.b0, h.hyb, h.y, h.c, by rw [List.length_map, List.map_map]; exact h.n, by rw [List.length_map, List.map_map]; exact h.t, h.o, h.cy, h.ny, h.ty, h.oy, h.cn, h.ct, h.co, h.nt, h.no, h.tov⟩
theorem TyG.toIn {w0 w : World} {yb : Nat} {cls : List Nat} {cv nv tv ov : Value} {env : TEnv} {st : TSt} (h : TyG w0 w yb cls cv nv tv ov (env.map (·.1)) (env.map (·.2.txt)) st) : TyIn w0 w yb cls cv nv tv ov env st :=
 ⟨h.b0, h.hyb, h.y, h.c, by have := h.n; rw [List.length_map, List.map_map] at this; exact this, by have := h.t; rw [List.length_map, List.map_map] at this; exact this, h.o, h.cy, h.ny, h.ty, h.oy, h.cn, h.ct, h.co, h.nt, h.no, h.tov⟩
theorem TyG.pushN {w0 w w3 W : World} {yb : Nat} {cls : List Nat} {cv nv tv ov : Value} {ns ts : List (List UInt8)} {st : TSt} {x : List UInt8} {g cap : Nat} {A : Obj}
  (h : TyG w0 w yb cls cv nv tv ov ns ts st) (hg : (w.alloc A).grownBy w3 nv.ownBlock) (ho : w3.ownsRow 0 9 1 (.slice (some ⟨g, 0, none⟩) (ns.length + 1) cap) (ns.length + 1) (ns.map strV ++ [strV x]))
  (hgg : nv.ownBlock = some g ∨ (w.alloc A).heap.size ≤ g) (hW : W = w3.setCell ⟨yb, 1, none⟩ (.slice (some ⟨g, 0, none⟩) (ns.length + 1) cap)) :
  TyG w0 W yb cls cv (.slice (some ⟨g, 0, none⟩) (ns.length + 1) cap) tv ov (ns ++ [x]) ts st ∧ Fr w W yb nv tv ov (.slice (some ⟨g, 0, none⟩) (ns.length + 1) cap) tv := by
 have hb0 := h.b0.size
 have hyl := blk_lt h.y
 have ea : (w.alloc A).heap.size = w.heap.size + 1 := by simp
 have hs3 := hg.size
 rw [ea] at hgg hs3
 have hsW : W.heap.size = w3.heap.size := by rw [hW]; simp [World.setCell]
 have hnlt : ∀ g, nv.ownBlock = some g → w0.heap.size ≤ g ∧ g < w.heap.size := fun g hg => h.n.lt g hg
 have o3 : ∀ b, b < w.heap.size → nv.ownBlock ≠ some b → w3.heap[b]? = w.heap[b]? := by
  intro b hb hn
  rw [hg.block b (by rw [ea]; omega) (fun e => hn e.symm), Below.heap_alloc _ _ _ hb]
 have oW : ∀ b, b < w.heap.size → b ≠ yb → nv.ownBlock ≠ some b → W.heap[b]? = w.heap[b]? := by
  intro b hb hby hn
  rw [hW, blk_other _ _ (by simpa using hby), o3 b hb hn]
 have keep : ∀ (v : Value) (base : Nat) (ty : TypeId) (n : Nat) (xs : List Value), w.ownsRow base ty 1 v n xs → v.ownBlock ≠ some yb → apart v nv → W.ownsRow base ty 1 v n xs := by
  intro v base ty n xs hv h1 h2
  exact owns_blk hv (fun k hk => oW k (hv.lt k hk).2 (fun e => h1 (by rw [← e]; exact hk)) (h2 k hk))
 have hgy : g ≠ yb := by
  intro e
  rcases hgg with hh | hh
  ·exact h.ny (by rw [hh, e])
  ·omega
 have hgb : w0.heap.size ≤ g := by
  rcases hgg with hh | hh
  ·exact (hnlt g hh).1
  ·omega
 have hap : ∀ (v : Value) (base : Nat) (ty : TypeId) (n : Nat) (xs : List Value), w.ownsRow base ty 1 v n xs → apart v nv → apart v (.slice (some ⟨g, 0, none⟩) (ns.length + 1) cap) := by
  intro v base ty n xs hv h2 k hk hk'
  simp only [Value.ownBlock, Option.some.injEq] at hk'
  subst hk'
  rcases hgg with hh | hh
  ·exact h2 _ hk hh
  ·have := (hv.lt _ hk).2; omega
 have hyW : W.heap[yb]? = some (.cells (tyCells cv (.slice (some ⟨g, 0, none⟩) (ns.length + 1) cap) tv ov st.e st.at_) 115 (0, 0)) := by
  rw [hW]
  refine (blk_set (arr := tyCells cv nv tv ov st.e st.at_) ?_ 1 _).trans rfl
  rw [o3 yb hyl h.ny]; exact h.y
 refine ⟨⟨?_, h.hyb, hyW, keep _ _ _ _ _ h.c h.cy h.cn, ?_, keep _ _ _ _ _ h.t h.ty h.nt.symm, keep _ _ _ _ _ h.o h.oy h.no.symm, h.cy, ?_, h.ty, h.oy, hap _ _ _ _ _ h.c h.cn, h.ct, h.co, (hap _ _ _ _ _ h.t h.nt.symm).symm, (hap _ _ _ _ _ h.o h.no.symm).symm, h.tov⟩, ⟨by omega, fun k hk hy hn _ _ => oW k hk hy hn, fun g' hg' => by simp only [Value.ownBlock, Option.some.injEq] at hg'; subst hg'; rcases hgg with e | e; exact Or.inl e; exact Or.inr (by omega), fun _ h => Or.inl h⟩⟩
 ·refine h.b0.trans ⟨?_, ?_, ?_, by omega, fun k hk => oW k (by omega) (by have := h.hyb; omega) (fun e => by have := hnlt k e; omega)⟩
  ·rw [hW]; exact hg.os
  ·rw [hW]; exact hg.tape
  ·rw [hW]; exact hg.output
 ·have e1 : (ns ++ [x]).length = ns.length + 1 := by simp
  have e2 : (ns ++ [x]).map strV = ns.map strV ++ [strV x] := by simp
  rw [e1, e2]
  refine owns_base (owns_blk ho (fun k hk => ?_)) (fun k hk => ?_)
  ·simp only [Value.ownBlock, Option.some.injEq] at hk
   subst hk
   rw [hW, blk_other _ _ (by simpa using hgy)]
  ·simp only [Value.ownBlock, Option.some.injEq] at hk
   subst hk; exact hgb
 ·simp only [Value.ownBlock, ne_eq, Option.some.injEq]; exact hgy
theorem TyG.pushT {w0 w w3 W : World} {yb : Nat} {cls : List Nat} {cv nv tv ov : Value} {ns ts : List (List UInt8)} {st : TSt} {x : List UInt8} {g cap : Nat} {A : Obj}
  (h : TyG w0 w yb cls cv nv tv ov ns ts st) (hg : (w.alloc A).grownBy w3 tv.ownBlock) (ho : w3.ownsRow 0 9 1 (.slice (some ⟨g, 0, none⟩) (ts.length + 1) cap) (ts.length + 1) (ts.map strV ++ [strV x]))
  (hgg : tv.ownBlock = some g ∨ (w.alloc A).heap.size ≤ g) (hW : W = w3.setCell ⟨yb, 2, none⟩ (.slice (some ⟨g, 0, none⟩) (ts.length + 1) cap)) :
  TyG w0 W yb cls cv nv (.slice (some ⟨g, 0, none⟩) (ts.length + 1) cap) ov ns (ts ++ [x]) st ∧ Fr w W yb nv tv ov nv (.slice (some ⟨g, 0, none⟩) (ts.length + 1) cap) := by
 have hb0 := h.b0.size
 have hyl := blk_lt h.y
 have ea : (w.alloc A).heap.size = w.heap.size + 1 := by simp
 have hs3 := hg.size
 rw [ea] at hgg hs3
 have hsW : W.heap.size = w3.heap.size := by rw [hW]; simp [World.setCell]
 have hnlt : ∀ g, tv.ownBlock = some g → w0.heap.size ≤ g ∧ g < w.heap.size := fun g hg => h.t.lt g hg
 have o3 : ∀ b, b < w.heap.size → tv.ownBlock ≠ some b → w3.heap[b]? = w.heap[b]? := by
  intro b hb hn
  rw [hg.block b (by rw [ea]; omega) (fun e => hn e.symm), Below.heap_alloc _ _ _ hb]
 have oW : ∀ b, b < w.heap.size → b ≠ yb → tv.ownBlock ≠ some b → W.heap[b]? = w.heap[b]? := by
  intro b hb hby hn
  rw [hW, blk_other _ _ (by simpa using hby), o3 b hb hn]
 have keep : ∀ (v : Value) (base : Nat) (ty : TypeId) (n : Nat) (xs : List Value), w.ownsRow base ty 1 v n xs → v.ownBlock ≠ some yb → apart v tv → W.ownsRow base ty 1 v n xs := by
  intro v base ty n xs hv h1 h2
  exact owns_blk hv (fun k hk => oW k (hv.lt k hk).2 (fun e => h1 (by rw [← e]; exact hk)) (h2 k hk))
 have hgy : g ≠ yb := by
  intro e
  rcases hgg with hh | hh
  ·exact h.ty (by rw [hh, e])
  ·omega
 have hgb : w0.heap.size ≤ g := by
  rcases hgg with hh | hh
  ·exact (hnlt g hh).1
  ·omega
 have hap : ∀ (v : Value) (base : Nat) (ty : TypeId) (n : Nat) (xs : List Value), w.ownsRow base ty 1 v n xs → apart v tv → apart v (.slice (some ⟨g, 0, none⟩) (ts.length + 1) cap) := by
  intro v base ty n xs hv h2 k hk hk'
  simp only [Value.ownBlock, Option.some.injEq] at hk'
  subst hk'
  rcases hgg with hh | hh
  ·exact h2 _ hk hh
  ·have := (hv.lt _ hk).2; omega
 have hyW : W.heap[yb]? = some (.cells (tyCells cv nv (.slice (some ⟨g, 0, none⟩) (ts.length + 1) cap) ov st.e st.at_) 115 (0, 0)) := by
  rw [hW]
  refine (blk_set (arr := tyCells cv nv tv ov st.e st.at_) ?_ 2 _).trans rfl
  rw [o3 yb hyl h.ty]; exact h.y
 refine ⟨⟨?_, h.hyb, hyW, keep _ _ _ _ _ h.c h.cy h.ct, keep _ _ _ _ _ h.n h.ny h.nt, ?_, keep _ _ _ _ _ h.o h.oy h.tov.symm, h.cy, h.ny, ?_, h.oy, h.cn, hap _ _ _ _ _ h.c h.ct, h.co, hap _ _ _ _ _ h.n h.nt, h.no, (hap _ _ _ _ _ h.o h.tov.symm).symm⟩, ⟨by omega, fun k hk hy _ ht _ => oW k hk hy ht, fun _ h => Or.inl h, fun g' hg' => by simp only [Value.ownBlock, Option.some.injEq] at hg'; subst hg'; rcases hgg with e | e; exact Or.inl e; exact Or.inr (by omega)⟩⟩
 ·refine h.b0.trans ⟨?_, ?_, ?_, by omega, fun k hk => oW k (by omega) (by have := h.hyb; omega) (fun e => by have := hnlt k e; omega)⟩
  ·rw [hW]; exact hg.os
  ·rw [hW]; exact hg.tape
  ·rw [hW]; exact hg.output
 ·have e1 : (ts ++ [x]).length = ts.length + 1 := by simp
  have e2 : (ts ++ [x]).map strV = ts.map strV ++ [strV x] := by simp
  rw [e1, e2]
  refine owns_base (owns_blk ho (fun k hk => ?_)) (fun k hk => ?_)
  ·simp only [Value.ownBlock, Option.some.injEq] at hk
   subst hk
   rw [hW, blk_other _ _ (by simpa using hgy)]
  ·simp only [Value.ownBlock, Option.some.injEq] at hk
   subst hk; exact hgb
 ·simp only [Value.ownBlock, ne_eq, Option.some.injEq]; exact hgy
theorem TyG.popN {w0 w : World} {yb : Nat} {cls : List Nat} {cv tv ov : Value} {ns ts : List (List UInt8)} {st : TSt} {x : List UInt8} {g cap : Nat}
  (h : TyG w0 w yb cls cv (.slice (some ⟨g, 0, none⟩) (ns.length + 1) cap) tv ov (ns ++ [x]) ts st) :
  TyG w0 (w.setCell ⟨yb, 1, none⟩ (.slice (some ⟨g, 0, none⟩) ns.length cap)) yb cls cv (.slice (some ⟨g, 0, none⟩) ns.length cap) tv ov ns ts st := by
 have oth : ∀ b, b ≠ yb → (w.setCell ⟨yb, 1, none⟩ (.slice (some ⟨g, 0, none⟩) ns.length cap)).heap[b]? = w.heap[b]? := fun b hb => blk_other _ _ (by simpa using hb)
 have keep : ∀ (v : Value) (base : Nat) (ty : TypeId) (n : Nat) (xs : List Value), w.ownsRow base ty 1 v n xs → v.ownBlock ≠ some yb → (w.setCell ⟨yb, 1, none⟩ (.slice (some ⟨g, 0, none⟩) ns.length cap)).ownsRow base ty 1 v n xs :=
  fun v base ty n xs hv h1 => owns_blk hv (fun k hk => oth k (fun e => h1 (by rw [← e]; exact hk)))
 have hp : w.ownsRow w0.heap.size 9 1 (.slice (some ⟨g, 0, none⟩) ns.length cap) ns.length (ns.map strV) := by
  refine ownsRow_pop (last := [strV x]) (by simp) ?_
  have := h.n
  simpa using this
 refine ⟨?_, h.hyb, (blk_set h.y 1 _).trans rfl, keep _ _ _ _ _ h.c h.cy, keep _ _ _ _ _ hp h.ny, keep _ _ _ _ _ h.t h.ty, keep _ _ _ _ _ h.o h.oy, h.cy, h.ny, h.ty, h.oy, h.cn, h.ct, h.co, h.nt, h.no, h.tov⟩
 exact h.b0.setCell (p := ⟨yb, 1, none⟩) h.hyb _
theorem TyG.popT {w0 w : World} {yb : Nat} {cls : List Nat} {cv nv ov : Value} {ns ts : List (List UInt8)} {st : TSt} {x : List UInt8} {g cap : Nat}
  (h : TyG w0 w yb cls cv nv (.slice (some ⟨g, 0, none⟩) (ts.length + 1) cap) ov ns (ts ++ [x]) st) :
  TyG w0 (w.setCell ⟨yb, 2, none⟩ (.slice (some ⟨g, 0, none⟩) ts.length cap)) yb cls cv nv (.slice (some ⟨g, 0, none⟩) ts.length cap) ov ns ts st := by
 have oth : ∀ b, b ≠ yb → (w.setCell ⟨yb, 2, none⟩ (.slice (some ⟨g, 0, none⟩) ts.length cap)).heap[b]? = w.heap[b]? := fun b hb => blk_other _ _ (by simpa using hb)
 have keep : ∀ (v : Value) (base : Nat) (ty : TypeId) (n : Nat) (xs : List Value), w.ownsRow base ty 1 v n xs → v.ownBlock ≠ some yb → (w.setCell ⟨yb, 2, none⟩ (.slice (some ⟨g, 0, none⟩) ts.length cap)).ownsRow base ty 1 v n xs :=
  fun v base ty n xs hv h1 => owns_blk hv (fun k hk => oth k (fun e => h1 (by rw [← e]; exact hk)))
 have hp : w.ownsRow w0.heap.size 9 1 (.slice (some ⟨g, 0, none⟩) ts.length cap) ts.length (ts.map strV) := by
  refine ownsRow_pop (last := [strV x]) (by simp) ?_
  have := h.t
  simpa using this
 refine ⟨?_, h.hyb, (blk_set h.y 2 _).trans rfl, keep _ _ _ _ _ h.c h.cy, keep _ _ _ _ _ h.n h.ny, keep _ _ _ _ _ hp h.ty, keep _ _ _ _ _ h.o h.oy, h.cy, h.ny, h.ty, h.oy, h.cn, h.ct, h.co, h.nt, h.no, h.tov⟩
 exact h.b0.setCell (p := ⟨yb, 2, none⟩) h.hyb _
theorem TyG.shapeN {w0 w : World} {yb : Nat} {cls : List Nat} {cv nv tv ov : Value} {ns ts : List (List UInt8)} {st : TSt} (h : TyG w0 w yb cls cv nv tv ov ns ts st) : ∃ a cap, nv = .slice a ns.length cap ∧ (0 < ns.length → ∃ g, a = some ⟨g, 0, none⟩) := by
 rcases h.n.2 with ⟨hv, hn⟩ | ⟨g, cap, cur, hv, _⟩
 ·exact ⟨none, 0, by rw [hv, hn], fun h => by omega⟩
 ·exact ⟨_, cap, hv, fun _ => ⟨g, rfl⟩⟩
theorem TyG.shapeT {w0 w : World} {yb : Nat} {cls : List Nat} {cv nv tv ov : Value} {ns ts : List (List UInt8)} {st : TSt} (h : TyG w0 w yb cls cv nv tv ov ns ts st) : ∃ a cap, tv = .slice a ts.length cap ∧ (0 < ts.length → ∃ g, a = some ⟨g, 0, none⟩) := by
 rcases h.t.2 with ⟨hv, hn⟩ | ⟨g, cap, cur, hv, _⟩
 ·exact ⟨none, 0, by rw [hv, hn], fun h => by omega⟩
 ·exact ⟨_, cap, hv, fun _ => ⟨g, rfl⟩⟩
set_option maxRecDepth 100000 in
set_option maxHeartbeats 2000000 in
theorem under_of {w0 : World} {yb : Nat} {cls : List Nat} {t : PT} (hf : FindOk w0 yb cls t) (id site b : Nat) (F : Nat → Prop) (env : TEnv) (st : TSt) (cv nv tv ov : Value) (w : World) (nm : List UInt8) (ty : Ty)
  (hT : IsT w0 F t id site b) (hin : TyIn w0 w yb cls cv nv tv ov env st) (hid : id + t.cnt ≤ st.of.length) (hsite : site + t.prs ≤ cls.length) (hs1 : ∀ x ∈ env, x.2.fit) (hs2 : st.e = 0 → ∀ x ∈ env, x.2.size ≤ 63)
  (ht1 : ty.fit) (ht2 : st.e = 0 → ty.size ≤ 63) (henv : env.length + 1 + t.cnt ≤ 9000) :
  Calls Tryz.prog 143 #[ptr yb, .string (bs nm), .string (bs ty.txt), ptr b] w fun v w' => v = .returned (.string (bs (tyFind cls t id site (env ++ [(nm, ty)]) st).1.txt)) ∧
   ∃ nv' tv', Fr w w' yb nv tv ov nv' tv' ∧ TyIn w0 w' yb cls cv nv' tv' ov env (tyFind cls t id site (env ++ [(nm, ty)]) st).2 := by
 obtain ⟨i0, hi, hz0, hz1, hz2⟩ := info_parts Tryz.infoStr
 have HI : Hid _ := hi
 have HZ0 : Hid _ := hz0
 have HZ1 : Hid _ := hz1
 have HZ2 : Hid _ := hz2
 have hG := hin.toG
 have HG : Hid _ := hG
 obtain ⟨na, nc, hnv, _⟩ := hG.shapeN
 obtain ⟨ta, tc, htv, _⟩ := hG.shapeT
 rw [List.length_map] at hnv htv
 have hy := hG.y
 have hyl := blk_lt hy
 rw [hnv, htv] at hy
 have y1 : w.cell? ⟨yb, 1, none⟩ = some (.slice na env.length nc) := by rw [blk_cell hy]; rfl
 have y2 : w.cell? ⟨yb, 2, none⟩ = some (.slice ta env.length tc) := by rw [blk_cell hy]; rfl
 have f1 : w.frozen? ⟨yb, 1, none⟩ = false := blk_free hy 1
 have f2 : w.frozen? ⟨yb, 2, none⟩ = false := blk_free hy 2
 have HNV : Hid _ := hnv
 have HTV : Hid _ := htv
 have hown : w.ownsRow 0 9 1 (.slice na env.length nc) env.length (env.map fun x => strV x.1) := by
  rw [← hnv]; exact owns_base hin.n (fun _ _ => Nat.zero_le _)
 have HOWN : Hid (w.ownsRow 0 9 1 (.slice na env.length nc) env.length (env.map fun x => strV x.1)) := hown
 clear hi hz0 hz1 hz2 hG hy hown hnv htv
 show Calls _ _ #[Value.pointer (some ⟨yb, 0, none⟩), _, _, Value.pointer (some ⟨b, 0, none⟩)] w _
 go_enter Tryz.func143, Tryz.ntmps143
 go_wp2_with (at_builtin; go_must (refine app_own _ rfl (.tmp 20) (.tmp 22) 68 rfl 9 i0 _ 1 16 Tryz.undStrs HI.out HZ0.out HZ1.out HZ2.out rfl (by decide) (.slice na env.length nc) env.length (env.map fun x => strV x.1) rfl (HOWN.out.alloc _) ⟨w.heap.size, 0, none⟩ 1 1 [strV nm] rfl rfl ?d1 ?d2 (by decide) ?d3 ?d4 ?_))
 case d1 =>
  intro j' u hj'
  match j', hj' with
  | 0, hj' => simp at hj'; subst hj'; simp [Addr.add, strV]
  | j' + 1, hj' => simp at hj'
 case d2 => intro u hu; simp at hu; subst hu; rfl
 case d3 => unfold maxLen; omega
 case d4 => omega
 intro g1 c1 w3 ho3 hg3 hgg3
 have hp1 := TyG.pushN (x := nm) (W := w3.setCell ⟨yb, 1, none⟩ (.slice (some ⟨g1, 0, none⟩) (env.length + 1) c1)) HG.out (by rw [HNV.out]; exact hg3) (by rw [List.length_map, List.map_map]; exact ho3) (by rw [HNV.out]; simpa using hgg3) (by rw [List.length_map])
 rw [List.length_map] at hp1
 obtain ⟨hG1, hs1'⟩ := hp1
 have HG1 : Hid (TyG w0 (w3.setCell ⟨yb, 1, none⟩ (.slice (some ⟨g1, 0, none⟩) (env.length + 1) c1)) yb cls cv (.slice (some ⟨g1, 0, none⟩) (env.length + 1) c1) tv ov (env.map (·.1) ++ [nm]) (env.map (·.2.txt)) st) := hG1
 have hy3 : w3.heap[yb]? = some (.cells (tyCells cv nv tv ov st.e st.at_) 115 (0, 0)) := by
  rw [hg3.block yb (by simp; omega) (fun e => HG.out.ny (by rw [HNV.out]; exact e.symm)), Below.heap_alloc _ _ _ hyl]; exact HG.out.y
 have hyl3 := blk_lt hy3
 rw [HNV.out, HTV.out] at hy3
 have y13 : w3.cell? ⟨yb, 1, none⟩ = some (.slice na env.length nc) := by rw [blk_cell hy3]; rfl
 have y23 : w3.cell? ⟨yb, 2, none⟩ = some (.slice ta env.length tc) := by rw [blk_cell hy3]; rfl
 have f13 : w3.frozen? ⟨yb, 1, none⟩ = false := blk_free hy3 1
 have f23 : w3.frozen? ⟨yb, 2, none⟩ = false := blk_free hy3 2
 have hown2 : (w3.setCell ⟨yb, 1, none⟩ (.slice (some ⟨g1, 0, none⟩) (env.length + 1) c1)).ownsRow 0 9 1 (.slice ta env.length tc) env.length (env.map fun x => strV x.2.txt) := by
  have h := owns_base (base' := 0) hG1.t (fun _ _ => Nat.zero_le _)
  rw [List.length_map, List.map_map, HTV.out] at h; exact h
 have HOWN2 : Hid ((w3.setCell ⟨yb, 1, none⟩ (.slice (some ⟨g1, 0, none⟩) (env.length + 1) c1)).ownsRow 0 9 1 (.slice ta env.length tc) env.length (env.map fun x => strV x.2.txt)) := hown2
 have hsz3 : (w3.setCell ⟨yb, 1, none⟩ (.slice (some ⟨g1, 0, none⟩) (env.length + 1) c1)).heap.size = w3.heap.size := by simp [World.setCell]
 have HSZ3 : Hid _ := hsz3
 clear ho3 hg3 hgg3 hG1 hy3 hown2 y1 y2 f1 f2 hsz3
 go_wp2_with (at_builtin; go_must (refine app_own _ rfl (.tmp 30) (.tmp 32) 68 rfl 9 i0 _ 1 16 Tryz.undStrs HI.out HZ0.out HZ1.out HZ2.out rfl (by decide) (.slice ta env.length tc) env.length (env.map fun x => strV x.2.txt) rfl (HOWN2.out.alloc _) ⟨w3.heap.size, 0, none⟩ 1 1 [strV ty.txt] rfl rfl ?e1 ?e2 (by decide) ?e3 ?e4 ?_))
 case e1 =>
  intro j' u hj'
  match j', hj' with
  | 0, hj' =>
   simp only [List.getElem?_cons_zero, Option.some.injEq] at hj'
   subst hj'
   exact (World.cell?_alloc_at _ _ _ _ HSZ3.out.symm).trans rfl
  | j' + 1, hj' => simp at hj'
 case e2 => intro u hu; simp at hu; subst hu; rfl
 case e3 => unfold maxLen; omega
 case e4 => omega
 intro g2 c2 w5 ho5 hg5 hgg5
 have hp2 := TyG.pushT (x := ty.txt) (W := w5.setCell ⟨yb, 2, none⟩ (.slice (some ⟨g2, 0, none⟩) (env.length + 1) c2)) HG1.out (by rw [HTV.out]; exact hg5) (by rw [List.length_map, List.map_map]; exact ho5) (by rw [HTV.out]; rcases hgg5 with h | h; exact Or.inl h; exact Or.inr (by rw [World.size_alloc, HSZ3.out]; exact h)) (by rw [List.length_map])
 rw [List.length_map] at hp2
 obtain ⟨hG2, hs2'⟩ := hp2
 have hin2 : TyIn w0 (w5.setCell ⟨yb, 2, none⟩ (.slice (some ⟨g2, 0, none⟩) (env.length + 1) c2)) yb cls cv (.slice (some ⟨g1, 0, none⟩) (env.length + 1) c1) (.slice (some ⟨g2, 0, none⟩) (env.length + 1) c2) ov (env ++ [(nm, ty)]) st := by
  apply TyG.toIn
  rw [List.map_append, List.map_append]; exact hG2
 have hfo := hf id site b F (env ++ [(nm, ty)]) st cv _ _ ov _ hT hin2 hid hsite (by intro x hx; rcases List.mem_append.1 hx with h | h; exact hs1 x h; simp at h; subst h; exact ht1) (by intro h0 x hx; rcases List.mem_append.1 hx with h | h; exact hs2 h0 x h; simp at h; subst h; exact ht2 h0) (by simp; omega)
 have hy5 : w5.heap[yb]? = some (.cells (tyCells cv (.slice (some ⟨g1, 0, none⟩) (env.length + 1) c1) tv ov st.e st.at_) 115 (0, 0)) := by
  rw [hg5.block yb (by rw [World.size_alloc, HSZ3.out]; omega) (fun e => HG.out.ty (by rw [HTV.out]; exact e.symm)), Below.heap_alloc _ _ _ (by rw [HSZ3.out]; exact hyl3)]; exact HG1.out.y
 rw [HTV.out] at hy5
 have y15 : w5.cell? ⟨yb, 1, none⟩ = some (.slice (some ⟨g1, 0, none⟩) (env.length + 1) c1) := by rw [blk_cell hy5]; rfl
 have y25 : w5.cell? ⟨yb, 2, none⟩ = some (.slice ta env.length tc) := by rw [blk_cell hy5]; rfl
 have f25 : w5.frozen? ⟨yb, 2, none⟩ = false := blk_free hy5 2
 have hsw := hs1'.trans hs2'
 clear ho5 hg5 hgg5 hG2 hin2 hy5 y13 y23 f13 f23
 unfold ptr at hfo
 go_wp2_with fail
 refine hfo.mono ?_
 rintro e w7 ⟨rfl, nv7, tv7, hs7, hin7⟩
 have hG7 := hin7.toG
 rw [List.map_append, List.map_append] at hG7
 obtain ⟨na7, nc7, hnv7, hna7⟩ := hG7.shapeN
 obtain ⟨ta7, tc7, htv7, hta7⟩ := hG7.shapeT
 obtain ⟨g7, hg7⟩ := hna7 (by simp)
 obtain ⟨g8, hg8⟩ := hta7 (by simp)
 have el : (env.map (fun x => x.1) ++ List.map (fun x => x.1) [(nm, ty)]).length = env.length + 1 := by simp
 have el2 : (env.map (fun x => x.2.txt) ++ List.map (fun x => x.2.txt) [(nm, ty)]).length = env.length + 1 := by simp
 rw [el, hg7] at hnv7
 rw [el2, hg8] at htv7
 have hcap7 : env.length + 1 ≤ nc7 := by
  have h := hG7.n.2
  rw [hnv7, el] at h
  rcases h with ⟨h, _⟩ | ⟨g, cap, cur, h, _, _, h3, _⟩
  ·cases h
  ·simp only [Value.slice.injEq] at h; omega
 have hcap8 : env.length + 1 ≤ tc7 := by
  have h := hG7.t.2
  rw [htv7, el2] at h
  rcases h with ⟨h, _⟩ | ⟨g, cap, cur, h, _, _, h3, _⟩
  ·cases h
  ·simp only [Value.slice.injEq] at h; omega
 rw [hnv7, htv7] at hG7
 obtain ⟨st7, hst7⟩ : ∃ st7, st7 = (tyFind cls t id site (env ++ [(nm, ty)]) st).2 := ⟨_, rfl⟩
 rw [← hst7] at hG7
 have y17 : w7.cell? ⟨yb, 1, none⟩ = some (.slice (some ⟨g7, 0, none⟩) (env.length + 1) nc7) := by rw [blk_cell hG7.y]; rfl
 have y27 : w7.cell? ⟨yb, 2, none⟩ = some (.slice (some ⟨g8, 0, none⟩) (env.length + 1) tc7) := by rw [blk_cell hG7.y]; rfl
 have f17 : w7.frozen? ⟨yb, 1, none⟩ = false := blk_free hG7.y 1
 have f27 : w7.frozen? ⟨yb, 2, none⟩ = false := blk_free hG7.y 2
 have hP : TyG w0 ((w7.setCell ⟨yb, 1, none⟩ (.slice (some ⟨g7, 0, none⟩) env.length nc7)).setCell ⟨yb, 2, none⟩ (.slice (some ⟨g8, 0, none⟩) env.length tc7)) yb cls cv (.slice (some ⟨g7, 0, none⟩) env.length nc7) (.slice (some ⟨g8, 0, none⟩) env.length tc7) ov (env.map (·.1)) (env.map (·.2.txt)) st7 := by
  have l1 : (env.map (fun x => x.1)).length = env.length := by simp
  have l2 : (env.map (fun x => x.2.txt)).length = env.length := by simp
  have q1 := TyG.popN (ns := env.map (fun x => x.1)) (x := nm) (g := g7) (cap := nc7) (by rw [l1]; exact hG7)
  have q2 := TyG.popT (ts := env.map (fun x => x.2.txt)) (x := ty.txt) (g := g8) (cap := tc7) (by rw [l2]; exact q1)
  rw [l1, l2] at q2
  exact q2
 have HP : Hid _ := hP
 have HST : Hid _ := hst7
 have hs8 := hsw.trans hs7
 rw [hnv7, htv7] at hs8
 have HS7 : Hid _ := hs8
 clear hs8 hs1' hs2' hP hst7 hG7 hin7 hs7 hnv7 htv7 hna7 hta7 hg7 hg8 el el2 y15 y25 f25 hfo hsw
 go_wp2
 go_ret
 refine ⟨rfl, .slice (some ⟨g7, 0, none⟩) env.length nc7, .slice (some ⟨g8, 0, none⟩) env.length tc7, ?_, ?_⟩
 ·have h := HS7.out
  have g1 := (Fr.grown (yb := yb) (gr_set w7 ⟨yb, 1, none⟩ (.slice (some ⟨g7, 0, none⟩) env.length nc7)) (.slice (some ⟨g7, 0, none⟩) (env.length + 1) nc7) (.slice (some ⟨g8, 0, none⟩) (env.length + 1) tc7) ov)
  have g2 := (Fr.grown (yb := yb) (gr_set (w7.setCell ⟨yb, 1, none⟩ (.slice (some ⟨g7, 0, none⟩) env.length nc7)) ⟨yb, 2, none⟩ (.slice (some ⟨g8, 0, none⟩) env.length tc7)) (.slice (some ⟨g7, 0, none⟩) (env.length + 1) nc7) (.slice (some ⟨g8, 0, none⟩) (env.length + 1) tc7) ov)
  have h2 := (h.trans g1).trans g2
  exact ⟨h2.size, h2.blk, h2.n, h2.t⟩
 rw [← HST.out]
 exact HP.out.toIn
theorem TyIn.grow {w0 w w' : World} {yb : Nat} {cls : List Nat} {cv nv tv ov : Value} {env : TEnv} {st : TSt} (h : TyIn w0 w yb cls cv nv tv ov env st) (hb : Below w.heap.size w w') : TyIn w0 w' yb cls cv nv tv ov env st :=
 ⟨h.b0.trans (hb.mono h.b0.size), h.hyb, by rw [hb.block yb (blk_lt h.y)]; exact h.y, owns_below h.c hb, owns_below h.n hb, owns_below h.t hb, owns_below h.o hb, h.cy, h.ny, h.ty, h.oy, h.cn, h.ct, h.co, h.nt, h.no, h.tov⟩
set_option maxRecDepth 100000 in
set_option maxHeartbeats 1000000 in
theorem form_num (w0 : World) (yb : Nat) (cls : List Nat) (p : Nat) (s : List UInt8) : FormOk w0 yb cls (.num p s) (fun _ _ _ st => (.n, st)) := by
 intro id site b F env st cv nv tv ov w hT hin _ _ _ _ _
 simp only [IsT] at hT
 have hb := blk_lt hT.2
 have x0 : w.cell? ⟨b, 0, none⟩ = some (.string (bs numB)) := by rw [hin.b0.cell (p := ⟨b, 0, none⟩) hb, blk_cell hT.2]; rfl
 have q0 : ((bs numB).toList == [110, 117, 109, 98, 101, 114]) = true := by rw [bs_beq0]; decide
 have hbw : b < w.heap.size := by have := hin.b0.size; omega
 have HIN : Hid _ := hin
 clear hT hin
 show Calls _ _ #[Value.pointer (some ⟨yb, 0, none⟩), Value.pointer (some ⟨b, 0, none⟩)] w _
 go_enter Tryz.func113, Tryz.ntmps113
 go_wp2
 go_ret
 exact ⟨rfl, nv, tv, Fr.below ((Below.refl _ _).alloc (Nat.le_refl _) _) _ _ _ _, HIN.out.grow ((Below.refl _ _).alloc (Nat.le_refl _) _)⟩
theorem look_snoc (env : TEnv) (x : List UInt8 × Ty) (s : List UInt8) : look (env ++ [x]) s = if x.1 == s then some x.2 else look env s := by
 unfold look
 rw [List.reverse_append, List.reverse_singleton, List.singleton_append, List.find?_cons]
 cases h : (x.1 == s) <;> simp
theorem look_take (env : TEnv) (j : Nat) (hj : j < env.length) (s : List UInt8) : look (env.take (j + 1)) s = if (env[j].1 == s) then some env[j].2 else look (env.take j) s := by
 rw [List.take_succ_eq_append_getElem hj, look_snoc]
def nameF (p : Nat) (s : List UInt8) (env : TEnv) (st : TSt) : Ty × TSt := match look env s with
 | some t => (t, st)
 | none => (.n, errS st 4 p)
theorem nameF_none {p : Nat} {s : List UInt8} {env : TEnv} {st : TSt} (h : look env s = none) : nameF p s env st = (.n, errS st 4 p) := by unfold nameF; rw [h]
theorem nameF_some {p : Nat} {s : List UInt8} {env : TEnv} {st : TSt} {t : Ty} (h : look env s = some t) : nameF p s env st = (t, st) := by unfold nameF; rw [h]
set_option maxRecDepth 100000 in
set_option maxHeartbeats 2000000 in
theorem form_name (w0 : World) (yb : Nat) (cls : List Nat) (p : Nat) (s : List UInt8) : FormOk w0 yb cls (.name p s) (fun _ _ env st => nameF p s env st) := by
 intro id site b F env st cv nv tv ov w hT hin _ _ _ _ henv
 simp only [PT.cnt] at henv
 simp only [IsT] at hT
 have hb := blk_lt hT.2
 have hbw : b < w.heap.size := by have := hin.b0.size; omega
 have hbx : w.heap[b]? = some (.cells (exCells nameB p s 0 (.slice none 0 0) id id site) 82 (0, 0)) := by rw [hin.b0.block b hb]; exact hT.2
 have x0 : w.cell? ⟨b, 0, none⟩ = some (.string (bs nameB)) := by rw [blk_cell hbx]; rfl
 have x2 : w.cell? ⟨b, 2, none⟩ = some (.string (bs s)) := by rw [blk_cell hbx]; rfl
 have q0 : ((bs nameB).toList == [110, 117, 109, 98, 101, 114]) = false := by rw [bs_beq0]; decide
 have q1 : ((bs nameB).toList == [110, 97, 109, 101]) = true := by rw [bs_beq0]; decide
 have hG := hin.toG
 obtain ⟨na, nc, hnv, hna⟩ := hG.shapeN
 obtain ⟨ta, tc, htv, hta⟩ := hG.shapeT
 rw [List.length_map] at hnv htv hna hta
 have hy := hin.y
 have hyl := blk_lt hy
 rw [hnv, htv] at hy
 have y1 : w.cell? ⟨yb, 1, none⟩ = some (.slice na env.length nc) := by rw [blk_cell hy]; rfl
 have y2 : w.cell? ⟨yb, 2, none⟩ = some (.slice ta env.length tc) := by rw [blk_cell hy]; rfl
 have HIN : Hid _ := hin
 have HNV : Hid _ := hnv
 have HTV : Hid _ := htv
 have HBX : Hid _ := hbx
 have HNA : Hid _ := hna
 have HTA : Hid _ := hta
 have hne : b ≠ yb := by have := hin.hyb; omega
 clear hT hin hG hnv htv hy hbx hna hta
 show Calls _ _ #[Value.pointer (some ⟨yb, 0, none⟩), Value.pointer (some ⟨b, 0, none⟩)] w _
 go_enter Tryz.func113, Tryz.ntmps113
 go_wp2
 go_loopw [6] (fun i wr => ∃ (j m : Nat), j ≤ env.length ∧ i = .int .i64 ((j : Int) - 1) ∧ wr = (w.alloc (.cells #[.string ⟨#[]⟩, .string ⟨#[]⟩, .string ⟨#[]⟩] 139)).drewN m ∧ look env s = look (env.take j) s) (fun i _ => (intOf i + 1).toNat)
 case atStart => exact ⟨env.length, 0, by omega, rfl, rfl, by rw [List.take_length]⟩
 case round =>
  obtain ⟨j, m, hj, rfl, rfl, hl⟩ := hrel
  have HL : Hid _ := hl
  clear hl
  by_cases hj0 : j = 0
  ·subst hj0
   have her := fun (o : Obj) (m : Nat) => err_any ((w.alloc o).drewN m) yb b cv nv tv ov (.slice none 0 0) st.e st.at_ 4 nameB s p 0 id id site hne (blk_alloc o HIN.out.y) (blk_alloc o HBX.out)
   unfold ptr at her
   go_wp2_with (go_at_call 115; refine (her _ _).mono ?_; rintro e w2 ⟨rfl, hg1, hy1⟩)
   go_ret
   have e : look env s = none := by rw [HL.out]; rfl
   rw [nameF_none e]
   refine ⟨rfl, nv, tv, (Fr.below (below_box w _ m) _ _ _ _).trans (Fr.grown hg1 _ _ _), ?_⟩
   have h := (HIN.out.grow (below_box w _ m)).err hg1 hy1
   unfold errS
   by_cases h0 : st.e = 0
   ·rw [if_pos h0, if_pos h0] at h; rw [if_pos h0]; exact h
   ·rw [if_neg h0, if_neg h0] at h; rw [if_neg h0]; exact h
  ·obtain ⟨k, hk⟩ : ∃ k, j = k + 1 := ⟨j - 1, by omega⟩
   subst hk
   have hkl : k < env.length := by omega
   obtain ⟨gn, hgn⟩ := HNA.out (by omega)
   obtain ⟨gt, hgt⟩ := HTA.out (by omega)
   have hcn : w.cell? ⟨gn, k, none⟩ = some (.string (bs env[k].1)) := by
    have h := HIN.out.n
    rw [HNV.out, hgn] at h
    rw [h.cellAt k (by omega), List.getElem?_map, List.getElem?_eq_getElem hkl]; rfl
   have hct : w.cell? ⟨gt, k, none⟩ = some (.string (bs env[k].2.txt)) := by
    have h := HIN.out.t
    rw [HTV.out, hgt] at h
    rw [h.cellAt k (by omega), List.getElem?_map, List.getElem?_eq_getElem hkl]; rfl
   have hgnw : gn < w.heap.size := World.block_lt_of_cell? _ _ hcn
   have hgtw : gt < w.heap.size := World.block_lt_of_cell? _ _ hct
   rw [hgn] at y1
   rw [hgt] at y2
   have ek : ((k + 1 : Nat) : Int) - 1 = (k : Int) := by omega
   rw [ek]
   have hlt := look_take env k hkl s
   by_cases hs : (env[k].1 == s) = true
   ·rw [if_pos hs] at hlt
    have qs : ((bs env[k].1).toList == (bs s).toList) = true := by rw [bs_beq0, Lib.toList_data]; exact hs
    have HR : Hid (look env s = some env[k].2) := HL.out.trans hlt
    clear hlt hs hgn hgt ek
    go_wp2
    go_quiet (fail)
    go_wp2
    go_ret
    rw [nameF_some HR.out]
    exact ⟨rfl, nv, tv, Fr.below (below_box w _ _) _ _ _ _, HIN.out.grow (below_box w _ _)⟩
   ·have hs' : (env[k].1 == s) = false := by simpa using hs
    rw [if_neg hs] at hlt
    have qs : ((bs env[k].1).toList == (bs s).toList) = false := by rw [bs_beq0, Lib.toList_data]; exact hs'
    have HR : Hid (look env s = look (env.take k) s) := HL.out.trans hlt
    clear hlt hs hs' hgn hgt ek
    go_wp2
    go_quiet (fail)
    go_wp2
    go_roundw
    case rel => exact ⟨k, _, by omega, by go_num, rfl, HR.out⟩
    case measure => simp [intOf]
def kt (ks : List Ty) (i : Nat) : List UInt8 := match ks[i]? with
 | some t => t.txt
 | none => []
def arity (k : Kw) : Nat := match k with
 | .let_ => 2
 | .pair => 2
 | .fst => 1
 | .snd => 1
 | .if_ => 3
 | .add => 2
 | .sub => 2
 | .less => 2
 | .loop => 3
 | .new => 1
theorem made_any (w : World) (yb xb : Nat) (cls : List Nat) (cv nv tv ov kv : Value) (st : TSt) (nm : List UInt8) (px : Nat) (n : Int) (id last site : Nat) (base : Nat) (k : Kw) (ks : List Ty) (hne : xb ≠ yb) (h0 : st.e = 0)
  (hy : w.heap[yb]? = some (.cells (tyCells cv nv tv ov st.e st.at_) 115 (0, 0)))
  (hx : w.heap[xb]? = some (.cells (exCells k.bytes px nm n kv id last site) 82 (0, 0)))
  (hc : w.ownsRow base 3 1 cv cls.length (cls.map fun (k : Nat) => Value.int .i64 k)) (hcl : cls.length ≤ 9000) (hc100 : ∀ x ∈ cls, x < 1000) (hit : ∀ x ∈ cls, ∀ w', Below w.heap.size w w' → Calls Tryz.prog 49 #[.int .i64 (x : Nat)] w' fun e w2 => e = .returned (.string (bs (Go.Lib.decDigits x))) ∧ Below w'.heap.size w' w2) (hsite : k = .pair → site < cls.length)
  (hk : k ≠ .let_) (har : ks.length = arity k) (hfit : ∀ t ∈ ks, t.fit) :
  Calls Tryz.prog 144 #[ptr yb, ptr xb, .agg #[.string (bs (kt ks 0)), .string (bs (kt ks 1)), .string (bs (kt ks 2))]] w fun v w' =>
   v = .returned (.string (bs (madeT cls k px site ks st).1.txt)) ∧ w.grownBy w' (some yb) ∧ w'.heap[yb]? = some (.cells (tyCells cv nv tv ov (madeT cls k px site ks st).2.e (madeT cls k px site ks st).2.at_) 115 (0, 0)) := by
 have hl : ∀ t ∈ ks, t.txt.length ≤ 1000 := fun t ht => fit_len (hfit t ht)
 rw [h0] at hy
 have ee : (errS st 5 px).e = 5 ∧ (errS st 5 px).at_ = px := by unfold errS; rw [if_pos h0]; exact ⟨rfl, rfl⟩
 cases k with
 | let_ => exact absurd rfl hk
 | new =>
  match ks, har with
  | [a], _ =>
   simp only [madeT, h0]
   exact made_new w yb xb cv nv tv ov kv st.at_ nm px n id last site hy hx a (by have := hl a (by simp); omega)
 | fst =>
  match ks, har with
  | [.n], _ => simp only [madeT, ee.1, ee.2]; exact made_fst_no w yb xb cv nv tv ov kv st.at_ nm px n id last site hne hy hx
  | [.p r a b], _ => simp only [madeT, h0]; exact made_fst_ok w yb xb cv nv tv ov kv st.at_ nm px n id last site hy hx r a b (by have := hl (.p r a b) (by simp); omega)
 | snd =>
  match ks, har with
  | [.n], _ => simp only [madeT, ee.1, ee.2]; exact made_snd_no w yb xb cv nv tv ov kv st.at_ nm px n id last site hne hy hx
  | [.p r a b], _ => simp only [madeT, h0]; exact made_snd_ok w yb xb cv nv tv ov kv st.at_ nm px n id last site hy hx r a b (by have := hl (.p r a b) (by simp); omega)
 | add =>
  match ks, har with
  | [.n, .n], _ => simp only [madeT]; rw [if_pos (by simp)]; simp only [h0]; exact made_add_ok w yb xb cv nv tv ov kv st.at_ nm px n id last site hy hx
  | [.p r a b, u], _ => simp only [madeT]; rw [if_neg (by simp)]; simp only [ee.1, ee.2]; exact made_add_p w yb xb cv nv tv ov kv st.at_ nm px n id last site hne hy hx r a b u (by have := hl (.p r a b) (by simp); omega)
  | [.n, .p r a b], _ => simp only [madeT]; rw [if_neg (by simp)]; simp only [ee.1, ee.2]; exact made_add_q w yb xb cv nv tv ov kv st.at_ nm px n id last site hne hy hx r a b
 | sub =>
  match ks, har with
  | [.n, .n], _ => simp only [madeT]; rw [if_pos (by simp)]; simp only [h0]; exact made_sub_ok w yb xb cv nv tv ov kv st.at_ nm px n id last site hy hx
  | [.p r a b, u], _ => simp only [madeT]; rw [if_neg (by simp)]; simp only [ee.1, ee.2]; exact made_sub_p w yb xb cv nv tv ov kv st.at_ nm px n id last site hne hy hx r a b u (by have := hl (.p r a b) (by simp); omega)
  | [.n, .p r a b], _ => simp only [madeT]; rw [if_neg (by simp)]; simp only [ee.1, ee.2]; exact made_sub_q w yb xb cv nv tv ov kv st.at_ nm px n id last site hne hy hx r a b
 | less =>
  match ks, har with
  | [.n, .n], _ => simp only [madeT]; rw [if_pos (by simp)]; simp only [h0]; exact made_less_ok w yb xb cv nv tv ov kv st.at_ nm px n id last site hy hx
  | [.p r a b, u], _ => simp only [madeT]; rw [if_neg (by simp)]; simp only [ee.1, ee.2]; exact made_less_p w yb xb cv nv tv ov kv st.at_ nm px n id last site hne hy hx r a b u (by have := hl (.p r a b) (by simp); omega)
  | [.n, .p r a b], _ => simp only [madeT]; rw [if_neg (by simp)]; simp only [ee.1, ee.2]; exact made_less_q w yb xb cv nv tv ov kv st.at_ nm px n id last site hne hy hx r a b
 | if_ =>
  match ks, har with
  | [.n, b, c], _ =>
   simp only [madeT]
   by_cases hb : b.bare = c.bare
   ·rw [if_pos ⟨trivial, hb⟩]; simp only [h0]; exact made_if__ok w yb xb cv nv tv ov kv st.at_ nm px n id last site hy hx b c (by have := hl b (by simp); omega) (by have := hl c (by simp); omega) hb
   ·rw [if_neg (fun h => hb h.2)]; simp only [ee.1, ee.2]; exact made_if__no w yb xb cv nv tv ov kv st.at_ nm px n id last site hne hy hx b c (by have := hl b (by simp); omega) (by have := hl c (by simp); omega) hb
  | [.p r a a', b, c], _ => simp only [madeT]; rw [if_neg (by simp)]; simp only [ee.1, ee.2]; exact made_if__p w yb xb cv nv tv ov kv st.at_ nm px n id last site hne hy hx r a a' (by have := hl (.p r a a') (by simp); omega) _ _
 | loop =>
  match ks, har with
  | [.n, b, c], _ =>
   simp only [madeT]
   by_cases hb : b.bare = c.bare
   ·rw [if_pos ⟨trivial, hb⟩]; simp only [h0]; exact made_loop_ok w yb xb cv nv tv ov kv st.at_ nm px n id last site hy hx b c (by have := hl b (by simp); omega) (by have := hl c (by simp); omega) hb
   ·rw [if_neg (fun h => hb h.2)]; simp only [ee.1, ee.2]; exact made_loop_no w yb xb cv nv tv ov kv st.at_ nm px n id last site hne hy hx b c (by have := hl b (by simp); omega) (by have := hl c (by simp); omega) hb
  | [.p r a a', b, c], _ => simp only [madeT]; rw [if_neg (by simp)]; simp only [ee.1, ee.2]; exact made_loop_p w yb xb cv nv tv ov kv st.at_ nm px n id last site hne hy hx r a a' (by have := hl (.p r a a') (by simp); omega) _ _
 | pair =>
  match ks, har with
  | [a, b], _ =>
   simp only [madeT, h0]
   have hs := hsite rfl
   obtain ⟨gc, cc, hcv⟩ : ∃ gc cc, cv = .slice (some ⟨gc, 0, none⟩) cls.length cc := by
    rcases hc.2 with ⟨_, h⟩ | ⟨g, cap, cur, h, _⟩
    ·omega
    ·exact ⟨_, _, h⟩
   subst hcv
   have hcell : w.cell? ⟨gc, site, none⟩ = some (.int .i64 (cls.getD site 0 : Nat)) := by
    rw [hc.cellAt site (by omega), List.getElem?_map, List.getElem?_eq_getElem hs]
    simp [List.getD, List.getElem?_eq_getElem hs]
   exact made_pair w gc cls.length cc yb xb nv tv ov kv st.at_ nm px n id last site hy hx (cls.getD site 0) a b (by rw [List.getD_eq_getElem?_getD, List.getElem?_eq_getElem hs]; exact hc100 _ (List.getElem_mem hs)) (by rw [List.getD_eq_getElem?_getD, List.getElem?_eq_getElem hs]; exact hit _ (List.getElem_mem hs)) (by have := hl a (by simp); have := hl b (by simp); omega) hs hcl hcell
def kidsF (cls : List Nat) (k : Kw) (p : Nat) (kids : List PT) (id site : Nat) (env : TEnv) (st : TSt) : Ty × TSt :=
 if (tyKids cls kids (id + 1) (site + if k = .pair then 1 else 0) env st).2.e ≠ 0 then (.n, (tyKids cls kids (id + 1) (site + if k = .pair then 1 else 0) env st).2)
 else madeT cls k p site (tyKids cls kids (id + 1) (site + if k = .pair then 1 else 0) env st).1 (tyKids cls kids (id + 1) (site + if k = .pair then 1 else 0) env st).2
def kArr (ks : List Ty) : Array Value := #[.string (bs (kt ks 0)), .string (bs (kt ks 1)), .string (bs (kt ks 2))]
theorem prsL_take (ts : List PT) (i : Nat) : prsL (ts.take i) ≤ prsL ts := by
 induction ts generalizing i with
 | nil => simp
 | cons a r ih => cases i with
  | zero => simp [prsL]
  | succ i => have := ih i; simp [prsL]; omega
theorem errS_of (st : TSt) (e p : Nat) : (errS st e p).of = st.of := by unfold errS; split <;> rfl
theorem madeT_of (cls : List Nat) (k : Kw) (p site : Nat) (ks : List Ty) (st : TSt) : (madeT cls k p site ks st).2.of = st.of := by
 unfold madeT
 split <;> first | rfl | (split <;> first | rfl | exact errS_of _ _ _) | exact errS_of _ _ _
theorem kt_snoc (ks : List Ty) (t : Ty) (i : Nat) : kt (ks ++ [t]) i = if i = ks.length then t.txt else kt ks i := by
 unfold kt
 by_cases h : i = ks.length
 ·subst h; simp
 ·rw [if_neg h]
  rcases Nat.lt_or_ge i ks.length with h1 | h1
  ·rw [List.getElem?_append_left h1]
  ·rw [List.getElem?_eq_none (by simp; omega), List.getElem?_eq_none h1]
theorem kArr_snoc (ks : List Ty) (t : Ty) : (kArr ks).setIfInBounds ks.length (.string (bs t.txt)) = kArr (ks ++ [t]) := by
 unfold kArr
 rw [kt_snoc, kt_snoc, kt_snoc]
 match h : ks.length with
 | 0 => simp
 | 1 => simp
 | 2 => simp
 | n + 3 => simp
theorem TyIn.other {w0 w W : World} {yb g o : Nat} {x : Value} {cls : List Nat} {cv nv tv ov : Value} {env : TEnv} {st : TSt} (h : TyIn w0 w yb cls cv nv tv ov env st) (hg : w0.heap.size ≤ g) (hy : g ≠ yb) (hc : cv.ownBlock ≠ some g) (hn : nv.ownBlock ≠ some g) (ht : tv.ownBlock ≠ some g) (ho : ov.ownBlock ≠ some g)
  (hW : W = w.setCell ⟨g, o, none⟩ x) : TyIn w0 W yb cls cv nv tv ov env st := by
 subst hW
 have oth : ∀ b, b ≠ g → (w.setCell ⟨g, o, none⟩ x).heap[b]? = w.heap[b]? := fun b hb => blk_other _ _ (by simpa using hb)
 have keep : ∀ (v : Value) (base : Nat) (ty : TypeId) (n : Nat) (xs : List Value), w.ownsRow base ty 1 v n xs → v.ownBlock ≠ some g → (w.setCell ⟨g, o, none⟩ x).ownsRow base ty 1 v n xs :=
  fun v base ty n xs hv h1 => owns_blk hv (fun k hk => oth k (fun e => h1 (by rw [← e]; exact hk)))
 exact ⟨h.b0.setCell (p := ⟨g, o, none⟩) hg _, h.hyb, by rw [oth yb (fun e => hy e.symm)]; exact h.y, keep _ _ _ _ _ h.c hc, keep _ _ _ _ _ h.n hn, keep _ _ _ _ _ h.t ht, keep _ _ _ _ _ h.o ho, h.cy, h.ny, h.ty, h.oy, h.cn, h.ct, h.co, h.nt, h.no, h.tov⟩
set_option maxRecDepth 100000 in
set_option maxHeartbeats 4000000 in
theorem form_kids {w0 : World} {yb : Nat} {cls : List Nat} (p : Nat) (k : Kw) (nm rg : List UInt8) (kids : List PT) (hit : ItFor w0 cls) (hcl : cls.length ≤ 9000) (hk1 : k ≠ .let_) (hk2 : k ≠ .loop) (har : kids.length = arity k)
  (hf : ∀ x ∈ kids, FindOk w0 yb cls x) : FormOk w0 yb cls (.node p k nm rg kids) (fun id site env st => kidsF cls k p kids id site env st) := by
 intro id site b F env st cv nv tv ov w hT hin hid hsite hs1 hs2 henv
 simp only [IsT] at hT
 obtain ⟨hFb, kv, bl, hblk, hF, hkv, hts⟩ := hT
 have hb := blk_lt hblk
 have hw0 := hin.b0.size
 have hbw : b < w.heap.size := by omega
 have hne : b ≠ yb := by have := hin.hyb; omega
 have hka : kids.length ≤ 3 := by rw [har]; cases k <;> decide
 have hkp : 0 < kids.length := by rw [har]; cases k <;> decide
 obtain ⟨gk, kc, hvk⟩ : ∃ gk kc, kv = .slice (some ⟨gk, 0, none⟩) kids.length kc := by
  rcases hkv.2 with ⟨_, h'⟩ | ⟨g, cap, cur, h, _⟩
  ·omega
  ·exact ⟨_, _, h⟩
 subst hvk
 have hbx : w.heap[b]? = some (.cells (exCells k.bytes p nm (valueL rg) (.slice (some ⟨gk, 0, none⟩) kids.length kc) id (id + cntL kids) site) 82 (0, 0)) := by rw [hin.b0.block b hb]; exact hblk
 have x0 : w.cell? ⟨b, 0, none⟩ = some (.string (bs k.bytes)) := by rw [blk_cell hbx]; rfl
 have q0 : ((bs k.bytes).toList == [110, 117, 109, 98, 101, 114]) = false := by rw [bs_beq0]; cases k <;> decide
 have q1 : ((bs k.bytes).toList == [110, 97, 109, 101]) = false := by rw [bs_beq0]; cases k <;> decide
 have q2 : ((bs k.bytes).toList == [108, 101, 116]) = false := by rw [bs_beq0]; cases k <;> first | decide | exact absurd rfl hk1
 have q3 : ((bs k.bytes).toList == [108, 111, 111, 112]) = false := by rw [bs_beq0]; cases k <;> first | decide | exact absurd rfl hk2
 have HBLK : Hid _ := hblk
 have HIN : Hid _ := hin
 have HKV : Hid (w0.ownsRow 0 63 1 (.slice (some ⟨gk, 0, none⟩) kids.length kc) kids.length (bl.map ptr)) := hkv
 have HTS : Hid _ := hts
 have hyb := hin.hyb
 simp only [PT.cnt, PT.prs] at hid hsite henv
 have HEN : Hid (envOk env st) := ⟨hs1, hs2⟩
 clear hblk hin hkv hts hbx hFb hF hs1 hs2
 show Calls _ _ #[Value.pointer (some ⟨yb, 0, none⟩), Value.pointer (some ⟨b, 0, none⟩)] w _
 obtain ⟨s1, hs1⟩ : ∃ s1, s1 = site + if k = .pair then 1 else 0 := ⟨_, rfl⟩
 have hs1c : s1 + prsL kids ≤ cls.length := by rw [hs1]; omega
 have hsp : k = .pair → site < cls.length := by intro h; rw [if_pos h] at hsite; omega
 have hkf : kidsF cls k p kids id site env st = if (tyKids cls kids (id + 1) s1 env st).2.e ≠ 0 then (.n, (tyKids cls kids (id + 1) s1 env st).2) else madeT cls k p site (tyKids cls kids (id + 1) s1 env st).1 (tyKids cls kids (id + 1) s1 env st).2 := by rw [hs1]; rfl
 have HTS1 : Hid (IsTs w0 F kids (id + 1) s1 bl) := by rw [hs1]; exact HTS.out
 have HKF : Hid _ := hkf
 have HSP : Hid _ := hsp
 have HLT : Hid ((∀ g, nv.ownBlock = some g → g < w.heap.size) ∧ (∀ g, tv.ownBlock = some g → g < w.heap.size) ∧ (∀ g, ov.ownBlock = some g → g < w.heap.size) ∧ (∀ g, cv.ownBlock = some g → g < w.heap.size) ∧ yb < w.heap.size) :=
  ⟨fun g hg => (HIN.out.n.lt g hg).2, fun g hg => (HIN.out.t.lt g hg).2, fun g hg => (HIN.out.o.lt g hg).2, fun g hg => (HIN.out.c.lt g hg).2, blk_lt HIN.out.y⟩
 have hyw : yb < w.heap.size := HLT.out.2.2.2.2
 clear hs1 hkf hsp hsite
 go_enter Tryz.func113, Tryz.ntmps113
 go_wp2
 go_loopw [7] (fun i wr => ∃ (j : Nat) (nv' tv' : Value) (ks : List Ty) (st' : TSt), j ≤ kids.length ∧ i = .int .i64 j ∧ tyKids cls (kids.take j) (id + 1) s1 env st = (ks, st') ∧
   TyIn w0 wr yb cls cv nv' tv' ov env st' ∧ Fr w wr yb nv tv ov nv' tv' ∧ nv'.ownBlock ≠ some w.heap.size ∧ tv'.ownBlock ≠ some w.heap.size ∧
   wr.heap[w.heap.size]? = some (.cells (kArr ks) 139 (0, 0))) (fun i _ => kids.length - (intOf i).toNat)
 case atStart =>
  refine ⟨0, nv, tv, [], st, by omega, rfl, by simp [tyKids], ?_, ?_, ?_, ?_, ?_⟩
  ·exact HIN.out.grow ((Below.refl _ _).alloc (Nat.le_refl _) _)
  ·exact Fr.below ((Below.refl _ _).alloc (Nat.le_refl _) _) _ _ _ _
  ·intro e; have := HLT.out.1 _ e; omega
  ·intro e; have := HLT.out.2.1 _ e; omega
  ·exact blk_new _ _
 case round =>
  obtain ⟨j, nv', tv', ks, st', hj, rfl, hty, hin', hfr, hnab, htab, hka'⟩ := hrel
  have hbr : wr.heap[b]? = some (.cells (exCells k.bytes p nm (valueL rg) (.slice (some ⟨gk, 0, none⟩) kids.length kc) id (id + cntL kids) site) 82 (0, 0)) := by rw [hin'.b0.block b hb]; exact HBLK.out
  have x4 : wr.cell? ⟨b, 4, none⟩ = some (.slice (some ⟨gk, 0, none⟩) kids.length kc) := by rw [blk_cell hbr]; rfl
  have y4 : wr.cell? ⟨yb, 4, none⟩ = some (.int .i64 (st'.e : Nat)) := by rw [blk_cell hin'.y]; rfl
  have hok := tyKids_ok cls hit.1 (kids.take j) (id + 1) s1 env st HEN.out
  rw [hty] at hok
  have hlk : ks.length = j := by have := tyKids_len cls (kids.take j) (id + 1) s1 env st; rw [hty] at this; simp only at this; rw [this]; simp; omega
  have HTY : Hid _ := hty
  have HINr : Hid (TyIn w0 wr yb cls cv nv' tv' ov env st') := hin'
  have HFR : Hid (Fr w wr yb nv tv ov nv' tv') := hfr
  have HOK : Hid _ := hok
  have HKA : Hid _ := hka'
  have hab := blk_lt hka'
  have HNT : Hid (nv'.ownBlock ≠ some w.heap.size ∧ tv'.ownBlock ≠ some w.heap.size) := ⟨hnab, htab⟩
  have HBR : Hid _ := hbr
  by_cases hlt : j < kids.length
  ·obtain ⟨x, hx⟩ : ∃ x, kids[j]? = some x := ⟨kids[j], List.getElem?_eq_getElem hlt⟩
   obtain ⟨bx, hbx, hTx⟩ := IsTs.at _ _ _ _ HTS1.out j x hx
   have hkc : w0.cell? ⟨gk, j, none⟩ = some (ptr bx) := by rw [HKV.out.cellAt j (by omega)]; simp [hbx]
   have hgkw : gk < w0.heap.size := World.block_lt_of_cell? _ _ hkc
   have hkcr : wr.cell? ⟨gk, j, none⟩ = some (.pointer (some ⟨bx, 0, none⟩)) := (hin'.b0.cell (p := ⟨gk, j, none⟩) hgkw).trans hkc
   have htk : kids.take (j + 1) = kids.take j ++ [x] := by rw [List.take_add_one, hx]; rfl
   have hct : cntL (kids.take j) + x.cnt ≤ cntL kids := by have h := cntL_take kids (j + 1); rw [htk, cntL_snoc] at h; exact h
   have hpt : prsL (kids.take j) + x.prs ≤ prsL kids := by have h := prsL_take kids (j + 1); rw [htk, prsL_snoc] at h; exact h
   have hsn := tyKids_snoc cls (kids.take j) x (id + 1) s1 env st
   rw [← htk, hty] at hsn
   have HSN : Hid _ := hsn
   have hofl : st'.of.length = st.of.length := hok.2.2
   have heo : envOk env st' := HEN.out.on (fun h0 => (hok.2.1 h0).1)
   have hfo := hf x (List.mem_of_getElem? hx) (id + 1 + cntL (kids.take j)) (s1 + prsL (kids.take j)) bx F env st' cv nv' tv' ov wr hTx hin' (by omega) (by omega) heo.1 heo.2 (by omega)
   unfold ptr at hfo
   obtain ⟨R, hR⟩ : ∃ R, R = tyFind cls x (id + 1 + cntL (kids.take j)) (s1 + prsL (kids.take j)) env st' := ⟨_, rfl⟩
   rw [← hR] at hfo
   have hsn2 := HSN.out
   simp only at hsn2
   rw [← hR] at hsn2
   have HSN2 : Hid (tyKids cls (kids.take (j + 1)) (id + 1) s1 env st = (ks ++ [R.1], R.2)) := hsn2
   clear hsn hsn2 HSN hR hin' hfr hka' hty hok hofl heo hbr hbx hTx hkc htk hct hpt hx y4 hnab htab
   go_wp2_with fail
   refine hfo.mono ?_
   rintro e w2 ⟨rfl, nv2, tv2, hfr2, hin2⟩
   have hsz2 := hfr2.size
   have hn2 : nv2.ownBlock ≠ some w.heap.size := by
    intro e
    rcases hfr2.n _ e with e | e
    ·exact HNT.out.1 e
    ·omega
   have ht2 : tv2.ownBlock ≠ some w.heap.size := by
    intro e
    rcases hfr2.t _ e with e | e
    ·exact HNT.out.2 e
    ·omega
   have ho2 : ov.ownBlock ≠ some w.heap.size := fun e => by have := HLT.out.2.2.1 _ e; omega
   have hc2 : cv.ownBlock ≠ some w.heap.size := fun e => by have := HLT.out.2.2.2.1 _ e; omega
   have hka2 : w2.heap[w.heap.size]? = some (.cells (kArr ks) 139 (0, 0)) := by
    rw [hfr2.blk _ hab (by omega) HNT.out.1 HNT.out.2 ho2]; exact HKA.out
   obtain ⟨ov0, hov0⟩ : ∃ ov0, w2.cell? ⟨w.heap.size, j, none⟩ = some ov0 := by
    rw [blk_cell hka2]
    match j, (by omega : j < 3) with
    | 0, _ => exact ⟨_, rfl⟩
    | 1, _ => exact ⟨_, rfl⟩
    | 2, _ => exact ⟨_, rfl⟩
   have hfz : w2.frozen? ⟨w.heap.size, j, none⟩ = false := blk_free hka2 j
   have hWin := TyIn.other (W := w2.setCell ⟨w.heap.size, j, none⟩ (.string (bs R.1.txt))) hin2 hw0 (by omega) hc2 hn2 ht2 ho2 rfl
   have hWfr : Fr w (w2.setCell ⟨w.heap.size, j, none⟩ (.string (bs R.1.txt))) yb nv tv ov nv2 tv2 := by
    have h := HFR.out.trans hfr2
    refine ⟨by have := h.size; simp [World.setCell]; exact this, ?_, h.n, h.t⟩
    intro q hq hy hn ht ho
    rw [blk_other _ _ (by simp only; omega)]
    exact h.blk q hq hy hn ht ho
   have hWka : (w2.setCell ⟨w.heap.size, j, none⟩ (.string (bs R.1.txt))).heap[w.heap.size]? = some (.cells (kArr (ks ++ [R.1])) 139 (0, 0)) := by
    have h := blk_set hka2 j (.string (bs R.1.txt))
    rw [← kArr_snoc, hlk]; exact h
   have HW : Hid _ := And.intro hWin (And.intro hWfr hWka)
   have HN2 : Hid (nv2.ownBlock ≠ some w.heap.size ∧ tv2.ownBlock ≠ some w.heap.size) := ⟨hn2, ht2⟩
   clear hWin hWfr hWka hka2 hin2 hfr2 hn2 ht2 ho2 hc2 hfo
   go_wp2
   go_roundw
   case rel => exact ⟨j + 1, nv2, tv2, ks ++ [R.1], R.2, by omega, by go_num, HSN2.out, HW.out.1, HW.out.2.1, HN2.out.1, HN2.out.2, HW.out.2.2⟩
   case measure => simp [intOf]; omega
  ·have hjl : kids.take j = kids := by rw [List.take_of_length_le (by omega)]
   rw [hjl] at hty
   have hkf := HKF.out
   rw [hty] at hkf
   simp only at hkf
   have HKF2 : Hid (kidsF cls k p kids id site env st = if st'.e ≠ 0 then (.n, st') else madeT cls k p site ks st') := hkf
   have a0 : wr.cell? ⟨w.heap.size, 0, none⟩ = some (.string (bs (kt ks 0))) := by rw [blk_cell hka']; rfl
   have a1 : wr.cell? ⟨w.heap.size, 1, none⟩ = some (.string (bs (kt ks 1))) := by rw [blk_cell hka']; rfl
   have a2 : wr.cell? ⟨w.heap.size, 2, none⟩ = some (.string (bs (kt ks 2))) := by rw [blk_cell hka']; rfl
   by_cases h0 : st'.e = 0
   ·have hmd := made_any wr yb b cls cv nv' tv' ov _ st' nm p (valueL rg) id (id + cntL kids) site w0.heap.size k ks hne h0 hin'.y hbr hin'.c hcl hit.1 (fun x hx w' hb => hit.2 x hx w' (hin'.b0.trans (hb.mono hin'.b0.size))) HSP.out hk1 (by omega) hok.1
    unfold ptr at hmd
    have y40 : wr.cell? ⟨yb, 4, none⟩ = some (.int .i64 0) := by rw [y4, h0]; rfl
    have HFIN : Hid (kidsF cls k p kids id site env st = madeT cls k p site ks st') := by rw [HKF2.out, if_neg (by simpa using h0)]; rfl
    clear y4 h0 hin' hfr hka' hty hok hbr hkf hnab htab hjl
    go_wp2_with (go_at_call 144; refine hmd.mono ?_; rintro e w2 ⟨rfl, hg2, hy2⟩)
    go_ret
    rw [HFIN.out]
    refine ⟨rfl, nv', tv', HFR.out.trans (Fr.grown hg2 _ _ _), ?_⟩
    have h := HINr.out.err hg2 hy2
    have hof : (madeT cls k p site ks st').2.of = st'.of := madeT_of _ _ _ _ _ _
    rw [← hof] at h
    exact h
   ·have h0' : ((st'.e : Int) != 0) = true := by rw [bne_iff_ne]; omega
    have HFIN : Hid (kidsF cls k p kids id site env st = (.n, st')) := by rw [HKF2.out, if_pos h0]; rfl
    clear h0 hin' hfr hka' hty hok hbr hkf hnab htab hjl
    go_wp2
    go_ret
    rw [HFIN.out]
    exact ⟨rfl, nv', tv', HFR.out, HINr.out⟩
end Go.Proofs.YtpicaknklgccoaaGreatDoor
