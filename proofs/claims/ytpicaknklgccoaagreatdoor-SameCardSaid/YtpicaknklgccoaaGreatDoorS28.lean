import Derived.Test.YtpicaknklgccoaaGreatDoorS27
set_option maxHeartbeats 4000000
set_option maxRecDepth 100000
namespace Go.Proofs.YtpicaknklgccoaaGreatDoor
open Go.RowKit
structure cF (w w' : World) (yb : Nat) (nv bw : Value) : Prop where
 size : w.heap.size <= w'.heap.size
 blk : ∀ k, k < w.heap.size -> k ≠ yb -> nv.ownBlock ≠ some k -> w'.heap[k]? = w.heap[k]?
 n : ∀ g, bw.ownBlock = some g -> nv.ownBlock = some g \/ w.heap.size <= g
theorem cF.refl (w : World) (yb : Nat) (nv : Value) : cF w w yb nv nv := ⟨Nat.le_refl _, fun _ _ _ _ => rfl, fun _ h => Or.inl h⟩
theorem cF.trans {w w1 w2 : World} {yb : Nat} {nv sr cq : Value} (h : cF w w1 yb nv sr) (h' : cF w1 w2 yb sr cq) : cF w w2 yb nv cq := by
 refine ⟨Nat.le_trans h.size h'.size, ?_, ?_⟩
 ·intro k hk hy hn
  rw [h'.blk k (Nat.lt_of_lt_of_le hk h.size) hy (fun e => by rcases h.n k e with e | e; exact hn e; omega)]
  exact h.blk k hk hy hn
 ·intro g hg
  rcases h'.n g hg with e | e
  ·exact h.n g e
  ·exact Or.inr (Nat.le_trans h.size e)
theorem cF.below {w w' : World} (h : Below w.heap.size w w') (yb : Nat) (nv : Value) : cF w w' yb nv nv := ⟨h.size, fun k hk _ _ => h.block k hk, fun _ h => Or.inl h⟩
theorem cF.grown {w w' : World} {yb : Nat} (h : w.grownBy w' (some yb)) (nv : Value) : cF w w' yb nv nv := ⟨h.size, fun k hk hy _ => h.block k hk (fun e => by cases e; exact hy rfl), fun _ h => Or.inl h⟩
theorem aY {w W : World} (h : Below w.heap.size w W) (o : Obj) : Below w.heap.size w (W.alloc o) := h.alloc h.size o
theorem cM (w : World) (m : Nat) : Below w.heap.size w (w.drewN m) := ⟨rfl, rfl, rfl, Nat.le_refl _, fun _ _ => rfl⟩
theorem cF.setAt (w : World) (yb : Nat) (nv : Value) (m o : Nat) (x : Value) : cF w ((w.drewN m).setCell ⟨yb, o, none⟩ x) yb nv nv := (cF.below (cM w m) _ _).trans (cF.grown (KA (w.drewN m) ⟨yb, o, none⟩ _) _)
theorem cF.wR (w : World) (yb : Nat) (nv : Value) (o : Nat) (x : Value) : cF w (w.setCell ⟨yb, o, none⟩ x) yb nv nv := cF.grown (KA w ⟨yb, o, none⟩ _) _
theorem cF.Lp {w w' : World} {yb : Nat} {nv bw cq : Value} (h : cF w w' yb nv bw) (e : cq.ownBlock = bw.ownBlock) : cF w w' yb nv cq := ⟨h.size, h.blk, fun g hg => h.n g (by rw [<- e]; exact hg)⟩
structure jH (w0 w : World) (yb : Nat) (cs : Array Value) (T : TypeId) (nv : Value) (E : TypeId) (xs : List Value) : Prop where
 b0 : Below w0.heap.size w0 w
 hyb : w0.heap.size <= yb
 y : w.heap[yb]? = some (.cells cs T (0, 0))
 n : w.ownsRow w0.heap.size E 1 nv xs.length xs
 ny : nv.ownBlock ≠ some yb
theorem jH.grow {w0 w w' : World} {yb : Nat} {cs : Array Value} {T : TypeId} {nv : Value} {E : TypeId} {xs : List Value} (h : jH w0 w yb cs T nv E xs) (hb : Below w.heap.size w w') : jH w0 w' yb cs T nv E xs :=
 ⟨h.b0.trans (hb.mono h.b0.size), h.hyb, by rw [hb.block yb (af h.y)]; exact h.y, aA h.n hb, h.ny⟩
theorem jH.set {w0 w : World} {yb : Nat} {cs cs' : Array Value} {T : TypeId} {nv : Value} {E : TypeId} {xs : List Value} (h : jH w0 w yb cs T nv E xs) (o : Nat) (x : Value) (hx : cs.setIfInBounds o x = cs') : jH w0 (w.setCell ⟨yb, o, none⟩ x) yb cs' T nv E xs := by
 have ZN : ∀ b, b ≠ yb -> (w.setCell ⟨yb, o, none⟩ x).heap[b]? = w.heap[b]? := fun b hb => ak _ _ (by simpa using hb)
 refine ⟨h.b0.setCell (p := ⟨yb, o, none⟩) h.hyb _, h.hyb, by rw [<- hx]; exact az h.y o x, ?_, h.ny⟩
 exact ax h.n (fun k hk => ZN k (fun e => h.ny (by rw [<- e]; exact hk)))
theorem jH.push {w0 w w3 W : World} {yb : Nat} {cs : Array Value} {T : TypeId} {nv : Value} {E : TypeId} {xs : List Value} {x : Value} {g cap o : Nat} {A : Obj}
  (h : jH w0 w yb cs T nv E xs) (hg : (w.alloc A).grownBy w3 nv.ownBlock) (ho : w3.ownsRow 0 E 1 (.slice (some ⟨g, 0, none⟩) (xs.length + 1) cap) (xs.length + 1) (xs ++ [x]))
  (hgg : nv.ownBlock = some g \/ (w.alloc A).heap.size <= g) (hW : W = w3.setCell ⟨yb, o, none⟩ (.slice (some ⟨g, 0, none⟩) (xs.length + 1) cap)) :
  jH w0 W yb (cs.setIfInBounds o (.slice (some ⟨g, 0, none⟩) (xs.length + 1) cap)) T (.slice (some ⟨g, 0, none⟩) (xs.length + 1) cap) E (xs ++ [x]) /\ cF w W yb nv (.slice (some ⟨g, 0, none⟩) (xs.length + 1) cap) := by
 have hb0 := h.b0.size
 have nj := af h.y
 have ea : (w.alloc A).heap.size = w.heap.size + 1 := by simp
 have hs3 := hg.size
 rw [ea] at hgg hs3
 have hsW : W.heap.size = w3.heap.size := by rw [hW]; simp [World.setCell]
 have Wn : ∀ g, nv.ownBlock = some g -> w0.heap.size <= g /\ g < w.heap.size := fun g hg => h.n.lt g hg
 have o3 : ∀ b, b < w.heap.size -> nv.ownBlock ≠ some b -> w3.heap[b]? = w.heap[b]? := by
  intro b hb hn
  rw [hg.block b (by rw [ea]; omega) (fun e => hn e.symm), Below.heap_alloc _ _ _ hb]
 have oW : ∀ b, b < w.heap.size -> b ≠ yb -> nv.ownBlock ≠ some b -> W.heap[b]? = w.heap[b]? := by
  intro b hb hby hn
  rw [hW, ak _ _ (by simpa using hby), o3 b hb hn]
 have QG : g ≠ yb := by
  intro e
  rcases hgg with hh | hh
  ·exact h.ny (by rw [hh, e])
  ·omega
 have hgb : w0.heap.size <= g := by
  rcases hgg with hh | hh
  ·exact (Wn g hh).1
  ·omega
 have hyW : W.heap[yb]? = some (.cells (cs.setIfInBounds o (.slice (some ⟨g, 0, none⟩) (xs.length + 1) cap)) T (0, 0)) := by
  rw [hW]
  refine (az (arr := cs) ?_ o _).trans rfl
  rw [o3 yb nj h.ny]; exact h.y
 refine ⟨⟨?_, h.hyb, hyW, ?_, ?_⟩, ⟨by omega, fun k hk hy hn => oW k hk hy hn, fun g' hg' => by simp only [Value.ownBlock, Option.some.injEq] at hg'; subst hg'; rcases hgg with e | e; exact Or.inl e; exact Or.inr (by omega)⟩⟩
 ·refine h.b0.trans ⟨?_, ?_, ?_, by omega, fun k hk => oW k (by omega) (by have := h.hyb; omega) (fun e => by have := Wn k e; omega)⟩
  ·rw [hW]; exact hg.os
  ·rw [hW]; exact hg.tape
  ·rw [hW]; exact hg.output
 ·have e1 : (xs ++ [x]).length = xs.length + 1 := by simp
  rw [e1]
  refine cY (ax ho (fun k hk => ?_)) (fun k hk => ?_)
  ·simp only [Value.ownBlock, Option.some.injEq] at hk
   subst hk
   rw [hW, ak _ _ (by simpa using QG)]
  ·simp only [Value.ownBlock, Option.some.injEq] at hk
   subst hk; exact hgb
 ·simp only [Value.ownBlock, ne_eq, Option.some.injEq]; exact QG
theorem jH.pop {w0 w : World} {yb : Nat} {cs : Array Value} {T : TypeId} {E : TypeId} {xs : List Value} {x : Value} {g cap o : Nat}
  (h : jH w0 w yb cs T (.slice (some ⟨g, 0, none⟩) (xs.length + 1) cap) E (xs ++ [x])) :
  jH w0 (w.setCell ⟨yb, o, none⟩ (.slice (some ⟨g, 0, none⟩) xs.length cap)) yb (cs.setIfInBounds o (.slice (some ⟨g, 0, none⟩) xs.length cap)) T (.slice (some ⟨g, 0, none⟩) xs.length cap) E xs := by
 have ZN : ∀ b, b ≠ yb -> (w.setCell ⟨yb, o, none⟩ (.slice (some ⟨g, 0, none⟩) xs.length cap)).heap[b]? = w.heap[b]? := fun b hb => ak _ _ (by simpa using hb)
 have hp : w.ownsRow w0.heap.size E 1 (.slice (some ⟨g, 0, none⟩) xs.length cap) xs.length xs := by
  refine ownsRow_pop (last := [x]) (by simp) ?_
  have := h.n
  simpa using this
 refine ⟨?_, h.hyb, (az h.y o _).trans rfl, ax hp (fun k hk => ZN k (fun e => h.ny (by rw [<- e]; exact hk))), h.ny⟩
 exact h.b0.setCell (p := ⟨yb, o, none⟩) h.hyb _
theorem jH.shape {w0 w : World} {yb : Nat} {cs : Array Value} {T : TypeId} {nv : Value} {E : TypeId} {xs : List Value} (h : jH w0 w yb cs T nv E xs) : ∃ a cap, nv = .slice a xs.length cap /\ xs.length <= cap /\ (0 < xs.length -> ∃ g, a = some ⟨g, 0, none⟩) := by
 rcases h.n.2 with ⟨hv, hn⟩ | ⟨g, cap, cur, hv, _, _, hc, _⟩
 ·exact ⟨none, 0, by rw [hv, hn], by omega, fun h => by omega⟩
 ·exact ⟨_, cap, hv, hc, fun _ => ⟨g, rfl⟩⟩
theorem jH.other {w0 w w' : World} {yb : Nat} {cs : Array Value} {T : TypeId} {nv bw : Value} {E : TypeId} {xs : List Value} (h : jH w0 w yb cs T nv E xs) (hf : cF w w' yb nv bw) {U : TypeId} (hT : U ≠ T) (hE : U ≠ E) {k : Nat} {arr : Array Value} {fz : Nat × Nat} (hk : w.heap[k]? = some (.cells arr U fz)) : w'.heap[k]? = some (.cells arr U fz) := by
 rw [<- hk]
 refine hf.blk k (af hk) ?_ ?_
 ·rintro rfl
  have := h.y
  rw [hk] at this
  simp only [Option.some.injEq, Obj.cells.injEq] at this
  exact hT this.2.1
 ·intro e
  rcases h.n.2 with ⟨hv, hn⟩ | ⟨g, cap, cur, hv, _, hg, _⟩
  ·rw [hv] at e; cases e
  ·rw [hv] at e
   simp only [Value.ownBlock, Option.some.injEq] at e
   subst e
   rw [hk] at hg
   simp only [Option.some.injEq, Obj.cells.injEq] at hg
   exact hE hg.2.1
def SF (c : Int) : Prop := -9223372036854775808 <= c /\ c <= 9223372036854775807
def Gd (w : World) (rv : Value) (raw : List Int) : Prop :=
 (∀ c ∈ raw, SF c) /\ ((rv = .slice none 0 0 /\ raw = []) \/ ∃ a cap, rv = .slice (some a) raw.length cap /\ raw.length <= maxLen /\ ∀ (i : Nat) (c : Int), raw[i]? = some c -> w.cell? (a.add i) = some (.int .i64 c))
def mJ (rv : Value) (s : lT) (nv : Value) : Array Value := #[rv, .int .i64 s.at_, .int .i64 s.left, nv]
def iT (l : List Nat) : List Value := l.map (fun (k : Nat) => Value.int .i64 k)
structure eB (w0 w : World) (yb : Nat) (rv : Value) (raw : List Int) (s : lT) (nv : Value) : Prop where
 r : Gd w0 rv raw
 ob : jH w0 w yb (mJ rv s nv) 94 nv 3 (iT s.vars)
theorem eB.grow {w0 w w' : World} {yb : Nat} {rv : Value} {raw : List Int} {s : lT} {nv : Value} (h : eB w0 w yb rv raw s nv) (hb : Below w.heap.size w w') : eB w0 w' yb rv raw s nv := ⟨h.r, h.ob.grow hb⟩
theorem wS (c : Int) (n : Nat) (w : World) (hc : SF c) (hn : 0 < n) (hn' : n <= 100000) : Calls Tryz.prog 23 #[.int .i64 c, .int .i64 n] w fun e w' => e = .returned (.int .i64 (jM c n : Nat)) /\ w' = w := by
 obtain ⟨h1, h2⟩ := hc
 have hl := oh c n hn
 have hv : ((jM c n : Nat) : Int) = Int.tmod (if c < 0 then -(c + 1) else c) n := by
  unfold jM
  exact Int.toNat_of_nonneg (Int.tmod_nonneg _ (by split <;> omega))
 rw [hv]
 have hne : ((n : Int) == 0) = false := by rw [beq_eq_false_iff_ne]; omega
 by_cases h0 : c < 0
 ·rw [if_pos h0] at hv ⊢
  go_enter Tryz.func23, Tryz.ntmps23
  go_wp2
  go_ret
  exact ⟨by rw [Int.neg_tmod]; rfl, rfl⟩
 ·rw [if_neg h0] at hv ⊢
  go_enter Tryz.func23, Tryz.ntmps23
  go_wp2
  go_ret
  exact ⟨by rw [Int.tmod_eq_emod_of_nonneg (by omega)]; rfl, rfl⟩
theorem Tryz.CB : (Tryz.prog.info? 200).map (·.size) = some 5 := by kernel_rfl
theorem mK (t : Nat) (ht : t < 5) (w : World) : Calls Tryz.prog 82 #[.int .i64 t] w fun e w' => e = .returned (.int .i64 (fI t)) /\ Below w.heap.size w w' := by
 have h5 : t = 0 \/ t = 1 \/ t = 2 \/ t = 3 \/ t = 4 := by omega
 rcases h5 with rfl | rfl | rfl | rfl | rfl
 all_goals
  go_enter Tryz.func82, Tryz.ntmps82
  go_wp2_with (refine jb rfl 200 (.tmp 3) (.tmp 4) rfl w.heap.size #[.int .i64 (-1), .int .i64 0, .int .i64 1, .int .i64 0, .int .i64 1] rfl rfl 200 _ (aj _ _) Tryz.CB rfl (by simp [Value.oneCell']) ?_; intro W hW lh mg hW1 hW2 hW3; have s0 : W.cell? ⟨w.heap.size, 0, none⟩ = some (.int .i64 (-1)) := (by rw [aa hW]; rfl); have s1 : W.cell? ⟨w.heap.size, 1, none⟩ = some (.int .i64 0) := (by rw [aa hW]; rfl); have s2 : W.cell? ⟨w.heap.size, 2, none⟩ = some (.int .i64 1) := (by rw [aa hW]; rfl); have s3 : W.cell? ⟨w.heap.size, 3, none⟩ = some (.int .i64 0) := (by rw [aa hW]; rfl); have s4 : W.cell? ⟨w.heap.size, 4, none⟩ = some (.int .i64 1) := (by rw [aa hW]; rfl); have hwl := af hW; have HB : Hid (Below w.heap.size w W) := eX (Below.alloc (Below.refl _ w) (Nat.le_refl _) _) (Nat.le_refl _) lh mg hW1 hW2 hW3; clear hW lh mg hW1 hW2 hW3)
  go_ret
  exact ⟨rfl, HB.out⟩
theorem lB (t : Nat) (ht : t < 5) (w : World) : Calls Tryz.prog 83 #[.int .i64 t] w fun e w' => e = .returned (.int .i64 (sI t)) /\ Below w.heap.size w w' := by
 have h5 : t = 0 \/ t = 1 \/ t = 2 \/ t = 3 \/ t = 4 := by omega
 rcases h5 with rfl | rfl | rfl | rfl | rfl
 all_goals
  go_enter Tryz.func83, Tryz.ntmps83
  go_wp2_with (refine jb rfl 200 (.tmp 3) (.tmp 4) rfl w.heap.size #[.int .i64 (-1), .int .i64 0, .int .i64 0, .int .i64 1, .int .i64 1] rfl rfl 200 _ (aj _ _) Tryz.CB rfl (by simp [Value.oneCell']) ?_; intro W hW lh mg hW1 hW2 hW3; have s0 : W.cell? ⟨w.heap.size, 0, none⟩ = some (.int .i64 (-1)) := (by rw [aa hW]; rfl); have s1 : W.cell? ⟨w.heap.size, 1, none⟩ = some (.int .i64 0) := (by rw [aa hW]; rfl); have s2 : W.cell? ⟨w.heap.size, 2, none⟩ = some (.int .i64 0) := (by rw [aa hW]; rfl); have s3 : W.cell? ⟨w.heap.size, 3, none⟩ = some (.int .i64 1) := (by rw [aa hW]; rfl); have s4 : W.cell? ⟨w.heap.size, 4, none⟩ = some (.int .i64 1) := (by rw [aa hW]; rfl); have hwl := af hW; have HB : Hid (Below w.heap.size w W) := eX (Below.alloc (Below.refl _ w) (Nat.le_refl _) _) (Nat.le_refl _) lh mg hW1 hW2 hW3; clear hW lh mg hW1 hW2 hW3)
  go_ret
  exact ⟨rfl, HB.out⟩
theorem dJ {w0 w : World} {yb : Nat} {rv : Value} {raw : List Int} {s : lT} {nv : Value} (n : Nat) (hn : 0 < n) (hn' : n <= 100000) (h : eB w0 w yb rv raw s nv) (hat : s.at_ <= 1000000) :
  Calls Tryz.prog 53 #[.pointer (some ⟨yb, 0, none⟩), .int .i64 n] w fun e w' => e = .returned (.int .i64 ((aV raw n s).1 : Nat)) /\ cF w w' yb nv nv /\ eB w0 w' yb rv raw (aV raw n s).2 nv := by
 have nj := af h.ob.y
 have y1 : w.cell? ⟨yb, 1, none⟩ = some (.int .i64 s.at_) := by rw [aa h.ob.y]; rfl
 have f1 : w.frozen? ⟨yb, 1, none⟩ = false := ag h.ob.y 1
 have y0 : w.cell? ⟨yb, 0, none⟩ = some rv := by rw [aa h.ob.y]; rfl
 by_cases hr : raw = []
 ·have jV : aV raw n s = (0, s) := by unfold aV; rw [if_pos hr]
  rw [jV]
  obtain ⟨a, cap, BP⟩ : ∃ a cap, rv = .slice a 0 cap := by
   rcases h.r.2 with ⟨h1, _⟩ | ⟨a, cap, h1, _, _⟩
   ·exact ⟨none, 0, h1⟩
   ·exact ⟨some a, cap, by rw [h1, hr]; rfl⟩
  rw [BP] at y0
  have HH : Hid _ := h
  clear h hr jV f1 y1
  go_enter Tryz.func53, Tryz.ntmps53
  go_wp2
  go_ret
  exact ⟨rfl, cF.refl _ _ _, HH.out⟩
 ·have hpos : 0 < raw.length := List.length_pos_iff.2 hr
  obtain ⟨a, cap, BP, hlen, ui⟩ : ∃ a cap, rv = .slice (some a) raw.length cap /\ raw.length <= maxLen /\ ∀ (i : Nat) (c : Int), raw[i]? = some c -> w0.cell? (a.add i) = some (.int .i64 c) := by
   rcases h.r.2 with ⟨_, h1⟩ | ⟨a, cap, h1, h2, h3⟩
   ·exact absurd h1 hr
   ·exact ⟨a, cap, h1, h2, h3⟩
  have hlt := Nat.mod_lt s.at_ hpos
  obtain ⟨c, hc⟩ : ∃ c, raw[s.at_ % raw.length]? = some c := ⟨_, List.getElem?_eq_getElem hlt⟩
  have jV : aV raw n s = (jM c n, { s with at_ := s.at_ + 1 }) := by unfold aV; rw [if_neg hr, List.getD_eq_getElem?_getD, hc]; rfl
  rw [jV]
  have hci : SF c := h.r.1 c (List.mem_of_getElem? hc)
  have EB := ui _ c hc
  have hcell : w.cell? (a.add (s.at_ % raw.length)) = some (.int .i64 c) := (h.ob.b0.cell (World.block_lt_of_cell? _ _ EB)).trans EB
  have hal : (a.add (s.at_ % raw.length)).block < w.heap.size := World.block_lt_of_cell? _ _ hcell
  have Lq : Int.tmod (s.at_ : Int) (raw.length : Int) = ((s.at_ % raw.length : Nat) : Int) := (Int.ofNat_tmod _ _).symm
  have hpk := fun w => wS c n w hci hn hn'
  rw [BP] at y0
  have q0 : ((raw.length : Int) == 0) = false := by rw [beq_eq_false_iff_ne]; omega
  have hset := fun m => (h.ob.grow (cM w m)).set 1 (.int .i64 ((s.at_ : Int) + 1)) (cs' := mJ rv { s with at_ := s.at_ + 1 } nv) (by simp [mJ])
  have Aa : Hid _ := hset
  have HR : Hid _ := h.r
  have UM : raw.length <= maxLen := hlen
  clear h hr jV ui hc hset EB hlen
  generalize hix : s.at_ % raw.length = ix at *
  go_enter Tryz.func53, Tryz.ntmps53
  go_wp2
  go_quiet (fail)
  go_wp2_with fail
  refine (hpk _).mono ?_
  rintro _ w2 ⟨rfl, rfl⟩
  go_wp2
  go_ret
  exact ⟨rfl, cF.setAt w yb nv _ 1 _, HR.out, Aa.out _⟩
def tY (op : List UInt8) (n : Nat) (kv : Value) : Array Value := #[.string (bs op), .int .i64 n, kv]
def eH (w : World) : KE -> Nat -> Prop
 | .num n, p => w.heap[p]? = some (.cells (tY [] n (.slice none 0 0)) 98 (0, 0))
 | .var n, p => w.heap[p]? = some (.cells (tY [120] n (.slice none 0 0)) 98 (0, 0))
 | .n1 k a, p => ∃ c pa : Nat, w.heap[p]? = some (.cells (tY k.bytes 0 (.slice (some ⟨c, 0, none⟩) 1 1)) 98 (0, 0)) /\ w.heap[c]? = some (.cells #[.pointer (some ⟨pa, 0, none⟩)] 43 (0, 0)) /\ eH w a pa
 | .n2 k n a b, p => ∃ c pa pb : Nat, w.heap[p]? = some (.cells (tY k.bytes n (.slice (some ⟨c, 0, none⟩) 2 2)) 98 (0, 0)) /\ w.heap[c]? = some (.cells #[.pointer (some ⟨pa, 0, none⟩), .pointer (some ⟨pb, 0, none⟩)] 43 (0, 0)) /\ eH w a pa /\ eH w b pb
 | .n3 k n a b d, p => ∃ c pa pb pd : Nat, w.heap[p]? = some (.cells (tY k.bytes n (.slice (some ⟨c, 0, none⟩) 3 3)) 98 (0, 0)) /\ w.heap[c]? = some (.cells #[.pointer (some ⟨pa, 0, none⟩), .pointer (some ⟨pb, 0, none⟩), .pointer (some ⟨pd, 0, none⟩)] 43 (0, 0)) /\ eH w a pa /\ eH w b pb /\ eH w d pd
theorem eH.keep {w w' : World} (h : ∀ (k : Nat) (arr : Array Value) (U : TypeId), U = 98 \/ U = 43 -> w.heap[k]? = some (.cells arr U (0, 0)) -> w'.heap[k]? = some (.cells arr U (0, 0))) : ∀ {x : KE} {p : Nat}, eH w x p -> eH w' x p
 | .num _, _, hx => h _ _ _ (Or.inl rfl) hx
 | .var _, _, hx => h _ _ _ (Or.inl rfl) hx
 | .n1 _ _, _, ⟨c, pa, h1, h2, h3⟩ => ⟨c, pa, h _ _ _ (Or.inl rfl) h1, h _ _ _ (Or.inr rfl) h2, eH.keep h h3⟩
 | .n2 _ _ _ _, _, ⟨c, pa, pb, h1, h2, h3, h4⟩ => ⟨c, pa, pb, h _ _ _ (Or.inl rfl) h1, h _ _ _ (Or.inr rfl) h2, eH.keep h h3, eH.keep h h4⟩
 | .n3 _ _ _ _ _, _, ⟨c, pa, pb, pd, h1, h2, h3, h4, h5⟩ => ⟨c, pa, pb, pd, h _ _ _ (Or.inl rfl) h1, h _ _ _ (Or.inr rfl) h2, eH.keep h h3, eH.keep h h4, eH.keep h h5⟩
theorem eH.below {w w' : World} {x : KE} {p : Nat} (h : eH w x p) (hb : Below w.heap.size w w') : eH w' x p := h.keep (fun k _ _ _ hk => (hb.block k (af hk)).trans hk)
theorem eH.fr {w0 w w' : World} {yb : Nat} {rv : Value} {raw : List Int} {s : lT} {nv bw : Value} {x : KE} {p : Nat} (h : eH w x p) (hm : eB w0 w yb rv raw s nv) (hf : cF w w' yb nv bw) : eH w' x p :=
 h.keep (fun k arr U hU hk => hm.ob.other hf (by rcases hU with rfl | rfl <;> decide) (by rcases hU with rfl | rfl <;> decide) hk)
theorem EC {w : World} {b n : Nat} {E : TypeId} {v : Value} {xs : List Value} (h : w.ownsRow b E 1 v n xs) : ∃ a cap, v = .slice a n cap /\ (0 < n -> ∃ g, a = some ⟨g, 0, none⟩) := by
 rcases h.2 with ⟨hv, hn⟩ | ⟨g, cap, cur, hv, _⟩
 ·exact ⟨none, 0, by rw [hv, hn], fun h => by omega⟩
 ·exact ⟨_, cap, hv, fun _ => ⟨g, rfl⟩⟩
theorem IA (vars : List Nat) (t j : Nat) : idxs vars t (j + 1) = if vars.getD j 9 = t then idxs vars t j ++ [j] else idxs vars t j := by
 unfold idxs
 rw [List.range_succ, List.filter_append]
 by_cases h : vars.getD j 9 = t
 ·rw [if_pos h]; simp only [List.filter_cons, List.filter_nil, h, beq_self_eq_true, if_true]
 ·have hb : (vars.getD j 9 == t) = false := by simpa using h
  rw [if_neg h]; simp only [List.filter_cons, List.filter_nil, hb, Bool.false_eq_true, if_false, List.append_nil]
theorem CC (vars : List Nat) (t j : Nat) : (idxs vars t j).length <= j := by
 unfold idxs; have := List.length_filter_le (fun i => vars.getD i 9 == t) (List.range j); simpa using this
theorem O5 {vars : List Nat} {t j x : Nat} (h : x ∈ idxs vars t j) : x < j := by
 unfold idxs at h; rw [List.mem_filter, List.mem_range] at h; exact h.1
theorem Tryz.CD : (Tryz.prog.info? 3).map (fun i => (i.zero, i.size, i.bytes)) = some (some (.int .i64 0), 1, 8) := by kernel_rfl
theorem Tryz.CE : Tryz.prog.underlying 42 = some (.slice 3) := by kernel_rfl
theorem IB {w0 w : World} {yb : Nat} {rv : Value} {raw : List Int} {s : lT} {nv : Value} (t k : Nat) (h : eB w0 w yb rv raw s nv) (hvl : s.vars.length <= 200) :
  Calls Tryz.prog 118 #[.pointer (some ⟨yb, 0, none⟩), .int .i64 t, .int .i64 k] w fun e w' => Below w.heap.size w w' /\ ((jG s.vars t k = none /\ e = .returned (.pointer none)) \/ ∃ (x : KE) (p : Nat), jG s.vars t k = some x /\ e = .returned (.pointer (some ⟨p, 0, none⟩)) /\ eH w' x p) := by
 obtain ⟨i0, hi, hz0, hz1, hz2⟩ := info_parts Tryz.CD
 have HI : Hid _ := hi
 have pq : Hid _ := hz0
 have pz : Hid _ := hz1
 have pF : Hid _ := hz2
 have nj := af h.ob.y
 obtain ⟨na, nc, oP, _, bq⟩ := h.ob.shape
 have Wo : (iT s.vars).length = s.vars.length := by simp [iT]
 rw [Wo] at oP bq
 have y3 : w.cell? ⟨yb, 3, none⟩ = some (.slice na s.vars.length nc) := by rw [aa h.ob.y, <- oP]; rfl
 have hcell : ∀ j, (hj : j < s.vars.length) -> ∃ g, na = some ⟨g, 0, none⟩ /\ g < w.heap.size /\ w.cell? ⟨g, j, none⟩ = some (.int .i64 (s.vars[j] : Nat)) := by
  intro j hj
  obtain ⟨g, hg⟩ := bq (by omega)
  have ho := h.ob.n
  rw [oP, hg, Wo] at ho
  have hc : w.cell? ⟨g, j, none⟩ = some (.int .i64 (s.vars[j] : Nat)) := by
   rw [ho.cellAt j (by omega)]; unfold iT; rw [List.getElem?_map, List.getElem?_eq_getElem hj]; rfl
  exact ⟨g, hg, World.block_lt_of_cell? _ _ hc, hc⟩
 have HC : Hid _ := hcell
 have hlen := CC s.vars t s.vars.length
 clear hi hz0 hz1 hz2 h oP bq hcell
 go_enter Tryz.func118, Tryz.ntmps118
 go_wp2
 go_loopw [7, 8] (fun l i wr => ∃ j : Nat, j <= s.vars.length /\ i = .int .i64 j /\ wr.ownsRow w.heap.size 3 1 l (idxs s.vars t j).length (iT (idxs s.vars t j)) /\ Below w.heap.size w wr) (fun _ i _ => s.vars.length - (intOf i).toNat)
 case atStart => exact ⟨0, by omega, rfl, World.ownsRow_nil _ _ _ _, Below.refl _ _⟩
 case round =>
  obtain ⟨j, hj, rfl, hown, hbel⟩ := hrel
  have hsz := hbel.size
  have q3 : wr.cell? ⟨yb, 3, none⟩ = some (.slice na s.vars.length nc) := (hbel.cell (p := ⟨yb, 3, none⟩) nj).trans y3
  have SG : yb < wr.heap.size := by omega
  have HO : Hid _ := hown
  have HB : Hid _ := hbel
  clear hown hbel
  by_cases hlt : j < s.vars.length
  ·obtain ⟨g, rfl, hg, hc⟩ := HC.out j hlt
   have Hv : wr.cell? ⟨g, j, none⟩ = some (.int .i64 (s.vars[j] : Nat)) := (HB.out.cell (p := ⟨g, j, none⟩) hg).trans hc
   have hgr : g < wr.heap.size := by omega
   have wT := IA s.vars t j
   rw [List.getD_eq_getElem?_getD, List.getElem?_eq_getElem hlt, Option.getD_some] at wT
   have lP := CC s.vars t j
   by_cases hv : s.vars[j] = t
   ·have qv : (((s.vars[j] : Nat) : Int) == (t : Int)) = true := by rw [hv]; simp
    rw [if_pos hv] at wT
    have HS : Hid _ := wT
    clear wT hv hc y3
    generalize s.vars[j] = vj at *
    go_wp2_with (at_builtin; go_must (refine wpList_append_own _ rfl (.tmp 27) (.tmp 29) 42 rfl w.heap.size 3 i0 _ 1 8 Tryz.CE HI.out pq.out pz.out pF.out rfl (by decide) _ (idxs s.vars t j).length (iT (idxs s.vars t j)) rfl (World.ownsRow.alloc HO.out _) ⟨wr.heap.size, 0, none⟩ 1 1 [.int .i64 j] rfl rfl ?c1 ?c2 ?c3 ?c4 ?c5 ?_))
    case c1 =>
     intro j u hj
     rw [<- hj]
     exact bH _ _ _ _
    case c2 => intro u hu; simp at hu; subst hu; rfl
    case c3 => unfold maxLen; omega
    case c4 => first | omega | (simp; omega)
    case c5 => first | omega | (simp; omega)
    intro v' w4 hown' hgrow hnil
    have dN : Hid (Below w.heap.size w w4) := (HB.out.alloc hsz _).grown hgrow (by simp; omega) (fun b hb => (World.ownsRow.lt HO.out b hb).1)
    have DY : Hid _ := hown'
    clear hown' hgrow hnil
    go_wp2
    go_roundw
    case rel =>
     refine ⟨j + 1, by omega, by go_num, ?_, dN.out⟩
     rw [HS.out]
     unfold iT
     rw [List.length_append, List.map_append]
     exact DY.out
    case measure => simp [intOf]; omega
   ·have qv : (((s.vars[j] : Nat) : Int) == (t : Int)) = false := by rw [beq_eq_false_iff_ne]; omega
    rw [if_neg hv] at wT
    have HS : Hid _ := wT
    clear wT hv hc y3
    generalize s.vars[j] = vj at *
    go_wp2
    go_roundw
    case rel => exact ⟨j + 1, by omega, by go_num, by rw [HS.out]; exact HO.out, HB.out⟩
    case measure => simp [intOf]; omega
  ·have Du : j = s.vars.length := by omega
   subst Du
   obtain ⟨L, hL⟩ : ∃ L, L = idxs s.vars t s.vars.length := ⟨_, rfl⟩
   have hmem : ∀ x ∈ L, x < s.vars.length := fun x hx => O5 (by rw [hL] at hx; exact hx)
   have hnm : jG s.vars t k = if L = [] then none else some (.var (L.getD (k % L.length) 0)) := by unfold jG; rw [<- hL]
   rw [<- hL] at HO hlen
   have QH : Hid _ := hnm
   clear hL hnm HC y3
   obtain ⟨la, lc, hlv, hla⟩ := EC HO.out
   subst hlv
   by_cases hn : L = []
   ·have Ba : Hid _ := hn
    have O4 : L.length = 0 := by rw [hn]; rfl
    rw [O4] at HO ⊢
    clear hla hmem hn
    go_wp2
    go_ret
    exact ⟨HB.out, Or.inl ⟨by rw [QH.out, if_pos Ba.out], rfl⟩⟩
   ·have Ba : Hid _ := hn
    have hpos : 0 < L.length := List.length_pos_iff.2 hn
    obtain ⟨g, rfl⟩ := hla hpos
    have hkl := Nat.mod_lt k hpos
    have Lq : Int.tmod (k : Int) (L.length : Int) = ((k % L.length : Nat) : Int) := (Int.ofNat_tmod _ _).symm
    have XP : wr.cell? ⟨g, k % L.length, none⟩ = some (.int .i64 (L.getD (k % L.length) 0 : Nat)) := by
     rw [World.ownsRow.cellAt HO.out _ (by omega)]; unfold iT
     rw [List.getElem?_map, List.getD_eq_getElem?_getD, List.getElem?_eq_getElem hkl]; rfl
    have hgl : g < wr.heap.size := World.block_lt_of_cell? _ _ XP
    have ql : ((L.length : Int) == 0) = false := by rw [beq_eq_false_iff_ne]; omega
    clear hla hmem hn
    generalize L.getD (k % L.length) 0 = nx at *
    generalize k % L.length = ix at *
    go_wp2
    go_ret
    refine ⟨HB.out.alloc hsz _, Or.inr ⟨_, _, by rw [QH.out, if_neg Ba.out], rfl, ?_⟩⟩
    exact aj _ _
theorem l7 (w : World) (k : Kw) (n pa pb : Nat) {a b : KE} (ha : eH w a pa) (hb : eH w b pb) :
  Below w.heap.size w ((w.alloc (.cells #[.pointer (some ⟨pa, 0, none⟩), .pointer (some ⟨pb, 0, none⟩)] 43 (0, 0))).alloc (.cells (tY k.bytes n (.slice (some ⟨w.heap.size, 0, none⟩) 2 2)) 98 (0, 0))) /\
  eH ((w.alloc (.cells #[.pointer (some ⟨pa, 0, none⟩), .pointer (some ⟨pb, 0, none⟩)] 43 (0, 0))).alloc (.cells (tY k.bytes n (.slice (some ⟨w.heap.size, 0, none⟩) 2 2)) 98 (0, 0))) (.n2 k n a b) (w.heap.size + 1) := by
 have h1 := aY (Below.refl _ w) (.cells #[.pointer (some ⟨pa, 0, none⟩), .pointer (some ⟨pb, 0, none⟩)] 43 (0, 0))
 have h2 := aY h1 (.cells (tY k.bytes n (.slice (some ⟨w.heap.size, 0, none⟩) 2 2)) 98 (0, 0))
 refine ⟨h2, w.heap.size, pa, pb, ?_, ?_, ha.below h2, hb.below h2⟩
 ·have := aj (w.alloc (.cells #[.pointer (some ⟨pa, 0, none⟩), .pointer (some ⟨pb, 0, none⟩)] 43 (0, 0))) (.cells (tY k.bytes n (.slice (some ⟨w.heap.size, 0, none⟩) 2 2)) 98 (0, 0))
  simpa using this
 ·rw [Below.heap_alloc _ _ _ (by simp)]; exact aj _ _
theorem wU {w0 : World} {yb : Nat} {rv : Value} {raw : List Int} (f : Nat) : ∀ (t : Nat) (s : lT) (nv : Value) (w : World), t < 5 -> dep t < f -> eB w0 w yb rv raw s nv -> s.vars.length <= 200 -> s.at_ + 40 * s.left + AF t <= 1000000 ->
  Calls Tryz.prog 79 #[.pointer (some ⟨yb, 0, none⟩), .int .i64 t] w fun e w' => ∃ p, e = .returned (.pointer (some ⟨p, 0, none⟩)) /\ cF w w' yb nv nv /\ eB w0 w' yb rv raw (dB raw f t s).2 nv /\ eH w' (dB raw f t s).1 p := by
 induction f with
 | zero => intro t s nv w _ h; omega
 | succ f ih =>
  intro t s nv w ht hd h hvl hat
  have hW := @Lm t
  have jV := dJ 7 (by omega) (by omega) h (by omega)
  have hst := bT raw 7 s
  have hx7 := cL raw 7 s (by omega)
  have hlf : dB raw (f + 1) t s = dB raw (f + 1) t s := rfl
  generalize Wp : dB raw (f + 1) t s = R at hlf ⊢
  simp only [dB] at Wp
  generalize aV raw 7 s = x at *
  obtain ⟨x1, x2, x3, x4⟩ := hst
  have HA : Hid (∀ y, 1 < x.1 -> jG x.2.vars t x.1 = some y -> R = (y, x.2)) := fun y h1 h2 => by rw [<- Wp, if_pos h1, h2]
  have HB : Hid ((if 1 < x.1 then jG x.2.vars t x.1 else none) = none -> t = 0 -> R = (.num (aV raw 60 x.2).1, (aV raw 60 x.2).2)) := fun h1 h2 => by rw [<- Wp, h1, if_pos h2]
  have HC : Hid ((if 1 < x.1 then jG x.2.vars t x.1 else none) = none -> t ≠ 0 -> R = (.n2 .pair 0 (dB raw f (fT t) x.2).1 (dB raw f (sT t) (dB raw f (fT t) x.2).2).1, (dB raw f (sT t) (dB raw f (fT t) x.2).2).2)) := fun h1 h2 => by rw [<- Wp, h1, if_neg h2]
  clear Wp hlf h
  have o7 : Hid _ := jV
  clear jV
  go_enter Tryz.func79, Tryz.ntmps79
  go_wp2_with fail
  refine Calls.mono o7.out ?_
  rintro _ w1 ⟨rfl, hf1, lQ⟩
  clear o7
  by_cases hk : 1 < x.1
  ·have hnm := IB t x.1 lQ (by rw [x2]; omega)
   have QH : Hid _ := hnm
   have dO : Hid _ := hf1
   have pM : Hid _ := lQ
   clear hnm hf1 lQ
   go_wp2_with fail
   refine Calls.mono QH.out ?_
   rintro e w2 ⟨hb2, ⟨hn, rfl⟩ | ⟨y, p, hy, rfl, Wq⟩⟩
   ·have hm2 := pM.out.grow hb2
    have hf2 := dO.out.trans (cF.below hb2 _ _)
    have HN : Hid ((if 1 < x.1 then jG x.2.vars t x.1 else none) = none) := by show _ = _; rw [if_pos hk]; exact hn
    clear hn hb2 pM dO QH HA
    by_cases h0 : t = 0
    ·have hR := HB.out HN.out h0
     subst h0
     have hz := dJ 60 (by omega) (by omega) hm2 (by omega)
     have hzs := bT raw 60 x.2
     generalize aV raw 60 x.2 = z at *
     have HZ : Hid _ := hz
     have cj : Hid _ := hf2
     clear hz hm2 hf2
     go_wp2_with fail
     refine Calls.mono HZ.out ?_
     rintro _ w3 ⟨rfl, hf3, yV⟩
     have dC : Hid _ := cj.out.trans hf3
     have wV : Hid _ := yV
     clear hf3 yV HZ cj
     have HR : Hid _ := hR
     clear hR
     go_wp2
     go_ret
     rw [HR.out]
     have pO := aY (Below.refl _ w3) (.cells (tY [] z.1 (.slice none 0 0)) 98 (0, 0))
     exact ⟨_, rfl, dC.out.trans (cF.below pO _ _), wV.out.grow pO, aj _ _⟩
    ·have hR := HC.out HN.out h0
     have hp := wQ ht h0
     have X6 := sY ht h0
     have hfi : fI t = ((fT t : Nat) : Int) := by unfold fI; rw [if_neg h0]
     have hsi : sI t = ((sT t : Nat) : Int) := by unfold sI; rw [if_neg h0]
     have q0 : ((t : Int) == 0) = false := by rw [beq_eq_false_iff_ne]; omega
     have hfs := mK t ht
     have yj := lB t ht
     rw [hfi] at hfs
     rw [hsi] at yj
     have JD : Hid _ := hfs
     have Ni : Hid _ := yj
     have cj : Hid _ := hf2
     have qV : Hid _ := hm2
     have hlo := kQ raw f (fT t) x.2 hp.2.2.2.2.1 (by omega)
     have hia := fun W hW => ih (fT t) x.2 nv W hp.2.2.2.2.1 (by omega) (hm2.grow hW) (by rw [x2]; omega) (by omega)
     generalize dB raw f (fT t) x.2 = a at *
     have hib := fun W hW => ih (sT t) a.2 nv W hp.2.2.2.2.2 (by omega) hW (by rw [hlo.vars, x2]; omega) (by have := hlo.at_; have := hlo.left; omega)
     generalize dB raw f (sT t) a.2 = b at *
     have yX : Hid _ := hia
     have yY : Hid _ := hib
     clear hfi hsi hfs yj hm2 hf2 hlo hia hib X6 hp ih h0
     go_wp2_with fail
     refine Calls.mono (JD.out _) ?_
     rintro _ w3 ⟨rfl, hb3⟩
     go_wp2_with fail
     refine Calls.mono (yX.out w3 hb3) ?_
     rintro _ w4 ⟨pa, rfl, cT, rT, uz⟩
     have js : Hid _ := (cj.out.trans (cF.below hb3 _ _)).trans cT
     have qW : Hid _ := rT
     have Bc : Hid _ := uz
     clear hb3 cT rT uz cj qV yX
     go_wp2_with fail
     refine Calls.mono (Ni.out _) ?_
     rintro _ w5 ⟨rfl, lY⟩
     have Bb := qW.out.grow lY
     have Lr := Bc.out.below lY
     have fJ : Hid _ := js.out.trans (cF.below lY _ _)
     have Ls : Hid _ := Bb
     have Lt : Hid _ := Lr
     clear lY Bb Lr qW Bc js
     go_wp2_with fail
     refine Calls.mono (yY.out w5 Ls.out) ?_
     rintro _ w6 ⟨pb, rfl, wi, Wr, Ws⟩
     have ZO : Hid _ := Lt.out.fr Ls.out wi
     have Ui : Hid _ := fJ.out.trans wi
     have ZP : Hid _ := Wr
     have ZQ : Hid _ := Ws
     clear wi Wr Ws Lt fJ Ls yY
     have HR : Hid _ := hR
     clear hR
     go_wp2
     go_ret
     rw [HR.out]
     have h2 := l7 w6 (.pair) 0 pa pb ZO.out ZQ.out
     exact ⟨_, rfl, Ui.out.trans (cF.below h2.1 _ _), ZP.out.grow h2.1, h2.2⟩
   ·have hR := HA.out y hk hy
    have dN : Hid _ := hb2
    have HK : Hid _ := Wq
    clear hb2 Wq QH HB HC
    have HR : Hid _ := hR
    clear hR
    go_wp2
    go_ret
    rw [HR.out]
    exact ⟨p, rfl, dO.out.trans (cF.below dN.out _ _), pM.out.grow dN.out, HK.out⟩
  ·have HN : Hid ((if 1 < x.1 then jG x.2.vars t x.1 else none) = none) := by show _ = _; rw [if_neg hk]
   have hm2 := lQ
   have hf2 := hf1
   clear lQ hf1 HA
   by_cases h0 : t = 0
   ·have hR := HB.out HN.out h0
    subst h0
    have hz := dJ 60 (by omega) (by omega) hm2 (by omega)
    have hzs := bT raw 60 x.2
    generalize aV raw 60 x.2 = z at *
    have HZ : Hid _ := hz
    have cj : Hid _ := hf2
    clear hz hm2 hf2
    go_wp2_with fail
    refine Calls.mono HZ.out ?_
    rintro _ w3 ⟨rfl, hf3, yV⟩
    have dC : Hid _ := cj.out.trans hf3
    have wV : Hid _ := yV
    clear hf3 yV HZ cj
    have HR : Hid _ := hR
    clear hR
    go_wp2
    go_ret
    rw [HR.out]
    have pO := aY (Below.refl _ w3) (.cells (tY [] z.1 (.slice none 0 0)) 98 (0, 0))
    exact ⟨_, rfl, dC.out.trans (cF.below pO _ _), wV.out.grow pO, aj _ _⟩
   ·have hR := HC.out HN.out h0
    have hp := wQ ht h0
    have X6 := sY ht h0
    have hfi : fI t = ((fT t : Nat) : Int) := by unfold fI; rw [if_neg h0]
    have hsi : sI t = ((sT t : Nat) : Int) := by unfold sI; rw [if_neg h0]
    have q0 : ((t : Int) == 0) = false := by rw [beq_eq_false_iff_ne]; omega
    have hfs := mK t ht
    have yj := lB t ht
    rw [hfi] at hfs
    rw [hsi] at yj
    have JD : Hid _ := hfs
    have Ni : Hid _ := yj
    have cj : Hid _ := hf2
    have qV : Hid _ := hm2
    have hlo := kQ raw f (fT t) x.2 hp.2.2.2.2.1 (by omega)
    have hia := fun W hW => ih (fT t) x.2 nv W hp.2.2.2.2.1 (by omega) (hm2.grow hW) (by rw [x2]; omega) (by omega)
    generalize dB raw f (fT t) x.2 = a at *
    have hib := fun W hW => ih (sT t) a.2 nv W hp.2.2.2.2.2 (by omega) hW (by rw [hlo.vars, x2]; omega) (by have := hlo.at_; have := hlo.left; omega)
    generalize dB raw f (sT t) a.2 = b at *
    have yX : Hid _ := hia
    have yY : Hid _ := hib
    clear hfi hsi hfs yj hm2 hf2 hlo hia hib X6 hp ih h0
    go_wp2_with fail
    refine Calls.mono (JD.out _) ?_
    rintro _ w3 ⟨rfl, hb3⟩
    go_wp2_with fail
    refine Calls.mono (yX.out w3 hb3) ?_
    rintro _ w4 ⟨pa, rfl, cT, rT, uz⟩
    have js : Hid _ := (cj.out.trans (cF.below hb3 _ _)).trans cT
    have qW : Hid _ := rT
    have Bc : Hid _ := uz
    clear hb3 cT rT uz cj qV yX
    go_wp2_with fail
    refine Calls.mono (Ni.out _) ?_
    rintro _ w5 ⟨rfl, lY⟩
    have Bb := qW.out.grow lY
    have Lr := Bc.out.below lY
    have fJ : Hid _ := js.out.trans (cF.below lY _ _)
    have Ls : Hid _ := Bb
    have Lt : Hid _ := Lr
    clear lY Bb Lr qW Bc js
    go_wp2_with fail
    refine Calls.mono (yY.out w5 Ls.out) ?_
    rintro _ w6 ⟨pb, rfl, wi, Wr, Ws⟩
    have ZO : Hid _ := Lt.out.fr Ls.out wi
    have Ui : Hid _ := fJ.out.trans wi
    have ZP : Hid _ := Wr
    have ZQ : Hid _ := Ws
    clear wi Wr Ws Lt fJ Ls yY
    have HR : Hid _ := hR
    clear hR
    go_wp2
    go_ret
    rw [HR.out]
    have h2 := l7 w6 (.pair) 0 pa pb ZO.out ZQ.out
    exact ⟨_, rfl, Ui.out.trans (cF.below h2.1 _ _), ZP.out.grow h2.1, h2.2⟩
theorem eY (l : List Nat) : (iT l).length = l.length := by simp [iT]
theorem wW (l : List Nat) (v : Nat) : iT (l ++ [v]) = iT l ++ [.int .i64 v] := by simp [iT]
theorem Ge {w0 : World} {yb : Nat} {rv : Value} {raw : List Int} (g : Nat -> lT -> KE × lT) (v t : Nat) (s : lT) (nv : Value) (w : World)
  (hf : ∀ (nv : Value) (w : World), eB w0 w yb rv raw { s with vars := s.vars ++ [v] } nv -> Calls Tryz.prog 48 #[.pointer (some ⟨yb, 0, none⟩), .int .i64 t] w fun e w' => ∃ p bw, e = .returned (.pointer (some ⟨p, 0, none⟩)) /\ cF w w' yb nv bw /\ eB w0 w' yb rv raw (g t { s with vars := s.vars ++ [v] }).2 bw /\ eH w' (g t { s with vars := s.vars ++ [v] }).1 p)
  (hg : (g t { s with vars := s.vars ++ [v] }).2.vars = s.vars ++ [v]) (h : eB w0 w yb rv raw s nv) (hvl : s.vars.length <= 200) :
  Calls Tryz.prog 80 #[.pointer (some ⟨yb, 0, none⟩), .int .i64 v, .int .i64 t] w fun e w' => ∃ p bw, e = .returned (.pointer (some ⟨p, 0, none⟩)) /\ cF w w' yb nv bw /\ eB w0 w' yb rv raw (eT g v t s).2 bw /\ eH w' (eT g v t s).1 p := by
 obtain ⟨i0, hi, hz0, hz1, hz2⟩ := info_parts Tryz.CD
 have HI : Hid _ := hi
 have pq : Hid _ := hz0
 have pz : Hid _ := hz1
 have pF : Hid _ := hz2
 have HH : Hid _ := h
 have nj := af h.ob.y
 obtain ⟨na, nc, oP, _, _⟩ := h.ob.shape
 rw [eY] at oP
 have y3 : w.cell? ⟨yb, 3, none⟩ = some (.slice na s.vars.length nc) := by rw [aa h.ob.y, <- oP]; rfl
 have f3 : w.frozen? ⟨yb, 3, none⟩ = false := ag h.ob.y 3
 have hown : w.ownsRow 0 3 1 (.slice na s.vars.length nc) s.vars.length (iT s.vars) := by
  have := cY (base' := 0) h.ob.n (fun _ _ => Nat.zero_le _)
  rw [eY, oP] at this; exact this
 have DI : Hid _ := oP
 have dS : Hid (w.ownsRow 0 3 1 (.slice na s.vars.length nc) s.vars.length (iT s.vars)) := hown
 have Wu : Hid _ := hf
 have ZS : Hid _ := hg
 clear hi hz0 hz1 hz2 hown oP h hf hg
 go_enter Tryz.func80, Tryz.ntmps80
 go_wp2_with (at_builtin; go_must (refine oC _ rfl (.tmp 18) (.tmp 20) 42 rfl 3 i0 _ 1 8 Tryz.CE HI.out pq.out pz.out pF.out rfl (by decide) (.slice na s.vars.length nc) s.vars.length (iT s.vars) rfl (dS.out.alloc _) ⟨w.heap.size, 0, none⟩ 1 1 [.int .i64 v] rfl rfl ?d1 ?d2 (by decide) ?d3 ?d4 ?_))
 case d1 =>
  intro j' u hj'
  match j', hj' with
  | 0, hj' => simp at hj'; subst hj'; simp [Addr.add]
  | j' + 1, hj' => simp at hj'
 case d2 => intro u hu; simp at hu; subst hu; rfl
 case d3 => unfold maxLen; omega
 case d4 => omega
 intro g1 c1 w3 NK SH Lu
 have gu := jH.push (x := .int .i64 v) (o := 3) (W := w3.setCell ⟨yb, 3, none⟩ (.slice (some ⟨g1, 0, none⟩) (s.vars.length + 1) c1)) HH.out.ob (by rw [DI.out]; exact SH) (by rw [eY]; exact NK) (by rw [DI.out]; simpa using Lu) (by rw [eY])
 rw [eY] at gu
 obtain ⟨Wv, hs1⟩ := gu
 have lQ : eB w0 (w3.setCell ⟨yb, 3, none⟩ (.slice (some ⟨g1, 0, none⟩) (s.vars.length + 1) c1)) yb rv raw { s with vars := s.vars ++ [v] } (.slice (some ⟨g1, 0, none⟩) (s.vars.length + 1) c1) := by
  refine ⟨HH.out.r, ?_⟩
  rw [wW]
  exact Wv
 have hcall := Wu.out _ _ lQ
 have O6 : w3.heap[yb]? = some (.cells (mJ rv s nv) 94 (0, 0)) := by
  rw [SH.block yb (by simp; omega) (fun e => HH.out.ob.ny (by rw [DI.out]; exact e.symm)), Below.heap_alloc _ _ _ nj]; exact HH.out.ob.y
 have ZT := af O6
 have ZU : w3.cell? ⟨yb, 3, none⟩ = some nv := by rw [aa O6]; rfl
 have f33 : w3.frozen? ⟨yb, 3, none⟩ = false := ag O6 3
 have HC : Hid _ := hcall
 have Hm : Hid _ := hs1
 clear NK SH Lu Wv O6 y3 f3 hcall lQ hs1 Wu dS
 go_wp2_with fail
 refine Calls.mono HC.out ?_
 rintro _ w7 ⟨p, V8, rfl, aS, O7, Ww⟩
 obtain ⟨na7, AG, sZ, Lv, ED⟩ := O7.ob.shape
 have Al := O7.ob
 rw [eY, ZS.out, List.length_append, List.length_singleton] at sZ ED Lv
 obtain ⟨g7, Wx⟩ := ED (by omega)
 rw [Wx] at sZ
 have y37 : w7.cell? ⟨yb, 3, none⟩ = some (.slice (some ⟨g7, 0, none⟩) (s.vars.length + 1) AG) := by rw [aa Al.y, <- sZ]; rfl
 have f37 : w7.frozen? ⟨yb, 3, none⟩ = false := ag Al.y 3
 have ZV := af Al.y
 obtain ⟨R, hR⟩ : ∃ R, R = g t { s with vars := s.vars ++ [v] } := ⟨_, rfl⟩
 have hP : jH w0 (w7.setCell ⟨yb, 3, none⟩ (.slice (some ⟨g7, 0, none⟩) s.vars.length AG)) yb (mJ rv (eT g v t s).2 (.slice (some ⟨g7, 0, none⟩) s.vars.length AG)) 94 (.slice (some ⟨g7, 0, none⟩) s.vars.length AG) 3 (iT s.vars) := by
  have h1 := Al
  rw [ZS.out, wW, sZ] at h1
  have h2 := jH.pop (o := 3) (xs := iT s.vars) (x := .int .i64 v) (g := g7) (cap := AG) (by rw [eY]; exact h1)
  rw [eY] at h2
  exact h2
 have Um : (eT g v t s).2.vars = s.vars := by unfold eT; simp only [ZS.out, List.take_left]
 have Un : Hid (eB w0 (w7.setCell ⟨yb, 3, none⟩ (.slice (some ⟨g7, 0, none⟩) s.vars.length AG)) yb rv raw (eT g v t s).2 (.slice (some ⟨g7, 0, none⟩) s.vars.length AG)) := ⟨HH.out.r, by rw [Um]; exact hP⟩
 have hfs := cF.wR w7 yb V8 3 (.slice (some ⟨g7, 0, none⟩) s.vars.length AG)
 have sJ : Hid _ := Ww.fr O7 hfs
 have pV : Hid _ := ((Hm.out.trans aS).trans hfs).Lp (cq := .slice (some ⟨g7, 0, none⟩) s.vars.length AG) (by rw [sZ]; rfl)
 clear aS O7 Ww Al sZ ED Wx hP Um hfs hR HC Hm ZU f33
 go_wp2
 go_ret
 exact ⟨p, _, rfl, pV.out, Un.out, sJ.out⟩
def mL (w0 : World) (yb : Nat) (rv : Value) (raw : List Int) (f : Nat) : Prop :=
 ∀ (t : Nat) (s : lT) (nv : Value) (w : World), t < 5 -> s.left < f -> s.vars.length + s.left <= 100 -> s.at_ + 40 * s.left + 11 <= 100000 -> eB w0 w yb rv raw s nv ->
  Calls Tryz.prog 48 #[.pointer (some ⟨yb, 0, none⟩), .int .i64 t] w fun e w' => ∃ p bw, e = .returned (.pointer (some ⟨p, 0, none⟩)) /\ cF w w' yb nv bw /\ eB w0 w' yb rv raw (aP raw f t s).2 bw /\ eH w' (aP raw f t s).1 p
theorem kR {w0 w : World} {yb : Nat} {rv : Value} {raw : List Int} {s : lT} {nv : Value} (h : eB w0 w yb rv raw s nv) (hl : s.left ≠ 0) : eB w0 (w.setCell ⟨yb, 2, none⟩ (.int .i64 ((s.left : Int) - 1))) yb rv raw { s with left := s.left - 1 } nv := by
 refine ⟨h.r, h.ob.set 2 _ ?_⟩
 simp only [mJ]
 rw [show (s.left : Int) - 1 = ((s.left - 1 : Nat) : Int) by omega]
 rfl
theorem yZ (w : World) (k : Kw) (n pa pb pd : Nat) {a b d : KE} (ha : eH w a pa) (hb : eH w b pb) (hd : eH w d pd) :
  Below w.heap.size w ((w.alloc (.cells #[.pointer (some ⟨pa, 0, none⟩), .pointer (some ⟨pb, 0, none⟩), .pointer (some ⟨pd, 0, none⟩)] 43 (0, 0))).alloc (.cells (tY k.bytes n (.slice (some ⟨w.heap.size, 0, none⟩) 3 3)) 98 (0, 0))) /\
  eH ((w.alloc (.cells #[.pointer (some ⟨pa, 0, none⟩), .pointer (some ⟨pb, 0, none⟩), .pointer (some ⟨pd, 0, none⟩)] 43 (0, 0))).alloc (.cells (tY k.bytes n (.slice (some ⟨w.heap.size, 0, none⟩) 3 3)) 98 (0, 0))) (.n3 k n a b d) (w.heap.size + 1) := by
 have h1 := aY (Below.refl _ w) (.cells #[.pointer (some ⟨pa, 0, none⟩), .pointer (some ⟨pb, 0, none⟩), .pointer (some ⟨pd, 0, none⟩)] 43 (0, 0))
 have h2 := aY h1 (.cells (tY k.bytes n (.slice (some ⟨w.heap.size, 0, none⟩) 3 3)) 98 (0, 0))
 refine ⟨h2, w.heap.size, pa, pb, pd, ?_, ?_, ha.below h2, hb.below h2, hd.below h2⟩
 ·have := aj (w.alloc (.cells #[.pointer (some ⟨pa, 0, none⟩), .pointer (some ⟨pb, 0, none⟩), .pointer (some ⟨pd, 0, none⟩)] 43 (0, 0))) (.cells (tY k.bytes n (.slice (some ⟨w.heap.size, 0, none⟩) 3 3)) 98 (0, 0))
  simpa using this
 ·rw [Below.heap_alloc _ _ _ (by simp)]; exact aj _ _
theorem Lw {w0 : World} {yb : Nat} {rv : Value} {raw : List Int} {f : Nat} (ih : mL w0 yb rv raw f) (t : Nat) (s : lT) (nv : Value) (w : World) (ht : t < 5) (hf : s.left < f + 1) (hv : s.vars.length + s.left <= 100) (ha : s.at_ + 40 * s.left + 11 <= 100000) (h : eB w0 w yb rv raw s nv) (hl : s.left ≠ 0) (hk : (aV raw 9 { s with left := s.left - 1 }).1 = 0) :
  Calls Tryz.prog 48 #[.pointer (some ⟨yb, 0, none⟩), .int .i64 t] w fun e w' => ∃ p bw, e = .returned (.pointer (some ⟨p, 0, none⟩)) /\ cF w w' yb nv bw /\ eB w0 w' yb rv raw (aP raw (f + 1) t s).2 bw /\ eH w' (aP raw (f + 1) t s).1 p := by
 have nj := af h.ob.y
 have y2 : w.cell? ⟨yb, 2, none⟩ = some (.int .i64 s.left) := by rw [aa h.ob.y]; rfl
 have f2 : w.frozen? ⟨yb, 2, none⟩ = false := ag h.ob.y 2
 have yf : 0 < s.left := by omega
 have jV := dJ 9 (by omega) (by omega) (kR h hl) (by simp only; omega)
 have hst := bT raw 9 { s with left := s.left - 1 }
 have Uo := cL raw 9 { s with left := s.left - 1 } (by omega)
 generalize hR : aP raw (f + 1) t s = R
 simp only [aP] at hR
 rw [if_neg hl] at hR
 generalize aV raw 9 { s with left := s.left - 1 } = x at *
 obtain ⟨x1, x2, x3, x4⟩ := hst
 simp only at x1 x2 x3 x4
 have qk : ((x.1 : Int) == 0) = true := by rw [hk]; rfl
 have wX : Hid _ := cF.wR w yb nv 2 (.int .i64 ((s.left : Int) - 1))
 have o7 : Hid _ := jV
 clear jV h
 go_enter Tryz.func48, Tryz.ntmps48
 go_wp2_with fail
 refine Calls.mono o7.out ?_
 rintro _ w1 ⟨rfl, hf1, lQ⟩
 have dO : Hid _ := wX.out.trans hf1
 have pM : Hid _ := lQ
 clear o7 wX hf1 lQ y2 f2
 rw [if_pos hk] at hR
 have hm := bT raw 5 x.2
 have Bb := cL raw 5 x.2 (by omega)
 have oP := dJ 5 (by omega) (by omega) pM.out (by omega)
 generalize aV raw 5 x.2 = v at *
 obtain ⟨m1, m2, m3, m4⟩ := hm
 have hao := bU raw f v.1 v.2 Bb (by omega) (by rw [m2, x2]; omega)
 have hia := ih v.1 v.2 nv
 generalize aP raw f v.1 v.2 = a at *
 obtain ⟨a1, a2, a3, a4, a5, a6, a7, a8⟩ := hao
 have hWv := @uy v.1
 have EE := bU raw f t { a.2 with vars := a.2.vars ++ [v.1] } ht (by simp only; omega) (by simp only [List.length_append, List.length_singleton, a2, m2, x2]; omega)
 have hib := fun nv W hW => Ge (aP raw f) v.1 t a.2 nv W (fun bw W' h' => ih t { a.2 with vars := a.2.vars ++ [v.1] } bw W' ht (by simp only; omega) (by simp only [List.length_append, List.length_singleton, a2, m2, x2]; omega) (by simp only; omega) h') EE.vars hW (by rw [a2, m2, x2]; omega)
 have Um := rS (v := v.1) EE
 generalize eT (aP raw f) v.1 t a.2 = b at *
 obtain ⟨_, b2, _⟩ := Um
 have DI : Hid _ := oP
 have yX : Hid (∀ W, eB w0 W yb rv raw v.2 nv -> _) := fun W hW => hia W Bb (by omega) (by rw [m2, x2]; omega) (by omega) hW
 have yY : Hid _ := hib
 have hbl : b.2.vars.length <= 100 := by rw [b2, a2, m2, x2]; omega
 clear oP hia hib ih EE
 go_wp2_with fail
 refine Calls.mono DI.out ?_
 rintro _ w2 ⟨rfl, hf2, hm2⟩
 have cj : Hid _ := dO.out.trans hf2
 have qV : Hid _ := hm2
 clear hf2 hm2 pM dO DI
 go_wp2_with fail
 refine Calls.mono (yX.out w2 qV.out) ?_
 rintro _ w3 ⟨p3, AJ, rfl, hf3, yV, pL⟩
 have dC : Hid _ := cj.out.trans hf3
 have wV : Hid _ := yV
 have uw : Hid _ := pL
 clear hf3 yV pL qV cj
 go_wp2_with fail
 refine Calls.mono (yY.out AJ w3 wV.out) ?_
 rintro _ w4 ⟨p4, gy, rfl, cT, rT, uz⟩
 have EG : Hid _ := eH.fr uw.out wV.out cT
 have js : Hid _ := dC.out.trans cT
 have qW : Hid _ := rT
 have Bc : Hid _ := uz
 clear cT rT uz wV dC
 obtain ⟨na, nc, EH, _, _⟩ := qW.out.ob.shape
 rw [eY] at EH
 have y3 : w4.cell? ⟨yb, 3, none⟩ = some (.slice na b.2.vars.length nc) := by rw [aa qW.out.ob.y, <- EH]; rfl
 have ZW := af qW.out.ob.y
 have HR : Hid _ := hR
 have h2 := l7 w4 .bb b.2.vars.length p3 p4 EG.out Bc.out
 have H2 : Hid _ := h2
 clear hR h2 EH b2 yX yY
 go_wp2
 go_ret
 rw [<- HR.out]
 exact ⟨_, gy, rfl, js.out.trans (cF.below H2.out.1 _ _), qW.out.grow H2.out.1, H2.out.2⟩
theorem O8 {w0 : World} {yb : Nat} {rv : Value} {raw : List Int} {f : Nat} (ih : mL w0 yb rv raw f) (t : Nat) (s : lT) (nv : Value) (w : World) (ht : t < 5) (hf : s.left < f + 1) (hv : s.vars.length + s.left <= 100) (ha : s.at_ + 40 * s.left + 11 <= 100000) (h : eB w0 w yb rv raw s nv) (hl : s.left ≠ 0) (hk : (aV raw 9 { s with left := s.left - 1 }).1 = 1) :
  Calls Tryz.prog 48 #[.pointer (some ⟨yb, 0, none⟩), .int .i64 t] w fun e w' => ∃ p bw, e = .returned (.pointer (some ⟨p, 0, none⟩)) /\ cF w w' yb nv bw /\ eB w0 w' yb rv raw (aP raw (f + 1) t s).2 bw /\ eH w' (aP raw (f + 1) t s).1 p := by
 have nj := af h.ob.y
 have y2 : w.cell? ⟨yb, 2, none⟩ = some (.int .i64 s.left) := by rw [aa h.ob.y]; rfl
 have f2 : w.frozen? ⟨yb, 2, none⟩ = false := ag h.ob.y 2
 have yf : 0 < s.left := by omega
 have jV := dJ 9 (by omega) (by omega) (kR h hl) (by simp only; omega)
 have hst := bT raw 9 { s with left := s.left - 1 }
 have Uo := cL raw 9 { s with left := s.left - 1 } (by omega)
 generalize hR : aP raw (f + 1) t s = R
 simp only [aP] at hR
 rw [if_neg hl] at hR
 generalize aV raw 9 { s with left := s.left - 1 } = x at *
 obtain ⟨x1, x2, x3, x4⟩ := hst
 simp only at x1 x2 x3 x4
 skip
 have wX : Hid _ := cF.wR w yb nv 2 (.int .i64 ((s.left : Int) - 1))
 have o7 : Hid _ := jV
 clear jV h
 go_enter Tryz.func48, Tryz.ntmps48
 go_wp2_with fail
 refine Calls.mono o7.out ?_
 rintro _ w1 ⟨rfl, hf1, lQ⟩
 have dO : Hid _ := wX.out.trans hf1
 have pM : Hid _ := lQ
 clear o7 wX hf1 lQ y2 f2
 rw [if_neg (by omega), if_pos hk] at hR
 have hao := bU raw f 0 x.2 (by omega) (by omega) (by rw [x2]; omega)
 have hia := fun W hW => ih 0 x.2 nv W (by omega) (by omega) (by rw [x2]; omega) (by omega) hW
 generalize aP raw f 0 x.2 = a at *
 obtain ⟨a1, a2, a3, a4, a5, a6, a7, a8⟩ := hao
 have EE := bU raw f t a.2 ht (by omega) (by rw [a2, x2]; omega)
 have FF := @uy 0
 have hWt := @uy t
 have hib := fun nv W hW => ih t a.2 nv W ht (by omega) (by rw [a2, x2]; omega) (by omega) hW
 generalize aP raw f t a.2 = b at *
 obtain ⟨b1, b2, b3, b4, b5, b6, b7, b8⟩ := EE
 have hic := fun nv W hW => ih t b.2 nv W ht (by omega) (by rw [b2, a2, x2]; omega) (by omega) hW
 generalize aP raw f t b.2 = d at *
 have yX : Hid _ := hia
 have yY : Hid _ := hib
 have HIC : Hid _ := hic
 have qk : ((x.1 : Int) == 0) = false := by rw [beq_eq_false_iff_ne]; omega
 have Wy : ((x.1 : Int) == 1) = true := by rw [hk]; rfl
 clear hia hib hic ih
 go_wp2_with fail
 refine Calls.mono (yX.out w1 pM.out) ?_
 rintro _ w3 ⟨p3, AJ, rfl, hf3, yV, pL⟩
 have dC : Hid _ := dO.out.trans hf3
 have wV : Hid _ := yV
 have uw : Hid _ := pL
 clear hf3 yV pL pM dO
 go_wp2_with fail
 refine Calls.mono (yY.out AJ w3 wV.out) ?_
 rintro _ w4 ⟨p4, gy, rfl, cT, rT, uz⟩
 have EG : Hid _ := eH.fr uw.out wV.out cT
 have js : Hid _ := dC.out.trans cT
 have qW : Hid _ := rT
 have Bc : Hid _ := uz
 clear cT rT uz wV dC
 go_wp2_with fail
 refine Calls.mono (HIC.out gy w4 qW.out) ?_
 rintro _ w5 ⟨p5, Er, rfl, ew, Bb, Lr⟩
 have ZX : Hid _ := eH.fr EG.out qW.out ew
 have SI : Hid _ := eH.fr Bc.out qW.out ew
 have fJ : Hid _ := js.out.trans ew
 have Ls : Hid _ := Bb
 have Lt : Hid _ := Lr
 clear ew Bb Lr qW js
 have HR : Hid _ := hR
 have h2 := yZ w5 .fH 0 p3 p4 p5 ZX.out SI.out Lt.out
 have H2 : Hid _ := h2
 clear hR h2 yX yY HIC
 go_wp2
 go_ret
 rw [<- HR.out]
 exact ⟨_, Er, rfl, fJ.out.trans (cF.below H2.out.1 _ _), Ls.out.grow H2.out.1, H2.out.2⟩
end Go.Proofs.YtpicaknklgccoaaGreatDoor
