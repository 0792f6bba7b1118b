import Derived.Test.YtglkpkmdoohdcaaDoorRe
import Derived.Test.YtglkpkmdoohdcaaDoorMc
import Derived.ArgAppend
namespace Go.Proofs.YtglkpkmdoohdcaaDoor
open Go.RowKit

theorem blk_cell {w : World} {b : Nat} {arr : Array Value} {t : TypeId} {fr : Nat × Nat} (h : w.heap[b]? = some (.cells arr t fr)) (o : Nat) : w.cell? ⟨b, o, none⟩ = arr[o]? := by
  simp [World.cell?, h]
theorem blk_free {w : World} {b : Nat} {arr : Array Value} {t : TypeId} (h : w.heap[b]? = some (.cells arr t (0, 0))) (o : Nat) : w.frozen? ⟨b, o, none⟩ = false := by
  simp [World.frozen?, h]
theorem blk_set {w : World} {b : Nat} {arr : Array Value} {t : TypeId} {fr : Nat × Nat} (h : w.heap[b]? = some (.cells arr t fr)) (o : Nat) (u : Value) : (w.setCell ⟨b, o, none⟩ u).heap[b]? = some (.cells (arr.setIfInBounds o u) t fr) := by
  simp [World.setCell, Array.getElem?_modify, h]
theorem blk_other {w : World} {b : Nat} (a : Addr) (u : Value) (hb : b ≠ a.block) : (w.setCell a u).heap[b]? = w.heap[b]? := Below.heap_setCell _ _ _ _ hb
theorem blk_lt {w : World} {b : Nat} {o : Obj} (h : w.heap[b]? = some o) : b < w.heap.size := by
  rcases Nat.lt_or_ge b w.heap.size with h1 | h1
  · exact h1
  · rw [Array.getElem?_eq_none h1] at h; cases h
theorem blk_alloc {w : World} {b : Nat} {x : Obj} (o : Obj) (h : w.heap[b]? = some x) : (w.alloc o).heap[b]? = some x := by
  rw [Below.heap_alloc _ _ _ (blk_lt h)]; exact h
theorem blk_new (w : World) (o : Obj) : (w.alloc o).heap[w.heap.size]? = some o := by
  show (w.heap.push o)[w.heap.size]? = _; simp

/-- what the value of a slice is of: a nil one, or a row at the head of a block -/
theorem owns_base {w : World} {base base' : Nat} {e : TypeId} {size : Nat} {v : Value} {n : Nat} {xs : List Value} (h : w.ownsRow base e size v n xs) (hb : ∀ k, v.ownBlock = some k → base' ≤ k) : w.ownsRow base' e size v n xs := by
  obtain ⟨h1, h2⟩ := h
  refine ⟨h1, ?_⟩
  rcases h2 with h2 | ⟨g, cap, cur, hv, hg, hh, r⟩
  · exact Or.inl h2
  · exact Or.inr ⟨g, cap, cur, hv, hb g (by rw [hv]; rfl), hh, r⟩

theorem owns_blk {w w' : World} {base : Nat} {e : TypeId} {size : Nat} {v : Value} {n : Nat} {xs : List Value} (h : w.ownsRow base e size v n xs) (hb : ∀ k, v.ownBlock = some k → w'.heap[k]? = w.heap[k]?) : w'.ownsRow base e size v n xs := by
  obtain ⟨h1, h2⟩ := h
  refine ⟨h1, ?_⟩
  rcases h2 with h2 | ⟨g, cap, cur, hv, hg, hh, r⟩
  · exact Or.inl h2
  · exact Or.inr ⟨g, cap, cur, hv, hg, by rw [hb g (by rw [hv]; rfl)]; exact hh, r⟩

/-- append onto a row of one's own: as the library's law, and besides: the new row is the old one, or a new block -/
theorem app_own {P : Program} (w : World) {ops : Array Oper} {rest : List Oper} {o : Oper} {a : Act} {Q : Exit → Act → World → Prop} (hgd : o.guard = none)
    (s x : Operand) (t : TypeId) (ho : o.op = Op.call { callee := Callee.builtin Builtin.append, args := #[s, x], argTypes := #[t, t] }) (e : TypeId) (i : TypeInfo)
    (z : Value) (size bytes : Nat) (ht : P.underlying t = some (TypeDesc.slice e)) (hi : P.info? e = some i) (hz : i.zero = some z) (hsize : i.size = size) (hby : i.bytes = bytes)
    (hzs : z.cells.size = size) (hsz : 0 < size) (v : Value) (n : Nat) (xs : List Value) (hs : a.eval s = v) (hown : w.ownsRow 0 e size v n xs) (ad : Addr) (m c : Nat) (news : List Value)
    (hx : a.eval x = Value.slice (some ad) m c) (hl : news.length = m * size) (hnews : ∀ (j : Nat) (u : Value), news[j]? = some u → w.cell? (ad.add j) = some u)
    (h1 : ∀ (u : Value), u ∈ news → u.oneCell' = true) (hm : 0 < m) (h63 : n + m ≤ maxLen) (hbytes : (n + m) * bytes ≤ 140737488355328)
    (h : ∀ (g cap : Nat) (w' : World), w'.ownsRow 0 e size (.slice (some ⟨g, 0, none⟩) (n + m) cap) (n + m) (xs ++ news) → w.grownBy w' v.ownBlock →
      (v.ownBlock = some g ∨ w.heap.size ≤ g) → wpList P ops Q rest (a.put o.dst (.slice (some ⟨g, 0, none⟩) (n + m) cap)) w') :
    wpList P ops Q (o :: rest) a w := by
  have fin : ∀ (v' : Value) (w' : World), w'.ownsRow w.heap.size e size v' (n + m) (xs ++ news) → w.grownBy w' none → wpList P ops Q rest (a.put o.dst v') w' := by
    intro v' w' ho' hg'
    obtain ⟨g, cap, hv'⟩ : ∃ g cap, v' = .slice (some ⟨g, 0, none⟩) (n + m) cap := by
      rcases ho'.2 with ⟨_, hh⟩ | ⟨g, cap, cur, hv, _⟩
      · omega
      · exact ⟨_, _, hv⟩
    subst hv'
    have hlt := ho'.lt g rfl
    exact h g cap w' (owns_base ho' (fun k hk => Nat.zero_le _)) ⟨hg'.os, hg'.tape, hg'.output, hg'.size, fun k hk _ => hg'.block k hk (by simp)⟩ (Or.inr hlt.1)
  rcases hown.2 with ⟨hv, hn⟩ | ⟨g, cap, cur, hv, hg, hh, hn, hcm, hcs, htake⟩
  · subst hn
    have hxs : xs = [] := List.length_eq_zero_iff.1 (by have := hown.1; omega)
    refine wpList_append_grows w hgd s x t ho e i z size bytes ht hi hz hsize hby hzs hsz none 0 0 xs (by rw [hs, hv]) (fun _ => ⟨rfl, rfl⟩) hown.1 (fun b hb => by cases hb) ad m c news hx hl hnews h1 (by omega) h63 hbytes fin
  · by_cases hroom : n + m ≤ cap
    · refine wpList_append_fits w hgd s x t ho 0 e i size ht hi hsize g n cap xs (by rw [hs, hv]) (by rw [hv] at hown; exact hown) ad m c news hx hl hnews h1 hroom ?_
      intro w' ho' hg'
      exact h g cap w' ho' (by rw [hv]; exact hg') (Or.inl (by rw [hv]; rfl))
    · refine wpList_append_grows w hgd s x t ho e i z size bytes ht hi hz hsize hby hzs hsz (some ⟨g, 0, none⟩) n cap xs (by rw [hs, hv]) (fun hh => by cases hh) hown.1 ?_ ad m c news hx hl hnews h1 (by omega) h63 hbytes fin
      intro b hb j u hj
      simp only [Option.some.injEq] at hb
      subst hb
      exact hown.cells (by rw [hv]; rfl) j u hj

def ptr (b : Nat) : Value := .pointer (some ⟨b, 0, none⟩)
def numB : List UInt8 := [110, 117, 109, 98, 101, 114]
def nameB : List UInt8 := [110, 97, 109, 101]
/-- the cells of an expression -/
def exCells (op : List UInt8) (p : Nat) (nm : List UInt8) (n : Int) (kids : Value) (id last site : Nat) : Array Value :=
  #[.string (bs op), .int .i64 p, .string (bs nm), .int .i64 n, kids, .int .i64 id, .int .i64 last, .int .i64 site]

mutual
/-- in w lies at block b the tree of a program (its blocks are among F's) -/
def IsT (w : World) (F : Nat → Prop) : PT → Nat → Nat → Nat → Prop
  | .num p s, id, site, b => F b ∧ w.heap[b]? = some (.cells (exCells numB p [] (valueL s) (.slice none 0 0) id id site) 82 (0, 0))
  | .name p s, id, site, b => F b ∧ w.heap[b]? = some (.cells (exCells nameB p s 0 (.slice none 0 0) id id site) 82 (0, 0))
  | .node p k nm rg kids, id, site, b => F b ∧ ∃ kv bl, w.heap[b]? = some (.cells (exCells k.bytes p nm (valueL rg) kv id (id + cntL kids) site) 82 (0, 0)) ∧
      (∀ g, kv.ownBlock = some g → F g) ∧ w.ownsRow 0 52 1 kv kids.length (bl.map ptr) ∧ IsTs w F kids (id + 1) (site + if k = .pair then 1 else 0) bl
def IsTs (w : World) (F : Nat → Prop) : List PT → Nat → Nat → List Nat → Prop
  | [], _, _, [] => True
  | t :: ts, id, site, b :: bl => IsT w F t id site b ∧ IsTs w F ts (id + t.cnt) (site + t.prs) bl
  | [], _, _, _ :: _ => False
  | _ :: _, _, _, [] => False
end

mutual
theorem IsT.keep {w w' : World} {F F' : Nat → Prop} (hF : ∀ k, F k → F' k) (hk : ∀ k, F k → w'.heap[k]? = w.heap[k]?) : ∀ (t : PT) (id site b : Nat), IsT w F t id site b → IsT w' F' t id site b
  | .num p s, id, site, b, h => by
    simp only [IsT] at h ⊢
    exact ⟨hF _ h.1, by rw [hk _ h.1]; exact h.2⟩
  | .name p s, id, site, b, h => by
    simp only [IsT] at h ⊢
    exact ⟨hF _ h.1, by rw [hk _ h.1]; exact h.2⟩
  | .node p k nm rg kids, id, site, b, h => by
    simp only [IsT] at h ⊢
    obtain ⟨hb, kv, bl, h1, h2, h3, h4⟩ := h
    exact ⟨hF _ hb, kv, bl, by rw [hk _ hb]; exact h1, fun g hg => hF _ (h2 g hg), owns_blk h3 (fun g hg => hk _ (h2 g hg)), IsTs.keep hF hk kids _ _ bl h4⟩
theorem IsTs.keep {w w' : World} {F F' : Nat → Prop} (hF : ∀ k, F k → F' k) (hk : ∀ k, F k → w'.heap[k]? = w.heap[k]?) : ∀ (ts : List PT) (id site : Nat) (bl : List Nat), IsTs w F ts id site bl → IsTs w' F' ts id site bl
  | [], _, _, [], _ => by simp [IsTs]
  | t :: ts, id, site, b :: bl, h => by
    simp only [IsTs] at h ⊢
    exact ⟨IsT.keep hF hk t _ _ b h.1, IsTs.keep hF hk ts _ _ bl h.2⟩
  | [], _, _, _ :: _, h => by simp [IsTs] at h
  | _ :: _, _, _, [], h => by simp [IsTs] at h
end

theorem cntL_snoc (ts : List PT) (t : PT) : cntL (ts ++ [t]) = cntL ts + t.cnt := by
  induction ts with
  | nil => simp [cntL]
  | cons a r ih => simp [cntL, ih]; omega
theorem prsL_snoc (ts : List PT) (t : PT) : prsL (ts ++ [t]) = prsL ts + t.prs := by
  induction ts with
  | nil => simp [prsL]
  | cons a r ih => simp [prsL, ih]; omega

theorem IsTs.snoc {w : World} {F : Nat → Prop} : ∀ (ts : List PT) (id site : Nat) (bl : List Nat) (t : PT) (b : Nat), IsTs w F ts id site bl → IsT w F t (id + cntL ts) (site + prsL ts) b → IsTs w F (ts ++ [t]) id site (bl ++ [b])
  | [], id, site, [], t, b, _, h => by simp only [List.nil_append, IsTs, and_true]; simpa [cntL, prsL] using h
  | a :: ts, id, site, c :: bl, t, b, h, h' => by
    simp only [IsTs] at h
    simp only [List.cons_append, IsTs]
    refine ⟨h.1, IsTs.snoc ts _ _ bl t b h.2 ?_⟩
    simp only [cntL, prsL] at h'
    rw [Nat.add_assoc, Nat.add_assoc]; exact h'
  | [], _, _, _ :: _, _, _, h, _ => by simp [IsTs] at h
  | _ :: _, _, _, [], _, _, h, _ => by simp [IsTs] at h

theorem IsTs.len {w : World} {F : Nat → Prop} : ∀ (ts : List PT) (id site : Nat) (bl : List Nat), IsTs w F ts id site bl → bl.length = ts.length
  | [], _, _, [], _ => rfl
  | t :: ts, id, site, b :: bl, h => by simp only [IsTs] at h; simp [IsTs.len ts _ _ bl h.2]
  | [], _, _, _ :: _, h => by simp [IsTs] at h
  | _ :: _, _, _, [], h => by simp [IsTs] at h
end Go.Proofs.YtglkpkmdoohdcaaDoor
