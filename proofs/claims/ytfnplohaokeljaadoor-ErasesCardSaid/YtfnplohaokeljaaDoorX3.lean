import Derived.Test.YtfnplohaokeljaaDoorX2
import Derived.Deep.LoopGhost
import Derived.Deep.DeepCutAuto
import Derived.Lib.ItoaNum
import Derived.Test.YtfnplohaokeljaaDoorX1
import Derived.BigQuiet
import Derived.Deep.QuietTactic
namespace Go.Proofs.YtfnplohaokeljaaDoor
open Go.RowKit

/-- what is known of an expression's tokens: build makes its tree of them -/
def GoodE (ts : List Tk) (l : List Tk) (e : PT) (r : List Tk) : Prop :=
  e.cnt + r.length ≤ l.length ∧ e.prs + r.length + 1 ≤ l.length ∧ (∃ t r', l = t :: r' ∧ (t.c = .num ∨ t.c = .nam ∨ t.c = .opn)) ∧ (∃ n, r = l.drop n ∧ n ≤ l.length) ∧
  ∀ (gt tc cb p ids sites : Nat) (w : World), ts.drop p = l → ids ≤ p → sites ≤ p → BIn ts gt tc cb p ids sites w →
    Calls Tryd.prog 26 #[ptr cb] w (BOut ts gt tc cb p ids sites w e (l.length - r.length))

/-- the loop over what stands in a bracket -/
def LInv (ts : List Tk) (placed : Bool) (gt tc cb ids sites d : Nat) (k : Kw) (p0 : Nat) (nm rg : List UInt8) (kids : List PT) (r : List Tk) (w : World) (xb tb : Nat) (pp : Nat) (n : Nat) (wr : World) : Prop :=
  ∃ (done ws : List Wt) (q : Nat) (nm' rg' nmx rgx : List UInt8) (kids' dk : List PT) (kv : Value) (bl : List Nat) (T0 T1 T2 : Value),
    n = ws.length ∧ pp ≤ q ∧ ws ≠ [] ∧ wantsK k placed = done ++ ws ∧ PWx (GoodE ts) ws (ts.drop q) nm' rg' kids' r ∧ nm = nmx ++ nm' ∧ rg = rgx ++ rg' ∧ kids = dk ++ kids' ∧
    dk.length = cntE done ∧ (Wt.name ∈ done → nmx ≠ []) ∧ (Wt.name ∉ done → nmx = []) ∧ (Wt.region ∉ done → rgx = []) ∧ ids + 1 + cntL dk ≤ q ∧ sites + d + prsL dk ≤ q ∧
    wr.heap[cb]? = some (.cells (cntCells (.slice (some ⟨gt, 0, none⟩) ts.length tc) q (ids + 1 + cntL dk) (sites + d + prsL dk)) 70 (0, 0)) ∧
    wr.heap[xb]? = some (.cells (exCells k.bytes p0 nmx (valueL rgx) kv ids 0 sites) 53 (0, 0)) ∧
    wr.heap[tb]? = some (.cells #[T0, T1, T2] 66 (0, 0)) ∧
    w.grownBy wr (some cb) ∧ wr.ownsRow 0 39 1 kv dk.length (bl.map ptr) ∧ (∀ g, kv.ownBlock = some g → w.heap.size + 2 ≤ g) ∧
    IsTs wr (fun b => w.heap.size + 2 ≤ b ∧ b < wr.heap.size ∧ kv.ownBlock ≠ some b) dk (ids + 1) (sites + d) bl

theorem gr_owns {w wr : World} {cb : Nat} {ts : List Tk} {gt tc : Nat} (h : w.ownsRow 0 66 3 (.slice (some ⟨gt, 0, none⟩) ts.length tc) ts.length (ts.flatMap tkCells)) (hg : w.grownBy wr (some cb)) (hne : gt ≠ cb) :
    wr.ownsRow 0 66 3 (.slice (some ⟨gt, 0, none⟩) ts.length tc) ts.length (ts.flatMap tkCells) := by
  refine owns_blk h (fun k hk => hg.block k (h.lt k hk).2 ?_)
  simp only [Value.ownBlock, Option.some.injEq] at hk
  intro e; cases e; omega

theorem one_new (w : World) (v : Value) (e : TypeId) : ∀ (j : Nat) (u : Value), [v][j]? = some u → (w.alloc (.cells #[v] e)).cell? (Addr.add ⟨w.heap.size, 0, none⟩ j) = some u := by
  intro j u hj
  match j, hj with
  | 0, hj => simp at hj; subst hj; simp [Addr.add]
  | j + 1, hj => simp at hj
theorem one_ptr (b : Nat) : ∀ (u : Value), u ∈ [ptr b] → u.oneCell' = true := by
  intro u hu; simp at hu; subst hu; rfl

theorem drop_at {ts : List Tk} {q : Nat} {t : Tk} {rr : List Tk} (h : ts.drop q = t :: rr) : ts[q]? = some t ∧ q < ts.length ∧ rr = ts.drop (q + 1) := by
  have hq : q < ts.length := by
    rcases Nat.lt_or_ge q ts.length with h1 | h1
    · exact h1
    · rw [List.drop_eq_nil_of_le h1] at h; cases h
  rw [List.drop_eq_getElem_cons hq] at h
  simp only [List.cons.injEq] at h
  exact ⟨by rw [List.getElem?_eq_getElem hq, h.1], hq, h.2.symm⟩

theorem pre_end {w w0 W : World} {cb : Nat} {cc : Obj} (X T : Obj) (hc : w0.heap[cb]? = some cc) (hg : w.grownBy w0 (some cb)) (hs : w0.heap.size = w.heap.size) (hW : W.heap = ((w0.alloc X).alloc T).heap) (h1 : W.os = w0.os) (h2 : W.tape = w0.tape) (h3 : W.output = w0.output) :
    W.heap[cb]? = some cc ∧ W.heap[w.heap.size]? = some X ∧ W.heap[w.heap.size + 1]? = some T ∧ w.grownBy W (some cb) ∧ W.heap.size = w.heap.size + 2 := by
  refine ⟨?_, ?_, ?_, ?_, ?_⟩
  · rw [hW]; exact blk_alloc _ (blk_alloc _ hc)
  · rw [hW, ← hs]; exact blk_alloc _ (blk_new _ _)
  · rw [hW, ← hs]
    have := blk_new (w0.alloc X) T
    simpa using this
  · refine gr_trans hg ⟨h1, h2, h3, by rw [hW]; simp; omega, fun k hk _ => ?_⟩
    rw [hW, Below.heap_alloc _ _ _ (by simp; omega), Below.heap_alloc _ _ _ hk]
  · rw [hW]; simp [hs]

theorem pre0 {w : World} {cb : Nat} {tv : Value} {p ids sites : Nat} (hc : w.heap[cb]? = some (.cells (cntCells tv p ids sites) 70 (0, 0))) :
    (((w.setCell ⟨cb, 2, none⟩ (.int .i64 ((ids : Int) + 1))).setCell ⟨cb, 1, none⟩ (.int .i64 ((p : Int) + 1))).setCell ⟨cb, 1, none⟩ (.int .i64 ((p : Int) + 1 + 1))).heap[cb]? = some (.cells (cntCells tv (p + 2) (ids + 1) sites) 70 (0, 0)) ∧
    w.grownBy (((w.setCell ⟨cb, 2, none⟩ (.int .i64 ((ids : Int) + 1))).setCell ⟨cb, 1, none⟩ (.int .i64 ((p : Int) + 1))).setCell ⟨cb, 1, none⟩ (.int .i64 ((p : Int) + 1 + 1))) (some cb) ∧
    (((w.setCell ⟨cb, 2, none⟩ (.int .i64 ((ids : Int) + 1))).setCell ⟨cb, 1, none⟩ (.int .i64 ((p : Int) + 1))).setCell ⟨cb, 1, none⟩ (.int .i64 ((p : Int) + 1 + 1))).heap.size = w.heap.size := by
  refine ⟨blk_set (blk_set (blk_set hc 2 _) 1 _) 1 _, gr_trans (gr_trans (gr_set w ⟨cb, 2, none⟩ _) (gr_set _ ⟨cb, 1, none⟩ _)) (gr_set _ ⟨cb, 1, none⟩ _), by simp [World.setCell]⟩

theorem pre1 {w : World} {cb : Nat} {tv : Value} {p ids sites : Nat} (hc : w.heap[cb]? = some (.cells (cntCells tv p ids sites) 70 (0, 0))) :
    ((((w.setCell ⟨cb, 2, none⟩ (.int .i64 ((ids : Int) + 1))).setCell ⟨cb, 1, none⟩ (.int .i64 ((p : Int) + 1))).setCell ⟨cb, 1, none⟩ (.int .i64 ((p : Int) + 1 + 1))).setCell ⟨cb, 3, none⟩ (.int .i64 ((sites : Int) + 1))).heap[cb]? = some (.cells (cntCells tv (p + 2) (ids + 1) (sites + 1)) 70 (0, 0)) ∧
    w.grownBy ((((w.setCell ⟨cb, 2, none⟩ (.int .i64 ((ids : Int) + 1))).setCell ⟨cb, 1, none⟩ (.int .i64 ((p : Int) + 1))).setCell ⟨cb, 1, none⟩ (.int .i64 ((p : Int) + 1 + 1))).setCell ⟨cb, 3, none⟩ (.int .i64 ((sites : Int) + 1))) (some cb) ∧
    ((((w.setCell ⟨cb, 2, none⟩ (.int .i64 ((ids : Int) + 1))).setCell ⟨cb, 1, none⟩ (.int .i64 ((p : Int) + 1))).setCell ⟨cb, 1, none⟩ (.int .i64 ((p : Int) + 1 + 1))).setCell ⟨cb, 3, none⟩ (.int .i64 ((sites : Int) + 1))).heap.size = w.heap.size := by
  obtain ⟨h1, h2, h3⟩ := pre0 hc
  exact ⟨blk_set h1 3 _, gr_trans h2 (gr_set _ ⟨cb, 3, none⟩ _), by rw [← h3]; simp [World.setCell]⟩

theorem node_end {ts : List Tk} {placed : Bool} {gt tc cb p ids sites d : Nat} {k : Kw} {p0 q : Nat} {nm rg nmx rgx nm' rg' : List UInt8} {kids dk kids' : List PT} {r rr : List Tk} {w wr W : World} {kv : Value} {bl : List Nat} {done ws ws' : List Wt}
    (hcb : cb < w.heap.size)
    (hcc : wr.heap[cb]? = some (.cells (cntCells (.slice (some ⟨gt, 0, none⟩) ts.length tc) q (ids + 1 + cntL dk) (sites + d + prsL dk)) 70 (0, 0)))
    (hxx : wr.heap[w.heap.size]? = some (.cells (exCells k.bytes p0 nmx (valueL rgx) kv ids 0 sites) 53 (0, 0)))
    (hgr : w.grownBy wr (some cb)) (hkv : wr.ownsRow 0 39 1 kv dk.length (bl.map ptr)) (hkb : ∀ g, kv.ownBlock = some g → w.heap.size + 2 ≤ g)
    (hkt : IsTs wr (fun b => w.heap.size + 2 ≤ b ∧ b < wr.heap.size ∧ kv.ownBlock ≠ some b) dk (ids + 1) (sites + d) bl)
    (hall : nm = nmx ++ nm' ∧ rg = rgx ++ rg' ∧ kids = dk ++ kids' ∧ (Wt.name ∈ done → nmx ≠ []) ∧ (Wt.name ∉ done → nmx = []) ∧ (Wt.region ∉ done → rgx = []) ∧ dk.length = cntE done ∧ wantsK k placed = done ++ ws)
    (hwz : Wt.close :: ws' = ws) (hr : PWx (GoodE ts) ws' rr nm' rg' kids' r) (hrr : rr = ts.drop (q + 1)) (hd : d = if k = .pair then 1 else 0) (hpq : p ≤ q) (hq : q < ts.length)
    (hW : W.heap = ((wr.setCell ⟨cb, 1, none⟩ (.int .i64 ((q : Int) + 1))).setCell ⟨w.heap.size, 6, none⟩ (.int .i64 (((ids + 1 + cntL dk : Nat) : Int) - 1))).heap) (h1 : W.os = wr.os) (h2 : W.tape = wr.tape) (h3 : W.output = wr.output) :
    BOut ts gt tc cb p ids sites w (.node p0 k nm rg kids) ((ts.drop p).length - r.length) (.returned (.pointer (some ⟨w.heap.size, 0, none⟩))) W := by
  obtain ⟨e1, e2, e3, _, _, _, _, e8⟩ := hall
  rw [← hwz] at e8
  have e9 := wants_close e8
  subst e9
  cases hr
  simp only [List.append_nil] at e1 e2 e3
  subst e1 e2 e3 hrr hd
  have hsz : W.heap.size = wr.heap.size := by rw [hW]; simp [World.setCell]
  have hxs := blk_lt hxx
  have hother : ∀ b, b ≠ cb → b ≠ w.heap.size → W.heap[b]? = wr.heap[b]? := by
    intro b hb1 hb2
    rw [hW, blk_other _ _ (by simpa using hb2), blk_other _ _ (by simpa using hb1)]
  refine ⟨w.heap.size, rfl, ?_, ?_, ?_⟩
  · rw [hW, blk_other _ _ (by simp; omega), blk_set hcc 1 _]
    have eu : p + ((ts.drop p).length - (ts.drop (q + 1)).length) = q + 1 := by simp; omega
    rw [eu]
    simp only [PT.cnt, PT.prs]
    rw [show ids + (1 + cntL kids) = ids + 1 + cntL kids from by omega, ← Nat.add_assoc sites]
    rfl
  · refine ⟨h1.trans hgr.os, h2.trans hgr.tape, h3.trans hgr.output, by have := hgr.size; omega, fun b hb hb' => ?_⟩
    rw [hother b (fun e => hb' (by rw [e])) (by omega)]
    exact hgr.block b hb hb'
  · simp only [IsT]
    refine ⟨⟨Nat.le_refl _, by omega⟩, kv, bl, ?_, ?_, ?_, ?_⟩
    · rw [hW, blk_set (by rw [blk_other _ _ (by simp; omega)]; exact hxx) 6 _]
      have : (((ids + 1 + cntL kids : Nat) : Int) - 1) = ((ids + cntL kids : Nat) : Int) := by omega
      rw [this]; rfl
    · intro g hg
      have := hkb g hg
      have := (hkv.lt g hg).2
      exact ⟨by omega, by omega⟩
    · refine owns_blk hkv (fun g hg => ?_)
      have := hkb g hg
      exact hother g (by omega) (by omega)
    · exact IsTs.keep (fun b hb => ⟨by omega, by omega⟩) (fun b hb => hother b (by omega) (by omega)) _ _ _ _ hkt

theorem name_step {ts : List Tk} {placed : Bool} {gt tc cb ids sites d : Nat} {k : Kw} {p0 q pp : Nat} {nm rg nmx rgx nm' rg' : List UInt8} {kids dk kids' : List PT} {r rr : List Tk} {w wr W : World} {kv T0 T1 T2 : Value} {bl : List Nat} {done ws ws' : List Wt} {t : Tk}
    (hcb : cb < w.heap.size) (hxc : cb ≠ w.heap.size) (htc : cb ≠ w.heap.size + 1)
    (hcc : wr.heap[cb]? = some (.cells (cntCells (.slice (some ⟨gt, 0, none⟩) ts.length tc) q (ids + 1 + cntL dk) (sites + d + prsL dk)) 70 (0, 0)))
    (hxx : wr.heap[w.heap.size]? = some (.cells (exCells k.bytes p0 nmx (valueL rgx) kv ids 0 sites) 53 (0, 0)))
    (htt : wr.heap[w.heap.size + 1]? = some (.cells #[T0, T1, T2] 66 (0, 0)))
    (hgr : w.grownBy wr (some cb)) (hkv : wr.ownsRow 0 39 1 kv dk.length (bl.map ptr)) (hkb : ∀ g, kv.ownBlock = some g → w.heap.size + 2 ≤ g)
    (hkt : IsTs wr (fun b => w.heap.size + 2 ≤ b ∧ b < wr.heap.size ∧ kv.ownBlock ≠ some b) dk (ids + 1) (sites + d) bl)
    (hall : nm = nmx ++ t.s ∧ rg = rgx ++ rg' ∧ kids = dk ++ kids' ∧ (Wt.name ∈ done → nmx ≠ []) ∧ (Wt.name ∉ done → nmx = []) ∧ (Wt.region ∉ done → rgx = []) ∧ dk.length = cntE done ∧ wantsK k placed = done ++ ws)
    (hwz : Wt.name :: ws' = ws) (hr : PWx (GoodE ts) ws' rr nm' rg' kids' r) (hrr : rr = ts.drop (q + 1)) (hts0 : t.s ≠ [])
    (hb1 : ids + 1 + cntL dk ≤ q) (hb2 : sites + d + prsL dk ≤ q) (hpq : pp ≤ q)
    (hW : W.heap = (((((wr.setCell ⟨w.heap.size + 1, 0, none⟩ (.string (bs t.s))).setCell ⟨w.heap.size + 1, 1, none⟩ (.int .i64 t.at_)).setCell ⟨w.heap.size + 1, 2, none⟩ (.string (bs t.c.bytes))).setCell ⟨w.heap.size, 2, none⟩ (.string (bs t.s))).setCell ⟨cb, 1, none⟩ (.int .i64 ((q : Int) + 1))).heap)
    (h1 : W.os = wr.os) (h2 : W.tape = wr.tape) (h3 : W.output = wr.output) :
    LInv ts placed gt tc cb ids sites d k p0 nm rg kids r w w.heap.size (w.heap.size + 1) pp ws'.length W := by
  have hxs := blk_lt hxx
  have hts := blk_lt htt
  have hother : ∀ b, b ≠ cb → b ≠ w.heap.size → b ≠ w.heap.size + 1 → W.heap[b]? = wr.heap[b]? := by
    intro b hb1 hb2 hb3
    rw [hW, blk_other _ _ (by simpa using hb1), blk_other _ _ (by simpa using hb2), blk_other _ _ (by simpa using hb3), blk_other _ _ (by simpa using hb3), blk_other _ _ (by simpa using hb3)]
  have hsz : W.heap.size = wr.heap.size := by rw [hW]; simp [World.setCell]
  have hc' : W.heap[cb]? = some (.cells (cntCells (.slice (some ⟨gt, 0, none⟩) ts.length tc) (q + 1) (ids + 1 + cntL dk) (sites + d + prsL dk)) 70 (0, 0)) := by
    rw [hW]
    refine (blk_set (arr := cntCells (.slice (some ⟨gt, 0, none⟩) ts.length tc) q (ids + 1 + cntL dk) (sites + d + prsL dk)) ?_ 1 _).trans rfl
    rw [blk_other _ _ (by simpa using hxc), blk_other _ _ (by simpa using htc), blk_other _ _ (by simpa using htc), blk_other _ _ (by simpa using htc)]; exact hcc
  have ht' : W.heap[w.heap.size + 1]? = some (.cells #[.string (bs t.s), .int .i64 t.at_, .string (bs t.c.bytes)] 66 (0, 0)) := by
    rw [hW, blk_other _ _ (by simp; omega), blk_other _ _ (by simp)]
    exact blk_set (blk_set (blk_set htt 0 _) 1 _) 2 _
  have hg' : w.grownBy W (some cb) := by
    refine ⟨h1.trans hgr.os, h2.trans hgr.tape, h3.trans hgr.output, by have := hgr.size; omega, fun b hb hb' => ?_⟩
    rw [hother b (fun e => hb' (by rw [e])) (by omega) (by omega)]
    exact hgr.block b hb hb'
  have hkv' : W.ownsRow 0 39 1 kv dk.length (bl.map ptr) := owns_blk hkv (fun g hg => by have := hkb g hg; exact hother g (by omega) (by omega) (by omega))
  have hkt' : IsTs W (fun b => w.heap.size + 2 ≤ b ∧ b < W.heap.size ∧ kv.ownBlock ≠ some b) dk (ids + 1) (sites + d) bl :=
    IsTs.keep (fun b hb => ⟨hb.1, by omega, hb.2.2⟩) (fun b hb => hother b (by omega) (by omega) (by omega)) _ _ _ _ hkt
  obtain ⟨e1, e2, e3, e4, e5, e6, e7, e8⟩ := hall
  rw [← hwz] at e8
  have wn := wants_name e8
  have en := hr.noname wn.2.2
  subst en
  have ex := e5 wn.2.1
  subst ex
  have hx' : W.heap[w.heap.size]? = some (.cells (exCells k.bytes p0 t.s (valueL rgx) kv ids 0 sites) 53 (0, 0)) := by
    rw [hW, blk_other _ _ (by simp; omega)]
    refine (blk_set (arr := exCells k.bytes p0 [] (valueL rgx) kv ids 0 sites) ?_ 2 _).trans rfl
    rw [blk_other _ _ (by simp), blk_other _ _ (by simp), blk_other _ _ (by simp)]; exact hxx
  subst hrr
  refine ⟨done ++ [.name], ws', q + 1, [], rg', t.s, rgx, kids', dk, kv, bl, _, _, _, rfl, by omega, wants_more e8 (by decide), by rw [e8]; simp, hr, by rw [e1]; simp, e2, e3, by rw [e7]; simp [cntE], fun _ => hts0, fun h => absurd (by simp) h, fun h => e6 (fun h' => h (by simp [h'])), by omega, by omega, hc', hx', ht', hg', hkv', hkb, hkt'⟩

theorem region_step {ts : List Tk} {placed : Bool} {gt tc cb ids sites d : Nat} {k : Kw} {p0 q pp : Nat} {nm rg nmx rgx nm' rg' : List UInt8} {kids dk kids' : List PT} {r rr : List Tk} {w wr W : World} {kv T0 T1 T2 : Value} {bl : List Nat} {done ws ws' : List Wt} {t : Tk}
    (hcb : cb < w.heap.size) (hxc : cb ≠ w.heap.size) (htc : cb ≠ w.heap.size + 1)
    (hcc : wr.heap[cb]? = some (.cells (cntCells (.slice (some ⟨gt, 0, none⟩) ts.length tc) q (ids + 1 + cntL dk) (sites + d + prsL dk)) 70 (0, 0)))
    (hxx : wr.heap[w.heap.size]? = some (.cells (exCells k.bytes p0 nmx (valueL rgx) kv ids 0 sites) 53 (0, 0)))
    (htt : wr.heap[w.heap.size + 1]? = some (.cells #[T0, T1, T2] 66 (0, 0)))
    (hgr : w.grownBy wr (some cb)) (hkv : wr.ownsRow 0 39 1 kv dk.length (bl.map ptr)) (hkb : ∀ g, kv.ownBlock = some g → w.heap.size + 2 ≤ g)
    (hkt : IsTs wr (fun b => w.heap.size + 2 ≤ b ∧ b < wr.heap.size ∧ kv.ownBlock ≠ some b) dk (ids + 1) (sites + d) bl)
    (hall : nm = nmx ++ nm' ∧ rg = rgx ++ t.s ∧ kids = dk ++ kids' ∧ (Wt.name ∈ done → nmx ≠ []) ∧ (Wt.name ∉ done → nmx = []) ∧ (Wt.region ∉ done → rgx = []) ∧ dk.length = cntE done ∧ wantsK k placed = done ++ ws)
    (hwz : Wt.region :: ws' = ws) (hr : PWx (GoodE ts) ws' rr nm' rg' kids' r) (hrr : rr = ts.drop (q + 1))
    (hb1 : ids + 1 + cntL dk ≤ q) (hb2 : sites + d + prsL dk ≤ q) (hpq : pp ≤ q)
    (hW : W.heap = (((((wr.setCell ⟨w.heap.size + 1, 0, none⟩ (.string (bs t.s))).setCell ⟨w.heap.size + 1, 1, none⟩ (.int .i64 t.at_)).setCell ⟨w.heap.size + 1, 2, none⟩ (.string (bs t.c.bytes))).setCell ⟨w.heap.size, 3, none⟩ (.int .i64 (valueL t.s))).setCell ⟨cb, 1, none⟩ (.int .i64 ((q : Int) + 1))).heap)
    (h1 : W.os = wr.os) (h2 : W.tape = wr.tape) (h3 : W.output = wr.output) :
    LInv ts placed gt tc cb ids sites d k p0 nm rg kids r w w.heap.size (w.heap.size + 1) pp ws'.length W := by
  have hxs := blk_lt hxx
  have hts := blk_lt htt
  have hother : ∀ b, b ≠ cb → b ≠ w.heap.size → b ≠ w.heap.size + 1 → W.heap[b]? = wr.heap[b]? := by
    intro b hb1 hb2 hb3
    rw [hW, blk_other _ _ (by simpa using hb1), blk_other _ _ (by simpa using hb2), blk_other _ _ (by simpa using hb3), blk_other _ _ (by simpa using hb3), blk_other _ _ (by simpa using hb3)]
  have hsz : W.heap.size = wr.heap.size := by rw [hW]; simp [World.setCell]
  have hc' : W.heap[cb]? = some (.cells (cntCells (.slice (some ⟨gt, 0, none⟩) ts.length tc) (q + 1) (ids + 1 + cntL dk) (sites + d + prsL dk)) 70 (0, 0)) := by
    rw [hW]
    refine (blk_set (arr := cntCells (.slice (some ⟨gt, 0, none⟩) ts.length tc) q (ids + 1 + cntL dk) (sites + d + prsL dk)) ?_ 1 _).trans rfl
    rw [blk_other _ _ (by simpa using hxc), blk_other _ _ (by simpa using htc), blk_other _ _ (by simpa using htc), blk_other _ _ (by simpa using htc)]; exact hcc
  have ht' : W.heap[w.heap.size + 1]? = some (.cells #[.string (bs t.s), .int .i64 t.at_, .string (bs t.c.bytes)] 66 (0, 0)) := by
    rw [hW, blk_other _ _ (by simp; omega), blk_other _ _ (by simp)]
    exact blk_set (blk_set (blk_set htt 0 _) 1 _) 2 _
  have hg' : w.grownBy W (some cb) := by
    refine ⟨h1.trans hgr.os, h2.trans hgr.tape, h3.trans hgr.output, by have := hgr.size; omega, fun b hb hb' => ?_⟩
    rw [hother b (fun e => hb' (by rw [e])) (by omega) (by omega)]
    exact hgr.block b hb hb'
  have hkv' : W.ownsRow 0 39 1 kv dk.length (bl.map ptr) := owns_blk hkv (fun g hg => by have := hkb g hg; exact hother g (by omega) (by omega) (by omega))
  have hkt' : IsTs W (fun b => w.heap.size + 2 ≤ b ∧ b < W.heap.size ∧ kv.ownBlock ≠ some b) dk (ids + 1) (sites + d) bl :=
    IsTs.keep (fun b hb => ⟨hb.1, by omega, hb.2.2⟩) (fun b hb => hother b (by omega) (by omega) (by omega)) _ _ _ _ hkt
  obtain ⟨e1, e2, e3, e4, e5, e6, e7, e8⟩ := hall
  rw [← hwz] at e8
  have wn := wants_region e8
  have en := hr.noregion wn.2
  subst en
  have ex := e6 wn.1
  subst ex
  have hx' : W.heap[w.heap.size]? = some (.cells (exCells k.bytes p0 nmx (valueL t.s) kv ids 0 sites) 53 (0, 0)) := by
    rw [hW, blk_other _ _ (by simp; omega)]
    refine (blk_set (arr := exCells k.bytes p0 nmx (valueL []) kv ids 0 sites) ?_ 3 _).trans rfl
    rw [blk_other _ _ (by simp), blk_other _ _ (by simp), blk_other _ _ (by simp)]; exact hxx
  subst hrr
  refine ⟨done ++ [.region], ws', q + 1, nm', [], nmx, t.s, kids', dk, kv, bl, _, _, _, rfl, by omega, wants_more e8 (by decide), by rw [e8]; simp, hr, e1, by rw [e2]; simp, e3, by rw [e7]; simp [cntE], fun h => e4 (by simpa using h), fun h => e5 (fun h' => h (by simp [h'])), fun h => absurd (by simp) h, by omega, by omega, hc', hx', ht', hg', hkv', hkb, hkt'⟩


structure EMid (ts : List Tk) (gt tc cb ids sites d : Nat) (k : Kw) (p0 q : Nat) (nmx rgx : List UInt8) (dk : List PT) (kv : Value) (bl : List Nat) (t : Tk) (w wr W1 : World) : Prop where
  inn : BIn ts gt tc cb q (ids + 1 + cntL dk) (sites + d + prsL dk) W1
  x : W1.heap[w.heap.size]? = some (.cells (exCells k.bytes p0 nmx (valueL rgx) kv ids 0 sites) 53 (0, 0))
  tt : W1.heap[w.heap.size + 1]? = some (.cells #[.string (bs t.s), .int .i64 t.at_, .string (bs t.c.bytes)] 66 (0, 0))
  gr : w.grownBy W1 (some cb)
  ow : W1.ownsRow 0 39 1 kv dk.length (bl.map ptr)
  kt : IsTs W1 (fun b => w.heap.size + 2 ≤ b ∧ b < W1.heap.size ∧ kv.ownBlock ≠ some b) dk (ids + 1) (sites + d) bl

theorem e_in {ts : List Tk} {gt tc cb ids sites d : Nat} {k : Kw} {p0 q : Nat} {nmx rgx : List UInt8} {dk : List PT} {w wr W1 : World} {kv T0 T1 T2 : Value} {bl : List Nat} {t : Tk}
    (htc : cb ≠ w.heap.size + 1)
    (hcc : wr.heap[cb]? = some (.cells (cntCells (.slice (some ⟨gt, 0, none⟩) ts.length tc) q (ids + 1 + cntL dk) (sites + d + prsL dk)) 70 (0, 0)))
    (hxx : wr.heap[w.heap.size]? = some (.cells (exCells k.bytes p0 nmx (valueL rgx) kv ids 0 sites) 53 (0, 0)))
    (htt : wr.heap[w.heap.size + 1]? = some (.cells #[T0, T1, T2] 66 (0, 0)))
    (hgr : w.grownBy wr (some cb)) (hkv : wr.ownsRow 0 39 1 kv dk.length (bl.map ptr)) (hkb : ∀ g, kv.ownBlock = some g → w.heap.size + 2 ≤ g)
    (hkt : IsTs wr (fun b => w.heap.size + 2 ≤ b ∧ b < wr.heap.size ∧ kv.ownBlock ≠ some b) dk (ids + 1) (sites + d) bl)
    (htk : wr.ownsRow 0 66 3 (.slice (some ⟨gt, 0, none⟩) ts.length tc) ts.length (ts.flatMap tkCells)) (hne : gt ≠ cb) (hgtt : gt ≠ w.heap.size + 1)
    (hW1 : W1.heap = (((wr.setCell ⟨w.heap.size + 1, 0, none⟩ (.string (bs t.s))).setCell ⟨w.heap.size + 1, 1, none⟩ (.int .i64 t.at_)).setCell ⟨w.heap.size + 1, 2, none⟩ (.string (bs t.c.bytes))).heap)
    (h1 : W1.os = wr.os) (h2 : W1.tape = wr.tape) (h3 : W1.output = wr.output) : EMid ts gt tc cb ids sites d k p0 q nmx rgx dk kv bl t w wr W1 := by
  have hxs := blk_lt hxx
  have hother : ∀ b, b ≠ w.heap.size + 1 → W1.heap[b]? = wr.heap[b]? := by
    intro b hb3
    rw [hW1, blk_other _ _ (by simpa using hb3), blk_other _ _ (by simpa using hb3), blk_other _ _ (by simpa using hb3)]
  have hsz : W1.heap.size = wr.heap.size := by rw [hW1]; simp [World.setCell]
  refine ⟨⟨hne, by rw [hother cb htc]; exact hcc, owns_blk htk (fun b hb => ?_)⟩, by rw [hother _ (by omega)]; exact hxx, ?_, ?_, ?_, ?_⟩
  · simp only [Value.ownBlock, Option.some.injEq] at hb
    subst hb
    exact hother _ hgtt
  · rw [hW1]; exact blk_set (blk_set (blk_set htt 0 _) 1 _) 2 _
  · refine ⟨h1.trans hgr.os, h2.trans hgr.tape, h3.trans hgr.output, by have := hgr.size; omega, fun b hb hb' => ?_⟩
    rw [hother b (by omega)]
    exact hgr.block b hb hb'
  · exact owns_blk hkv (fun g hg => by have := hkb g hg; exact hother g (by omega))
  · exact IsTs.keep (fun b hb => ⟨hb.1, by omega, hb.2.2⟩) (fun b hb => hother b (by omega)) _ _ _ _ hkt

theorem e_out {ts : List Tk} {placed : Bool} {gt tc cb ids sites d : Nat} {k : Kw} {p0 q pp : Nat} {nm rg nmx rgx nm' rg' : List UInt8} {kids dk kids' : List PT} {r rr : List Tk} {w wr W1 w2 w3 W : World} {kv T0 : Value} {bl : List Nat} {done ws ws' : List Wt} {t : Tk} {e' : PT} {b' g cap used : Nat}
    (hcb : cb < w.heap.size) (hm : EMid ts gt tc cb ids sites d k p0 q nmx rgx dk kv bl t w wr W1) (hkb : ∀ g, kv.ownBlock = some g → w.heap.size + 2 ≤ g)
    (hall : nm = nmx ++ nm' ∧ rg = rgx ++ rg' ∧ kids = dk ++ (e' :: kids') ∧ (Wt.name ∈ done → nmx ≠ []) ∧ (Wt.name ∉ done → nmx = []) ∧ (Wt.region ∉ done → rgx = []) ∧ dk.length = cntE done ∧ wantsK k placed = done ++ ws)
    (hwz : Wt.e :: ws' = ws) (hr : PWx (GoodE ts) ws' rr nm' rg' kids' r) (hrr : rr = ts.drop (q + used)) (hb1 : ids + 1 + cntL dk + e'.cnt ≤ q + used) (hb2 : sites + d + prsL dk + e'.prs ≤ q + used) (hpq : pp ≤ q)
    (hc2 : w2.heap[cb]? = some (.cells (cntCells (.slice (some ⟨gt, 0, none⟩) ts.length tc) (q + used) (ids + 1 + cntL dk + e'.cnt) (sites + d + prsL dk + e'.prs)) 70 (0, 0)))
    (hg2 : W1.grownBy w2 (some cb)) (hT2 : IsT w2 (fun k => W1.heap.size ≤ k ∧ k < w2.heap.size) e' (ids + 1 + cntL dk) (sites + d + prsL dk) b')
    (hg3 : (w2.alloc (.cells #[T0] 39)).grownBy w3 kv.ownBlock) (ho3 : w3.ownsRow 0 39 1 (.slice (some ⟨g, 0, none⟩) (dk.length + 1) cap) (dk.length + 1) (bl.map ptr ++ [ptr b']))
    (hgg : kv.ownBlock = some g ∨ (w2.alloc (.cells #[T0] 39)).heap.size ≤ g)
    (hW : W.heap = (w3.setCell ⟨w.heap.size, 4, none⟩ (.slice (some ⟨g, 0, none⟩) (dk.length + 1) cap)).heap) (h1 : W.os = w3.os) (h2 : W.tape = w3.tape) (h3 : W.output = w3.output) :
    LInv ts placed gt tc cb ids sites d k p0 nm rg kids r w w.heap.size (w.heap.size + 1) pp ws'.length W := by
  obtain ⟨e1, e2, e3, e4, e5, e6, e7, e8⟩ := hall
  rw [← hwz] at e8
  have hxs := blk_lt hm.x
  have hts := blk_lt hm.tt
  have s12 := hg2.size
  have s23 := hg3.size
  have ea : (w2.alloc (.cells #[T0] 39)).heap.size = w2.heap.size + 1 := by simp
  rw [ea] at hgg s23
  have hsW : W.heap.size = w3.heap.size := by rw [hW]; simp [World.setCell]
  have hkvlt : ∀ g, kv.ownBlock = some g → g < W1.heap.size := fun g hg => (hm.ow.lt g hg).2
  -- a block that is not x's nor the row's holds in W what it held in w2
  have o2 : ∀ b, b < w2.heap.size → b ≠ w.heap.size → kv.ownBlock ≠ some b → W.heap[b]? = w2.heap[b]? := by
    intro b hb hbx hbk
    rw [hW, blk_other _ _ (by simpa using hbx), hg3.block b (by rw [ea]; omega) (fun e => hbk e.symm), Below.heap_alloc _ _ _ hb]
  have o1 : ∀ b, b < W1.heap.size → b ≠ cb → b ≠ w.heap.size → kv.ownBlock ≠ some b → W.heap[b]? = W1.heap[b]? := by
    intro b hb hbc hbx hbk
    rw [o2 b (by omega) hbx hbk, hg2.block b hb (by intro e; cases e; exact hbc rfl)]
  have nk : ∀ b, b < w.heap.size + 2 → kv.ownBlock ≠ some b := fun b hb e => by have := hkb b e; omega
  have hcW : W.heap[cb]? = some (.cells (cntCells (.slice (some ⟨gt, 0, none⟩) ts.length tc) (q + used) (ids + 1 + cntL (dk ++ [e'])) (sites + d + prsL (dk ++ [e']))) 70 (0, 0)) := by
    rw [o2 cb (blk_lt hc2) (by omega) (nk cb (by omega)), hc2, cntL_snoc, prsL_snoc, Nat.add_assoc (ids + 1), Nat.add_assoc (sites + d)]
  have hxW : W.heap[w.heap.size]? = some (.cells (exCells k.bytes p0 nmx (valueL rgx) (.slice (some ⟨g, 0, none⟩) (dk.length + 1) cap) ids 0 sites) 53 (0, 0)) := by
    rw [hW]
    refine (blk_set (arr := exCells k.bytes p0 nmx (valueL rgx) kv ids 0 sites) ?_ 4 _).trans rfl
    rw [hg3.block _ (by rw [ea]; omega) (fun e => nk _ (by omega) e.symm), Below.heap_alloc _ _ _ (by omega), hg2.block _ hxs (by intro e; cases e; omega)]
    exact hm.x
  have htW : W.heap[w.heap.size + 1]? = some (.cells #[.string (bs t.s), .int .i64 t.at_, .string (bs t.c.bytes)] 66 (0, 0)) := by
    rw [o1 _ hts (by omega) (by omega) (nk _ (by omega))]; exact hm.tt
  have hgW : w.grownBy W (some cb) := by
    refine ⟨h1.trans (hg3.os.trans (hg2.os.trans hm.gr.os)), h2.trans (hg3.tape.trans (hg2.tape.trans hm.gr.tape)), h3.trans (hg3.output.trans (hg2.output.trans hm.gr.output)), by have := hm.gr.size; omega, fun b hb hb' => ?_⟩
    rw [o1 b (by omega) (fun e => hb' (by rw [e])) (by omega) (nk b (by omega))]
    exact hm.gr.block b hb hb'
  have hge : ∀ g', (Value.slice (some ⟨g, 0, none⟩) (dk.length + 1) cap).ownBlock = some g' → g' = g := by
    intro g' h; simp only [Value.ownBlock, Option.some.injEq] at h; exact h.symm
  have hgx : w.heap.size + 2 ≤ g := by
    rcases hgg with h | h
    · exact hkb g h
    · omega
  have hoW : W.ownsRow 0 39 1 (.slice (some ⟨g, 0, none⟩) (dk.length + 1) cap) (dk ++ [e']).length ((bl ++ [b']).map ptr) := by
    have e1' : (dk ++ [e']).length = dk.length + 1 := by simp
    have e2' : (bl ++ [b']).map ptr = bl.map ptr ++ [ptr b'] := by simp
    rw [e1', e2']
    refine owns_blk ho3 (fun g' hg' => ?_)
    rw [hge g' hg', hW, blk_other _ _ (by simp; omega)]
  have hgne : ∀ b, (b < W1.heap.size ∧ kv.ownBlock ≠ some b) ∨ (W1.heap.size ≤ b ∧ b < w2.heap.size) → b ≠ g := by
    intro b hb e
    subst e
    rcases hgg with h | h
    · rcases hb with ⟨_, hb⟩ | ⟨hb, _⟩
      · exact hb h
      · have := hkvlt _ h; omega
    · omega
  refine ⟨done ++ [.e], ws', q + used, nm', rg', nmx, rgx, kids', dk ++ [e'], _, bl ++ [b'], _, _, _, rfl, by omega, wants_more e8 (by decide), by rw [e8]; simp, by rw [← hrr]; exact hr, e1, e2, by rw [e3]; simp, by simp [e7, cntE],
    fun h => e4 (by simpa using h), fun h => e5 (fun h' => h (by simp [h'])), fun h => e6 (fun h' => h (by simp [h'])), by rw [cntL_snoc]; omega, by rw [prsL_snoc]; omega, hcW, hxW, htW, hgW, hoW, fun g' hg' => by rw [hge g' hg']; exact hgx, ?_⟩
  refine IsTs.snoc _ _ _ _ _ _ ?_ ?_
  · refine IsTs.keep (fun b hb => ⟨hb.1, by omega, ?_⟩) (fun b hb => o1 b hb.2.1 (by omega) (by omega) hb.2.2) _ _ _ _ hm.kt
    intro e
    exact hgne b (Or.inl ⟨hb.2.1, hb.2.2⟩) (hge b e)
  · have : ∀ b, W1.heap.size ≤ b ∧ b < w2.heap.size → kv.ownBlock ≠ some b := fun b hb e => by have := hkvlt b e; omega
    refine IsT.keep (fun b hb => ⟨by omega, by omega, ?_⟩) (fun b hb => o2 b hb.2 (by omega) (this b hb)) _ _ _ _ hT2
    intro e
    exact hgne b (Or.inr hb) (hge b e)

end Go.Proofs.YtfnplohaokeljaaDoor

/- Plain mathematics: types, and their texts. -/
namespace Go.Proofs.YtfnplohaokeljaaDoor
open Go.Lib (decDigits)

inductive Ty where
  | n
  | p (r : Nat) (a b : Ty)
  deriving DecidableEq

def Ty.txt : Ty → List UInt8
  | .n => [110]
  | .p r a b => 60 :: (decDigits r ++ 58 :: (a.txt ++ (b.txt ++ [62])))
def Ty.size : Ty → Nat
  | .n => 0
  | .p _ a b => a.size + b.size + 1
/-- without regions -/
def Ty.bare : Ty → Ty
  | .n => .n
  | .p _ a b => .p 0 a.bare b.bare
def Ty.plain : Ty → List UInt8
  | .n => [110]
  | .p _ a b => 60 :: (a.plain ++ (b.plain ++ [62]))

def digitB (c : UInt8) : Bool := decide (48 ≤ c.toNat) && decide (c.toNat ≤ 57)
theorem dec_digit (u : Nat) : ∀ c ∈ decDigits u, digitB c = true := by
  induction u using Nat.strongRecOn with
  | _ u ih =>
    rw [decDigits]
    have key : ∀ k, k < 10 → digitB (UInt8.ofNat (48 + k)) = true := by
      intro k hk
      unfold digitB
      have : (UInt8.ofNat (48 + k)).toNat = 48 + k := by simp; omega
      rw [this]; simp; omega
    split
    · intro c hc; rw [List.mem_singleton] at hc; subst hc; exact key u (by omega)
    · intro c hc
      rw [List.mem_append] at hc
      rcases hc with hc | hc
      · exact ih (u / 10) (by omega) c hc
      · rw [List.mem_singleton] at hc; subst hc; exact key _ (by omega)

theorem digit_ne {c : UInt8} (h : digitB c = true) : c ≠ 58 ∧ c ≠ 60 ∧ c ≠ 62 ∧ c ≠ 110 := by
  unfold digitB at h
  simp only [Bool.and_eq_true, decide_eq_true_eq] at h
  refine ⟨?_, ?_, ?_, ?_⟩ <;> (intro e; subst e; revert h; decide)

/-- how many letters the type has that begins here, when so many are open -/
def endL : Int → List UInt8 → Nat
  | _, [] => 0
  | o, c :: r =>
    let o' := if c = 60 then o + 1 else if c = 62 then o - 1 else o
    if o' = 0 ∧ (c = 110 ∨ c = 62) then 1 else 1 + endL o' r

theorem endL_lt (o : Int) (r : List UInt8) : endL o (60 :: r) = 1 + endL (o + 1) r := by simp [endL]
theorem endL_gt0 (r : List UInt8) : endL 1 (62 :: r) = 1 := by simp [endL]
theorem endL_gt (o : Int) (r : List UInt8) (h : o ≠ 1) : endL o (62 :: r) = 1 + endL (o - 1) r := by
  have h' : ¬ (o - 1 = 0) := by omega
  simp [endL, h']
theorem endL_n0 (r : List UInt8) : endL 0 (110 :: r) = 1 := by simp [endL]
theorem endL_n (o : Int) (r : List UInt8) (h : o ≠ 0) : endL o (110 :: r) = 1 + endL o r := by
  simp [endL, h]
theorem endL_skip (o : Int) (c : UInt8) (r : List UInt8) (h1 : c ≠ 60) (h2 : c ≠ 62) (h3 : c ≠ 110) : endL o (c :: r) = 1 + endL o r := by
  simp [endL, h1, h2, h3]

theorem endL_digits (o : Int) (l r : List UInt8) (h : ∀ c ∈ l, digitB c = true) : endL o (l ++ r) = l.length + endL o r := by
  induction l with
  | nil => simp
  | cons c l ih =>
    have hc := digit_ne (h c List.mem_cons_self)
    rw [List.cons_append, endL_skip o c _ hc.2.1 hc.2.2.1 hc.2.2.2, ih (fun c hc => h c (List.mem_cons_of_mem _ hc))]
    simp; omega

theorem endL_open (t : Ty) : ∀ (o : Int) (r : List UInt8), 0 < o → endL o (t.txt ++ r) = t.txt.length + endL o r := by
  induction t with
  | n => intro o r ho; simp only [Ty.txt, List.cons_append, List.nil_append]; rw [endL_n _ _ (by omega)]; simp
  | p q a b iha ihb =>
    intro o r ho
    simp only [Ty.txt, List.cons_append, List.append_assoc]
    rw [endL_lt, endL_digits _ _ _ (dec_digit q), endL_skip _ 58 _ (by decide) (by decide) (by decide), iha _ _ (by omega), ihb _ _ (by omega), List.nil_append, endL_gt _ _ (by omega)]
    rw [show o + 1 - 1 = o from by omega]
    simp; omega

theorem endL_txt (t : Ty) (r : List UInt8) : endL 0 (t.txt ++ r) = t.txt.length := by
  cases t with
  | n => simp [Ty.txt, endL]
  | p q a b =>
    simp only [Ty.txt, List.cons_append, List.append_assoc]
    rw [endL_lt, endL_digits _ _ _ (dec_digit q), endL_skip _ 58 _ (by decide) (by decide) (by decide), endL_open a _ _ (by omega), endL_open b _ _ (by omega), List.nil_append, Int.zero_add, endL_gt0]
    simp; omega

theorem size_digits (l : List UInt8) (h : ∀ c ∈ l, digitB c = true) : sizeL l = 0 := by
  induction l with
  | nil => rfl
  | cons c l ih =>
    have hc := digit_ne (h c List.mem_cons_self)
    have := ih (fun c hc => h c (List.mem_cons_of_mem _ hc))
    unfold sizeL at this ⊢
    rw [List.filter_cons, if_neg (by simpa using hc.2.1)]; exact this
theorem sizeL_append (a b : List UInt8) : sizeL (a ++ b) = sizeL a + sizeL b := by simp [sizeL]
theorem sizeL_cons (c : UInt8) (l : List UInt8) : sizeL (c :: l) = (if c = 60 then 1 else 0) + sizeL l := by
  unfold sizeL; rw [List.filter_cons]; by_cases h : c = 60 <;> simp [h]; omega
theorem size_txt (t : Ty) : sizeL t.txt = t.size := by
  induction t with
  | n => rfl
  | p q a b iha ihb =>
    simp only [Ty.txt, Ty.size, sizeL_cons, sizeL_append, iha, ihb, size_digits _ (dec_digit q)]
    have : sizeL [] = 0 := rfl
    rw [this]; simp; omega

theorem txt_ne (t : Ty) : t.txt ≠ [] := by cases t <;> simp [Ty.txt]
theorem txt_n (t : Ty) : (t.txt = [110]) ↔ t = .n := by cases t <;> simp [Ty.txt]

/-- plain texts tell types without regions apart -/
theorem plain_inj_aux (t : Ty) : ∀ (u : Ty) (r r' : List UInt8), t.plain ++ r = u.plain ++ r' → t.bare = u.bare ∧ r = r' := by
  induction t with
  | n => intro u r r' h; cases u with
    | n => simp [Ty.plain] at h; exact ⟨rfl, h⟩
    | p q a b => simp [Ty.plain] at h
  | p q a b iha ihb => intro u r r' h; cases u with
    | n => simp [Ty.plain] at h
    | p q' a' b' =>
      simp only [Ty.plain, List.cons_append, List.cons.injEq, List.append_assoc, true_and] at h
      obtain ⟨h1, h2⟩ := iha _ _ _ h
      obtain ⟨h3, h4⟩ := ihb _ _ _ h2
      simp only [List.nil_append, List.cons.injEq, true_and] at h4
      exact ⟨by simp [Ty.bare, h1, h3], h4⟩
theorem plain_inj (t u : Ty) : (t.plain = u.plain) ↔ t.bare = u.bare := by
  constructor
  · intro h; exact (plain_inj_aux t u [] [] (by rw [h])).1
  · intro h
    have : ∀ t : Ty, t.plain = t.bare.plain := by
      intro t; induction t with
      | n => rfl
      | p q a b iha ihb => simp [Ty.plain, Ty.bare, ← iha, ← ihb]
    rw [this t, this u, h]
end Go.Proofs.YtfnplohaokeljaaDoor

namespace Go.Proofs.YtfnplohaokeljaaDoor
open Go.RowKit
open Go.Lib (decDigits)

theorem endL_at (s : ByteArray) (k : Nat) (h : k < s.size) (o : Int) : endL o (s.data.toList.drop k) =
    if (if s[k] = 60 then o + 1 else if s[k] = 62 then o - 1 else o) = 0 ∧ (s[k] = 110 ∨ s[k] = 62) then 1 else 1 + endL (if s[k] = 60 then o + 1 else if s[k] = 62 then o - 1 else o) (s.data.toList.drop (k + 1)) := by
  rw [drop_cons s k h]; rfl

theorem bs_beq0 (l m : List UInt8) : ((bs l).toList == m) = (l == m) := by rw [Lib.toList_data]; rfl
theorem beq_of (a b : UInt8) : ((a.toNat : Int) == (b.toNat : Int)) = decide (a = b) := by rw [byte_eq]; rfl

set_option maxHeartbeats 800000 in
theorem end_any (s : ByteArray) (a : Nat) (w : World) (hs : s.size ≤ 100000) (ha : a ≤ s.size) :
    Calls Tryd.prog 89 #[.string s, .int .i64 a] w fun e w' => e = .returned (.int .i64 (a + endL 0 (s.data.toList.drop a) : Nat)) ∧ w' = w := by
  go_enter Tryd.func89, Tryd.ntmps89
  go_wp2
  go_loop [5, 6] (fun o i => ∃ (k : Nat) (q : Int), a ≤ k ∧ k ≤ s.size ∧ i = .int .i64 k ∧ o = .int .i64 q ∧ -(k : Int) ≤ q ∧ q ≤ k ∧ a + endL 0 (s.data.toList.drop a) = k + endL q (s.data.toList.drop k)) (fun _ i => s.size - (intOf i).toNat)
  case atStart => exact ⟨a, 0, by omega, ha, rfl, rfl, by omega, by omega, rfl⟩
  case round =>
    obtain ⟨k, q, hk0, hk, rfl, rfl, hq1, hq2, hall⟩ := hrel
    have HA : Hid _ := hall
    clear hall
    by_cases hlt : k < s.size
    · have hst := endL_at s k hlt q
      have HS : Hid _ := hst
      have b60 : ((s[k].toNat : Int) == 60) = decide (s[k] = 60) := beq_of s[k] 60
      have b62 : ((s[k].toNat : Int) == 62) = decide (s[k] = 62) := beq_of s[k] 62
      have b110 : ((s[k].toNat : Int) == 110) = decide (s[k] = 110) := beq_of s[k] 110
      clear hst
      by_cases h1 : s[k] = 60
      · have e62 : ¬ s[k] = 62 := by rw [h1]; decide
        have e110 : ¬ s[k] = 110 := by rw [h1]; decide
        rw [decide_eq_true h1] at b60
        rw [decide_eq_false e62] at b62
        rw [decide_eq_false e110] at b110
        have HS2 : Hid (endL q (s.data.toList.drop k) = 1 + endL (q + 1) (s.data.toList.drop (k + 1))) := by
          have := HS.out; rw [if_pos h1, if_neg (by rintro ⟨_, e | e⟩; exact e110 e; exact e62 e)] at this; exact this
        clear h1 e62 e110 HS
        go_wp2
        all_goals
          go_round
          case rel => exact ⟨k + 1, q + 1, by omega, by omega, by go_num, by go_num, by omega, by omega, by rw [HA.out, HS2.out]; omega⟩
          case measure => simp [intOf]; omega
      · rw [decide_eq_false h1] at b60
        by_cases h2 : s[k] = 62
        · have e110 : ¬ s[k] = 110 := by rw [h2]; decide
          rw [decide_eq_true h2] at b62
          rw [decide_eq_false e110] at b110
          by_cases hq : q = 1
          · subst hq
            have HS2 : Hid (endL 1 (s.data.toList.drop k) = 1) := by
              have := HS.out; rw [if_neg h1, if_pos h2, if_pos ⟨by omega, Or.inr h2⟩] at this; exact this
            clear h1 h2 e110 HS
            go_wp2
            go_ret
            exact ⟨ret_int (by have h := HA.out; rw [HS2.out] at h; omega), rfl⟩
          · have HS2 : Hid (endL q (s.data.toList.drop k) = 1 + endL (q - 1) (s.data.toList.drop (k + 1))) := by
              have := HS.out; rw [if_neg h1, if_pos h2, if_neg (by omega)] at this; exact this
            have hq' : (q - 1 == 0) = false := by rw [beq_eq_false_iff_ne]; omega
            clear h1 h2 e110 HS
            go_wp2
            all_goals
              go_round
              case rel => exact ⟨k + 1, q - 1, by omega, by omega, by go_num, by go_num, by omega, by omega, by rw [HA.out, HS2.out]; omega⟩
              case measure => simp [intOf]; omega
        · rw [decide_eq_false h2] at b62
          by_cases h3 : s[k] = 110
          · rw [decide_eq_true h3] at b110
            by_cases hq : q = 0
            · subst hq
              have HS2 : Hid (endL 0 (s.data.toList.drop k) = 1) := by
                have := HS.out; rw [if_neg h1, if_neg h2, if_pos ⟨rfl, Or.inl h3⟩] at this; exact this
              clear h1 h2 h3 HS
              go_wp2
              go_ret
              exact ⟨ret_int (by have h := HA.out; rw [HS2.out] at h; omega), rfl⟩
            · have HS2 : Hid (endL q (s.data.toList.drop k) = 1 + endL q (s.data.toList.drop (k + 1))) := by
                have := HS.out; rw [if_neg h1, if_neg h2, if_neg (by omega)] at this; exact this
              have hq' : (q == 0) = false := by rw [beq_eq_false_iff_ne]; omega
              clear h1 h2 h3 HS
              go_wp2
              all_goals
                go_round
                case rel => exact ⟨k + 1, q, by omega, by omega, by go_num, by go_num, by omega, by omega, by rw [HA.out, HS2.out]; omega⟩
                case measure => simp [intOf]; omega
          · rw [decide_eq_false h3] at b110
            have HS2 : Hid (endL q (s.data.toList.drop k) = 1 + endL q (s.data.toList.drop (k + 1))) := by
              have := HS.out; rw [if_neg h1, if_neg h2, if_neg (by rintro ⟨_, e | e⟩; exact h3 e; exact h2 e)] at this; exact this
            clear h1 h2 h3 HS
            go_wp2
            all_goals
              go_round
              case rel => exact ⟨k + 1, q, by omega, by omega, by go_num, by go_num, by omega, by omega, by rw [HA.out, HS2.out]; omega⟩
              case measure => simp [intOf]; omega
    · go_wp2
      go_ret
      exact ⟨ret_int (by have h := HA.out; rw [drop_end s k (by omega)] at h; simp only [endL] at h; omega), rfl⟩

theorem ext_bs (s : ByteArray) (a b : Nat) (l : List UInt8) (h : (s.data.toList.drop a).take (b - a) = l) : s.extract a b = bs l := bs_eq (by rw [Lib.extract_data, h])

theorem dec_len (r : Nat) (h : r < 1000) : (decDigits r).length ≤ 3 := by
  rw [decDigits]; split
  · simp
  · rw [decDigits]; split
    · simp
    · rw [decDigits]; split
      · simp
      · omega
theorem dec_pos (r : Nat) : 0 < (decDigits r).length := by rw [decDigits]; split <;> simp


theorem bs_get (l : List UInt8) (k : Nat) (h : k < (bs l).size) : (bs l)[k] = l[k]'(by rw [bs_size] at h; exact h) := rfl

set_option maxHeartbeats 800000 in
theorem halves_n (w : World) : Calls Tryd.prog 73 #[.string (bs Ty.n.txt)] w fun e w' => e = .returned (.tuple #[.string (bs []), .string (bs []), .bool false]) ∧ w' = w := by
  have hse : ((bs Ty.n.txt).toList == []) = false := by rw [bs_beq0]; decide
  go_enter Tryd.func73, Tryd.ntmps73
  go_wp2
  go_ret3
  exact ⟨rfl, rfl⟩

theorem txt_colon (r : Nat) (a b : Ty) (k : Nat) (hk : k < (bs (Ty.p r a b).txt).size) (h1 : 1 ≤ k) (h2 : k ≤ (decDigits r).length) : (bs (Ty.p r a b).txt)[k] ≠ 58 := by
  rw [bs_get]
  simp only [Ty.txt]
  obtain ⟨j, rfl⟩ : ∃ j, k = j + 1 := ⟨k - 1, by omega⟩
  rw [List.getElem_cons_succ, List.getElem_append_left (by omega)]
  exact (digit_ne (dec_digit r _ (List.getElem_mem _))).1
theorem txt_colon_at (r : Nat) (a b : Ty) (hk : (decDigits r).length + 1 < (bs (Ty.p r a b).txt).size) : (bs (Ty.p r a b).txt)[(decDigits r).length + 1] = 58 := by
  rw [bs_get]
  simp only [Ty.txt]
  rw [List.getElem_cons_succ, List.getElem_append_right (by omega)]
  simp
theorem txt_len (r : Nat) (a b : Ty) : (Ty.p r a b).txt.length = (decDigits r).length + a.txt.length + b.txt.length + 3 := by
  simp [Ty.txt]; omega
theorem txt_drop (r : Nat) (a b : Ty) : (Ty.p r a b).txt.drop ((decDigits r).length + 2) = a.txt ++ (b.txt ++ [62]) := by
  simp only [Ty.txt]
  rw [List.drop_succ_cons, List.drop_append]
  simp


set_option maxHeartbeats 800000 in
theorem halves_core (S xa xb : ByteArray) (D A : Nat) (w : World) (hs : S.size ≤ 100000) (hD : D + 2 + A + 2 ≤ S.size) (hem : S.toList.isEmpty = false)
    (h0 : (((S[0]'(by omega)).toNat : Int) != 60) = false) (hcol : Hid (∀ (k : Nat) (hk : k < S.size), 1 ≤ k → k ≤ D → S[k] ≠ 58)) (hcat : Hid (S[D + 1]'(by omega) = 58))
    (hend : ∀ w, Calls Tryd.prog 89 #[.string S, .int .i64 ((D : Int) + 1 + 1)] w fun e w' => e = .returned (.int .i64 (D + 2 + A : Nat)) ∧ w' = w)
    (hxa : Hid (S.extract (D + 2) (D + 2 + A) = xa)) (hxb : Hid (S.extract (D + 2 + A) (S.size - 1) = xb)) :
    Calls Tryd.prog 73 #[.string S] w fun e w' => e = .returned (.tuple #[.string xa, .string xb, .bool true]) ∧ ∃ n, w' = w.drewN n := by
  go_enter Tryd.func73, Tryd.ntmps73
  go_wp2
  go_loop [5] (fun i => ∃ k : Nat, 1 ≤ k ∧ k ≤ D + 1 ∧ i = .int .i64 k) (fun i => D + 1 - (intOf i).toNat)
  case atStart => exact ⟨1, by omega, by omega, rfl⟩
  case round =>
    obtain ⟨k, hk1, hk2, rfl⟩ := hrel
    by_cases hkd : k ≤ D
    · have hne := hcol.out k (by omega) hk1 hkd
      have hne' : (((S[k]'(by omega)).toNat : Int) != 58) = true := by
        have : (((S[k]'(by omega)).toNat : Int) != 58) = ((S[k]'(by omega)) != 58) := byte_ne _ 58
        rw [this]; simpa using hne
      clear hne
      go_wp2
      go_round
      case rel => exact ⟨k + 1, by omega, by omega, by go_num⟩
      case measure => simp [intOf]; omega
    · have hkd' : k = D + 1 := by omega
      subst hkd'
      have heq' : (((S[D + 1]'(by omega)).toNat : Int) != 58) = false := by
        rw [hcat.out]; rfl
      go_wp2_with (go_at_call 89; refine (hend _).mono ?_; rintro e w' ⟨rfl, rfl⟩)
      go_quiet (fail)
      go_wp2
      go_ret3
      exact ⟨by rw [← hxa.out, ← hxb.out]; rfl, _, rfl⟩

theorem halves_p (r : Nat) (a b : Ty) (w : World) (hs : (Ty.p r a b).txt.length ≤ 100000) : Calls Tryd.prog 73 #[.string (bs (Ty.p r a b).txt)] w fun e w' => e = .returned (.tuple #[.string (bs a.txt), .string (bs b.txt), .bool true]) ∧ ∃ n, w' = w.drewN n := by
  have hlen := txt_len r a b
  have hdr := txt_drop r a b
  have hpa : 0 < a.txt.length := List.length_pos_iff.2 (txt_ne a)
  have hpb : 0 < b.txt.length := List.length_pos_iff.2 (txt_ne b)
  have hsz : (bs (Ty.p r a b).txt).size = (Ty.p r a b).txt.length := bs_size _
  refine halves_core (bs (Ty.p r a b).txt) (bs a.txt) (bs b.txt) (decDigits r).length a.txt.length w (by omega) (by omega) (by rw [Lib.toList_data]; rfl) rfl (txt_colon r a b) (txt_colon_at r a b (by omega)) ?_ ?_ ?_
  · intro w
    have hend := end_any (bs (Ty.p r a b).txt) ((decDigits r).length + 2) w (by omega) (by omega)
    rw [bs_toList, hdr, endL_txt] at hend
    have ec : (((decDigits r).length + 2 : Nat) : Int) = ((decDigits r).length : Int) + 1 + 1 := by omega
    rw [ec] at hend
    exact hend
  · exact ext_bs _ _ _ _ (by rw [bs_toList, hdr]; simp)
  · refine ext_bs _ _ _ _ ?_
    rw [bs_toList, ← List.drop_drop, hdr, List.drop_left' rfl, hsz, hlen, List.take_append_of_le_length (by omega), List.take_of_length_le (by omega)]
end Go.Proofs.YtfnplohaokeljaaDoor

namespace Go.Proofs.YtfnplohaokeljaaDoor
open Go.RowKit
open Go.Lib (decDigits)

theorem bs_app (l m : List UInt8) : bs l ++ bs m = bs (l ++ m) := by
  apply bs_eq; simp [bs]
theorem plain_len (t : Ty) : t.plain.length ≤ t.txt.length := by
  induction t with
  | n => simp [Ty.plain, Ty.txt]
  | p r a b iha ihb => simp [Ty.plain, Ty.txt]; omega

set_option maxHeartbeats 800000 in
theorem plain_any (t : Ty) : ∀ (w : World), t.txt.length ≤ 100000 → Calls Tryd.prog 75 #[.string (bs t.txt)] w fun e w' => e = .returned (.string (bs t.plain)) ∧ ∃ n, w' = w.drewN n := by
  induction t with
  | n =>
    intro w hl
    have hse : ((bs Ty.n.txt).toList == [110]) = true := by rw [bs_beq0]; decide
    go_enter Tryd.func75, Tryd.ntmps75
    go_wp2_with fail
    go_ret
    exact ⟨rfl, 0, rfl⟩
  | p r a b iha ihb =>
    intro w hl
    have hlen := txt_len r a b
    have hse : ((bs (Ty.p r a b).txt).toList == [110]) = false := by rw [bs_beq0]; simp [Ty.txt]
    have hh := fun w => halves_p r a b w hl
    have la := plain_len a
    have lb := plain_len b
    have z1 : (ByteArray.mk #[60]).size = 1 := rfl
    have z2 : (bs a.plain).size ≤ 100000 := by rw [bs_size]; omega
    have z3 : (ByteArray.mk #[60] ++ bs a.plain).size ≤ 100001 := by rw [ByteArray.size_append, z1]; omega
    have z4 : (bs b.plain).size ≤ 100000 := by rw [bs_size]; omega
    have z5 : (ByteArray.mk #[60] ++ bs a.plain ++ bs b.plain).size ≤ 200001 := by rw [ByteArray.size_append]; omega
    have z6 : (ByteArray.mk #[62]).size = 1 := rfl
    go_enter Tryd.func75, Tryd.ntmps75
    go_wp2_with (first
      | (go_at_call 73; refine (hh _).mono ?_; rintro e w1 ⟨rfl, n1, rfl⟩)
      | (go_at_call_of 75 (Value.string (bs a.txt)); refine (iha _ (by omega)).mono ?_; rintro e w2 ⟨rfl, n2, rfl⟩)
      | (go_at_call_of 75 (Value.string (bs b.txt)); refine (ihb _ (by omega)).mono ?_; rintro e w3 ⟨rfl, n3, rfl⟩))
    go_ret
    refine ⟨?_, _, rfl⟩
    have e : (ByteArray.mk #[60] ++ bs a.plain ++ bs b.plain ++ ByteArray.mk #[62]) = bs (Ty.p r a b).plain := by
      rw [show ByteArray.mk #[60] = bs [60] from rfl, show ByteArray.mk #[62] = bs [62] from rfl, bs_app, bs_app, bs_app]
      simp [Ty.plain]
    rw [← e]; rfl

def dtab : ByteArray := ⟨#[48, 49, 50, 51, 52, 53, 54, 55, 56, 57, 97, 98, 99, 100, 101, 102, 103, 104, 105, 106, 107, 108, 109, 110, 111, 112, 113, 114, 115, 116, 117, 118, 119, 120, 121, 122]⟩
def stab : ByteArray := ⟨((List.range 100).flatMap fun i => [UInt8.ofNat (48 + i / 10), UInt8.ofNat (48 + i % 10)]).toArray⟩
theorem tab1 (i : Nat) (h : i < 10) : dtab.extract i (i + 1) = bs [UInt8.ofNat (48 + i)] := by
  have : ∀ i : Fin 10, dtab.extract i.val (i.val + 1) = bs [UInt8.ofNat (48 + i.val)] := by decide +kernel
  exact this ⟨i, h⟩
theorem tab2 (i : Nat) (h : i < 100) : stab.extract (i * 2) (i * 2 + 2) = bs [UInt8.ofNat (48 + i / 10), UInt8.ofNat (48 + i % 10)] := by
  have : ∀ i : Fin 100, stab.extract (i.val * 2) (i.val * 2 + 2) = bs [UInt8.ofNat (48 + i.val / 10), UInt8.ofNat (48 + i.val % 10)] := by decide +kernel
  exact this ⟨i, h⟩

set_option maxRecDepth 100000 in
set_option maxHeartbeats 800000 in
theorem itoa_small (i : Nat) (w : World) (hi : i < 100) : Calls Tryd.prog 27 #[.int .i64 i] w fun e w' => e = .returned (.string (bs (decDigits i))) ∧ w' = w := by
  go_enter Tryd.func27, Tryd.ntmps27
  go_wp2
  all_goals go_ret
  · refine ⟨?_, rfl⟩
    rw [Lib.decDigits_one (by omega), ← tab1 i (by omega)]
    rfl
  · refine ⟨?_, rfl⟩
    rw [Lib.decDigits_two (by omega) hi, ← tab2 i hi]
    rfl
end Go.Proofs.YtfnplohaokeljaaDoor
