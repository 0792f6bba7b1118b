import Derived.Test.YtpicaknklgccoaaGreatDoorP3
import Derived.Deep.LoopGhost
import Derived.Deep.DeepCutAuto
namespace Go.Proofs.YtpicaknklgccoaaGreatDoor
open Go.RowKit
def GoodE (ts : List Tk) (l : List Tk) (e : PT) (r : List Tk) : Prop :=
 e.cnt + r.length ≤ l.length ∧ e.prs + r.length + 1 ≤ l.length ∧ (∃ t r', l = t :: r' ∧ (t.c = .num ∨ t.c = .nam ∨ t.c = .opn)) ∧ (∃ n, r = l.drop n ∧ n ≤ l.length) ∧
 ∀ (gt tc cb p ids sites : Nat) (w : World), ts.drop p = l → ids ≤ p → sites ≤ p → BIn ts gt tc cb p ids sites w →
  Calls Tryz.prog 102 #[ptr cb] w (BOut ts gt tc cb p ids sites w e (l.length - r.length))
def LInv (ts : List Tk) (placed : Bool) (gt tc cb ids sites d : Nat) (k : Kw) (p0 : Nat) (nm rg : List UInt8) (kids : List PT) (r : List Tk) (w : World) (xb tb : Nat) (pp : Nat) (n : Nat) (wr : World) : Prop :=
 ∃ (done ws : List Wt) (q : Nat) (nm' rg' nmx rgx : List UInt8) (kids' dk : List PT) (kv : Value) (bl : List Nat) (T0 T1 T2 : Value),
  n = ws.length ∧ pp ≤ q ∧ ws ≠ [] ∧ wantsK k placed = done ++ ws ∧ PWx (GoodE ts) ws (ts.drop q) nm' rg' kids' r ∧ nm = nmx ++ nm' ∧ rg = rgx ++ rg' ∧ kids = dk ++ kids' ∧
  dk.length = cntE done ∧ (Wt.name ∈ done → nmx ≠ []) ∧ (Wt.name ∉ done → nmx = []) ∧ (Wt.region ∉ done → rgx = []) ∧ ids + 1 + cntL dk ≤ q ∧ sites + d + prsL dk ≤ q ∧
  wr.heap[cb]? = some (.cells (cntCells (.slice (some ⟨gt, 0, none⟩) ts.length tc) q (ids + 1 + cntL dk) (sites + d + prsL dk)) 181 (0, 0)) ∧
  wr.heap[xb]? = some (.cells (exCells k.bytes p0 nmx (valueL rgx) kv ids 0 sites) 82 (0, 0)) ∧
  wr.heap[tb]? = some (.cells #[T0, T1, T2] 177 (0, 0)) ∧
  w.grownBy wr (some cb) ∧ wr.ownsRow 0 63 1 kv dk.length (bl.map ptr) ∧ (∀ g, kv.ownBlock = some g → w.heap.size + 2 ≤ g) ∧
  IsTs wr (fun b => w.heap.size + 2 ≤ b ∧ b < wr.heap.size ∧ kv.ownBlock ≠ some b) dk (ids + 1) (sites + d) bl
theorem gr_owns {w wr : World} {cb : Nat} {ts : List Tk} {gt tc : Nat} (h : w.ownsRow 0 177 3 (.slice (some ⟨gt, 0, none⟩) ts.length tc) ts.length (ts.flatMap tkCells)) (hg : w.grownBy wr (some cb)) (hne : gt ≠ cb) :
  wr.ownsRow 0 177 3 (.slice (some ⟨gt, 0, none⟩) ts.length tc) ts.length (ts.flatMap tkCells) := by
 refine owns_blk h (fun k hk => hg.block k (h.lt k hk).2 ?_)
 simp only [Value.ownBlock, Option.some.injEq] at hk
 intro e; cases e; omega
theorem one_new (w : World) (v : Value) (e : TypeId) : ∀ (j : Nat) (u : Value), [v][j]? = some u → (w.alloc (.cells #[v] e)).cell? (Addr.add ⟨w.heap.size, 0, none⟩ j) = some u := by
 intro j u hj
 match j, hj with
 | 0, hj => simp at hj; subst hj; simp [Addr.add]
 | j + 1, hj => simp at hj
theorem one_ptr (b : Nat) : ∀ (u : Value), u ∈ [ptr b] → u.oneCell' = true := by
 intro u hu; simp at hu; subst hu; rfl
theorem drop_at {ts : List Tk} {q : Nat} {t : Tk} {rr : List Tk} (h : ts.drop q = t :: rr) : ts[q]? = some t ∧ q < ts.length ∧ rr = ts.drop (q + 1) := by
 have hq : q < ts.length := by
  rcases Nat.lt_or_ge q ts.length with h1 | h1
  ·exact h1
  ·rw [List.drop_eq_nil_of_le h1] at h; cases h
 rw [List.drop_eq_getElem_cons hq] at h
 simp only [List.cons.injEq] at h
 exact ⟨by rw [List.getElem?_eq_getElem hq, h.1], hq, h.2.symm⟩
theorem pre_end {w w0 W : World} {cb : Nat} {cc : Obj} (X T : Obj) (hc : w0.heap[cb]? = some cc) (hg : w.grownBy w0 (some cb)) (hs : w0.heap.size = w.heap.size) (hW : W.heap = ((w0.alloc X).alloc T).heap) (h1 : W.os = w0.os) (h2 : W.tape = w0.tape) (h3 : W.output = w0.output) :
  W.heap[cb]? = some cc ∧ W.heap[w.heap.size]? = some X ∧ W.heap[w.heap.size + 1]? = some T ∧ w.grownBy W (some cb) ∧ W.heap.size = w.heap.size + 2 := by
 refine ⟨?_, ?_, ?_, ?_, ?_⟩
 ·rw [hW]; exact blk_alloc _ (blk_alloc _ hc)
 ·rw [hW, ← hs]; exact blk_alloc _ (blk_new _ _)
 ·rw [hW, ← hs]
  have := blk_new (w0.alloc X) T
  simpa using this
 ·refine gr_trans hg ⟨h1, h2, h3, by rw [hW]; simp; omega, fun k hk _ => ?_⟩
  rw [hW, Below.heap_alloc _ _ _ (by simp; omega), Below.heap_alloc _ _ _ hk]
 ·rw [hW]; simp [hs]
theorem pre0 {w : World} {cb : Nat} {tv : Value} {p ids sites : Nat} (hc : w.heap[cb]? = some (.cells (cntCells tv p ids sites) 181 (0, 0))) :
  (((w.setCell ⟨cb, 2, none⟩ (.int .i64 ((ids : Int) + 1))).setCell ⟨cb, 1, none⟩ (.int .i64 ((p : Int) + 1))).setCell ⟨cb, 1, none⟩ (.int .i64 ((p : Int) + 1 + 1))).heap[cb]? = some (.cells (cntCells tv (p + 2) (ids + 1) sites) 181 (0, 0)) ∧
  w.grownBy (((w.setCell ⟨cb, 2, none⟩ (.int .i64 ((ids : Int) + 1))).setCell ⟨cb, 1, none⟩ (.int .i64 ((p : Int) + 1))).setCell ⟨cb, 1, none⟩ (.int .i64 ((p : Int) + 1 + 1))) (some cb) ∧
  (((w.setCell ⟨cb, 2, none⟩ (.int .i64 ((ids : Int) + 1))).setCell ⟨cb, 1, none⟩ (.int .i64 ((p : Int) + 1))).setCell ⟨cb, 1, none⟩ (.int .i64 ((p : Int) + 1 + 1))).heap.size = w.heap.size := by
 refine ⟨blk_set (blk_set (blk_set hc 2 _) 1 _) 1 _, gr_trans (gr_trans (gr_set w ⟨cb, 2, none⟩ _) (gr_set _ ⟨cb, 1, none⟩ _)) (gr_set _ ⟨cb, 1, none⟩ _), by simp [World.setCell]⟩
theorem pre1 {w : World} {cb : Nat} {tv : Value} {p ids sites : Nat} (hc : w.heap[cb]? = some (.cells (cntCells tv p ids sites) 181 (0, 0))) :
  ((((w.setCell ⟨cb, 2, none⟩ (.int .i64 ((ids : Int) + 1))).setCell ⟨cb, 1, none⟩ (.int .i64 ((p : Int) + 1))).setCell ⟨cb, 1, none⟩ (.int .i64 ((p : Int) + 1 + 1))).setCell ⟨cb, 3, none⟩ (.int .i64 ((sites : Int) + 1))).heap[cb]? = some (.cells (cntCells tv (p + 2) (ids + 1) (sites + 1)) 181 (0, 0)) ∧
  w.grownBy ((((w.setCell ⟨cb, 2, none⟩ (.int .i64 ((ids : Int) + 1))).setCell ⟨cb, 1, none⟩ (.int .i64 ((p : Int) + 1))).setCell ⟨cb, 1, none⟩ (.int .i64 ((p : Int) + 1 + 1))).setCell ⟨cb, 3, none⟩ (.int .i64 ((sites : Int) + 1))) (some cb) ∧
  ((((w.setCell ⟨cb, 2, none⟩ (.int .i64 ((ids : Int) + 1))).setCell ⟨cb, 1, none⟩ (.int .i64 ((p : Int) + 1))).setCell ⟨cb, 1, none⟩ (.int .i64 ((p : Int) + 1 + 1))).setCell ⟨cb, 3, none⟩ (.int .i64 ((sites : Int) + 1))).heap.size = w.heap.size := by
 obtain ⟨h1, h2, h3⟩ := pre0 hc
 exact ⟨blk_set h1 3 _, gr_trans h2 (gr_set _ ⟨cb, 3, none⟩ _), by rw [← h3]; simp [World.setCell]⟩
theorem node_end {ts : List Tk} {placed : Bool} {gt tc cb p ids sites d : Nat} {k : Kw} {p0 q : Nat} {nm rg nmx rgx nm' rg' : List UInt8} {kids dk kids' : List PT} {r rr : List Tk} {w wr W : World} {kv : Value} {bl : List Nat} {done ws ws' : List Wt}
  (hcb : cb < w.heap.size)
  (hcc : wr.heap[cb]? = some (.cells (cntCells (.slice (some ⟨gt, 0, none⟩) ts.length tc) q (ids + 1 + cntL dk) (sites + d + prsL dk)) 181 (0, 0)))
  (hxx : wr.heap[w.heap.size]? = some (.cells (exCells k.bytes p0 nmx (valueL rgx) kv ids 0 sites) 82 (0, 0)))
  (hgr : w.grownBy wr (some cb)) (hkv : wr.ownsRow 0 63 1 kv dk.length (bl.map ptr)) (hkb : ∀ g, kv.ownBlock = some g → w.heap.size + 2 ≤ g)
  (hkt : IsTs wr (fun b => w.heap.size + 2 ≤ b ∧ b < wr.heap.size ∧ kv.ownBlock ≠ some b) dk (ids + 1) (sites + d) bl)
  (hall : nm = nmx ++ nm' ∧ rg = rgx ++ rg' ∧ kids = dk ++ kids' ∧ (Wt.name ∈ done → nmx ≠ []) ∧ (Wt.name ∉ done → nmx = []) ∧ (Wt.region ∉ done → rgx = []) ∧ dk.length = cntE done ∧ wantsK k placed = done ++ ws)
  (hwz : Wt.close :: ws' = ws) (hr : PWx (GoodE ts) ws' rr nm' rg' kids' r) (hrr : rr = ts.drop (q + 1)) (hd : d = if k = .pair then 1 else 0) (hpq : p ≤ q) (hq : q < ts.length)
  (hW : W.heap = ((wr.setCell ⟨cb, 1, none⟩ (.int .i64 ((q : Int) + 1))).setCell ⟨w.heap.size, 6, none⟩ (.int .i64 (((ids + 1 + cntL dk : Nat) : Int) - 1))).heap) (h1 : W.os = wr.os) (h2 : W.tape = wr.tape) (h3 : W.output = wr.output) :
  BOut ts gt tc cb p ids sites w (.node p0 k nm rg kids) ((ts.drop p).length - r.length) (.returned (.pointer (some ⟨w.heap.size, 0, none⟩))) W := by
 obtain ⟨e1, e2, e3, _, _, _, _, e8⟩ := hall
 rw [← hwz] at e8
 have e9 := wants_close e8
 subst e9
 cases hr
 simp only [List.append_nil] at e1 e2 e3
 subst e1 e2 e3 hrr hd
 have hsz : W.heap.size = wr.heap.size := by rw [hW]; simp [World.setCell]
 have hxs := blk_lt hxx
 have hother : ∀ b, b ≠ cb → b ≠ w.heap.size → W.heap[b]? = wr.heap[b]? := by
  intro b hb1 hb2
  rw [hW, blk_other _ _ (by simpa using hb2), blk_other _ _ (by simpa using hb1)]
 refine ⟨w.heap.size, rfl, ?_, ?_, ?_⟩
 ·rw [hW, blk_other _ _ (by simp; omega), blk_set hcc 1 _]
  have eu : p + ((ts.drop p).length - (ts.drop (q + 1)).length) = q + 1 := by simp; omega
  rw [eu]
  simp only [PT.cnt, PT.prs]
  rw [show ids + (1 + cntL kids) = ids + 1 + cntL kids from by omega, ← Nat.add_assoc sites]
  rfl
 ·refine ⟨h1.trans hgr.os, h2.trans hgr.tape, h3.trans hgr.output, by have := hgr.size; omega, fun b hb hb' => ?_⟩
  rw [hother b (fun e => hb' (by rw [e])) (by omega)]
  exact hgr.block b hb hb'
 ·simp only [IsT]
  refine ⟨⟨Nat.le_refl _, by omega⟩, kv, bl, ?_, ?_, ?_, ?_⟩
  ·rw [hW, blk_set (by rw [blk_other _ _ (by simp; omega)]; exact hxx) 6 _]
   have : (((ids + 1 + cntL kids : Nat) : Int) - 1) = ((ids + cntL kids : Nat) : Int) := by omega
   rw [this]; rfl
  ·intro g hg
   have := hkb g hg
   have := (hkv.lt g hg).2
   exact ⟨by omega, by omega⟩
  ·refine owns_blk hkv (fun g hg => ?_)
   have := hkb g hg
   exact hother g (by omega) (by omega)
  ·exact IsTs.keep (fun b hb => ⟨by omega, by omega⟩) (fun b hb => hother b (by omega) (by omega)) _ _ _ _ hkt
theorem name_step {ts : List Tk} {placed : Bool} {gt tc cb ids sites d : Nat} {k : Kw} {p0 q pp : Nat} {nm rg nmx rgx nm' rg' : List UInt8} {kids dk kids' : List PT} {r rr : List Tk} {w wr W : World} {kv T0 T1 T2 : Value} {bl : List Nat} {done ws ws' : List Wt} {t : Tk}
  (hcb : cb < w.heap.size) (hxc : cb ≠ w.heap.size) (htc : cb ≠ w.heap.size + 1)
  (hcc : wr.heap[cb]? = some (.cells (cntCells (.slice (some ⟨gt, 0, none⟩) ts.length tc) q (ids + 1 + cntL dk) (sites + d + prsL dk)) 181 (0, 0)))
  (hxx : wr.heap[w.heap.size]? = some (.cells (exCells k.bytes p0 nmx (valueL rgx) kv ids 0 sites) 82 (0, 0)))
  (htt : wr.heap[w.heap.size + 1]? = some (.cells #[T0, T1, T2] 177 (0, 0)))
  (hgr : w.grownBy wr (some cb)) (hkv : wr.ownsRow 0 63 1 kv dk.length (bl.map ptr)) (hkb : ∀ g, kv.ownBlock = some g → w.heap.size + 2 ≤ g)
  (hkt : IsTs wr (fun b => w.heap.size + 2 ≤ b ∧ b < wr.heap.size ∧ kv.ownBlock ≠ some b) dk (ids + 1) (sites + d) bl)
  (hall : nm = nmx ++ t.s ∧ rg = rgx ++ rg' ∧ kids = dk ++ kids' ∧ (Wt.name ∈ done → nmx ≠ []) ∧ (Wt.name ∉ done → nmx = []) ∧ (Wt.region ∉ done → rgx = []) ∧ dk.length = cntE done ∧ wantsK k placed = done ++ ws)
  (hwz : Wt.name :: ws' = ws) (hr : PWx (GoodE ts) ws' rr nm' rg' kids' r) (hrr : rr = ts.drop (q + 1)) (hts0 : t.s ≠ [])
  (hb1 : ids + 1 + cntL dk ≤ q) (hb2 : sites + d + prsL dk ≤ q) (hpq : pp ≤ q)
  (hW : W.heap = (((((wr.setCell ⟨w.heap.size + 1, 0, none⟩ (.string (bs t.s))).setCell ⟨w.heap.size + 1, 1, none⟩ (.int .i64 t.at_)).setCell ⟨w.heap.size + 1, 2, none⟩ (.string (bs t.c.bytes))).setCell ⟨w.heap.size, 2, none⟩ (.string (bs t.s))).setCell ⟨cb, 1, none⟩ (.int .i64 ((q : Int) + 1))).heap)
  (h1 : W.os = wr.os) (h2 : W.tape = wr.tape) (h3 : W.output = wr.output) :
  LInv ts placed gt tc cb ids sites d k p0 nm rg kids r w w.heap.size (w.heap.size + 1) pp ws'.length W := by
 have hxs := blk_lt hxx
 have hts := blk_lt htt
 have hother : ∀ b, b ≠ cb → b ≠ w.heap.size → b ≠ w.heap.size + 1 → W.heap[b]? = wr.heap[b]? := by
  intro b hb1 hb2 hb3
  rw [hW, blk_other _ _ (by simpa using hb1), blk_other _ _ (by simpa using hb2), blk_other _ _ (by simpa using hb3), blk_other _ _ (by simpa using hb3), blk_other _ _ (by simpa using hb3)]
 have hsz : W.heap.size = wr.heap.size := by rw [hW]; simp [World.setCell]
 have hc' : W.heap[cb]? = some (.cells (cntCells (.slice (some ⟨gt, 0, none⟩) ts.length tc) (q + 1) (ids + 1 + cntL dk) (sites + d + prsL dk)) 181 (0, 0)) := by
  rw [hW]
  refine (blk_set (arr := cntCells (.slice (some ⟨gt, 0, none⟩) ts.length tc) q (ids + 1 + cntL dk) (sites + d + prsL dk)) ?_ 1 _).trans rfl
  rw [blk_other _ _ (by simpa using hxc), blk_other _ _ (by simpa using htc), blk_other _ _ (by simpa using htc), blk_other _ _ (by simpa using htc)]; exact hcc
 have ht' : W.heap[w.heap.size + 1]? = some (.cells #[.string (bs t.s), .int .i64 t.at_, .string (bs t.c.bytes)] 177 (0, 0)) := by
  rw [hW, blk_other _ _ (by simp; omega), blk_other _ _ (by simp)]
  exact blk_set (blk_set (blk_set htt 0 _) 1 _) 2 _
 have hg' : w.grownBy W (some cb) := by
  refine ⟨h1.trans hgr.os, h2.trans hgr.tape, h3.trans hgr.output, by have := hgr.size; omega, fun b hb hb' => ?_⟩
  rw [hother b (fun e => hb' (by rw [e])) (by omega) (by omega)]
  exact hgr.block b hb hb'
 have hkv' : W.ownsRow 0 63 1 kv dk.length (bl.map ptr) := owns_blk hkv (fun g hg => by have := hkb g hg; exact hother g (by omega) (by omega) (by omega))
 have hkt' : IsTs W (fun b => w.heap.size + 2 ≤ b ∧ b < W.heap.size ∧ kv.ownBlock ≠ some b) dk (ids + 1) (sites + d) bl :=
  IsTs.keep (fun b hb => ⟨hb.1, by omega, hb.2.2⟩) (fun b hb => hother b (by omega) (by omega) (by omega)) _ _ _ _ hkt
 obtain ⟨e1, e2, e3, e4, e5, e6, e7, e8⟩ := hall
 rw [← hwz] at e8
 have wn := wants_name e8
 have en := hr.noname wn.2.2
 subst en
 have ex := e5 wn.2.1
 subst ex
 have hx' : W.heap[w.heap.size]? = some (.cells (exCells k.bytes p0 t.s (valueL rgx) kv ids 0 sites) 82 (0, 0)) := by
  rw [hW, blk_other _ _ (by simp; omega)]
  refine (blk_set (arr := exCells k.bytes p0 [] (valueL rgx) kv ids 0 sites) ?_ 2 _).trans rfl
  rw [blk_other _ _ (by simp), blk_other _ _ (by simp), blk_other _ _ (by simp)]; exact hxx
 subst hrr
 refine ⟨done ++ [.name], ws', q + 1, [], rg', t.s, rgx, kids', dk, kv, bl, _, _, _, rfl, by omega, wants_more e8 (by decide), by rw [e8]; simp, hr, by rw [e1]; simp, e2, e3, by rw [e7]; simp [cntE], fun _ => hts0, fun h => absurd (by simp) h, fun h => e6 (fun h' => h (by simp [h'])), by omega, by omega, hc', hx', ht', hg', hkv', hkb, hkt'⟩
theorem region_step {ts : List Tk} {placed : Bool} {gt tc cb ids sites d : Nat} {k : Kw} {p0 q pp : Nat} {nm rg nmx rgx nm' rg' : List UInt8} {kids dk kids' : List PT} {r rr : List Tk} {w wr W : World} {kv T0 T1 T2 : Value} {bl : List Nat} {done ws ws' : List Wt} {t : Tk}
  (hcb : cb < w.heap.size) (hxc : cb ≠ w.heap.size) (htc : cb ≠ w.heap.size + 1)
  (hcc : wr.heap[cb]? = some (.cells (cntCells (.slice (some ⟨gt, 0, none⟩) ts.length tc) q (ids + 1 + cntL dk) (sites + d + prsL dk)) 181 (0, 0)))
  (hxx : wr.heap[w.heap.size]? = some (.cells (exCells k.bytes p0 nmx (valueL rgx) kv ids 0 sites) 82 (0, 0)))
  (htt : wr.heap[w.heap.size + 1]? = some (.cells #[T0, T1, T2] 177 (0, 0)))
  (hgr : w.grownBy wr (some cb)) (hkv : wr.ownsRow 0 63 1 kv dk.length (bl.map ptr)) (hkb : ∀ g, kv.ownBlock = some g → w.heap.size + 2 ≤ g)
  (hkt : IsTs wr (fun b => w.heap.size + 2 ≤ b ∧ b < wr.heap.size ∧ kv.ownBlock ≠ some b) dk (ids + 1) (sites + d) bl)
  (hall : nm = nmx ++ nm' ∧ rg = rgx ++ t.s ∧ kids = dk ++ kids' ∧ (Wt.name ∈ done → nmx ≠ []) ∧ (Wt.name ∉ done → nmx = []) ∧ (Wt.region ∉ done → rgx = []) ∧ dk.length = cntE done ∧ wantsK k placed = done ++ ws)
  (hwz : Wt.region :: ws' = ws) (hr : PWx (GoodE ts) ws' rr nm' rg' kids' r) (hrr : rr = ts.drop (q + 1))
  (hb1 : ids + 1 + cntL dk ≤ q) (hb2 : sites + d + prsL dk ≤ q) (hpq : pp ≤ q)
  (hW : W.heap = (((((wr.setCell ⟨w.heap.size + 1, 0, none⟩ (.string (bs t.s))).setCell ⟨w.heap.size + 1, 1, none⟩ (.int .i64 t.at_)).setCell ⟨w.heap.size + 1, 2, none⟩ (.string (bs t.c.bytes))).setCell ⟨w.heap.size, 3, none⟩ (.int .i64 (valueL t.s))).setCell ⟨cb, 1, none⟩ (.int .i64 ((q : Int) + 1))).heap)
  (h1 : W.os = wr.os) (h2 : W.tape = wr.tape) (h3 : W.output = wr.output) :
  LInv ts placed gt tc cb ids sites d k p0 nm rg kids r w w.heap.size (w.heap.size + 1) pp ws'.length W := by
 have hxs := blk_lt hxx
 have hts := blk_lt htt
 have hother : ∀ b, b ≠ cb → b ≠ w.heap.size → b ≠ w.heap.size + 1 → W.heap[b]? = wr.heap[b]? := by
  intro b hb1 hb2 hb3
  rw [hW, blk_other _ _ (by simpa using hb1), blk_other _ _ (by simpa using hb2), blk_other _ _ (by simpa using hb3), blk_other _ _ (by simpa using hb3), blk_other _ _ (by simpa using hb3)]
 have hsz : W.heap.size = wr.heap.size := by rw [hW]; simp [World.setCell]
 have hc' : W.heap[cb]? = some (.cells (cntCells (.slice (some ⟨gt, 0, none⟩) ts.length tc) (q + 1) (ids + 1 + cntL dk) (sites + d + prsL dk)) 181 (0, 0)) := by
  rw [hW]
  refine (blk_set (arr := cntCells (.slice (some ⟨gt, 0, none⟩) ts.length tc) q (ids + 1 + cntL dk) (sites + d + prsL dk)) ?_ 1 _).trans rfl
  rw [blk_other _ _ (by simpa using hxc), blk_other _ _ (by simpa using htc), blk_other _ _ (by simpa using htc), blk_other _ _ (by simpa using htc)]; exact hcc
 have ht' : W.heap[w.heap.size + 1]? = some (.cells #[.string (bs t.s), .int .i64 t.at_, .string (bs t.c.bytes)] 177 (0, 0)) := by
  rw [hW, blk_other _ _ (by simp; omega), blk_other _ _ (by simp)]
  exact blk_set (blk_set (blk_set htt 0 _) 1 _) 2 _
 have hg' : w.grownBy W (some cb) := by
  refine ⟨h1.trans hgr.os, h2.trans hgr.tape, h3.trans hgr.output, by have := hgr.size; omega, fun b hb hb' => ?_⟩
  rw [hother b (fun e => hb' (by rw [e])) (by omega) (by omega)]
  exact hgr.block b hb hb'
 have hkv' : W.ownsRow 0 63 1 kv dk.length (bl.map ptr) := owns_blk hkv (fun g hg => by have := hkb g hg; exact hother g (by omega) (by omega) (by omega))
 have hkt' : IsTs W (fun b => w.heap.size + 2 ≤ b ∧ b < W.heap.size ∧ kv.ownBlock ≠ some b) dk (ids + 1) (sites + d) bl :=
  IsTs.keep (fun b hb => ⟨hb.1, by omega, hb.2.2⟩) (fun b hb => hother b (by omega) (by omega) (by omega)) _ _ _ _ hkt
 obtain ⟨e1, e2, e3, e4, e5, e6, e7, e8⟩ := hall
 rw [← hwz] at e8
 have wn := wants_region e8
 have en := hr.noregion wn.2
 subst en
 have ex := e6 wn.1
 subst ex
 have hx' : W.heap[w.heap.size]? = some (.cells (exCells k.bytes p0 nmx (valueL t.s) kv ids 0 sites) 82 (0, 0)) := by
  rw [hW, blk_other _ _ (by simp; omega)]
  refine (blk_set (arr := exCells k.bytes p0 nmx (valueL []) kv ids 0 sites) ?_ 3 _).trans rfl
  rw [blk_other _ _ (by simp), blk_other _ _ (by simp), blk_other _ _ (by simp)]; exact hxx
 subst hrr
 refine ⟨done ++ [.region], ws', q + 1, nm', [], nmx, t.s, kids', dk, kv, bl, _, _, _, rfl, by omega, wants_more e8 (by decide), by rw [e8]; simp, hr, e1, by rw [e2]; simp, e3, by rw [e7]; simp [cntE], fun h => e4 (by simpa using h), fun h => e5 (fun h' => h (by simp [h'])), fun h => absurd (by simp) h, by omega, by omega, hc', hx', ht', hg', hkv', hkb, hkt'⟩
structure EMid (ts : List Tk) (gt tc cb ids sites d : Nat) (k : Kw) (p0 q : Nat) (nmx rgx : List UInt8) (dk : List PT) (kv : Value) (bl : List Nat) (t : Tk) (w wr W1 : World) : Prop where
 inn : BIn ts gt tc cb q (ids + 1 + cntL dk) (sites + d + prsL dk) W1
 x : W1.heap[w.heap.size]? = some (.cells (exCells k.bytes p0 nmx (valueL rgx) kv ids 0 sites) 82 (0, 0))
 tt : W1.heap[w.heap.size + 1]? = some (.cells #[.string (bs t.s), .int .i64 t.at_, .string (bs t.c.bytes)] 177 (0, 0))
 gr : w.grownBy W1 (some cb)
 ow : W1.ownsRow 0 63 1 kv dk.length (bl.map ptr)
 kt : IsTs W1 (fun b => w.heap.size + 2 ≤ b ∧ b < W1.heap.size ∧ kv.ownBlock ≠ some b) dk (ids + 1) (sites + d) bl
theorem e_in {ts : List Tk} {gt tc cb ids sites d : Nat} {k : Kw} {p0 q : Nat} {nmx rgx : List UInt8} {dk : List PT} {w wr W1 : World} {kv T0 T1 T2 : Value} {bl : List Nat} {t : Tk}
  (htc : cb ≠ w.heap.size + 1)
  (hcc : wr.heap[cb]? = some (.cells (cntCells (.slice (some ⟨gt, 0, none⟩) ts.length tc) q (ids + 1 + cntL dk) (sites + d + prsL dk)) 181 (0, 0)))
  (hxx : wr.heap[w.heap.size]? = some (.cells (exCells k.bytes p0 nmx (valueL rgx) kv ids 0 sites) 82 (0, 0)))
  (htt : wr.heap[w.heap.size + 1]? = some (.cells #[T0, T1, T2] 177 (0, 0)))
  (hgr : w.grownBy wr (some cb)) (hkv : wr.ownsRow 0 63 1 kv dk.length (bl.map ptr)) (hkb : ∀ g, kv.ownBlock = some g → w.heap.size + 2 ≤ g)
  (hkt : IsTs wr (fun b => w.heap.size + 2 ≤ b ∧ b < wr.heap.size ∧ kv.ownBlock ≠ some b) dk (ids + 1) (sites + d) bl)
  (htk : wr.ownsRow 0 177 3 (.slice (some ⟨gt, 0, none⟩) ts.length tc) ts.length (ts.flatMap tkCells)) (hne : gt ≠ cb) (hgtt : gt ≠ w.heap.size + 1)
  (hW1 : W1.heap = (((wr.setCell ⟨w.heap.size + 1, 0, none⟩ (.string (bs t.s))).setCell ⟨w.heap.size + 1, 1, none⟩ (.int .i64 t.at_)).setCell ⟨w.heap.size + 1, 2, none⟩ (.string (bs t.c.bytes))).heap)
  (h1 : W1.os = wr.os) (h2 : W1.tape = wr.tape) (h3 : W1.output = wr.output) : EMid ts gt tc cb ids sites d k p0 q nmx rgx dk kv bl t w wr W1 := by
 have hxs := blk_lt hxx
 have hother : ∀ b, b ≠ w.heap.size + 1 → W1.heap[b]? = wr.heap[b]? := by
  intro b hb3
  rw [hW1, blk_other _ _ (by simpa using hb3), blk_other _ _ (by simpa using hb3), blk_other _ _ (by simpa using hb3)]
 have hsz : W1.heap.size = wr.heap.size := by rw [hW1]; simp [World.setCell]
 refine ⟨⟨hne, by rw [hother cb htc]; exact hcc, owns_blk htk (fun b hb => ?_)⟩, by rw [hother _ (by omega)]; exact hxx, ?_, ?_, ?_, ?_⟩
 ·simp only [Value.ownBlock, Option.some.injEq] at hb
  subst hb
  exact hother _ hgtt
 ·rw [hW1]; exact blk_set (blk_set (blk_set htt 0 _) 1 _) 2 _
 ·refine ⟨h1.trans hgr.os, h2.trans hgr.tape, h3.trans hgr.output, by have := hgr.size; omega, fun b hb hb' => ?_⟩
  rw [hother b (by omega)]
  exact hgr.block b hb hb'
 ·exact owns_blk hkv (fun g hg => by have := hkb g hg; exact hother g (by omega))
 ·exact IsTs.keep (fun b hb => ⟨hb.1, by omega, hb.2.2⟩) (fun b hb => hother b (by omega)) _ _ _ _ hkt
theorem e_out {ts : List Tk} {placed : Bool} {gt tc cb ids sites d : Nat} {k : Kw} {p0 q pp : Nat} {nm rg nmx rgx nm' rg' : List UInt8} {kids dk kids' : List PT} {r rr : List Tk} {w wr W1 w2 w3 W : World} {kv T0 : Value} {bl : List Nat} {done ws ws' : List Wt} {t : Tk} {e' : PT} {b' g cap used : Nat}
  (hcb : cb < w.heap.size) (hm : EMid ts gt tc cb ids sites d k p0 q nmx rgx dk kv bl t w wr W1) (hkb : ∀ g, kv.ownBlock = some g → w.heap.size + 2 ≤ g)
  (hall : nm = nmx ++ nm' ∧ rg = rgx ++ rg' ∧ kids = dk ++ (e' :: kids') ∧ (Wt.name ∈ done → nmx ≠ []) ∧ (Wt.name ∉ done → nmx = []) ∧ (Wt.region ∉ done → rgx = []) ∧ dk.length = cntE done ∧ wantsK k placed = done ++ ws)
  (hwz : Wt.e :: ws' = ws) (hr : PWx (GoodE ts) ws' rr nm' rg' kids' r) (hrr : rr = ts.drop (q + used)) (hb1 : ids + 1 + cntL dk + e'.cnt ≤ q + used) (hb2 : sites + d + prsL dk + e'.prs ≤ q + used) (hpq : pp ≤ q)
  (hc2 : w2.heap[cb]? = some (.cells (cntCells (.slice (some ⟨gt, 0, none⟩) ts.length tc) (q + used) (ids + 1 + cntL dk + e'.cnt) (sites + d + prsL dk + e'.prs)) 181 (0, 0)))
  (hg2 : W1.grownBy w2 (some cb)) (hT2 : IsT w2 (fun k => W1.heap.size ≤ k ∧ k < w2.heap.size) e' (ids + 1 + cntL dk) (sites + d + prsL dk) b')
  (hg3 : (w2.alloc (.cells #[T0] 63)).grownBy w3 kv.ownBlock) (ho3 : w3.ownsRow 0 63 1 (.slice (some ⟨g, 0, none⟩) (dk.length + 1) cap) (dk.length + 1) (bl.map ptr ++ [ptr b']))
  (hgg : kv.ownBlock = some g ∨ (w2.alloc (.cells #[T0] 63)).heap.size ≤ g)
  (hW : W.heap = (w3.setCell ⟨w.heap.size, 4, none⟩ (.slice (some ⟨g, 0, none⟩) (dk.length + 1) cap)).heap) (h1 : W.os = w3.os) (h2 : W.tape = w3.tape) (h3 : W.output = w3.output) :
  LInv ts placed gt tc cb ids sites d k p0 nm rg kids r w w.heap.size (w.heap.size + 1) pp ws'.length W := by
 obtain ⟨e1, e2, e3, e4, e5, e6, e7, e8⟩ := hall
 rw [← hwz] at e8
 have hxs := blk_lt hm.x
 have hts := blk_lt hm.tt
 have s12 := hg2.size
 have s23 := hg3.size
 have ea : (w2.alloc (.cells #[T0] 63)).heap.size = w2.heap.size + 1 := by simp
 rw [ea] at hgg s23
 have hsW : W.heap.size = w3.heap.size := by rw [hW]; simp [World.setCell]
 have hkvlt : ∀ g, kv.ownBlock = some g → g < W1.heap.size := fun g hg => (hm.ow.lt g hg).2
 -- a block that is not x's nor the row's holds in W what it held in w2
 have o2 : ∀ b, b < w2.heap.size → b ≠ w.heap.size → kv.ownBlock ≠ some b → W.heap[b]? = w2.heap[b]? := by
  intro b hb hbx hbk
  rw [hW, blk_other _ _ (by simpa using hbx), hg3.block b (by rw [ea]; omega) (fun e => hbk e.symm), Below.heap_alloc _ _ _ hb]
 have o1 : ∀ b, b < W1.heap.size → b ≠ cb → b ≠ w.heap.size → kv.ownBlock ≠ some b → W.heap[b]? = W1.heap[b]? := by
  intro b hb hbc hbx hbk
  rw [o2 b (by omega) hbx hbk, hg2.block b hb (by intro e; cases e; exact hbc rfl)]
 have nk : ∀ b, b < w.heap.size + 2 → kv.ownBlock ≠ some b := fun b hb e => by have := hkb b e; omega
 have hcW : W.heap[cb]? = some (.cells (cntCells (.slice (some ⟨gt, 0, none⟩) ts.length tc) (q + used) (ids + 1 + cntL (dk ++ [e'])) (sites + d + prsL (dk ++ [e']))) 181 (0, 0)) := by
  rw [o2 cb (blk_lt hc2) (by omega) (nk cb (by omega)), hc2, cntL_snoc, prsL_snoc, Nat.add_assoc (ids + 1), Nat.add_assoc (sites + d)]
 have hxW : W.heap[w.heap.size]? = some (.cells (exCells k.bytes p0 nmx (valueL rgx) (.slice (some ⟨g, 0, none⟩) (dk.length + 1) cap) ids 0 sites) 82 (0, 0)) := by
  rw [hW]
  refine (blk_set (arr := exCells k.bytes p0 nmx (valueL rgx) kv ids 0 sites) ?_ 4 _).trans rfl
  rw [hg3.block _ (by rw [ea]; omega) (fun e => nk _ (by omega) e.symm), Below.heap_alloc _ _ _ (by omega), hg2.block _ hxs (by intro e; cases e; omega)]
  exact hm.x
 have htW : W.heap[w.heap.size + 1]? = some (.cells #[.string (bs t.s), .int .i64 t.at_, .string (bs t.c.bytes)] 177 (0, 0)) := by
  rw [o1 _ hts (by omega) (by omega) (nk _ (by omega))]; exact hm.tt
 have hgW : w.grownBy W (some cb) := by
  refine ⟨h1.trans (hg3.os.trans (hg2.os.trans hm.gr.os)), h2.trans (hg3.tape.trans (hg2.tape.trans hm.gr.tape)), h3.trans (hg3.output.trans (hg2.output.trans hm.gr.output)), by have := hm.gr.size; omega, fun b hb hb' => ?_⟩
  rw [o1 b (by omega) (fun e => hb' (by rw [e])) (by omega) (nk b (by omega))]
  exact hm.gr.block b hb hb'
 have hge : ∀ g', (Value.slice (some ⟨g, 0, none⟩) (dk.length + 1) cap).ownBlock = some g' → g' = g := by
  intro g' h; simp only [Value.ownBlock, Option.some.injEq] at h; exact h.symm
 have hgx : w.heap.size + 2 ≤ g := by
  rcases hgg with h | h
  ·exact hkb g h
  ·omega
 have hoW : W.ownsRow 0 63 1 (.slice (some ⟨g, 0, none⟩) (dk.length + 1) cap) (dk ++ [e']).length ((bl ++ [b']).map ptr) := by
  have e1' : (dk ++ [e']).length = dk.length + 1 := by simp
  have e2' : (bl ++ [b']).map ptr = bl.map ptr ++ [ptr b'] := by simp
  rw [e1', e2']
  refine owns_blk ho3 (fun g' hg' => ?_)
  rw [hge g' hg', hW, blk_other _ _ (by simp; omega)]
 have hgne : ∀ b, (b < W1.heap.size ∧ kv.ownBlock ≠ some b) ∨ (W1.heap.size ≤ b ∧ b < w2.heap.size) → b ≠ g := by
  intro b hb e
  subst e
  rcases hgg with h | h
  ·rcases hb with ⟨_, hb⟩ | ⟨hb, _⟩
   ·exact hb h
   ·have := hkvlt _ h; omega
  ·omega
 refine ⟨done ++ [.e], ws', q + used, nm', rg', nmx, rgx, kids', dk ++ [e'], _, bl ++ [b'], _, _, _, rfl, by omega, wants_more e8 (by decide), by rw [e8]; simp, by rw [← hrr]; exact hr, e1, e2, by rw [e3]; simp, by simp [e7, cntE],
  fun h => e4 (by simpa using h), fun h => e5 (fun h' => h (by simp [h'])), fun h => e6 (fun h' => h (by simp [h'])), by rw [cntL_snoc]; omega, by rw [prsL_snoc]; omega, hcW, hxW, htW, hgW, hoW, fun g' hg' => by rw [hge g' hg']; exact hgx, ?_⟩
 refine IsTs.snoc _ _ _ _ _ _ ?_ ?_
 ·refine IsTs.keep (fun b hb => ⟨hb.1, by omega, ?_⟩) (fun b hb => o1 b hb.2.1 (by omega) (by omega) hb.2.2) _ _ _ _ hm.kt
  intro e
  exact hgne b (Or.inl ⟨hb.2.1, hb.2.2⟩) (hge b e)
 ·have : ∀ b, W1.heap.size ≤ b ∧ b < w2.heap.size → kv.ownBlock ≠ some b := fun b hb e => by have := hkvlt b e; omega
  refine IsT.keep (fun b hb => ⟨by omega, by omega, ?_⟩) (fun b hb => o2 b hb.2 (by omega) (this b hb)) _ _ _ _ hT2
  intro e
  exact hgne b (Or.inr hb) (hge b e)
end Go.Proofs.YtpicaknklgccoaaGreatDoor
