import Derived.Test.YtpicaknklgccoaaGreatDoorX2
import Derived.Deep.RegionLaw
namespace Go.Proofs.YtpicaknklgccoaaGreatDoor
open Go.RowKit
set_option maxRecDepth 100000 in
set_option maxHeartbeats 2000000 in
theorem fail_any (s : ByteArray) (placed : Bool) (pb : Nat) (w : World) (sv nv ov : Value) (st : PS) (a : Nat) (h : PIn s placed pb w sv nv ov st) :
  Calls Tryz.prog 154 #[ptr pb, .int .i64 a] w fun v w' => v = .returned (.tuple #[]) ∧ PFr pb pb w w' sv nv ov sv nv ov ∧ PIn s placed pb w' sv nv ov (st.fail a) := by
 obtain ⟨fr, hf1, hf2, hf3⟩ := h.y
 have y0 : w.cell? ⟨pb, 0, none⟩ = some (.string s) := by rw [blk_cell hf3]; rfl
 have y2 : w.cell? ⟨pb, 2, none⟩ = some (.int .i64 fr) := by rw [blk_cell hf3]; rfl
 have y3 : w.cell? ⟨pb, 3, none⟩ = some (.bool st.fl.isSome) := by rw [blk_cell hf3]; rfl
 have y4 : w.cell? ⟨pb, 4, none⟩ = some (.int .i64 (st.fl.getD 0)) := by rw [blk_cell hf3]; rfl
 have g2 : w.frozen? ⟨pb, 2, none⟩ = false := blk_free hf3 2
 have g3 : w.frozen? ⟨pb, 3, none⟩ = false := blk_free hf3 3
 have g4 : w.frozen? ⟨pb, 4, none⟩ = false := blk_free hf3 4
 have HH : Hid _ := h
 have HF3 : Hid _ := hf3
 have hpb := blk_lt hf3
 clear hf1 hf2 hf3 h
 show Calls _ _ #[Value.pointer (some ⟨pb, 0, none⟩), _] w _
 cases hfl : st.fl with
 | some q =>
  have e : st.fail a = st := by unfold PS.fail; rw [hfl]
  rw [hfl] at y3 y4
  rw [e]
  simp only [Option.isSome_some] at y3
  clear e hfl
  go_enter Tryz.func154, Tryz.ntmps154
  go_wp2
  refine bodyPost_ret (v := .tuple #[]) (by simp [results, Tryz.results154, go_sem]) rfl ⟨rfl, PFr.refl _ _ _ _ _ _, HH.out⟩
 | none =>
  have e : st.fail a = { st with l := [], fl := some a } := by unfold PS.fail; rw [hfl]
  rw [hfl] at y3 y4
  rw [e]
  simp only [Option.isSome_none] at y3
  have HFL : Hid _ := hfl
  clear e hfl
  go_enter Tryz.func154, Tryz.ntmps154
  go_wp2
  refine bodyPost_end (v := .tuple #[]) (by simp [results, Tryz.results154, go_sem]) rfl ⟨rfl, ?_, ?_⟩
  ·refine ⟨rfl, rfl, rfl, by simp [World.setCell], ?_, fun _ h => Or.inl h, fun _ h => Or.inl h, fun _ h => Or.inl h⟩
   intro k hk hkp _ _ _ _
   rw [blk_other _ _ (by simpa using hkp), blk_other _ _ (by simpa using hkp), blk_other _ _ (by simpa using hkp)]
  ·have kp : ∀ k, k ≠ pb → (((w.setCell ⟨pb, 3, none⟩ (.bool true)).setCell ⟨pb, 4, none⟩ (.int .i64 a)).setCell ⟨pb, 2, none⟩ (.int .i64 s.size)).heap[k]? = w.heap[k]? := by
    intro k hkp
    rw [blk_other _ _ (by simpa using hkp), blk_other _ _ (by simpa using hkp), blk_other _ _ (by simpa using hkp)]
   refine PIn.move HH.out [] (some a) (fun k hk => kp k (fun e => HH.out.sy (by rw [hk, e]))) (fun k hk => kp k (fun e => HH.out.ny (by rw [hk, e]))) (fun k hk => kp k (fun e => HH.out.oy (by rw [hk, e]))) ⟨s.size, Nat.le_refl _, tks_end s s.size (Nat.le_refl _), ?_⟩
   exact blk_set (blk_set (blk_set HF3.out 3 _) 4 _) 2 _
theorem res_end {s : ByteArray} {placed : Bool} {pb nb : Nat} {w w1 w2 W : World} {A : Obj} {sv nv ov sv' nv' ov' : Value} {st st' : PS} (h : PIn s placed pb w sv nv ov st) (hfr : PFr pb nb (w.alloc A) w1 sv nv ov sv' nv' ov') (hin : PIn s placed pb w1 sv' nv' ov' st')
  (hb : Below w1.heap.size w1 w2) (hWs : W.heap.size = w2.heap.size) (hWo : ∀ k, k ≠ w.heap.size → W.heap[k]? = w2.heap[k]?) (e1 : W.os = w2.os) (e2 : W.tape = w2.tape) (e3 : W.output = w2.output) :
  PFr pb nb w W sv nv ov sv' nv' ov' ∧ PIn s placed pb W sv' nv' ov' st' := by
 obtain ⟨l1, l2, l3, l4⟩ := h.slt
 have hsz : w.heap.size + 1 ≤ w1.heap.size := by have := hfr.size; simpa using this
 have hbs := hb.size
 have f0 : PFr pb nb w w1 sv nv ov sv' nv' ov' := (PFr.below pb nb sv nv ov ((Below.refl _ w).alloc (Nat.le_refl _) A)).trans hfr
 have f1 := f0.trans (PFr.below pb nb sv' nv' ov' hb)
 refine ⟨⟨e1.trans f1.os, e2.trans f1.tape, e3.trans f1.output, by rw [hWs]; exact f1.size, fun k hk hp hn a b c => by rw [hWo k (by omega)]; exact f1.blk k hk hp hn a b c, f1.s, f1.n, f1.o⟩, ?_⟩
 obtain ⟨m1, m2, m3, m4⟩ := hin.slt
 have hal : (w.alloc A).heap.size = w.heap.size + 1 := by simp
 have kp : ∀ k, k < w1.heap.size → k ≠ w.heap.size → W.heap[k]? = w1.heap[k]? := fun k hk hne => by rw [hWo k hne]; exact hb.block k hk
 obtain ⟨fr, y1, y2, y3⟩ := hin.y
 refine PIn.move hin st'.l st'.fl (fun k hk => kp k (m1 k hk) ?_) (fun k hk => kp k (m2 k hk) ?_) (fun k hk => kp k (m3 k hk) ?_) ⟨fr, y1, y2, by rw [kp pb m4 (by omega)]; exact y3⟩
 ·rcases hfr.s k hk with e | e
  ·have := l1 k e; omega
  ·omega
 ·rcases hfr.n k hk with e | e
  ·have := l2 k e; omega
  ·omega
 ·rcases hfr.o k hk with e | e
  ·have := l3 k e; omega
  ·omega
theorem PFr.newBlk {pb nb : Nat} {w w1 : World} {A : Obj} {sv nv ov sv' nv' ov' : Value} (hfr : PFr pb nb (w.alloc A) w1 sv nv ov sv' nv' ov') (l1 : ∀ k, sv.ownBlock = some k → k < w.heap.size) (l2 : ∀ k, nv.ownBlock = some k → k < w.heap.size) (l3 : ∀ k, ov.ownBlock = some k → k < w.heap.size) (l4 : pb < w.heap.size) (l5 : nb < w.heap.size) :
  w1.heap[w.heap.size]? = some A := by
 rw [hfr.blk w.heap.size (by simp) (by omega) (by omega) (fun e => by have := l1 _ e; omega) (fun e => by have := l2 _ e; omega) (fun e => by have := l3 _ e; omega)]
 exact blk_new _ _
set_option maxRecDepth 100000 in
set_option maxHeartbeats 2000000 in
theorem expect_any (s : ByteArray) (placed : Bool) (pb : Nat) (w : World) (sv nv ov : Value) (st : PS) (k : Nat) (hs : s.size ≤ 9000) (h : PIn s placed pb w sv nv ov st) :
  Calls Tryz.prog 124 #[ptr pb, .int .i64 k] w fun v w' => v = .returned (tnVal (tk1 s.size st.l)) ∧ PFr pb pb w w' sv nv ov sv nv ov ∧ PIn s placed pb w' sv nv ov (st.expect s.size k) := by
 have htk := fun w h => take_any s placed pb w sv nv ov st hs h
 have hfa := fun w a h => fail_any s placed pb w sv nv ov st.tail a h
 have HH : Hid _ := h
 obtain ⟨l1, l2, l3, l4⟩ := h.slt
 have HL1 : Hid _ := l1
 have HL2 : Hid _ := l2
 have HL3 : Hid _ := l3
 have hex : st.expect s.size k = if (tk1 s.size st.l).kind ≠ k then st.tail.fail (tk1 s.size st.l).at_ else st.tail := rfl
 rw [hex]
 clear hex l1 l2 l3 h
 generalize tk1 s.size st.l = T at htk
 unfold tnVal ptr at htk
 unfold ptr at hfa
 have ha : PIn s placed pb (w.alloc (.cells #[.int .i64 0, .int .i64 0, .int .i64 0, .string ⟨#[]⟩, .int .i64 0] 208)) sv nv ov st := HH.out.below ((Below.refl _ w).alloc (Nat.le_refl _) _)
 have htk' := htk _ ha
 show Calls _ _ #[Value.pointer (some ⟨pb, 0, none⟩), _] w _
 clear htk ha
 by_cases hk : T.kind = k
 ·have hkb : ((T.kind : Int) != (k : Int)) = false := by simp [hk]
  rw [if_neg (by simp [hk])]
  clear hk hfa
  go_enter Tryz.func124, Tryz.ntmps124
  go_wp2_with fail
  refine htk'.mono ?_
  rintro _ w1 ⟨rfl, hfr, hin⟩
  have hs1 : w.heap.size + 1 ≤ w1.heap.size := by have := hfr.size; simpa using this
  have hrb : w1.heap[w.heap.size]? = some (.cells #[.int .i64 0, .int .i64 0, .int .i64 0, .string ⟨#[]⟩, .int .i64 0] 208 (0, 0)) := by
   rw [hfr.blk w.heap.size (by simp) (by omega) (by omega) (fun e => by have := HL1.out _ e; omega) (fun e => by have := HL2.out _ e; omega) (fun e => by have := HL3.out _ e; omega)]
   exact blk_new _ _
  have hrb2 := blk_alloc (.cells #[.int .i64 T.kind, .int .i64 T.at_, .int .i64 T.beh, .string (bs T.word), .int .i64 T.num] 208) hrb
  have HFR : Hid _ := hfr
  have HIN : Hid _ := hin
  have hgne : w.heap.size ≠ w1.heap.size := by omega
  clear hfr hin hrb htk'
  go_wp2_with (refine st_row rfl 208 (.tmp 4) (.tmp 16) rfl w.heap.size #[.int .i64 T.kind, .int .i64 T.at_, .int .i64 T.beh, .string (bs T.word), .int .i64 T.num] rfl rfl 208 _ hrb2 Tryz.infoTN rfl (tn_one T) ?_; intro W hW hWs hWo hW1 hW2 hW3)
  obtain ⟨d0, d1, d2, d3, d4⟩ := tok_cells hW
  refine bodyPost_ret (v := .agg #[.int .i64 T.kind, .int .i64 T.at_, .int .i64 T.beh, .string (bs T.word), .int .i64 T.num]) (by simp [results, Tryz.results124, go_sem, d0, d1, d2, d3, d4]) rfl ⟨rfl, res_end HH.out HFR.out HIN.out ((Below.refl _ w1).alloc (Nat.le_refl _) _) hWs hWo hW1 hW2 hW3⟩
 ·have hkb : ((T.kind : Int) != (k : Int)) = true := by simp; omega
  rw [if_pos hk]
  clear hk
  go_enter Tryz.func124, Tryz.ntmps124
  go_wp2_with fail
  refine htk'.mono ?_
  rintro _ w1 ⟨rfl, hfr, hin⟩
  have hrb := hfr.newBlk HL1.out HL2.out HL3.out l4 l4
  have hs1 : w.heap.size + 1 ≤ w1.heap.size := by have := hfr.size; simpa using this
  have HFR : Hid _ := hfr
  have HIN : Hid _ := hin
  have hgne : w.heap.size ≠ w1.heap.size := by omega
  clear hfr hin htk'
  go_wp2_with fail
  refine (hfa _ T.at_ (HIN.out.below ((Below.refl _ w1).alloc (Nat.le_refl _) _))).mono ?_
  rintro _ w3 ⟨rfl, hfr3, hin3⟩
  have hlt := HIN.out.slt
  have hq := hfr3.newBlk hlt.1 hlt.2.1 hlt.2.2.1 hlt.2.2.2 hlt.2.2.2
  obtain ⟨c0, c1, c2, c3, c4⟩ := tok_cells hq
  have hrb3 : w3.heap[w.heap.size]? = some (.cells #[.int .i64 0, .int .i64 0, .int .i64 0, .string ⟨#[]⟩, .int .i64 0] 208 (0, 0)) := by
   rw [hfr3.blk w.heap.size (by simp; omega) (by omega) (by omega) (fun e => by have := HL1.out _ e; omega) (fun e => by have := HL2.out _ e; omega) (fun e => by have := HL3.out _ e; omega)]
   exact blk_alloc _ hrb
  have HF3 : Hid _ := HFR.out.trans ((PFr.below pb pb sv nv ov ((Below.refl _ w1).alloc (Nat.le_refl _) _)).trans hfr3)
  have HIN3 : Hid _ := hin3
  clear hfr3 hin3 hq hlt hrb
  go_wp2_with (refine st_row rfl 208 (.tmp 4) (.tmp 16) rfl w.heap.size #[.int .i64 T.kind, .int .i64 T.at_, .int .i64 T.beh, .string (bs T.word), .int .i64 T.num] rfl rfl 208 _ hrb3 Tryz.infoTN rfl (tn_one T) ?_; intro W hW hWs hWo hW1 hW2 hW3)
  obtain ⟨d0, d1, d2, d3, d4⟩ := tok_cells hW
  refine bodyPost_ret (v := .agg #[.int .i64 T.kind, .int .i64 T.at_, .int .i64 T.beh, .string (bs T.word), .int .i64 T.num]) (by simp [results, Tryz.results124, go_sem, d0, d1, d2, d3, d4]) rfl ⟨rfl, res_end HH.out HF3.out HIN3.out (Below.refl _ _) hWs hWo hW1 hW2 hW3⟩
def arity (k : Kw) : Nat := match k with
 | .let_ => 2
 | .pair => 2
 | .fst => 1
 | .snd => 1
 | .if_ => 3
 | .add => 2
 | .sub => 2
 | .less => 2
 | .loop => 3
 | .new => 1
def envOk (env : TEnv) (st : TSt) : Prop := (∀ x ∈ env, x.2.fit) ∧ (st.e = 0 → ∀ x ∈ env, x.2.size ≤ 63)
def resOk (st : TSt) (x : Ty × TSt) : Prop := x.1.fit ∧ (x.2.e = 0 → st.e = 0 ∧ x.1.size ≤ 63) ∧ x.2.of.length = st.of.length
def preOk (st : TSt) (x : Ty × TSt) : Prop := x.1.fit ∧ (x.2.e = 0 → st.e = 0) ∧ x.2.of.length = st.of.length
theorem fit_n : Ty.n.fit := ⟨by simp [Ty.size], trivial⟩
theorem errS_len (st : TSt) (e p : Nat) : (errS st e p).of.length = st.of.length := by unfold errS; split <;> rfl
theorem errS_e (st : TSt) (e p : Nat) (he : e ≠ 0) : (errS st e p).e ≠ 0 := by unfold errS; split <;> simp_all
theorem fin_ok {id p : Nat} {st : TSt} {x : Ty × TSt} (h : preOk st x) : resOk st (fin id p x) := by
 obtain ⟨h1, h2, h3⟩ := h
 unfold resOk
 by_cases hb : x.2.e = 0 ∧ 63 < x.1.size
 ·have e : fin id p x = (x.1, { (errS x.2 6 p) with of := (errS x.2 6 p).of.set id x.1.txt }) := by simp only [fin]; rw [if_pos hb]
  rw [e]
  refine ⟨h1, fun h0 => absurd h0 (errS_e _ _ _ (by decide)), ?_⟩
  simp only [List.length_set]; rw [errS_len]; exact h3
 ·have e : fin id p x = (x.1, { x.2 with of := x.2.of.set id x.1.txt }) := by simp only [fin]; rw [if_neg hb]
  rw [e]
  refine ⟨h1, fun h0 => ⟨h2 h0, ?_⟩, by simp only [List.length_set]; exact h3⟩
  simp only at h0 ⊢
  exact Nat.le_of_not_lt (fun h => hb ⟨h0, h⟩)
theorem look_mem {env : TEnv} {s : List UInt8} {t : Ty} (h : look env s = some t) : ∃ x ∈ env, x.2 = t := by
 unfold look at h
 rw [Option.map_eq_some_iff] at h
 obtain ⟨x, hx, rfl⟩ := h
 exact ⟨x, by have := List.mem_of_find?_eq_some hx; simpa using this, rfl⟩
theorem made_pre {cls : List Nat} {k : Kw} {p site : Nat} {ks : List Ty} {st : TSt} (hc : ∀ x ∈ cls, x < 1000) (hk : ∀ t ∈ ks, t.fit ∧ t.size ≤ 63) : preOk st (madeT cls k p site ks st) := by
 have hr : cls.getD site 0 < 1000 := by
  rw [List.getD_eq_getElem?_getD]
  cases h : cls[site]? with
  | none => simp
  | some x => exact hc x (List.mem_of_getElem? h)
 have err : preOk st (Ty.n, errS st 5 p) := ⟨fit_n, fun h => absurd h (errS_e _ _ _ (by decide)), errS_len _ _ _⟩
 unfold madeT
 split
 ·rename_i a _; exact ⟨(hk a (by simp)).1, fun h => h, rfl⟩
 ·rename_i a b
  have ha := hk a (by simp)
  have hb := hk b (by simp)
  exact ⟨⟨by simp only [Ty.size]; omega, ⟨hr, ha.1.2, hb.1.2⟩⟩, fun h => h, rfl⟩
 ·rename_i r a b _
  have ha := hk (.p r a b) (by simp)
  exact ⟨⟨by show a.size ≤ 127; have := ha.2; simp only [Ty.size] at this; omega, ha.1.2.2.1⟩, fun h => h, rfl⟩
 ·rename_i r a b _
  have ha := hk (.p r a b) (by simp)
  exact ⟨⟨by show b.size ≤ 127; have := ha.2; simp only [Ty.size] at this; omega, ha.1.2.2.2⟩, fun h => h, rfl⟩
 ·rename_i a b c
  split
  ·exact ⟨(hk b (by simp)).1, fun h => h, rfl⟩
  ·exact err
 ·rename_i a b c
  split
  ·exact ⟨(hk b (by simp)).1, fun h => h, rfl⟩
  ·exact err
 ·split
  ·exact ⟨fit_n, fun h => h, rfl⟩
  ·exact err
 ·split
  ·exact ⟨fit_n, fun h => h, rfl⟩
  ·exact err
 ·split
  ·exact ⟨fit_n, fun h => h, rfl⟩
  ·exact err
 ·exact err
theorem envOk.on {env : TEnv} {st st' : TSt} (h : envOk env st) (hs : st'.e = 0 → st.e = 0) : envOk env st' := ⟨h.1, fun h0 => h.2 (hs h0)⟩
theorem envOk.snoc {env : TEnv} {st : TSt} {nm : List UInt8} {x : Ty × TSt} (h : envOk env st) (hx : resOk st x) : envOk (env ++ [(nm, x.1)]) x.2 := by
 constructor
 ·intro y hy
  rcases List.mem_append.1 hy with hy | hy
  ·exact h.1 y hy
  ·rw [List.mem_singleton] at hy; subst hy; exact hx.1
 ·intro h0 y hy
  rcases List.mem_append.1 hy with hy | hy
  ·exact h.2 (hx.2.1 h0).1 y hy
  ·rw [List.mem_singleton] at hy; subst hy; exact (hx.2.1 h0).2
def ksOk (st : TSt) (x : List Ty × TSt) : Prop := (∀ t ∈ x.1, t.fit) ∧ (x.2.e = 0 → st.e = 0 ∧ ∀ t ∈ x.1, t.size ≤ 63) ∧ x.2.of.length = st.of.length
mutual
theorem tyFind_ok (cls : List Nat) (hc : ∀ x ∈ cls, x < 1000) : ∀ (t : PT) (id site : Nat) (env : TEnv) (st : TSt), envOk env st → resOk st (tyFind cls t id site env st)
 | .num p s, id, site, env, st, h => by simp only [tyFind]; exact fin_ok ⟨fit_n, fun h => h, rfl⟩
 | .name p s, id, site, env, st, h => by
  simp only [tyFind]
  refine fin_ok ?_
  split
  ·rename_i t ht
   obtain ⟨x, hx, rfl⟩ := look_mem ht
   exact ⟨h.1 x hx, fun h => h, rfl⟩
  ·exact ⟨fit_n, fun h => absurd h (errS_e _ _ _ (by decide)), errS_len _ _ _⟩
 | .node p k nm rg kids, id, site, env, st, h => by
  simp only [tyFind]
  refine fin_ok ?_
  split
  ·have := tyLet_ok cls hc nm kids (id + 1) site env st h
   exact ⟨this.1, fun h0 => (this.2.1 h0), this.2.2⟩
  ·have hx : ksOk st (if k = .loop then tyLoop cls nm kids (id + 1) site env st else tyKids cls kids (id + 1) (site + if k = .pair then 1 else 0) env st) := by
    split
    ·exact tyLoop_ok cls hc nm kids _ _ env st h
    ·exact tyKids_ok cls hc kids _ _ env st h
   generalize (if k = .loop then tyLoop cls nm kids (id + 1) site env st else tyKids cls kids (id + 1) (site + if k = .pair then 1 else 0) env st) = x at hx
   split
   ·rename_i hne
    exact ⟨fit_n, fun h0 => absurd h0 hne, hx.2.2⟩
   ·rename_i hne
    have h0 : x.2.e = 0 := by simpa using hne
    have hm := made_pre (k := k) (p := p) (site := site) (st := x.2) hc (fun t ht => ⟨hx.1 t ht, (hx.2.1 h0).2 t ht⟩)
    exact ⟨hm.1, fun h1 => (hx.2.1 (hm.2.1 h1)).1, hm.2.2.trans hx.2.2⟩
theorem tyKids_ok (cls : List Nat) (hc : ∀ x ∈ cls, x < 1000) : ∀ (ts : List PT) (id site : Nat) (env : TEnv) (st : TSt), envOk env st → ksOk st (tyKids cls ts id site env st)
 | [], _, _, _, st, _ => by simp only [tyKids]; exact ⟨by simp, fun h => ⟨h, by simp⟩, rfl⟩
 | a :: r, id, site, env, st, h => by
  simp only [tyKids]
  have h1 := tyFind_ok cls hc a id site env st h
  have h2 := tyKids_ok cls hc r (id + a.cnt) (site + a.prs) env (tyFind cls a id site env st).2 (h.on (fun h0 => (h1.2.1 h0).1))
  refine ⟨?_, ?_, h2.2.2.trans h1.2.2⟩
  ·intro t ht
   rcases List.mem_cons.1 ht with rfl | ht
   ·exact h1.1
   ·exact h2.1 t ht
  ·intro h0
   have q := h2.2.1 h0
   have q1 := h1.2.1 q.1
   refine ⟨q1.1, ?_⟩
   intro t ht
   rcases List.mem_cons.1 ht with rfl | ht
   ·exact q1.2
   ·exact q.2 t ht
theorem tyLet_ok (cls : List Nat) (hc : ∀ x ∈ cls, x < 1000) (nm : List UInt8) : ∀ (ts : List PT) (id site : Nat) (env : TEnv) (st : TSt), envOk env st → preOk st (tyLet cls nm ts id site env st)
 | [a, b], id, site, env, st, h => by
  simp only [tyLet]
  have h1 := tyFind_ok cls hc a id site env st h
  have h2 := tyFind_ok cls hc b (id + a.cnt) (site + a.prs) (env ++ [(nm, (tyFind cls a id site env st).1)]) (tyFind cls a id site env st).2 (h.snoc h1)
  exact ⟨h2.1, fun h0 => (h1.2.1 (h2.2.1 h0).1).1, h2.2.2.trans h1.2.2⟩
 | [], _, _, _, st, _ => by simp only [tyLet]; exact ⟨fit_n, fun h => h, rfl⟩
 | [_], _, _, _, st, _ => by simp only [tyLet]; exact ⟨fit_n, fun h => h, rfl⟩
 | _ :: _ :: _ :: _, _, _, _, st, _ => by simp only [tyLet]; exact ⟨fit_n, fun h => h, rfl⟩
theorem tyLoop_ok (cls : List Nat) (hc : ∀ x ∈ cls, x < 1000) (nm : List UInt8) : ∀ (ts : List PT) (id site : Nat) (env : TEnv) (st : TSt), envOk env st → ksOk st (tyLoop cls nm ts id site env st)
 | [a, b, c], id, site, env, st, h => by
  simp only [tyLoop]
  have h1 := tyFind_ok cls hc a id site env st h
  have h2 := tyFind_ok cls hc b (id + a.cnt) (site + a.prs) env (tyFind cls a id site env st).2 (h.on (fun h0 => (h1.2.1 h0).1))
  have h3 := tyFind_ok cls hc c (id + a.cnt + b.cnt) (site + a.prs + b.prs) (env ++ [(nm, (tyFind cls b (id + a.cnt) (site + a.prs) env (tyFind cls a id site env st).2).1)]) (tyFind cls b (id + a.cnt) (site + a.prs) env (tyFind cls a id site env st).2).2 ((h.on (fun h0 => (h1.2.1 h0).1)).snoc h2)
  refine ⟨?_, ?_, h3.2.2.trans (h2.2.2.trans h1.2.2)⟩
  ·intro t ht
   simp only [List.mem_cons, List.not_mem_nil, or_false] at ht
   rcases ht with rfl | rfl | rfl
   ·exact h1.1
   ·exact h2.1
   ·exact h3.1
  ·intro h0
   have q3 := h3.2.1 h0
   have q2 := h2.2.1 q3.1
   have q1 := h1.2.1 q2.1
   refine ⟨q1.1, ?_⟩
   intro t ht
   simp only [List.mem_cons, List.not_mem_nil, or_false] at ht
   rcases ht with rfl | rfl | rfl
   ·exact q1.2
   ·exact q2.2
   ·exact q3.2
 | [], _, _, _, st, _ => by simp only [tyLoop]; exact ⟨by simp, fun h => ⟨h, by simp⟩, rfl⟩
 | [_], _, _, _, st, _ => by simp only [tyLoop]; exact ⟨by simp, fun h => ⟨h, by simp⟩, rfl⟩
 | [_, _], _, _, _, st, _ => by simp only [tyLoop]; exact ⟨by simp, fun h => ⟨h, by simp⟩, rfl⟩
 | _ :: _ :: _ :: _ :: _, _, _, _, st, _ => by simp only [tyLoop]; exact ⟨by simp, fun h => ⟨h, by simp⟩, rfl⟩
end
theorem step_own {P : Program} {ops : Array Oper} {o : Oper} {a : Act} {w : World} {K : Act → World → Prop} {Q : Exit → Act → World → Prop} {E : Prop}
  (hg : o.guard = none) (s x : Operand) (t : TypeId) (hop : o.op = Op.call { callee := Callee.builtin Builtin.append, args := #[s, x], argTypes := #[t, t] })
  (e : TypeId) (i : TypeInfo) (z : Value) (size bytes : Nat) (h1 : P.underlying t = some (.slice e)) (h2 : P.info? e = some i) (h3 : i.zero = some z) (h4 : i.size = size) (h5 : i.bytes = bytes) (h6 : z.cells.size = size) (h7 : 0 < size)
  (v : Value) (n : Nat) (xs : List Value) (hs : a.eval s = v) (hown : w.ownsRow 0 e size v n xs)
  (ad : Addr) (m c : Nat) (news : List Value) (hx : a.eval x = .slice (some ad) m c) (hn : news.length = m * size) (hc : ∀ j u, news[j]? = some u → w.cell? (ad.add j) = some u) (h1c : ∀ u ∈ news, u.oneCell' = true)
  (hm : 0 < m) (b1 : n + m ≤ maxLen) (b2 : (n + m) * bytes ≤ 140737488355328)
  (hK : ∀ (g cap : Nat) (w' : World), w'.ownsRow 0 e size (.slice (some ⟨g, 0, none⟩) (n + m) cap) (n + m) (xs ++ news) → w.grownBy w' v.ownBlock → (v.ownBlock = some g ∨ w.heap.size ≤ g) → K (a.put o.dst (.slice (some ⟨g, 0, none⟩) (n + m) cap)) w') :
  if Region.wanted o (yielded ops a.tmps) = true then Oper.wp P o a w K Q else E := by
 have hw : Region.wanted o (yielded ops a.tmps) = true := by simp [Region.wanted, hg]
 rw [if_pos hw]
 have fin : ∀ (v' : Value) (w' : World), w'.ownsRow w.heap.size e size v' (n + m) (xs ++ news) → w.grownBy w' none → K (a.put o.dst v') w' := by
  intro v' w' ho' hg'
  obtain ⟨g, cap, hv'⟩ : ∃ g cap, v' = .slice (some ⟨g, 0, none⟩) (n + m) cap := by
   rcases ho'.2 with ⟨_, hh⟩ | ⟨g, cap, cur, hv, _⟩
   ·omega
   ·exact ⟨_, _, hv⟩
  subst hv'
  have hlt := ho'.lt g rfl
  exact hK g cap w' (owns_base ho' (fun k hk => Nat.zero_le _)) ⟨hg'.os, hg'.tape, hg'.output, hg'.size, fun k hk _ => hg'.block k hk (by simp)⟩ (Or.inr hlt.1)
 rcases hown.2 with ⟨hv, hn0⟩ | ⟨g, cap, cur, hv, hgb, hh, hn', hcm, hcs, htake⟩
 ·subst hn0
  have hxs : xs = [] := List.length_eq_zero_iff.1 (by have := hown.1; omega)
  subst hxs
  obtain ⟨v', w', hrun, r1, r2, _⟩ := run_append_own (P := P) w w.heap.size t o.type e i z size bytes h1 h2 h3 h4 h5 h6 h7 (.slice none 0 0) 0 [] (World.ownsRow_nil w _ e size) ad m c news hn hc h1c b1 b2 (Nat.le_refl _)
  unfold Oper.wp
  rw [hv] at hs
  simp [execOp, hop, resolve, invoke, builtin, hs, hx, hrun, Result.andThen]
  exact fin v' w' r1 r2
 ·by_cases hroom : n + m ≤ cap
  ·have hown' := hown
   rw [hv] at hown' hs
   obtain ⟨w', hrun, r1, r2⟩ := run_append_fits (P := P) w 0 t o.type e i size h1 h2 h4 g n cap xs hown' ad m c news hn hc h1c hroom
   unfold Oper.wp
   simp [execOp, hop, resolve, invoke, builtin, hs, hx, hrun, Result.andThen]
   exact hK g cap w' r1 (by rw [hv]; exact r2) (Or.inl (by rw [hv]; rfl))
  ·obtain ⟨v', w', hrun, r1, r2⟩ := run_append_arg_grows (P := P) w t o.type e i z size bytes h1 h2 h3 h4 h5 h6 h7 ⟨g, 0, none⟩ n cap xs hown.1 (fun j u hj => hown.cells (by rw [hv]; rfl) j u hj) ad m c news hn hc (by omega) b1 b2
   unfold Oper.wp
   rw [hv] at hs
   simp [execOp, hop, resolve, invoke, builtin, hs, hx, hrun, Result.andThen]
   exact fin v' w' r1 r2
theorem Tryz.infoNode : (Tryz.prog.info? 160).map (fun i => (i.zero, i.size, i.bytes)) = some (some (.agg #[.int .i64 0, .int .i64 0, .int .i64 0, .int .i64 0, .string ⟨#[]⟩, .int .i64 0, .int .i64 0, .int .i64 0, .int .i64 0, .int .i64 0]), 10, 88) := by kernel_rfl
theorem Tryz.undNodes : Tryz.prog.underlying 57 = some (.slice 160) := by kernel_rfl
theorem Tryz.infoBind : (Tryz.prog.info? 264).map (fun i => (i.zero, i.size, i.bytes)) = some (some (.agg #[.string ⟨#[]⟩, .int .i64 0]), 2, 24) := by kernel_rfl
theorem Tryz.undBinds : Tryz.prog.underlying 148 = some (.slice 264) := by kernel_rfl
def nrVal (n : NR) : Value := .agg #[.int .i64 n.form, .int .i64 n.at_, .int .i64 n.beh, .int .i64 n.num, .string (bs n.word), .int .i64 n.region, .int .i64 n.source, .int .i64 n.p0, .int .i64 n.p1, .int .i64 n.p2]
theorem flat2 : ∀ (l : List (List UInt8 × Int)) (i : Nat), (l.flatMap scL)[i * 2]? = (l[i]?).map (fun x => Value.string (bs x.1)) ∧ (l.flatMap scL)[i * 2 + 1]? = (l[i]?).map (fun x => Value.int .i64 x.2)
 | [], i => by simp
 | x :: l, 0 => by simp [scL]
 | x :: l, i + 1 => by
  have := flat2 l i
  rw [List.flatMap_cons, show (i + 1) * 2 = (scL x).length + i * 2 from by simp [scL]; omega, List.getElem?_append_right (by omega), Nat.add_sub_cancel_left, show (scL x).length + i * 2 + 1 = (scL x).length + (i * 2 + 1) from by omega, List.getElem?_append_right (by omega), Nat.add_sub_cancel_left]
  simpa using this
theorem findS_take (l : List (List UInt8 × Int)) (k : Nat) (hk : k < l.length) (u : List UInt8) : findS (l.take (k + 1)) u = if l[k].1 == u then l[k].2 else findS (l.take k) u := by
 unfold findS
 rw [List.take_succ_eq_append_getElem hk, List.reverse_append, List.reverse_singleton, List.singleton_append, List.find?_cons]
 cases h : (l[k].1 == u) <;> simp
set_option maxRecDepth 100000 in
set_option maxHeartbeats 2000000 in
theorem find_any (s : ByteArray) (placed : Bool) (pb : Nat) (w : World) (sv nv ov : Value) (st : PS) (u : List UInt8) (hl : st.scope.length ≤ 9000) (h : PIn s placed pb w sv nv ov st) :
  Calls Tryz.prog 180 #[ptr pb, .string (bs u)] w fun v w' => v = .returned (.int .i64 (findS st.scope u)) ∧ w' = w := by
 obtain ⟨fr, hf1, hf2, hf3⟩ := h.y
 have hsc := h.sc
 obtain ⟨scope, hscope⟩ : ∃ x, x = st.scope := ⟨_, rfl⟩
 rw [← hscope] at hsc hl ⊢
 obtain ⟨n, hn⟩ : ∃ n, n = scope.length := ⟨_, rfl⟩
 rw [← hn] at hsc hl
 have hsv : (∃ g cap, sv = .slice (some ⟨g, 0, none⟩) n cap) ∨ (sv = .slice none 0 0 ∧ n = 0) := by
  rcases hsc.2 with ⟨h1, h2⟩ | ⟨g, cap, cur, h1, _⟩
  ·exact Or.inr ⟨h1, h2⟩
  ·exact Or.inl ⟨g, cap, h1⟩
 have y5 : w.cell? ⟨pb, 5, none⟩ = some sv := by rw [blk_cell hf3]; rfl
 have HN : Hid _ := hn
 show Calls _ _ #[Value.pointer (some ⟨pb, 0, none⟩), _] w _
 clear hf3 hf1 hf2 h hscope hn
 obtain ⟨ao, cap, rfl, hcell⟩ : ∃ ao cap, sv = .slice ao n cap ∧ (∀ j, j < n → ∃ g, ao = some ⟨g, 0, none⟩ ∧ w.cell? ⟨g, j * 2, none⟩ = (scope[j]?).map (fun x => Value.string (bs x.1)) ∧ w.cell? ⟨g, j * 2 + 1, none⟩ = (scope[j]?).map (fun x => Value.int .i64 x.2)) := by
  rcases hsv with ⟨g, cap, rfl⟩ | ⟨rfl, h0⟩
  ·refine ⟨_, cap, rfl, fun j hj => ⟨g, rfl, ?_, ?_⟩⟩
   ·have h1 := hsc.cellAt (j * 2) (by omega)
    rw [h1, (flat2 scope j).1]
   ·have h1 := hsc.cellAt (j * 2 + 1) (by omega)
    rw [h1, (flat2 scope j).2]
  ·exact ⟨none, 0, by rw [h0], fun j hj => by omega⟩
 clear hsv hsc
 have HCELL : Hid _ := hcell
 clear hcell
 go_enter Tryz.func180, Tryz.ntmps180
 go_wp2
 go_loop [5] (fun i => ∃ k : Nat, k ≤ n ∧ i = .int .i64 ((k : Int) - 1) ∧ findS scope u = findS (scope.take k) u) (fun i => (intOf i + 1).toNat)
 case atStart => exact ⟨n, Nat.le_refl _, rfl, by rw [HN.out, List.take_length]⟩
 case round =>
  obtain ⟨k, hk, rfl, hr⟩ := hrel
  have HR : Hid _ := hr
  clear hr
  cases k with
  | zero =>
   go_wp2
   go_ret
   exact ⟨ret_int (by rw [HR.out]; rfl), rfl⟩
  | succ k =>
   obtain ⟨g, rfl, hc1, hc2⟩ := HCELL.out k (by omega)
   have hkl : k < scope.length := by have := HN.out; omega
   rw [List.getElem?_eq_getElem hkl] at hc1 hc2
   simp only [Option.map_some] at hc1 hc2
   have hft := findS_take scope k hkl u
   have ek : ((k + 1 : Nat) : Int) - 1 = (k : Int) := by omega
   rw [ek]
   cases hb : (scope[k].1 == u) with
   | true =>
    have q : ((bs scope[k].1).toList == (bs u).toList) = true := by rw [bs_beq, Lib.toList_data]; exact hb
    rw [hb] at hft
    have HFT : Hid _ := hft
    clear hft hb ek
    go_wp2
    go_ret
    exact ⟨ret_int (by rw [HR.out, HFT.out]; rfl), rfl⟩
   | false =>
    have q : ((bs scope[k].1).toList == (bs u).toList) = false := by rw [bs_beq, Lib.toList_data]; exact hb
    rw [hb] at hft
    have HFT : Hid _ := hft
    clear hft hb ek
    go_wp2
    go_round
    case rel => exact ⟨k, by omega, rfl, by rw [HR.out, HFT.out]; rfl⟩
    case measure => simp [intOf]
theorem grown_blk {W0 w' : World} {row : Option Nat} {pb : Nat} {X : Obj} (hg : W0.grownBy w' row) (hp : W0.heap[pb]? = some X) (hne : row ≠ some pb) : w'.heap[pb]? = some X := by
 rw [hg.block pb (blk_lt hp) (fun e => hne e.symm)]; exact hp
theorem PIn.addN {s : ByteArray} {placed : Bool} {pb : Nat} {w W0 w' : World} {sv nv ov : Value} {st : PS} (h : PIn s placed pb w sv nv ov st) (n : NR) {g cap : Nat} (hW : Below w.heap.size w W0) (hg : W0.grownBy w' nv.ownBlock)
  (hown : w'.ownsRow 0 160 10 (.slice (some ⟨g, 0, none⟩) (st.nodes.length + 1) cap) (st.nodes.length + 1) (st.nodes.flatMap nrL ++ nrL n)) (hor : nv.ownBlock = some g ∨ W0.heap.size ≤ g) :
  PFr pb pb w (w'.setCell ⟨pb, 6, none⟩ (.slice (some ⟨g, 0, none⟩) (st.nodes.length + 1) cap)) sv nv ov sv (.slice (some ⟨g, 0, none⟩) (st.nodes.length + 1) cap) ov ∧ PIn s placed pb (w'.setCell ⟨pb, 6, none⟩ (.slice (some ⟨g, 0, none⟩) (st.nodes.length + 1) cap)) sv (.slice (some ⟨g, 0, none⟩) (st.nodes.length + 1) cap) ov { st with nodes := st.nodes ++ [n] } := by
 obtain ⟨l1, l2, l3, l4⟩ := h.slt
 have hWs := hW.size
 have hgs := hg.size
 obtain ⟨fr, y1, y2, y3⟩ := h.y
 have yW : W0.heap[pb]? = some (.cells (psCells s placed fr st.fl.isSome (st.fl.getD 0) sv nv ov) 150 (0, 0)) := by rw [hW.block pb l4]; exact y3
 have yw := grown_blk hg yW h.ny
 have hgp : g ≠ pb := by
  rcases hor with e | e
  ·intro e'; rw [e'] at e; exact h.ny e
  ·omega
 have kp : ∀ k, k < w.heap.size → k ≠ pb → nv.ownBlock ≠ some k → (w'.setCell ⟨pb, 6, none⟩ (.slice (some ⟨g, 0, none⟩) (st.nodes.length + 1) cap)).heap[k]? = w.heap[k]? := by
  intro k hk hkp hne
  rw [blk_other _ _ (by simpa using hkp), hg.block k (by omega) (fun e => hne e.symm), hW.block k hk]
 refine ⟨⟨hg.os.trans hW.os, hg.tape.trans hW.tape, hg.output.trans hW.output, by simp only [World.setCell, Array.size_modify]; omega, fun k hk hp _ hs hn ho => kp k hk hp hn, fun _ h => Or.inl h, fun g' hg' => by simp only [Value.ownBlock, Option.some.injEq] at hg'; subst hg'; rcases hor with e | e; exact Or.inl e; exact Or.inr (by omega), fun _ h => Or.inl h⟩, ?_⟩
 refine ⟨⟨fr, y1, y2, blk_set yw 6 _⟩, owns_blk h.sc (fun k hk => kp k (l1 k hk) (fun e => h.sy (by rw [hk, e])) (fun e => h.sn k hk e)), by have := owns_blk (w' := w'.setCell ⟨pb, 6, none⟩ (.slice (some ⟨g, 0, none⟩) (st.nodes.length + 1) cap)) hown (fun k hk => by simp only [Value.ownBlock, Option.some.injEq] at hk; subst hk; exact blk_other _ _ (by simpa using hgp)); simpa using this, owns_blk h.op (fun k hk => kp k (l3 k hk) (fun e => h.oy (by rw [hk, e])) (fun e => h.no.symm k hk e)), h.sy, by simp only [Value.ownBlock, ne_eq, Option.some.injEq]; exact hgp, h.oy, (fun k hk hk' => by
   simp only [Value.ownBlock, Option.some.injEq] at hk'
   rcases hor with e | e
   ·rw [hk'] at e; exact h.sn k hk e
   ·have := l1 k hk; omega), h.so, (fun k hk hk' => by
   simp only [Value.ownBlock, Option.some.injEq] at hk
   rcases hor with e | e
   ·rw [hk] at e; exact h.no.symm k hk' e
   ·have := l3 k hk'; omega)⟩
theorem PIn.addS {s : ByteArray} {placed : Bool} {pb : Nat} {w W0 w' : World} {sv nv ov : Value} {st : PS} (h : PIn s placed pb w sv nv ov st) (x : List UInt8 × Int) {g cap : Nat} (hW : Below w.heap.size w W0) (hg : W0.grownBy w' sv.ownBlock)
  (hown : w'.ownsRow 0 264 2 (.slice (some ⟨g, 0, none⟩) (st.scope.length + 1) cap) (st.scope.length + 1) (st.scope.flatMap scL ++ scL x)) (hor : sv.ownBlock = some g ∨ W0.heap.size ≤ g) :
  PFr pb pb w (w'.setCell ⟨pb, 5, none⟩ (.slice (some ⟨g, 0, none⟩) (st.scope.length + 1) cap)) sv nv ov (.slice (some ⟨g, 0, none⟩) (st.scope.length + 1) cap) nv ov ∧ PIn s placed pb (w'.setCell ⟨pb, 5, none⟩ (.slice (some ⟨g, 0, none⟩) (st.scope.length + 1) cap)) (.slice (some ⟨g, 0, none⟩) (st.scope.length + 1) cap) nv ov { st with scope := st.scope ++ [x] } := by
 obtain ⟨l1, l2, l3, l4⟩ := h.slt
 have hWs := hW.size
 have hgs := hg.size
 obtain ⟨fr, y1, y2, y3⟩ := h.y
 have yW : W0.heap[pb]? = some (.cells (psCells s placed fr st.fl.isSome (st.fl.getD 0) sv nv ov) 150 (0, 0)) := by rw [hW.block pb l4]; exact y3
 have yw := grown_blk hg yW h.sy
 have hgp : g ≠ pb := by
  rcases hor with e | e
  ·intro e'; rw [e'] at e; exact h.sy e
  ·omega
 have kp : ∀ k, k < w.heap.size → k ≠ pb → sv.ownBlock ≠ some k → (w'.setCell ⟨pb, 5, none⟩ (.slice (some ⟨g, 0, none⟩) (st.scope.length + 1) cap)).heap[k]? = w.heap[k]? := by
  intro k hk hkp hne
  rw [blk_other _ _ (by simpa using hkp), hg.block k (by omega) (fun e => hne e.symm), hW.block k hk]
 refine ⟨⟨hg.os.trans hW.os, hg.tape.trans hW.tape, hg.output.trans hW.output, by simp only [World.setCell, Array.size_modify]; omega, fun k hk hp _ hs hn ho => kp k hk hp hs, fun g' hg' => by simp only [Value.ownBlock, Option.some.injEq] at hg'; subst hg'; rcases hor with e | e; exact Or.inl e; exact Or.inr (by omega), fun _ h => Or.inl h, fun _ h => Or.inl h⟩, ?_⟩
 refine ⟨⟨fr, y1, y2, blk_set yw 5 _⟩, by have := owns_blk (w' := w'.setCell ⟨pb, 5, none⟩ (.slice (some ⟨g, 0, none⟩) (st.scope.length + 1) cap)) hown (fun k hk => by simp only [Value.ownBlock, Option.some.injEq] at hk; subst hk; exact blk_other _ _ (by simpa using hgp)); simpa using this, owns_blk h.nd (fun k hk => kp k (l2 k hk) (fun e => h.ny (by rw [hk, e])) (fun e => h.sn.symm k hk e)), owns_blk h.op (fun k hk => kp k (l3 k hk) (fun e => h.oy (by rw [hk, e])) (fun e => h.so.symm k hk e)), by simp only [Value.ownBlock, ne_eq, Option.some.injEq]; exact hgp, h.ny, h.oy, (fun k hk hk' => by
   simp only [Value.ownBlock, Option.some.injEq] at hk
   rcases hor with e | e
   ·rw [hk] at e; exact h.sn.symm k hk' e
   ·have := l2 k hk'; omega), (fun k hk hk' => by
   simp only [Value.ownBlock, Option.some.injEq] at hk
   rcases hor with e | e
   ·rw [hk] at e; exact h.so.symm k hk' e
   ·have := l3 k hk'; omega), h.no⟩
theorem PIn.addO {s : ByteArray} {placed : Bool} {pb : Nat} {w W0 w' : World} {sv nv ov : Value} {st : PS} (h : PIn s placed pb w sv nv ov st) (x : Int) {g cap : Nat} (hW : Below w.heap.size w W0) (hg : W0.grownBy w' ov.ownBlock)
  (hown : w'.ownsRow 0 3 1 (.slice (some ⟨g, 0, none⟩) (st.opened.length + 1) cap) (st.opened.length + 1) (st.opened.map intV ++ [intV x])) (hor : ov.ownBlock = some g ∨ W0.heap.size ≤ g) :
  PFr pb pb w (w'.setCell ⟨pb, 7, none⟩ (.slice (some ⟨g, 0, none⟩) (st.opened.length + 1) cap)) sv nv ov sv nv (.slice (some ⟨g, 0, none⟩) (st.opened.length + 1) cap) ∧ PIn s placed pb (w'.setCell ⟨pb, 7, none⟩ (.slice (some ⟨g, 0, none⟩) (st.opened.length + 1) cap)) sv nv (.slice (some ⟨g, 0, none⟩) (st.opened.length + 1) cap) { st with opened := st.opened ++ [x] } := by
 obtain ⟨l1, l2, l3, l4⟩ := h.slt
 have hWs := hW.size
 have hgs := hg.size
 obtain ⟨fr, y1, y2, y3⟩ := h.y
 have yW : W0.heap[pb]? = some (.cells (psCells s placed fr st.fl.isSome (st.fl.getD 0) sv nv ov) 150 (0, 0)) := by rw [hW.block pb l4]; exact y3
 have yw := grown_blk hg yW h.oy
 have hgp : g ≠ pb := by
  rcases hor with e | e
  ·intro e'; rw [e'] at e; exact h.oy e
  ·omega
 have kp : ∀ k, k < w.heap.size → k ≠ pb → ov.ownBlock ≠ some k → (w'.setCell ⟨pb, 7, none⟩ (.slice (some ⟨g, 0, none⟩) (st.opened.length + 1) cap)).heap[k]? = w.heap[k]? := by
  intro k hk hkp hne
  rw [blk_other _ _ (by simpa using hkp), hg.block k (by omega) (fun e => hne e.symm), hW.block k hk]
 refine ⟨⟨hg.os.trans hW.os, hg.tape.trans hW.tape, hg.output.trans hW.output, by simp only [World.setCell, Array.size_modify]; omega, fun k hk hp _ hs hn ho => kp k hk hp ho, fun _ h => Or.inl h, fun _ h => Or.inl h, fun g' hg' => by simp only [Value.ownBlock, Option.some.injEq] at hg'; subst hg'; rcases hor with e | e; exact Or.inl e; exact Or.inr (by omega)⟩, ?_⟩
 refine ⟨⟨fr, y1, y2, blk_set yw 7 _⟩, owns_blk h.sc (fun k hk => kp k (l1 k hk) (fun e => h.sy (by rw [hk, e])) (fun e => h.so k hk e)), owns_blk h.nd (fun k hk => kp k (l2 k hk) (fun e => h.ny (by rw [hk, e])) (fun e => h.no k hk e)), by have := owns_blk (w' := w'.setCell ⟨pb, 7, none⟩ (.slice (some ⟨g, 0, none⟩) (st.opened.length + 1) cap)) hown (fun k hk => by simp only [Value.ownBlock, Option.some.injEq] at hk; subst hk; exact blk_other _ _ (by simpa using hgp)); simpa using this, h.sy, h.ny, by simp only [Value.ownBlock, ne_eq, Option.some.injEq]; exact hgp, h.sn, (fun k hk hk' => by
   simp only [Value.ownBlock, Option.some.injEq] at hk'
   rcases hor with e | e
   ·rw [hk'] at e; exact h.so k hk e
   ·have := l1 k hk; omega), (fun k hk hk' => by
   simp only [Value.ownBlock, Option.some.injEq] at hk'
   rcases hor with e | e
   ·rw [hk'] at e; exact h.no k hk e
   ·have := l2 k hk; omega)⟩
theorem nr_one (n : NR) : ∀ u ∈ nrL n, u.oneCell' = true := by intro u hu; simp only [nrL, List.mem_cons, List.not_mem_nil, or_false] at hu; rcases hu with rfl | rfl | rfl | rfl | rfl | rfl | rfl | rfl | rfl | rfl <;> rfl
set_option maxRecDepth 100000 in
set_option maxHeartbeats 4000000 in
theorem add_any (s : ByteArray) (placed : Bool) (pb : Nat) (w : World) (sv nv ov : Value) (st : PS) (n : NR) (hl : st.nodes.length ≤ 9000) (h : PIn s placed pb w sv nv ov st) :
  Calls Tryz.prog 179 #[ptr pb, nrVal n] w fun v w' => v = .returned (.int .i64 st.nodes.length) ∧ ∃ nv', PFr pb pb w w' sv nv ov sv nv' ov ∧ PIn s placed pb w' sv nv' ov (st.add n) := by
 obtain ⟨i0, hi, hz0, hz1, hz2⟩ := info_parts Tryz.infoNode
 have HI : Hid _ := hi
 have HZ0 : Hid _ := hz0
 have HZ1 : Hid _ := hz1
 have HZ2 : Hid _ := hz2
 clear hi hz0 hz1 hz2
 obtain ⟨fr, hf1, hf2, hf3⟩ := h.y
 have hpb := blk_lt hf3
 have y6 : w.cell? ⟨pb, 6, none⟩ = some nv := by rw [blk_cell hf3]; rfl
 obtain ⟨B, hB⟩ : ∃ B : Obj, B = .cells #[.int .i64 n.form, .int .i64 n.at_, .int .i64 n.beh, .int .i64 n.num, .string (bs n.word), .int .i64 n.region, .int .i64 n.source, .int .i64 n.p0, .int .i64 n.p1, .int .i64 n.p2] 160 := ⟨_, rfl⟩
 have hW : Below w.heap.size w ((w.alloc B).alloc B).drew := (((Below.refl _ w).alloc (Nat.le_refl _) B).alloc (by simp) B).trans ⟨rfl, rfl, rfl, Nat.le_refl _, fun _ _ => rfl⟩
 have HW : Hid _ := hW
 have HOWN : Hid (((w.alloc B).alloc B).drew.ownsRow 0 160 10 nv st.nodes.length (st.nodes.flatMap nrL)) := owns_below h.nd hW
 have HC1 : Hid (∀ (j : Nat) (u : Value), (nrL n)[j]? = some u → ((w.alloc B).alloc B).drew.cell? ((⟨w.heap.size + 1, 0, none⟩ : Addr).add j) = some u) := by
  intro j u hj
  have hq := alloc_cell_at (w.alloc B) (nrL n) 160 j
  have e : (w.alloc B).heap.size = w.heap.size + 1 := by simp
  rw [e] at hq
  rw [← hj, ← hq, hB]; rfl
 have HYW : Hid (((w.alloc B).alloc B).drew.heap[pb]? = some (.cells (psCells s placed fr st.fl.isSome (st.fl.getD 0) sv nv ov) 150 (0, 0))) := by
  show ((w.alloc B).alloc B).drew.heap[pb]? = _
  rw [hW.block pb hpb]; exact hf3
 have HH : Hid _ := h
 have HNY : Hid _ := h.ny
 clear hf1 hf2 hf3 h hW
 show Calls _ _ #[Value.pointer (some ⟨pb, 0, none⟩), Value.agg _] w _
 go_enter Tryz.func179, Tryz.ntmps179
 subst hB
 go_wp2
 go_region_law (refine step_own rfl (.tmp 10) (.tmp 12) 57 rfl 160 i0 _ 10 88 Tryz.undNodes HI.out HZ0.out HZ1.out HZ2.out rfl (by decide) nv st.nodes.length (st.nodes.flatMap nrL) (by simp [Act.eval]) HOWN.out ⟨w.heap.size + 1, 0, none⟩ 1 1 (nrL n) (by simp [Act.eval]) rfl HC1.out (nr_one n) (by decide) (by unfold maxLen; omega) (by omega) ?_; intro g cap w' hown hgrow hor; have hpb' := grown_blk hgrow HYW.out HNY.out; have c6 : w'.cell? ⟨pb, 6, none⟩ = some nv := (by rw [blk_cell hpb']; rfl); have f6 := blk_free hpb' 6)
 all_goals
  have hadd := PIn.addN HH.out n HW.out hgrow hown hor
  have HADD : Hid _ := hadd
  clear hadd hown hgrow hor
  go_wp2
  go_ret
  exact ⟨ret_int (by omega), _, HADD.out⟩
theorem owns_less {w : World} {base : Nat} {e : TypeId} {size g n cap : Nat} {xs : List Value} (h : w.ownsRow base e size (.slice (some ⟨g, 0, none⟩) n cap) n xs) (m : Nat) (hm : m ≤ n) : w.ownsRow base e size (.slice (some ⟨g, 0, none⟩) m cap) m (xs.take (m * size)) := by
 obtain ⟨h1, h2⟩ := h
 have hms : m * size ≤ n * size := Nat.mul_le_mul_right _ hm
 rcases h2 with ⟨h2, _⟩ | ⟨g', cap', cur, hv, hg, hh, hn, hcm, hcs, htake⟩
 ·cases h2
 ·simp only [Value.slice.injEq, Option.some.injEq, Addr.mk.injEq] at hv
  obtain ⟨⟨e1, _⟩, _, e2⟩ := hv
  subst e1
  subst e2
  refine ⟨by rw [List.length_take, h1]; omega, Or.inr ⟨g, cap, cur, rfl, hg, hh, by omega, hcm, hcs, ?_⟩⟩
  rw [← htake, List.take_take, Nat.min_eq_left hms]
theorem flat_drop (l : List (List UInt8 × Int)) : (l.flatMap scL).take ((l.length - 1) * 2) = l.dropLast.flatMap scL := by
 rcases List.eq_nil_or_concat l with rfl | ⟨r, x, rfl⟩
 ·rfl
 ·rw [List.concat_eq_append, List.dropLast_concat, List.flatMap_append, List.length_append, List.length_singleton, Nat.add_sub_cancel]
  have hlen : (r.flatMap scL).length = r.length * 2 := by
   induction r with
   | nil => rfl
   | cons a r ih => simp [scL, ih]; omega
  rw [← hlen, List.take_left]
theorem ps_same (st : PS) (h : st.scope.dropLast = st.scope) : { st with scope := st.scope.dropLast } = st := by rw [h]
theorem PIn.dropS {s : ByteArray} {placed : Bool} {pb : Nat} {w : World} {nv ov : Value} {st : PS} {g n cap : Nat} (h : PIn s placed pb w (.slice (some ⟨g, 0, none⟩) n cap) nv ov st) (hgp : g ≠ pb)
  (ho : w.ownsRow 0 264 2 (.slice (some ⟨g, 0, none⟩) (n - 1) cap) (n - 1) (st.scope.dropLast.flatMap scL)) (hn : n = st.scope.length) :
  PFr pb pb w (w.setCell ⟨pb, 5, none⟩ (.slice (some ⟨g, 0, none⟩) (n - 1) cap)).drew (.slice (some ⟨g, 0, none⟩) n cap) nv ov (.slice (some ⟨g, 0, none⟩) (n - 1) cap) nv ov ∧
  PIn s placed pb (w.setCell ⟨pb, 5, none⟩ (.slice (some ⟨g, 0, none⟩) (n - 1) cap)).drew (.slice (some ⟨g, 0, none⟩) (n - 1) cap) nv ov { st with scope := st.scope.dropLast } := by
 obtain ⟨fr, y1, y2, y3⟩ := h.y
 have kp : ∀ k, k ≠ pb → (w.setCell ⟨pb, 5, none⟩ (.slice (some ⟨g, 0, none⟩) (n - 1) cap)).drew.heap[k]? = w.heap[k]? := fun k hk => blk_other _ _ (by simpa using hk)
 refine ⟨⟨rfl, rfl, rfl, by show _ ≤ (w.setCell _ _).heap.size; simp only [World.setCell, Array.size_modify]; omega, fun k _ hp _ _ _ _ => kp k hp, fun _ h => Or.inl h, fun _ h => Or.inl h, fun _ h => Or.inl h⟩, ?_⟩
 refine ⟨⟨fr, y1, y2, blk_set y3 5 _⟩, ?_, owns_blk h.nd (fun k hk => kp k (fun e => h.ny (by rw [hk, e]))), owns_blk h.op (fun k hk => kp k (fun e => h.oy (by rw [hk, e]))), by simp only [Value.ownBlock, ne_eq, Option.some.injEq]; exact hgp, h.ny, h.oy, fun k hk => h.sn k hk, fun k hk => h.so k hk, h.no⟩
 have := owns_blk (w' := (w.setCell ⟨pb, 5, none⟩ (.slice (some ⟨g, 0, none⟩) (n - 1) cap)).drew) ho (fun k hk => kp k (by simp only [Value.ownBlock, Option.some.injEq] at hk; omega))
 simp only [List.length_dropLast, ← hn]
 exact this
set_option maxRecDepth 100000 in
set_option maxHeartbeats 4000000 in
theorem unbind_any (s : ByteArray) (placed : Bool) (pb : Nat) (w : World) (sv nv ov : Value) (st : PS) (hl : st.scope.length ≤ 9000) (h : PIn s placed pb w sv nv ov st) :
  Calls Tryz.prog 207 #[ptr pb] w fun v w' => v = .returned (.tuple #[]) ∧ ∃ sv', PFr pb pb w w' sv nv ov sv' nv ov ∧ PIn s placed pb w' sv' nv ov { st with scope := st.scope.dropLast } := by
 obtain ⟨fr, hf1, hf2, hf3⟩ := h.y
 have hpb := blk_lt hf3
 have y5 : w.cell? ⟨pb, 5, none⟩ = some sv := by rw [blk_cell hf3]; rfl
 have f5 : w.frozen? ⟨pb, 5, none⟩ = false := blk_free hf3 5
 obtain ⟨n, hn⟩ : ∃ n, n = st.scope.length := ⟨_, rfl⟩
 have hsc := h.sc
 rw [← hn] at hsc hl
 show Calls _ _ #[Value.pointer (some ⟨pb, 0, none⟩)] w _
 by_cases h0 : n = 0
 ·have hnil : st.scope = [] := List.length_eq_zero_iff.1 (by omega)
  have hst := ps_same st (by rw [hnil]; rfl)
  rw [hst]
  obtain ⟨ao, cap, rfl⟩ : ∃ ao cap, sv = .slice ao n cap := by
   rcases hsc.2 with ⟨h1, h2⟩ | ⟨g, cap, cur, h1, _⟩
   ·exact ⟨none, 0, by rw [h1, h0]⟩
   ·exact ⟨_, _, h1⟩
  have HH : Hid _ := h
  clear h hsc hf3 hst hnil hn
  go_enter Tryz.func207, Tryz.ntmps207
  go_wp2
  refine bodyPost_end (v := .tuple #[]) (by simp [results, Tryz.results207, go_sem]) rfl ⟨rfl, _, PFr.refl _ _ _ _ _ _, HH.out⟩
 ·obtain ⟨g, cap, rfl⟩ : ∃ g cap, sv = .slice (some ⟨g, 0, none⟩) n cap := by
   rcases hsc.2 with ⟨h1, h2⟩ | ⟨g, cap, cur, h1, _⟩
   ·omega
   ·exact ⟨_, _, h1⟩
  have hcap : n ≤ cap := by
   rcases hsc.2 with ⟨h1, h2⟩ | ⟨g', cap', cur, h1, _, _, h3, _⟩
   ·omega
   ·simp only [Value.slice.injEq] at h1; omega
  have hcapm : cap ≤ maxLen := by
   rcases hsc.2 with ⟨h1, h2⟩ | ⟨g', cap', cur, h1, _, _, _, h3, _⟩
   ·omega
   ·simp only [Value.slice.injEq] at h1; omega
  unfold maxLen at hcapm
  have hgp : g ≠ pb := fun e => h.sy (by rw [e]; rfl)
  have HO : Hid (w.ownsRow 0 264 2 (.slice (some ⟨g, 0, none⟩) (n - 1) cap) (n - 1) (st.scope.dropLast.flatMap scL)) := by
   have := owns_less hsc (n - 1) (by omega)
   rw [hn, flat_drop] at this
   rw [hn]; exact this
  have HH : Hid _ := h
  have HF3 : Hid _ := hf3
  have HN : Hid _ := hn
  clear h hsc hf3 hf1 hf2 hn
  go_enter Tryz.func207, Tryz.ntmps207
  go_wp2
  go_region
  all_goals
   go_wp2
   have hd := PIn.dropS HH.out hgp HO.out HN.out
   have HD : Hid _ := hd
   refine bodyPost_end (v := .tuple #[]) (by simp [results, Tryz.results207, go_sem]) rfl ⟨rfl, (.slice (some ⟨g, 0, none⟩) (n - 1) cap), ?_⟩
   exact HD.out
def Bd0 (st : PS) : Prop := st.scope.length + st.l.length ≤ 9000 ∧ st.nodes.length + st.l.length ≤ 9000 ∧ st.opened.length + 4 * st.l.length ≤ 50000
def Bd1 (st : PS) : Prop := st.scope.length + st.l.length ≤ 8999 ∧ st.nodes.length + st.l.length ≤ 8999 ∧ st.opened.length + 4 * st.l.length ≤ 49997
theorem Bd1.to {a b : PS} {j : Nat} (h : Bd1 a) (g : Gs a b j 0) (hj : j ≤ 3) : Bd0 b := by
 obtain ⟨h1, h2, h3⟩ := h
 exact ⟨by rw [g.sc]; have := g.l; omega, by have := g.nd; omega, by have := g.op; omega⟩
theorem Bd1.on {a b : PS} (h : Bd1 a) (g : Gs a b 0 0) : Bd1 b := by
 obtain ⟨h1, h2, h3⟩ := h
 exact ⟨by rw [g.sc]; have := g.l; omega, by have := g.nd; omega, by have := g.op; omega⟩
def EOk (s : ByteArray) (placed : Bool) (pb : Nat) (pE : PS → Int × PS) (m : Nat) : Prop :=
 ∀ (w : World) (sv nv ov : Value) (st : PS), PIn s placed pb w sv nv ov st → st.l.length ≤ m → Bd0 st → Calls Tryz.prog 123 #[ptr pb] w fun v w' => v = .returned (.int .i64 (pE st).1) ∧
  ∃ sv' nv' ov', PFr pb pb w w' sv nv ov sv' nv' ov' ∧ PIn s placed pb w' sv' nv' ov' (pE st).2
set_option maxRecDepth 100000 in
set_option maxHeartbeats 4000000 in
theorem body_any (s : ByteArray) (placed : Bool) (pb : Nat) (pE : PS → Int × PS) (m : Nat) (hE : EOk s placed pb pE m) (hG : GrAll pE m) (w : World) (sv nv ov : Value) (st : PS) (u : List UInt8) (src : Int) (hm : st.l.length ≤ m)
  (hl : st.scope.length + st.l.length ≤ 8999) (hb : Bd0 st) (h : PIn s placed pb w sv nv ov st) :
  Calls Tryz.prog 206 #[ptr pb, .string (bs u), .int .i64 src] w fun v w' => v = .returned (.int .i64 (pBody pE u src st).1) ∧ ∃ sv' nv' ov', PFr pb pb w w' sv nv ov sv' nv' ov' ∧ PIn s placed pb w' sv' nv' ov' (pBody pE u src st).2 := by
 obtain ⟨i0, hi, hz0, hz1, hz2⟩ := info_parts Tryz.infoBind
 have HI : Hid _ := hi
 have HZ0 : Hid _ := hz0
 have HZ1 : Hid _ := hz1
 have HZ2 : Hid _ := hz2
 clear hi hz0 hz1 hz2
 obtain ⟨fr, hf1, hf2, hf3⟩ := h.y
 have hpb := blk_lt hf3
 have y5 : w.cell? ⟨pb, 5, none⟩ = some sv := by rw [blk_cell hf3]; rfl
 have hEx := fun w sv nv ov h => hE w sv nv ov { st with scope := st.scope ++ [(u, src)] } h hm ⟨by simp; omega, hb.2.1, hb.2.2⟩
 have hgr := hG { st with scope := st.scope ++ [(u, src)] } hm
 have hun := fun w sv nv ov h => unbind_any s placed pb w sv nv ov (pE { st with scope := st.scope ++ [(u, src)] }).2 (by rw [hgr.sc]; simp; omega) h
 unfold ptr at hEx hun
 have HEX : Hid _ := hEx
 have HUN : Hid _ := hun
 have HPB : Hid (pBody pE u src st = ((pE { st with scope := st.scope ++ [(u, src)] }).1, { (pE { st with scope := st.scope ++ [(u, src)] }).2 with scope := (pE { st with scope := st.scope ++ [(u, src)] }).2.scope.dropLast })) := rfl
 have HH : Hid _ := h
 have HF3 : Hid _ := hf3
 have hW : Below w.heap.size w (w.alloc (.cells #[.string (bs u), .int .i64 src] 264)) := (Below.refl _ w).alloc (Nat.le_refl _) _
 have HW : Hid _ := hW
 have HOWN : Hid ((w.alloc (.cells #[.string (bs u), .int .i64 src] 264)).ownsRow 0 264 2 sv st.scope.length (st.scope.flatMap scL)) := owns_below h.sc hW
 have HYW : Hid ((w.alloc (.cells #[.string (bs u), .int .i64 src] 264)).heap[pb]? = some (.cells (psCells s placed fr st.fl.isSome (st.fl.getD 0) sv nv ov) 150 (0, 0))) := blk_alloc _ hf3
 clear hf1 hf2 hf3 h hW hEx hun hgr hE hG
 show Calls _ _ #[Value.pointer (some ⟨pb, 0, none⟩), _, _] w _
 go_enter Tryz.func206, Tryz.ntmps206
 go_wp2_with (at_builtin; go_must (refine app_own _ rfl (.tmp 12) (.tmp 16) 148 rfl 264 i0 _ 2 24 Tryz.undBinds HI.out HZ0.out HZ1.out HZ2.out rfl (by decide) sv st.scope.length (st.scope.flatMap scL) rfl HOWN.out ⟨w.heap.size, 0, none⟩ 1 1 (scL (u, src)) rfl rfl ?c1 ?c2 (by decide) ?c3 ?c4 ?_))
 case c1 =>
  intro j v hj
  rw [← hj]
  first | rfl | exact alloc_cell_at _ _ _ _
 case c2 => intro v hv; simp only [scL, List.mem_cons, List.not_mem_nil, or_false] at hv; rcases hv with rfl | rfl <;> rfl
 case c3 => unfold maxLen; omega
 case c4 => omega
 intro g cap w' hown hgrow hor
 have hpb' := grown_blk hgrow HYW.out HH.out.sy
 have c5 : w'.cell? ⟨pb, 5, none⟩ = some sv := by rw [blk_cell hpb']; rfl
 have f5 := blk_free hpb' 5
 have hadd := PIn.addS HH.out (u, src) HW.out hgrow hown (by rw [show (w.alloc (.cells #[.string (bs u), .int .i64 src] 264)).heap.size = w.heap.size + 1 from by simp]; exact hor)
 have hE1 := HEX.out _ _ _ _ hadd.2
 have HADD : Hid _ := hadd.1
 clear hown hgrow hor hpb' hadd
 go_wp2_with fail
 refine hE1.mono ?_
 rintro _ w2 ⟨rfl, sv2, nv2, ov2, hfr2, hin2⟩
 have hU := HUN.out _ _ _ _ hin2
 have HF2 : Hid _ := HADD.out.trans hfr2
 clear hfr2 hin2 hE1
 go_wp2_with fail
 refine hU.mono ?_
 rintro _ w3 ⟨rfl, sv3, hfr3, hin3⟩
 have HR : Hid _ := HF2.out.trans hfr3
 have HI3 : Hid _ := hin3
 clear hfr3 hin3 hU
 go_wp2
 go_ret
 exact ⟨rfl, _, _, _, HR.out, HI3.out⟩
end Go.Proofs.YtpicaknklgccoaaGreatDoor
