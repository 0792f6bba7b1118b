import Derived.Test.YtpicaknklgccoaaDoorX20
import Derived.Test.YtpicaknklgccoaaDoorX10
import Derived.Test.YtpicaknklgccoaaDoorX8
import Derived.Test.YtpicaknklgccoaaDoorX5
import Derived.Test.YtpicaknklgccoaaDoorX3
import Derived.Test.YtpicaknklgccoaaDoorX2
namespace Go.Proofs.YtpicaknklgccoaaDoor
theorem errS_at (st : TSt) (e p : Nat) (he : e ≠ 0) : (errS st e p).e = 0 → (errS st e p).at_ = st.at_ := by
 intro h; exact absurd h (errS_e st e p he)
theorem fin_at (id p : Nat) (x : Ty × TSt) : (fin id p x).2.e = 0 → x.2.e = 0 ∧ (fin id p x).2.at_ = x.2.at_ := by
 unfold fin
 simp only
 split
 ·intro h; exact absurd h (errS_e _ _ _ (by decide))
 ·intro h; exact ⟨h, rfl⟩
theorem madeT_at (cls : List Nat) (k : Kw) (p site : Nat) (ks : List Ty) (st : TSt) : (madeT cls k p site ks st).2.e = 0 → (madeT cls k p site ks st).2.at_ = st.at_ := by
 have err : (errS st 5 p).e = 0 → (errS st 5 p).at_ = st.at_ := errS_at st 5 p (by decide)
 unfold madeT
 split <;> (first | (intro _; rfl) | exact err | (split <;> first | (intro _; rfl) | exact err))
theorem stay0 {a b : TSt} (h : a.e ≠ 0 → b.e = a.e ∧ b.at_ = a.at_) (hb : b.e = 0) : a.e = 0 := by
 by_cases e : a.e = 0
 ·exact e
 ·exact absurd ((h e).1.symm.trans hb) e
mutual
theorem tyFind_at (cls : List Nat) : ∀ (t : PT) (id site : Nat) (env : TEnv) (st : TSt), (tyFind cls t id site env st).2.e = 0 → (tyFind cls t id site env st).2.at_ = st.at_
 | .num p s, id, site, env, st => by
  simp only [tyFind]; intro h; exact (fin_at id p _ h).2
 | .name p s, id, site, env, st => by
  simp only [tyFind]
  intro h
  obtain ⟨h1, h2⟩ := fin_at id p _ h
  rw [h2]
  revert h1
  split
  ·intro _; rfl
  ·exact errS_at st 4 p (by decide)
 | .node p k nm rg kids, id, site, env, st => by
  simp only [tyFind]
  intro h
  obtain ⟨h1, h2⟩ := fin_at id p _ h
  rw [h2]
  revert h1
  split
  ·exact tyLet_at cls nm kids (id + 1) site env st
  ·have hx : (if k = .loop then tyLoop cls nm kids (id + 1) site env st else tyKids cls kids (id + 1) (site + if k = .pair then 1 else 0) env st).2.e = 0 → (if k = .loop then tyLoop cls nm kids (id + 1) site env st else tyKids cls kids (id + 1) (site + if k = .pair then 1 else 0) env st).2.at_ = st.at_ := by
    by_cases hk : k = .loop
    ·simp only [if_pos hk]; exact tyLoop_at cls nm kids _ _ env st
    ·simp only [if_neg hk]; exact tyKids_at cls kids _ _ env st
   generalize (if k = .loop then tyLoop cls nm kids (id + 1) site env st else tyKids cls kids (id + 1) (site + if k = .pair then 1 else 0) env st) = x at hx
   split
   ·rename_i hne; intro h0; exact absurd h0 hne
   ·rename_i hne
    have h0 : x.2.e = 0 := by simpa using hne
    intro h1
    rw [madeT_at cls k p site x.1 x.2 h1, hx h0]
theorem tyKids_at (cls : List Nat) : ∀ (ts : List PT) (id site : Nat) (env : TEnv) (st : TSt), (tyKids cls ts id site env st).2.e = 0 → (tyKids cls ts id site env st).2.at_ = st.at_
 | [], _, _, _, st => by simp [tyKids]
 | a :: r, id, site, env, st => by
  simp only [tyKids]
  intro h
  have h2 := tyKids_at cls r (id + a.cnt) (site + a.prs) env (tyFind cls a id site env st).2 h
  have h0 := stay0 (fun e => tyKids_stay cls r (id + a.cnt) (site + a.prs) env _ e) h
  rw [h2, tyFind_at cls a id site env st h0]
theorem tyLet_at (cls : List Nat) (nm : List UInt8) : ∀ (ts : List PT) (id site : Nat) (env : TEnv) (st : TSt), (tyLet cls nm ts id site env st).2.e = 0 → (tyLet cls nm ts id site env st).2.at_ = st.at_
 | [a, b], id, site, env, st => by
  simp only [tyLet]
  intro h
  have h2 := tyFind_at cls b (id + a.cnt) (site + a.prs) (env ++ [(nm, (tyFind cls a id site env st).1)]) (tyFind cls a id site env st).2 h
  have h0 := stay0 (fun e => tyFind_stay cls b (id + a.cnt) (site + a.prs) _ _ e) h
  rw [h2, tyFind_at cls a id site env st h0]
 | [], _, _, _, st => by simp [tyLet]
 | [_], _, _, _, st => by simp [tyLet]
 | _ :: _ :: _ :: _, _, _, _, st => by simp [tyLet]
theorem tyLoop_at (cls : List Nat) (nm : List UInt8) : ∀ (ts : List PT) (id site : Nat) (env : TEnv) (st : TSt), (tyLoop cls nm ts id site env st).2.e = 0 → (tyLoop cls nm ts id site env st).2.at_ = st.at_
 | [a, b, c], id, site, env, st => by
  simp only [tyLoop]
  intro h
  have h3 := tyFind_at cls c _ _ _ _ h
  have h0 := stay0 (fun e => tyFind_stay cls c _ _ _ _ e) h
  have h2 := tyFind_at cls b _ _ _ _ h0
  have h00 := stay0 (fun e => tyFind_stay cls b _ _ _ _ e) h0
  rw [h3, h2, tyFind_at cls a id site env st h00]
 | [], _, _, _, st => by simp [tyLoop]
 | [_], _, _, _, st => by simp [tyLoop]
 | [_, _], _, _, _, st => by simp [tyLoop]
 | _ :: _ :: _ :: _ :: _, _, _, _, st => by simp [tyLoop]
end
theorem prog_ans {e : PT} {ns : List NR} (hna : NA [] e 0 ns) : progAns ns (opn e 0) = chkAns e := by
 have hpr : (opn e 0).filterMap (pairAt ns) = e.prl.map (·.1) := opn_pairs ns e [] 0 ns hna (fun j _ => by rw [Nat.zero_add])
 have hlen : ((opn e 0).filterMap (pairAt ns)).length = e.prs := by rw [hpr, List.length_map, prl_len]
 unfold progAns chkAns manyAns
 rw [hlen]
 by_cases hm : 100 < e.prs
 ·simp only [if_pos hm]
  rw [if_pos (by decide), hpr, List.getElem?_map]
 ·simp only [if_neg hm]
  rw [if_neg (by decide), ckK_eq ns rel0]
  have hA := tyck (List.range e.prs) (fun x hx => by rw [List.mem_range] at hx; omega) e [] ns [] (st0 e) [] 0 0 hna trivial rfl ⟨by simp, by simp⟩
  have hat := tyFind_at (List.range e.prs) e 0 0 [] (st0 e)
  rcases hA with ⟨h0, h1, _⟩ | ⟨_, h1⟩
  ·rw [h1, h0, hat h0]; rfl
  ·exact h1
theorem op_ok {e : PT} {ns : List NR} (hna : NA [] e 0 ns) : OpOk ns (opn e 0) := by
 have hl := hna.len
 refine ⟨by rw [opn_len, hl], fun x hx => ?_⟩
 have := opn_in e 0 x hx
 simp only [Nat.zero_add] at this
 omega
end Go.Proofs.YtpicaknklgccoaaDoor
namespace Go.Proofs.YtpicaknklgccoaaDoor
open Go.RowKit
theorem kept1 {w w2 : World} {A : Obj} (hb : Below (w.alloc A).heap.size (w.alloc A) w2) : w2.heap[w.heap.size]? = some A := by
 rw [hb.block w.heap.size (by simp)]; exact blk_new w A
theorem below1 {w w2 : World} {A : Obj} (hb : Below (w.alloc A).heap.size (w.alloc A) w2) : Below w.heap.size w w2 := ((Below.refl _ w).alloc (Nat.le_refl _) A).trans (hb.mono (by simp))
set_option maxRecDepth 100000 in
set_option maxHeartbeats 8000000 in
theorem ParsePlaced_any (s : ByteArray) (w : World) (hs : s.size ≤ 9000) : Calls Tryd.prog 29 #[.string s] w fun v w' => ParseAns s true w v w' := by
 have hpr := program_any s true (w.heap.size + 1) hs _ _ _ _ _ (tokens_len s hs) (parse0 s true w (.cells #[.slice none 0 0, .slice none 0 0] 36))
 unfold ptr psCells at hpr
 unfold ParseAns
 generalize pProg true s.size (tokens s.data.toList) = P at *
 go_enter Tryd.func29, Tryd.ntmps29
 go_wp2_with fail
 refine hpr.mono ?_
 rintro v w1 ⟨sv1, nv1, ov1, hfr, hin, hv⟩
 obtain ⟨hb, hr, hsz⟩ := hfr.toBelow
 have r0 : w1.cell? ⟨w.heap.size, 0, none⟩ = some (.slice none 0 0) := by rw [blk_cell hr]; rfl
 have r1 : w1.cell? ⟨w.heap.size, 1, none⟩ = some (.slice none 0 0) := by rw [blk_cell hr]; rfl
 have f0 := blk_free hr 0
 have f1 := blk_free hr 1
 have HB : Hid _ := hb
 rcases hv with ⟨q, hfl, rfl⟩ | ⟨hfl, rfl⟩
 ·have HFL : Hid _ := hfl
  unfold treeV
  clear hfl hfr hin hb hr hpr
  go_wp2
  refine bodyPost_ret (v := .tuple #[.agg #[.slice none 0 0, .slice none 0 0], .int .i64 q, .bool false]) (by simp [results, Tryd.results29, go_sem, r0, r1]) rfl ⟨?_, Or.inl ⟨q, HFL.out, rfl⟩⟩
  exact (HB.out.setCell (p := ⟨w.heap.size, 0, none⟩) (Nat.le_refl _) _).setCell (p := ⟨w.heap.size, 1, none⟩) (Nat.le_refl _) _
 ·have HFL : Hid _ := hfl
  obtain ⟨x6, n6, c6, e6⟩ : ∃ a n c, nv1 = .slice a n c := by
   rcases hin.nd.2 with ⟨h1, _⟩ | ⟨g, cap, cur, h1, _⟩
   ·exact ⟨_, _, _, h1⟩
   ·exact ⟨_, _, _, h1⟩
  obtain ⟨x7, n7, c7, e7⟩ : ∃ a n c, ov1 = .slice a n c := by
   rcases hin.op.2 with ⟨h1, _⟩ | ⟨g, cap, cur, h1, _⟩
   ·exact ⟨_, _, _, h1⟩
   ·exact ⟨_, _, _, h1⟩
  have hrn : ∀ k, nv1.ownBlock = some k → k ≠ w.heap.size := fun k hk => by
   rcases hfr.n k hk with e | e
   ·simp [Value.ownBlock] at e
   ·simp at e; omega
  have hro : ∀ k, ov1.ownBlock = some k → k ≠ w.heap.size := fun k hk => by
   rcases hfr.o k hk with e | e
   ·simp [Value.ownBlock] at e
   ·simp at e; omega
  subst e6
  subst e7
  have HT : Hid (TreeIn ((w1.setCell ⟨w.heap.size, 0, none⟩ (.slice x6 n6 c6)).setCell ⟨w.heap.size, 1, none⟩ (.slice x7 n7 c7)) (.slice x6 n6 c6) (.slice x7 n7 c7) P.nodes P.opened) := by
   refine ⟨owns_blk hin.nd (fun k hk => ?_), owns_blk hin.op (fun k hk => ?_)⟩
   ·rw [blk_other _ _ (by simpa using hrn k hk), blk_other _ _ (by simpa using hrn k hk)]
   ·rw [blk_other _ _ (by simpa using hro k hk), blk_other _ _ (by simpa using hro k hk)]
  unfold treeV
  clear hfl hfr hin hb hr hpr hrn hro
  go_wp2
  refine bodyPost_ret (v := .tuple #[.agg #[.slice x6 n6 c6, .slice x7 n7 c7], .int .i64 0, .bool true]) (by simp [results, Tryd.results29, go_sem, r0, r1]) rfl ⟨?_, Or.inr ⟨HFL.out, _, _, rfl, HT.out⟩⟩
  exact (HB.out.setCell (p := ⟨w.heap.size, 0, none⟩) (Nat.le_refl _) _).setCell (p := ⟨w.heap.size, 1, none⟩) (Nat.le_refl _) _
set_option maxRecDepth 100000 in
set_option maxHeartbeats 4000000 in
theorem parsePlaced_long (s : ByteArray) (w : World) (hs : 9000 < s.size) (hm : s.size ≤ maxLen) : Calls Tryd.prog 15 #[.string s] w fun v w' => v = .returned (.tuple #[treeV (.slice none 0 0) (.slice none 0 0), .int .i64 1, .int .i64 0]) ∧ Below w.heap.size w w' := by
 unfold maxLen at hm
 unfold treeV
 go_enter Tryd.func15, Tryd.ntmps15
 go_wp2
 refine bodyPost_ret (v := .tuple #[.agg #[.slice none 0 0, .slice none 0 0], .int .i64 1, .int .i64 0]) (by simp [results, Tryd.results15, go_sem]) rfl ⟨rfl, (Below.refl _ _).alloc (Nat.le_refl _) _⟩
set_option maxRecDepth 100000 in
set_option maxHeartbeats 4000000 in
theorem parsePlaced_form (s : ByteArray) (w : World) (hs : s.size ≤ 9000) (q : Nat) (hq : formOf true s.data.toList = some q) : Calls Tryd.prog 15 #[.string s] w fun v w' => v = .returned (.tuple #[treeV (.slice none 0 0) (.slice none 0 0), .int .i64 2, .int .i64 q]) ∧ Below w.heap.size w w' := by
 have hfl : (pProg true s.size (tokens s.data.toList)).fl = some q := by
  unfold formOf at hq
  rw [size_list] at hq
  exact prog_no hq
 have hpp := fun w => ParsePlaced_any s w (by omega)
 have HFL : Hid _ := hfl
 clear hfl hq
 unfold treeV
 go_enter Tryd.func15, Tryd.ntmps15
 go_wp2_with fail
 refine (hpp _).mono ?_
 rintro v w1 ⟨hb, hv⟩
 have hr := kept1 hb
 have r0 : w1.cell? ⟨w.heap.size, 0, none⟩ = some (.slice none 0 0) := by rw [blk_cell hr]; rfl
 have r1 : w1.cell? ⟨w.heap.size, 1, none⟩ = some (.slice none 0 0) := by rw [blk_cell hr]; rfl
 have f0 := blk_free hr 0
 have f1 := blk_free hr 1
 have hlt := blk_lt hr
 have HB : Hid _ := below1 hb
 rcases hv with ⟨q', hq', rfl⟩ | ⟨hq', _⟩
 ·have e : q' = q := by rw [HFL.out] at hq'; cases hq'; rfl
  subst e
  unfold treeV
  have hW := blk_alloc (.cells #[.slice none 0 0, .slice none 0 0] 36) (blk_set (blk_set hr 0 (.slice none 0 0)) 1 (.slice none 0 0))
  have s0 : (((w1.setCell ⟨w.heap.size, 0, none⟩ (.slice none 0 0)).setCell ⟨w.heap.size, 1, none⟩ (.slice none 0 0)).alloc (.cells #[.slice none 0 0, .slice none 0 0] 36)).cell? ⟨w.heap.size, 0, none⟩ = some (.slice none 0 0) := by rw [blk_cell hW]; rfl
  have s1 : (((w1.setCell ⟨w.heap.size, 0, none⟩ (.slice none 0 0)).setCell ⟨w.heap.size, 1, none⟩ (.slice none 0 0)).alloc (.cells #[.slice none 0 0, .slice none 0 0] 36)).cell? ⟨w.heap.size, 1, none⟩ = some (.slice none 0 0) := by rw [blk_cell hW]; rfl
  have S0 : Hid _ := s0
  have S1 : Hid _ := s1
  clear hq' hb hr hpp HFL hW s0 s1
  go_wp2
  refine bodyPost_ret (v := .tuple #[.agg #[.slice none 0 0, .slice none 0 0], .int .i64 2, .int .i64 q']) (by have s0 := S0.out; have s1 := S1.out; simp [results, Tryd.results15, go_sem, s0, s1]) rfl ⟨rfl, ?_⟩
  exact ((HB.out.setCell (p := ⟨w.heap.size, 0, none⟩) (Nat.le_refl _) _).setCell (p := ⟨w.heap.size, 1, none⟩) (Nat.le_refl _) _).alloc (by have := HB.out.size; simp [World.setCell]; omega) _
 ·rw [HFL.out] at hq'; cases hq'
end Go.Proofs.YtpicaknklgccoaaDoor
namespace Go.Proofs.YtpicaknklgccoaaDoor
open Go.Lib (decDigits)
def RgTame (t : Tk) : Prop := t.c = .reg → 0 ≤ valueL t.s ∧ valueL t.s ≤ 999
theorem tok_rg (l : List UInt8) : (tokenOf l).2 = .reg → 0 ≤ valueL (l.take (tokenOf l).1) ∧ valueL (l.take (tokenOf l).1) ≤ 999 := by
 unfold tokenOf
 split
 ·intro h
  simp only [wordCl] at h
  split at h
  ·simp at h
  ·split at h <;> simp at h
 ·split
  ·intro h
   simp only at h
   split at h <;> simp at h
  ·split
   ·simp
   ·rename_i c r _ _
    split
    ·rename_i hc
     intro h
     simp only at h
     split at h
     ·rename_i hn
      simp only [numeralB, Bool.and_eq_true, decide_eq_true_eq] at hn
      have hf := dig_fold (r.take (run 48 57 r)) 0 (fun c hc => run_memT 48 57 r c hc) (by omega)
      have hp : 10 ^ (r.take (run 48 57 r)).length ≤ 10 ^ 3 := Nat.pow_le_pow_right (by omega) hn.1.2
      simp only [List.take_succ_cons]
      unfold valueL
      rw [List.foldl_cons, if_pos hc]
      omega
     ·simp at h
    ·intro h
     simp only at h
     split at h
     ·simp at h
     ·split at h <;> simp at h
theorem tokens_rg (l : List UInt8) : ∀ t ∈ tokens l, RgTame t := by
 intro t ht
 obtain ⟨l', _, hs, hc⟩ := toks_mem _ _ _ t ht
 unfold RgTame
 rw [hs, hc]
 exact tok_rg l'
mutual
def PT.rg3 : PT → Prop
 | .num _ _ => True
 | .name _ _ => True
 | .node _ _ _ rg kids => (0 ≤ valueL rg ∧ valueL rg ≤ 999) ∧ rg3L kids
def rg3L : List PT → Prop
 | [] => True
 | t :: r => t.rg3 ∧ rg3L r
end
mutual
theorem PE.rg3 {placed : Bool} : ∀ {l : List Tk} {e : PT} {r : List Tk}, PE placed l e r → (∀ t ∈ l, RgTame t) → e.rg3 ∧ ∀ t ∈ r, RgTame t
 | _, _, _, .num _, ha => ⟨by simp [PT.rg3], fun x hx => ha x (by simp [hx])⟩
 | _, _, _, .name _, ha => ⟨by simp [PT.rg3], fun x hx => ha x (by simp [hx])⟩
 | _, _, _, .node _ _ _ h4, ha => by
  have h := PW.rg3 h4 (fun x hx => ha x (by simp [hx]))
  exact ⟨by simp only [PT.rg3]; exact ⟨h.1, h.2.1⟩, h.2.2⟩
theorem PW.rg3 {placed : Bool} : ∀ {ws : List Wt} {l : List Tk} {nm rg : List UInt8} {kids : List PT} {r : List Tk}, PW placed ws l nm rg kids r → (∀ t ∈ l, RgTame t) → (0 ≤ valueL rg ∧ valueL rg ≤ 999) ∧ rg3L kids ∧ ∀ t ∈ r, RgTame t
 | _, _, _, _, _, _, .nil, ha => ⟨by decide, by simp [rg3L], ha⟩
 | _, _, _, _, _, _, .close _ h1, ha => PW.rg3 h1 (fun x hx => ha x (by simp [hx]))
 | _, _, _, _, _, _, .name _ h1, ha => PW.rg3 h1 (fun x hx => ha x (by simp [hx]))
 | _, _, _, _, _, _, .region (t := t) h h1, ha => by
  have h' := PW.rg3 h1 (fun x hx => ha x (by simp [hx]))
  exact ⟨ha t (by simp) h, h'.2⟩
 | _, _, _, _, _, _, .e h0 h1, ha => by
  have a := PE.rg3 h0 ha
  have b := PW.rg3 h1 a.2
  exact ⟨b.1, by simp only [rg3L]; exact ⟨a.1, b.2.1⟩, b.2.2⟩
end
mutual
theorem prl_rg3 : ∀ t : PT, t.rg3 → ∀ x ∈ t.prl, 0 ≤ valueL x.2 ∧ valueL x.2 ≤ 999
 | .num _ _, _, x, hx => by simp [PT.prl] at hx
 | .name _ _, _, x, hx => by simp [PT.prl] at hx
 | .node p k _ rg kids, h, x, hx => by
  simp only [PT.rg3] at h
  simp only [PT.prl, List.mem_append] at hx
  rcases hx with hx | hx
  ·split at hx
   ·rw [List.mem_singleton] at hx; subst hx; exact h.1
   ·simp at hx
  ·exact prlL_rg3 kids h.2 x hx
theorem prlL_rg3 : ∀ ts : List PT, rg3L ts → ∀ x ∈ prlL ts, 0 ≤ valueL x.2 ∧ valueL x.2 ≤ 999
 | [], _, x, hx => by simp [prlL] at hx
 | t :: r, h, x, hx => by
  simp only [rg3L] at h
  simp only [prlL, List.mem_append] at hx
  rcases hx with hx | hx
  ·exact prl_rg3 t h.1 x hx
  ·exact prlL_rg3 r h.2 x hx
end
def clsOf (e : PT) : List Nat := e.prl.map (fun x => (valueL x.2).toNat)
theorem clsOf_len (e : PT) : (clsOf e).length = e.prs := by unfold clsOf; rw [List.length_map, prl_len]
theorem clsOf_lt {e : PT} (h : e.rg3) : ∀ x ∈ clsOf e, x < 1000 := by
 intro x hx
 unfold clsOf at hx
 rw [List.mem_map] at hx
 obtain ⟨y, hy, rfl⟩ := hx
 have := prl_rg3 e h y hy
 omega
end Go.Proofs.YtpicaknklgccoaaDoor
namespace Go.Proofs.YtpicaknklgccoaaDoor
open Go.RowKit
set_option maxHeartbeats 400000 in
theorem StudyP_long (s : ByteArray) (w : World) (hs : 9000 < s.size) (hm : s.size ≤ maxLen) :
  Calls Tryd.prog 14 #[.string s, .bool true] w fun v w' => v = .returned (.tuple #[.pointer none, .pointer none, .int .i64 1, .int .i64 0]) ∧ Below w.heap.size w w' := by
 unfold maxLen at hm
 go_enter Tryd.func14, Tryd.ntmps14
 go_wp2
 refine bodyPost_ret (v := .tuple #[.pointer none, .pointer none, .int .i64 1, .int .i64 0]) (by simp [results, Tryd.results14, go_sem]) rfl ⟨rfl, Below.refl _ _⟩
set_option maxHeartbeats 400000 in
theorem StudyP_form (s : ByteArray) (w : World) (hs : s.size ≤ 9000) (q : Nat) (hq : formOf true s.data.toList = some q) :
  Calls Tryd.prog 14 #[.string s, .bool true] w fun v w' => v = .returned (.tuple #[.pointer none, .pointer none, .int .i64 2, .int .i64 q]) ∧ Below w.heap.size w w' := by
 have hf := fun w => Form_any s true w (by omega)
 rw [hq] at hf
 simp only [formInt] at hf
 go_enter Tryd.func14, Tryd.ntmps14
 go_wp2_with (go_at_call 17; refine (hf _).mono ?_; rintro e w1 ⟨rfl, hb1⟩)
 refine bodyPost_ret (v := .tuple #[.pointer none, .pointer none, .int .i64 2, .int .i64 q]) (by simp [results, Tryd.results14, go_sem]) rfl ⟨rfl, hb1⟩
set_option maxRecDepth 100000 in
set_option maxHeartbeats 1000000 in
theorem StudyP_many (s : ByteArray) (w : World) (hs : s.size ≤ 9000) (e : PT) (hp : PE true (tokens s.data.toList) e []) (hn : formOf true s.data.toList = none) (hm : 100 < e.prs) :
  Calls Tryd.prog 14 #[.string s, .bool true] w fun v w' => ∃ q : Nat, v = .returned (.tuple #[.pointer none, .pointer none, .int .i64 3, .int .i64 q]) ∧ (e.prl[100]?).map (·.1) = some q ∧ Below w.heap.size w w' := by
 have hf := fun w => Form_any s true w (by omega)
 rw [hn] at hf
 simp only [formInt] at hf
 have hbu := fun w => Build_any s true e w (by omega) hp
 have hcnt := Study_len hp
 have hpa := fun b F w h => pairs_any e b F w (by omega) h
 have hpc := prs_cnt e
 unfold ptr at hbu hpa
 clear hp hn
 go_enter Tryd.func14, Tryd.ntmps14
 go_wp2_with (first
  | (go_at_call 17; refine (hf _).mono ?_; rintro _ w1 ⟨rfl, hb1⟩)
  | (go_at_call 18; refine (hbu _).mono ?_; rintro _ w2 ⟨b, rfl, hb2, hT2⟩))
 refine (hpa b _ w2 hT2).mono ?_
 rintro _ w3 ⟨g, cap, vs, rfl, hb3, ho3, hvs⟩
 obtain ⟨b', r, hv, hrec, hip, hsite, hmem⟩ := hvs 100 hm
 have hpr := prl_at e r 100 hmem hip hsite
 have hbw := blk_lt hrec.choose_spec
 have c1 : w3.cell? ⟨g, 100, none⟩ = some (.pointer (some ⟨b', 0, none⟩)) := by rw [ho3.cellAt 100 (by omega)]; exact hv
 have c2 : w3.cell? ⟨b', 1, none⟩ = some (.int .i64 r.p) := by rw [hb3.cell (p := ⟨b', 1, none⟩) hbw]; exact isRec_cells hrec
 have HB : Hid (Below w.heap.size w w3) := hb1.trans ((hb2.mono hb1.size).trans (hb3.mono (Nat.le_trans hb1.size hb2.size)))
 have HPR : Hid _ := hpr
 have hgw := World.block_lt_of_cell? _ _ c1
 clear hvs ho3 hv hrec hpr hmem hb1 hb2 hb3 hT2 hip hsite
 go_wp2
 go_quiet (fail)
 go_wp2
 refine bodyPost_ret (v := .tuple #[.pointer none, .pointer none, .int .i64 3, .int .i64 r.p]) (by simp [results, Tryd.results14, go_sem]) rfl ⟨r.p, rfl, HPR.out, HB.out.trans ⟨rfl, rfl, rfl, Nat.le_refl _, fun _ _ => rfl⟩⟩
set_option maxRecDepth 100000 in
set_option maxHeartbeats 2000000 in
theorem StudyP_ok (s : ByteArray) (w : World) (hs : s.size ≤ 9000) (e : PT) (hp : PE true (tokens s.data.toList) e []) (hn : formOf true s.data.toList = none) (hm : e.prs ≤ 100) (hit : ∀ w', Below w.heap.size w w' → ItoaOk w') :
  Calls Tryd.prog 14 #[.string s, .bool true] w fun v w' => ∃ b yb : Nat, v = .returned (.tuple #[ptr b, ptr yb, .int .i64 (tyFind (clsOf e) e 0 0 [] (st0 e)).2.e, .int .i64 (tyFind (clsOf e) e 0 0 [] (st0 e)).2.at_]) ∧
   Below w.heap.size w w' ∧ IsT w' (fun k => k < w'.heap.size) e 0 0 b ∧ ∃ (wz : World) (cv nv tv ov : Value), Below w.heap.size w wz ∧ IsT wz (fun k => k < wz.heap.size) e 0 0 b ∧ TyIn wz w' yb (clsOf e) cv nv tv ov [] (tyFind (clsOf e) e 0 0 [] (st0 e)).2 := by
 obtain ⟨i0, hi, hz0, hz1, hz2⟩ := info_parts Tryd.infoInt
 have HI : Hid _ := hi
 have HZ0 : Hid _ := hz0
 have HZ1 : Hid _ := hz1
 have HZ2 : Hid _ := hz2
 clear hi hz0 hz1 hz2
 have hf := fun w => Form_any s true w (by omega)
 rw [hn] at hf
 simp only [formInt] at hf
 have hbu := fun w => Build_any s true e w (by omega) hp
 have hcnt := Study_len hp
 have hpa := fun b F w h => pairs_any e b F w (by omega) h
 have hwf := hp.wf
 have hrg := (hp.rg3 (tokens_rg _)).1
 unfold ptr at hbu hpa
 have HWF : Hid _ := hwf
 obtain ⟨C, hC⟩ : ∃ C, C = clsOf e := ⟨_, rfl⟩
 rw [← hC]
 have HCC : Hid _ := hC
 clear hp hn hwf hC
 go_enter Tryd.func14, Tryd.ntmps14
 go_wp2_with (first
  | (go_at_call 17; refine (hf _).mono ?_; rintro _ w1 ⟨rfl, hb1⟩)
  | (go_at_call 18; refine (hbu _).mono ?_; rintro _ w2 ⟨b, rfl, hb2, hT2⟩))
 refine (hpa b _ w2 hT2).mono ?_
 rintro _ w3 ⟨g, cap, vs, rfl, hb3, ho3, hvs⟩
 have hT3 : IsT w3 (fun k => k < w3.heap.size) e 0 0 b := IsT.keep (fun k hk => Nat.lt_of_lt_of_le hk hb3.size) (fun k hk => hb3.block k hk) _ _ _ _ hT2
 have HT3 : Hid _ := hT3
 have HB : Hid (Below w.heap.size w w3) := hb1.trans ((hb2.mono hb1.size).trans (hb3.mono (Nat.le_trans hb1.size hb2.size)))
 have hw3 : w.heap.size ≤ w3.heap.size := HB.out.size
 obtain ⟨n, hnn⟩ : ∃ n, n = e.prs := ⟨_, rfl⟩
 rw [← hnn] at hm ⊢
 have HNN : Hid _ := hnn
 have hat : ∀ k, k < n → ∃ (b' x : Nat), C[k]? = some x ∧ w3.cell? ⟨g, k, none⟩ = some (.pointer (some ⟨b', 0, none⟩)) ∧ w3.cell? ⟨b', 3, none⟩ = some (.int .i64 x) ∧ b' < w3.heap.size ∧ g < w3.heap.size := by
  intro k hk
  obtain ⟨b', r, hv, hrec, hip, hsite, hmem⟩ := hvs k (by omega)
  obtain ⟨_, _, rg, hpr, hrn⟩ := (recs_pairs e 0 0).2.1 r hmem hip
  rw [hsite, Nat.sub_zero] at hpr
  have hr3 := prl_rg3 e hrg _ (List.mem_of_getElem? hpr)
  obtain ⟨kv, hblk⟩ := hrec
  have hb' := blk_lt hblk
  have c1 : w3.cell? ⟨g, k, none⟩ = some (.pointer (some ⟨b', 0, none⟩)) := by rw [ho3.cellAt k (by omega)]; exact hv
  refine ⟨b', (valueL rg).toNat, by rw [HCC.out]; unfold clsOf; rw [List.getElem?_map, hpr]; rfl, c1, ?_, by have := hb3.size; omega, World.block_lt_of_cell? _ _ c1⟩
  rw [hb3.cell (p := ⟨b', 3, none⟩) hb', blk_cell hblk]
  have : ((valueL rg).toNat : Int) = r.n := by rw [hrn]; simp only at hr3; omega
  rw [this]; rfl
 have hcll : C.length = n := by rw [HCC.out, clsOf_len, hnn]
 have HAT : Hid _ := hat
 have HCLT : Hid (∀ x ∈ C, x < 1000) := by show ∀ x ∈ C, x < 1000; rw [HCC.out]; exact clsOf_lt hrg
 have HITW : Hid _ := hit
 clear hvs ho3 hb1 hb2 hb3 hT2 hT3 hbu hpa hf hnn hat hrg hit
 go_wp2
 go_loopw [12, 13] (fun v i wr => ∃ k : Nat, k ≤ n ∧ i = .int .i64 k ∧ wr.ownsRow w3.heap.size 3 1 v k ((C.take k).map fun (x : Nat) => Value.int .i64 x) ∧ Below w3.heap.size w3 wr) (fun _ i _ => n - (intOf i).toNat)
 case atStart => exact ⟨0, by omega, rfl, World.ownsRow_nil _ _ _ _, Below.refl _ _⟩
 case round =>
  obtain ⟨k, hk, rfl, hown, hbel⟩ := hrel
  have HOWN : Hid (wr.ownsRow w3.heap.size 3 1 _ k ((C.take k).map fun (x : Nat) => Value.int .i64 x)) := hown
  have hsz := hbel.size
  clear hown
  by_cases hlt : k < n
  ·obtain ⟨b', x, hx, k1, k2, kb, kg⟩ := HAT.out k hlt
   have m1 : wr.cell? ⟨g, k, none⟩ = some (.pointer (some ⟨b', 0, none⟩)) := (hbel.cell (p := ⟨g, k, none⟩) kg).trans k1
   have m2 : wr.cell? ⟨b', 3, none⟩ = some (.int .i64 x) := (hbel.cell (p := ⟨b', 3, none⟩) kb).trans k2
   have mb : b' < wr.heap.size := by omega
   have mg : g < wr.heap.size := by omega
   have HX : Hid _ := hx
   clear hx k1 k2
   go_wp2_with (at_builtin; go_must (refine wpList_append_own _ rfl (.tmp 46) (.tmp 54) 34 rfl w3.heap.size 3 i0 _ 1 8 Tryd.undInts HI.out HZ0.out HZ1.out HZ2.out rfl (by decide) _ k ((C.take k).map fun (x : Nat) => Value.int .i64 x) rfl (HOWN.out.alloc _) ⟨wr.heap.size, 0, none⟩ 1 1 [.int .i64 x] rfl rfl ?c1 ?c2 ?c3 ?c4 ?c5 ?_))
   case c1 =>
    intro j u hj
    rw [← hj]
    exact alloc_cell_at _ _ _ _
   case c2 => intro u hu; simp at hu; subst hu; rfl
   case c3 => unfold maxLen; omega
   case c4 => first | omega | (simp; omega)
   case c5 => first | omega | (simp; omega)
   intro v' w4 hown' hgrow hnil
   have HB2 : Hid (Below w3.heap.size w3 w4) := (hbel.alloc hsz _).grown hgrow (by simp; omega) (fun b hb => (World.ownsRow.lt HOWN.out b hb).1)
   have HO3 : Hid _ := hown'
   clear hown' hgrow hnil
   go_wp2
   go_roundw
   case rel =>
    refine ⟨k + 1, by omega, by go_num, ?_, HB2.out⟩
    have := HO3.out
    rw [List.take_add_one, HX.out, List.map_append, List.map_take]
    exact this
   case measure => simp [intOf]; omega
  ·have hkn : k = n := by omega
   have HKN : Hid _ := hkn
   have hcs := HOWN.out.2
   have htk : C.take k = C := List.take_of_length_le (by omega)
   have hty := Types_any (w0 := w3) (cls := C) ⟨HCLT.out, fun x hx w' hb => HITW.out w3 HB.out x w' (by have := HCLT.out x hx; omega) hb⟩ (by omega) e HWF.out b _ _ wr HT3.out (by omega) hbel (by have h := HOWN.out; rw [htk] at h; rw [hcll, ← hkn]; exact h) (by rw [hcll, HNN.out]; exact Nat.le_refl _) (by
    rcases hcs with ⟨h, _⟩ | ⟨g', cap', cur, h, _⟩
    ·exact ⟨_, _, _, h⟩
    ·exact ⟨_, _, _, h⟩)
   unfold ptr at hty
   have HBEL : Hid _ := hbel
   clear hcs hkn htk hbel
   go_wp2_with fail
   refine hty.mono ?_
   rintro _ w5 ⟨yb, nv, tv, ov, rfl, hsz5, hb5, hin5⟩
   have c4 : w5.cell? ⟨yb, 4, none⟩ = some (.int .i64 (tyFind C e 0 0 [] (st0 e)).2.e) := by rw [blk_cell hin5.y]; rfl
   have c5 : w5.cell? ⟨yb, 5, none⟩ = some (.int .i64 (tyFind C e 0 0 [] (st0 e)).2.at_) := by rw [blk_cell hin5.y]; rfl
   have HB5 : Hid (Below w.heap.size w w5) := HB.out.trans ((HBEL.out.mono hw3).trans (hb5.mono (by omega)))
   have HT5 : Hid (IsT w5 (fun k => k < w5.heap.size) e 0 0 b) := IsT.keep (fun k hk => by omega) (fun k hk => hin5.b0.block k hk) _ _ _ _ HT3.out
   have HIN5 : Hid _ := hin5
   clear hin5 hb5 hty
   obtain ⟨R, hR⟩ : ∃ R, R = (tyFind C e 0 0 [] (st0 e)).2 := ⟨_, rfl⟩
   rw [← hR] at c4 c5
   have HRR : Hid (R = (tyFind C e 0 0 [] (st0 e)).2) := hR
   clear hR
   go_wp2
   go_quiet (fail)
   go_wp2
   refine bodyPost_ret (v := .tuple #[ptr b, ptr yb, .int .i64 R.e, .int .i64 R.at_]) (by simp [results, Tryd.results14, go_sem, ptr]) rfl ⟨b, yb, by rw [HRR.out], HB5.out.trans ⟨rfl, rfl, rfl, Nat.le_refl _, fun _ _ => rfl⟩, isT_drew HT5.out, w3, _, nv, tv, ov, HB.out, HT3.out, HIN5.out.grow ⟨rfl, rfl, rfl, Nat.le_refl _, fun _ _ => rfl⟩⟩
end Go.Proofs.YtpicaknklgccoaaDoor
namespace Go.Proofs.YtpicaknklgccoaaDoor
open Go.Lib (decDigits)
def bareE (env : TEnv) : TEnv := env.map (fun x => (x.1, x.2.bare))
theorem bare_sizeE (t : Ty) : t.bare.size = t.size := by induction t <;> simp [Ty.bare, Ty.size, *]
theorem look_bare (env : TEnv) (s : List UInt8) : look (bareE env) s = (look env s).map Ty.bare := by
 unfold look bareE
 rw [← List.map_reverse, List.find?_map]
 simp only [Function.comp_def, Option.map_map]
theorem bareE_snoc (env : TEnv) (nm : List UInt8) (T : Ty) : bareE (env ++ [(nm, T)]) = bareE env ++ [(nm, T.bare)] := by simp [bareE]
end Go.Proofs.YtpicaknklgccoaaDoor
namespace Go.Proofs.YtpicaknklgccoaaDoor
def TEqS (a b : TSt) : Prop := a.e = b.e ∧ a.at_ = b.at_
def TEq (x y : Ty × TSt) : Prop := x.1.bare = y.1.bare ∧ TEqS x.2 y.2
theorem errS_eq {a b : TSt} (h : TEqS a b) (e p : Nat) : TEqS (errS a e p) (errS b e p) := by
 unfold errS
 rw [h.1]
 split
 ·exact ⟨rfl, rfl⟩
 ·exact h
theorem size_eqB {a b : Ty} (h : a.bare = b.bare) : a.size = b.size := by rw [← bare_sizeE a, h, bare_sizeE]
theorem bare_nB {a b : Ty} (h : a.bare = b.bare) : a = .n ↔ b = .n := by cases a <;> cases b <;> simp [Ty.bare] at h ⊢
theorem fin_eq {x y : Ty × TSt} (h : TEq x y) (id id' p : Nat) : TEq (fin id p x) (fin id' p y) := by
 have hs := size_eqB h.1
 unfold fin
 refine ⟨h.1, ?_⟩
 simp only [TEqS]
 rw [h.2.1, hs]
 split
 ·exact errS_eq h.2 6 p
 ·exact h.2
theorem err_eq {st st' : TSt} (hs : TEqS st st') (p : Nat) : TEq (.n, errS st 5 p) (.n, errS st' 5 p) := ⟨rfl, errS_eq hs 5 p⟩
theorem ite_eqB {a b c a' b' c' : Ty} {st st' : TSt} {p : Nat} (hs : TEqS st st') (h1 : a.bare = a'.bare) (h2 : b.bare = b'.bare) (h3 : c.bare = c'.bare) : TEq (if a = .n ∧ b.bare = c.bare then (b, st) else (.n, errS st 5 p)) (if a' = .n ∧ b'.bare = c'.bare then (b', st') else (.n, errS st' 5 p)) := by
 by_cases hc : a = .n ∧ b.bare = c.bare
 ·rw [if_pos hc, if_pos ⟨(bare_nB h1).1 hc.1, by rw [← h2, ← h3]; exact hc.2⟩]; exact ⟨h2, hs⟩
 ·rw [if_neg hc, if_neg (fun h => hc ⟨(bare_nB h1).2 h.1, by rw [h2, h3]; exact h.2⟩)]; exact err_eq hs p
theorem two_eqB {a b a' b' : Ty} {st st' : TSt} {p : Nat} (hs : TEqS st st') (h1 : a.bare = a'.bare) (h2 : b.bare = b'.bare) : TEq (if a = .n ∧ b = .n then (.n, st) else (.n, errS st 5 p)) (if a' = .n ∧ b' = .n then (.n, st') else (.n, errS st' 5 p)) := by
 by_cases hc : a = .n ∧ b = .n
 ·rw [if_pos hc, if_pos ⟨(bare_nB h1).1 hc.1, (bare_nB h2).1 hc.2⟩]; exact ⟨rfl, hs⟩
 ·rw [if_neg hc, if_neg (fun h => hc ⟨(bare_nB h1).2 h.1, (bare_nB h2).2 h.2⟩)]; exact err_eq hs p
theorem madeT_eq (cls cls' : List Nat) (k : Kw) (p site site' : Nat) (ks ks' : List Ty) (st st' : TSt) (h : ks.map Ty.bare = ks'.map Ty.bare) (hs : TEqS st st') : TEq (madeT cls k p site ks st) (madeT cls' k p site' ks' st') := by
 have hl : ks.length = ks'.length := by have := congrArg List.length h; simpa using this
 cases ks with
 | nil =>
  cases ks' with
  | nil => cases k <;> exact err_eq hs p
  | cons a' r' => simp at hl
 | cons a r =>
  cases ks' with
  | nil => simp at hl
  | cons a' r' =>
   simp only [List.map_cons, List.cons.injEq] at h
   have ha := h.1
   have hfs : ∀ k, k = .fst ∨ k = .snd → TEq (madeT cls k p site (a :: r) st) (madeT cls' k p site' (a' :: r') st') := by
    intro k hk
    cases a with
    | n =>
     cases a' with
     | n => rcases hk with rfl | rfl <;> exact err_eq hs p
     | p _ _ _ => simp [Ty.bare] at ha
    | p r1 u v =>
     cases a' with
     | n => simp [Ty.bare] at ha
     | p r2 u' v' =>
      simp only [Ty.bare, Ty.p.injEq, true_and] at ha
      rcases hk with rfl | rfl
      ·exact ⟨ha.1, hs⟩
      ·exact ⟨ha.2, hs⟩
   cases r with
   | nil =>
    cases r' with
    | cons b' r' => simp at hl
    | nil =>
     cases k <;> first | exact hfs _ (Or.inl rfl) | exact hfs _ (Or.inr rfl) | exact err_eq hs p | exact ⟨ha, hs⟩
   | cons b r =>
    cases r' with
    | nil => simp at hl
    | cons b' r' =>
     simp only [List.map_cons, List.cons.injEq] at h
     have hb := h.2.1
     cases r with
     | nil =>
      cases r' with
      | cons c' r' => simp at hl
      | nil =>
       cases k <;> first | exact hfs _ (Or.inl rfl) | exact hfs _ (Or.inr rfl) | exact err_eq hs p | exact two_eqB hs ha hb | exact ⟨ha, hs⟩ | exact ⟨by simp only [madeT, Ty.bare, ha, hb], hs⟩
     | cons c r =>
      cases r' with
      | nil => simp at hl
      | cons c' r' =>
       simp only [List.map_cons, List.cons.injEq] at h
       have hc := h.2.2.1
       cases r with
       | nil =>
        cases r' with
        | cons d' r' => simp at hl
        | nil =>
         cases k <;> first | exact hfs _ (Or.inl rfl) | exact hfs _ (Or.inr rfl) | exact err_eq hs p | exact ite_eqB hs ha hb hc | exact ⟨ha, hs⟩
       | cons d r =>
        cases r' with
        | nil => simp at hl
        | cons d' r' => cases k <;> first | exact hfs _ (Or.inl rfl) | exact hfs _ (Or.inr rfl) | exact err_eq hs p | exact ⟨ha, hs⟩
theorem bareE_snocB {env env' : TEnv} {nm : List UInt8} {T T' : Ty} (h : bareE env = bareE env') (hT : T.bare = T'.bare) : bareE (env ++ [(nm, T)]) = bareE (env' ++ [(nm, T')]) := by rw [bareE_snoc, bareE_snoc, h, hT]
mutual
theorem tyFind_cls (cls cls' : List Nat) : ∀ (t : PT) (id id' site site' : Nat) (env env' : TEnv) (st st' : TSt), bareE env = bareE env' → TEqS st st' → TEq (tyFind cls t id site env st) (tyFind cls' t id' site' env' st')
 | .num p s, id, id', site, site', env, env', st, st', he, hs => by simp only [tyFind]; exact fin_eq (x := (.n, st)) (y := (.n, st')) ⟨rfl, hs⟩ _ _ _
 | .name p s, id, id', site, site', env, env', st, st', he, hs => by
  simp only [tyFind]
  refine fin_eq ?_ _ _ _
  have h1 := look_bare env s
  have h2 := look_bare env' s
  rw [he, h2] at h1
  cases hl : look env s with
  | none =>
   cases hl' : look env' s with
   | none => exact ⟨rfl, errS_eq hs 4 p⟩
   | some T' => rw [hl, hl'] at h1; simp at h1
  | some T =>
   cases hl' : look env' s with
   | none => rw [hl, hl'] at h1; simp at h1
   | some T' =>
    rw [hl, hl'] at h1
    simp only [Option.map_some, Option.some.injEq] at h1
    exact ⟨h1.symm, hs⟩
 | .node p k nm rg kids, id, id', site, site', env, env', st, st', he, hs => by
  simp only [tyFind]
  refine fin_eq ?_ _ _ _
  by_cases hk : k = .let_
  ·rw [if_pos hk, if_pos hk]
   exact tyLet_cls cls cls' nm kids _ _ _ _ env env' st st' he hs
  ·rw [if_neg hk, if_neg hk]
   have hx : (if k = .loop then tyLoop cls nm kids (id + 1) site env st else tyKids cls kids (id + 1) (site + if k = .pair then 1 else 0) env st).1.map Ty.bare = (if k = .loop then tyLoop cls' nm kids (id' + 1) site' env' st' else tyKids cls' kids (id' + 1) (site' + if k = .pair then 1 else 0) env' st').1.map Ty.bare ∧ TEqS (if k = .loop then tyLoop cls nm kids (id + 1) site env st else tyKids cls kids (id + 1) (site + if k = .pair then 1 else 0) env st).2 (if k = .loop then tyLoop cls' nm kids (id' + 1) site' env' st' else tyKids cls' kids (id' + 1) (site' + if k = .pair then 1 else 0) env' st').2 := by
    by_cases hl : k = .loop
    ·rw [if_pos hl, if_pos hl]; exact tyLoop_cls cls cls' nm kids _ _ _ _ env env' st st' he hs
    ·rw [if_neg hl, if_neg hl]; exact tyKids_cls cls cls' kids _ _ _ _ env env' st st' he hs
   generalize (if k = .loop then tyLoop cls nm kids (id + 1) site env st else tyKids cls kids (id + 1) (site + if k = .pair then 1 else 0) env st) = x at hx ⊢
   generalize (if k = .loop then tyLoop cls' nm kids (id' + 1) site' env' st' else tyKids cls' kids (id' + 1) (site' + if k = .pair then 1 else 0) env' st') = x' at hx ⊢
   by_cases h0 : x.2.e = 0
   ·rw [if_neg (by simpa using h0), if_neg (by rw [← hx.2.1]; simpa using h0)]
    exact madeT_eq cls cls' k p site site' x.1 x'.1 x.2 x'.2 hx.1 hx.2
   ·rw [if_pos h0, if_pos (by rw [← hx.2.1]; exact h0)]
    exact ⟨rfl, hx.2⟩
theorem tyKids_cls (cls cls' : List Nat) : ∀ (ts : List PT) (id id' site site' : Nat) (env env' : TEnv) (st st' : TSt), bareE env = bareE env' → TEqS st st' → (tyKids cls ts id site env st).1.map Ty.bare = (tyKids cls' ts id' site' env' st').1.map Ty.bare ∧ TEqS (tyKids cls ts id site env st).2 (tyKids cls' ts id' site' env' st').2
 | [], _, _, _, _, _, _, st, st', _, hs => by simp only [tyKids]; exact ⟨trivial, hs⟩
 | a :: r, id, id', site, site', env, env', st, st', he, hs => by
  simp only [tyKids]
  have h1 := tyFind_cls cls cls' a id id' site site' env env' st st' he hs
  have h2 := tyKids_cls cls cls' r (id + a.cnt) (id' + a.cnt) (site + a.prs) (site' + a.prs) env env' _ _ he h1.2
  exact ⟨by rw [List.map_cons, List.map_cons, h1.1, h2.1], h2.2⟩
theorem tyLet_cls (cls cls' : List Nat) (nm : List UInt8) : ∀ (ts : List PT) (id id' site site' : Nat) (env env' : TEnv) (st st' : TSt), bareE env = bareE env' → TEqS st st' → TEq (tyLet cls nm ts id site env st) (tyLet cls' nm ts id' site' env' st')
 | [a, b], id, id', site, site', env, env', st, st', he, hs => by
  simp only [tyLet]
  have h1 := tyFind_cls cls cls' a id id' site site' env env' st st' he hs
  exact tyFind_cls cls cls' b _ _ _ _ _ _ _ _ (bareE_snocB he h1.1) h1.2
 | [], _, _, _, _, _, _, st, st', _, hs => by simp only [tyLet]; exact ⟨rfl, hs⟩
 | [_], _, _, _, _, _, _, st, st', _, hs => by simp only [tyLet]; exact ⟨rfl, hs⟩
 | _ :: _ :: _ :: _, _, _, _, _, _, _, st, st', _, hs => by simp only [tyLet]; exact ⟨rfl, hs⟩
theorem tyLoop_cls (cls cls' : List Nat) (nm : List UInt8) : ∀ (ts : List PT) (id id' site site' : Nat) (env env' : TEnv) (st st' : TSt), bareE env = bareE env' → TEqS st st' → (tyLoop cls nm ts id site env st).1.map Ty.bare = (tyLoop cls' nm ts id' site' env' st').1.map Ty.bare ∧ TEqS (tyLoop cls nm ts id site env st).2 (tyLoop cls' nm ts id' site' env' st').2
 | [a, b, c], id, id', site, site', env, env', st, st', he, hs => by
  simp only [tyLoop]
  have h1 := tyFind_cls cls cls' a id id' site site' env env' st st' he hs
  have h2 := tyFind_cls cls cls' b (id + a.cnt) (id' + a.cnt) (site + a.prs) (site' + a.prs) env env' _ _ he h1.2
  have h3 := tyFind_cls cls cls' c (id + a.cnt + b.cnt) (id' + a.cnt + b.cnt) (site + a.prs + b.prs) (site' + a.prs + b.prs) _ _ _ _ (bareE_snocB (nm := nm) he h2.1) h2.2
  exact ⟨by simp only [List.map_cons, List.map_nil]; rw [h1.1, h2.1, h3.1], h3.2⟩
 | [], _, _, _, _, _, _, st, st', _, hs => by simp only [tyLoop]; exact ⟨trivial, hs⟩
 | [_], _, _, _, _, _, _, st, st', _, hs => by simp only [tyLoop]; exact ⟨trivial, hs⟩
 | [_, _], _, _, _, _, _, _, st, st', _, hs => by simp only [tyLoop]; exact ⟨trivial, hs⟩
 | _ :: _ :: _ :: _ :: _, _, _, _, _, _, _, st, st', _, hs => by simp only [tyLoop]; exact ⟨trivial, hs⟩
end
end Go.Proofs.YtpicaknklgccoaaDoor
namespace Go.Proofs.YtpicaknklgccoaaDoor
open Go.RowKit
open Go.Lib (decDigits)
def numL (l : List UInt8) : Int := l.foldl (fun n c => 10 * n + (c.toNat : Int) - 48) 0
theorem numL_snoc (l : List UInt8) (c : UInt8) : numL (l ++ [c]) = 10 * numL l + (c.toNat : Int) - 48 := by
 unfold numL; rw [List.foldl_append]; rfl
theorem numL_dec (u : Nat) : numL (decDigits u) = u := by
 induction u using Nat.strongRecOn with
 | _ u ih =>
  have key : ∀ k, k < 10 → ((UInt8.ofNat (48 + k)).toNat : Int) = 48 + k := by
   intro k hk
   have : (UInt8.ofNat (48 + k)).toNat = 48 + k := by simp; omega
   omega
  rw [decDigits]
  split
  ·rename_i h
   show 10 * (0 : Int) + ((UInt8.ofNat (48 + u)).toNat : Int) - 48 = u
   rw [key u h]; omega
  ·rw [numL_snoc, ih (u / 10) (by omega), key _ (by omega)]; omega
theorem numL_bd : ∀ (l : List UInt8) (a b : Int), a ≤ 0 → 0 ≤ b → l.length ≤ 5 → ∀ k, k ≤ l.length → -(30 * 10 ^ k - 30) ≤ numL (l.take k) ∧ numL (l.take k) ≤ 30 * 10 ^ k - 30 := by
 intro l a b _ _ hl k
 induction k with
 | zero => intro _; simp [numL]
 | succ k ih =>
  intro hk
  have hlt : k < l.length := by omega
  have h := ih (by omega)
  rw [List.take_succ_eq_append_getElem hlt, numL_snoc]
  have hc : (l[k].toNat : Int) < 256 := by have := l[k].toNat_lt; omega
  have hp : (10 : Int) ^ (k + 1) = 10 * 10 ^ k := by rw [Int.pow_succ]; omega
  rw [hp]
  omega
def Ty.rgl : Ty → List Nat
 | .n => []
 | .p r a b => r :: (a.rgl ++ b.rgl)
def scanR : List UInt8 → List Nat
 | [] => []
 | c :: r => if c = 60 then (numL (r.takeWhile (fun c => c != 58))).toNat :: scanR r else scanR r
theorem scan_skip : ∀ (l r : List UInt8), (∀ c ∈ l, c ≠ 60) → scanR (l ++ r) = scanR r
 | [], r, _ => rfl
 | c :: l, r, h => by
  simp only [List.cons_append, scanR]
  rw [if_neg (h c (by simp))]
  exact scan_skip l r (fun x hx => h x (by simp [hx]))
theorem digit_60 {c : UInt8} (h : digitB c = true) : c ≠ 60 ∧ c ≠ 58 := by
 constructor <;> (intro e; subst e; revert h; decide)
theorem take_dec (u : Nat) (r : List UInt8) : (decDigits u ++ 58 :: r).takeWhile (fun c => c != 58) = decDigits u := by
 have hd := dec_digit u
 generalize decDigits u = l at *
 induction l with
 | nil => simp
 | cons c l ih =>
  have := (digit_60 (hd c (by simp))).2
  simp only [List.cons_append, List.takeWhile_cons]
  rw [if_pos (by simpa using this), ih (fun x hx => hd x (by simp [hx]))]
theorem scanR_txt : ∀ (T : Ty) (z : List UInt8), scanR (T.txt ++ z) = T.rgl ++ scanR z
 | .n, z => by simp only [Ty.txt, Ty.rgl, List.cons_append, List.nil_append, scanR]; rw [if_neg (by decide)]
 | .p r a b, z => by
  simp only [Ty.txt, Ty.rgl, List.cons_append, List.append_assoc, scanR]
  rw [if_pos trivial, take_dec, numL_dec, Int.toNat_natCast, scan_skip _ _ (fun c hc => (digit_60 (dec_digit r c hc)).1)]
  simp only [scanR]
  rw [if_neg (by decide), scanR_txt a, scanR_txt b]
  simp only [List.nil_append, scanR]
  rw [if_neg (by decide)]
theorem scan_rgl (T : Ty) : scanR T.txt = T.rgl := by
 have := scanR_txt T []
 simpa [scanR] using this
theorem txt_lt : ∀ (T : Ty), T.regs → ∀ (z : List UInt8) (k : Nat), k < T.txt.length → (T.txt ++ z)[k]? = some 60 → ∃ u rest, u < 1000 ∧ (T.txt ++ z).drop (k + 1) = decDigits u ++ 58 :: rest
 | .n, _, z, k, hk, h => by
  simp only [Ty.txt, List.length_singleton] at hk
  have : k = 0 := by omega
  subst this
  simp [Ty.txt] at h
 | .p r a b, hr, z, k, hk, h => by
  simp only [Ty.regs] at hr
  simp only [Ty.txt, List.length_cons, List.length_append, List.length_nil] at hk
  have ex : (Ty.p r a b).txt ++ z = 60 :: (decDigits r ++ 58 :: (a.txt ++ (b.txt ++ 62 :: z))) := by simp [Ty.txt]
  rw [ex] at h ⊢
  cases k with
  | zero => exact ⟨r, a.txt ++ (b.txt ++ 62 :: z), hr.1, by simp⟩
  | succ k =>
   simp only [List.getElem?_cons_succ] at h
   by_cases h1 : k < (decDigits r).length
   ·rw [List.getElem?_append_left h1] at h
    exact absurd rfl (digit_60 (dec_digit r 60 (List.mem_of_getElem? h))).1
   ·rw [List.getElem?_append_right (by omega)] at h
    obtain ⟨j, hj⟩ : ∃ j, k = (decDigits r).length + j := ⟨k - (decDigits r).length, by omega⟩
    subst hj
    rw [Nat.add_sub_cancel_left] at h
    cases j with
    | zero => simp at h
    | succ j =>
     simp only [List.getElem?_cons_succ] at h
     have hd : (60 :: (decDigits r ++ 58 :: (a.txt ++ (b.txt ++ 62 :: z)))).drop ((decDigits r).length + (j + 1) + 1 + 1) = (a.txt ++ (b.txt ++ 62 :: z)).drop (j + 1) := by
      rw [List.drop_succ_cons, List.drop_append]
      rw [List.drop_eq_nil_of_le (by omega), List.nil_append, show (decDigits r).length + (j + 1) + 1 - (decDigits r).length = (j + 1) + 1 by omega, List.drop_succ_cons]
     rw [hd]
     by_cases h2 : j < a.txt.length
     ·exact txt_lt a hr.2.1 (b.txt ++ 62 :: z) j h2 h
     ·rw [List.getElem?_append_right (by omega)] at h
      obtain ⟨i, hi⟩ : ∃ i, j = a.txt.length + i := ⟨j - a.txt.length, by omega⟩
      subst hi
      rw [Nat.add_sub_cancel_left] at h
      have hd2 : (a.txt ++ (b.txt ++ 62 :: z)).drop (a.txt.length + i + 1) = (b.txt ++ 62 :: z).drop (i + 1) := by
       rw [List.drop_append, List.drop_eq_nil_of_le (by omega), List.nil_append, show a.txt.length + i + 1 - a.txt.length = i + 1 by omega]
      rw [hd2]
      by_cases h3 : i < b.txt.length
      ·exact txt_lt b hr.2.2 (62 :: z) i h3 h
      ·have hi : i = b.txt.length := by omega
       subst hi
       rw [List.getElem?_append_right (Nat.le_refl _), Nat.sub_self] at h
       simp at h
theorem Tryd.infoIntU : (Tryd.prog.info? 3).map (fun i => (i.zero, i.size, i.bytes)) = some (some (.int .i64 0), 1, 8) := by kernel_rfl
theorem Tryd.undIntsU : Tryd.prog.underlying 34 = some (.slice 3) := by kernel_rfl
set_option maxRecDepth 100000 in
set_option maxHeartbeats 4000000 in
theorem regions_any (T : Ty) (hT : T.fit) (w : World) : Calls Tryd.prog 40 #[.string (bs T.txt)] w fun e w' => ∃ v, e = .returned v ∧ w'.ownsRow w.heap.size 3 1 v T.rgl.length (T.rgl.map fun (x : Nat) => Value.int .i64 x) ∧ Below w.heap.size w w' := by
 obtain ⟨i0, hi, hz0, hz1, hz2⟩ := info_parts Tryd.infoIntU
 have HI : Hid _ := hi
 have HZ0 : Hid _ := hz0
 have HZ1 : Hid _ := hz1
 have HZ2 : Hid _ := hz2
 clear hi hz0 hz1 hz2
 have hlen := fit_len hT
 have hlt := txt_lt T hT.2 []
 rw [List.append_nil] at hlt
 obtain ⟨S, hS⟩ : ∃ S, S = bs T.txt := ⟨_, rfl⟩
 have hSs : S.size ≤ 1000 := by rw [hS, bs_size]; exact hlen
 have hSl : S.data.toList = T.txt := by rw [hS]; simp [bs]
 have HSL : Hid _ := hSl
 have HLT : Hid (∀ k, (hk : k < S.size) → S[k] = 60 → ∃ u rest, u < 1000 ∧ S.data.toList.drop (k + 1) = decDigits u ++ 58 :: rest) := by
  intro k hk h60
  rw [hSl]
  refine hlt k (by rw [hS, bs_size] at hk; exact hk) ?_
  subst hS
  rw [List.getElem?_eq_getElem (by rw [bs_size] at hk; exact hk)]
  rw [← h60]; rfl
 rw [← hS, ← scan_rgl T, ← hSl]
 clear hS hlen hlt hSl hT
 go_enter Tryd.func40, Tryd.ntmps40
 go_wp2
 go_loopw [3, 4] (fun l i wr => ∃ (k : Nat) (L : List Nat), k ≤ S.size ∧ i = .int .i64 k ∧ L.length ≤ k ∧ wr.ownsRow w.heap.size 3 1 l L.length (L.map fun (x : Nat) => Value.int .i64 x) ∧ Below w.heap.size w wr ∧ L ++ scanR (S.data.toList.drop k) = scanR S.data.toList) (fun _ i _ => S.size - (intOf i).toNat)
 case atStart => exact ⟨0, [], Nat.zero_le _, rfl, Nat.le_refl _, World.ownsRow_nil _ _ _ _, Below.refl _ _, rfl⟩
 case round =>
  obtain ⟨k, L, hk, rfl, hLl, hown, hbel, hsc⟩ := hrel
  have HOWN : Hid _ := hown
  have HB : Hid _ := hbel
  have HSC : Hid _ := hsc
  have hsz := hbel.size
  clear hown hbel hsc
  by_cases hlt : k < S.size
  ·have hdk : S.data.toList.drop k = S[k] :: S.data.toList.drop (k + 1) := by
    rw [List.drop_eq_getElem_cons (by simpa using hlt)]; rfl
   by_cases h60 : S[k] = 60
   ·have q60 : ((S[k].toNat : Int) != 60) = false := by rw [h60]; rfl
    obtain ⟨u, rest, hu, hdr⟩ := HLT.out k hlt h60
    have hD := dec_len u hu
    have hdig := dec_digit u
    have hnum := numL_dec u
    have htk := take_dec u rest
    obtain ⟨dg, hdg⟩ : ∃ dg, dg = decDigits u := ⟨_, rfl⟩
    rw [← hdg] at hdr hD hdig hnum htk
    clear hdg
    have hscan : scanR (S.data.toList.drop k) = u :: scanR (S.data.toList.drop (k + 1)) := by
     rw [hdk]; simp only [scanR]; rw [if_pos h60, hdr, htk, hnum, Int.toNat_natCast]
    have hlen2 : S.size = k + 1 + dg.length + 1 + rest.length := by
     have := congrArg List.length hdr
     simp only [List.length_drop, List.length_append, List.length_cons, Array.length_toList] at this
     have e : S.data.size = S.size := rfl
     omega
    have hat : ∀ j, (hj : j < dg.length) → (hl : k + 1 + j < S.size) → S[k + 1 + j] = dg[j] := by
     intro j hj hl
     have h1 : S.data.toList[k + 1 + j]? = some dg[j] := by
      rw [← List.getElem?_drop, hdr, List.getElem?_append_left hj, List.getElem?_eq_getElem hj]
     rw [List.getElem?_eq_getElem (by simp; show k + 1 + j < S.size; omega)] at h1
     exact Option.some.inj h1
    have hcol : ∀ hl : k + 1 + dg.length < S.size, S[k + 1 + dg.length] = 58 := by
     intro hl
     have h1 : S.data.toList[k + 1 + dg.length]? = some 58 := by
      rw [← List.getElem?_drop, hdr, List.getElem?_append_right (Nat.le_refl _), Nat.sub_self]; rfl
     rw [List.getElem?_eq_getElem (by simp; show k + 1 + dg.length < S.size; omega)] at h1
     exact Option.some.inj h1
    have hlt2 : k + 1 + dg.length < S.size := by omega
    have HSN : Hid _ := hscan
    have HAT : Hid _ := hat
    have HCOL : Hid _ := hcol
    have HDIG : Hid _ := hdig
    have HNUM : Hid _ := hnum
    clear hdk h60 hdr hscan hat hcol hdig hnum htk hlen2
    obtain ⟨w5, rfl⟩ : ∃ w5, wr = w5 := ⟨_, rfl⟩
    go_wp2
    go_loopw [5, 6] (fun n kk wi => ∃ j p : Nat, wr = wi ∧ j ≤ dg.length ∧ p = k + 1 + j ∧ kk = .int .i64 p ∧ n = .int .i64 (numL (dg.take j))) (fun _ kk _ => k + 1 + dg.length - (intOf kk).toNat)
    case atStart => exact ⟨0, k + 1, rfl, Nat.zero_le _, rfl, by go_num, rfl⟩
    case round =>
     obtain ⟨j, p, rfl, hj, hpe, rfl, rfl⟩ := hrel
     have hb := numL_bd dg 0 0 (by omega) (by omega) (by omega) j hj
     have hp := pow5 j (by omega)
     obtain ⟨m, hm⟩ : ∃ m, m = numL (dg.take j) := ⟨_, rfl⟩
     rw [← hm] at hb
     obtain ⟨hb1, hb2⟩ : -3000000 ≤ m ∧ m ≤ 3000000 := by omega
     rw [← hm]
     have HM : Hid _ := hm
     have HPE : Hid _ := hpe
     have hpl : p < S.size := by omega
     clear hp hb hm
     by_cases hjl : j < dg.length
     ·have hsp : S[p] = dg[j] := by subst hpe; exact HAT.out j hjl hpl
      have hne := (digit_60 (HDIG.out dg[j] (List.getElem_mem hjl))).2
      rw [← hsp] at hne
      have q58 : ((S[p].toNat : Int) != 58) = true := by rw [show ((S[p].toNat : Int) != 58) = (S[p] != 58) from byte_ne _ 58]; simpa using hne
      have hsn : numL (dg.take (j + 1)) = 10 * m + (S[p].toNat : Int) - 48 := by rw [List.take_succ_eq_append_getElem hjl, numL_snoc, HM.out, hsp]
      have HS : Hid _ := hsn
      have hcb : S[p].toNat < 256 := S[p].toNat_lt
      have HC : Hid _ := hcb
      clear hsp hne hsn hcb hpe
      go_wp2
      go_roundw
      case rel =>
       refine ⟨j + 1, p + 1, by first | rfl | trivial, by omega, by have := HPE.out; omega, by go_num, ?_⟩
       have := HC.out
       rw [HS.out]
       rw [IntWalk.wrap64_in (S[p].toNat : Int) (by omega), IntWalk.wrap64_in (10 * m + (S[p].toNat : Int)) (by omega), IntWalk.wrap64_in _ (by omega)]
      case measure => have := HPE.out; simp [intOf]; omega
     ·have hje : j = dg.length := by omega
      have hsp : S[p] = 58 := by subst hpe; subst hje; exact HCOL.out hpl
      have q58 : ((S[p].toNat : Int) != 58) = false := by rw [hsp]; rfl
      have hmu : m = u := by rw [HM.out, hje, List.take_of_length_le (Nat.le_refl _)]; exact HNUM.out
      subst hmu
      clear hsp hpe
      go_wp2_with (at_builtin; go_must (refine wpList_append_own _ rfl (.tmp 33) (.tmp 35) 34 rfl w.heap.size 3 i0 _ 1 8 Tryd.undIntsU HI.out HZ0.out HZ1.out HZ2.out rfl (by decide) _ L.length (L.map fun (x : Nat) => Value.int .i64 x) rfl (World.ownsRow.alloc HOWN.out _) ⟨wr.heap.size, 0, none⟩ 1 1 [.int .i64 u] rfl rfl ?c1 ?c2 ?c3 ?c4 ?c5 ?_))
      case c1 =>
       intro j u hj
       rw [← hj]
       exact alloc_cell_at _ _ _ _
      case c2 => intro u hu; simp at hu; subst hu; rfl
      case c3 => unfold maxLen; omega
      case c4 => first | omega | (simp; omega)
      case c5 => first | omega | (simp; omega)
      intro v' w4 hown' hgrow hnil
      have HB2 : Hid (Below w.heap.size w w4) := (HB.out.alloc hsz _).grown hgrow (by simp; omega) (fun b hb => (World.ownsRow.lt HOWN.out b hb).1)
      have HO3 : Hid _ := hown'
      clear hown' hgrow hnil
      go_wp2
      go_roundw
      case rel =>
       refine ⟨k + 1, L ++ [u], by omega, by go_num, by simp; omega, ?_, HB2.out, ?_⟩
       ·have := HO3.out
        rw [List.length_append, List.map_append]
        exact this
       ·rw [List.append_assoc, List.singleton_append, ← HSN.out]; exact HSC.out
      case measure => simp [intOf]; omega
   ·have q60 : ((S[k].toNat : Int) != 60) = true := by rw [show ((S[k].toNat : Int) != 60) = (S[k] != 60) from byte_ne _ 60]; simpa using h60
    have hscan : scanR (S.data.toList.drop k) = scanR (S.data.toList.drop (k + 1)) := by
     rw [hdk]; simp only [scanR]; rw [if_neg h60]
    have HSN : Hid _ := hscan
    clear hdk h60 hscan
    go_wp2
    go_roundw
    case rel => exact ⟨k + 1, L, by omega, by go_num, by omega, HOWN.out, HB.out, by rw [← HSN.out]; exact HSC.out⟩
    case measure => simp [intOf]; omega
  ·have hL : L = scanR S.data.toList := by
    have h := HSC.out
    rw [List.drop_eq_nil_of_le (by simp; show S.size ≤ k; omega)] at h
    simpa [scanR] using h
   have HL : Hid _ := hL
   clear hL
   go_wp2
   go_ret
   rw [← HL.out]
   exact ⟨_, rfl, HOWN.out, HB.out⟩
end Go.Proofs.YtpicaknklgccoaaDoor
