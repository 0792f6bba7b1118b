import Derived.Test.YtpicaknklgccoaaGreatDoorX22
namespace Go.Proofs.YtpicaknklgccoaaGreatDoor
open Go.RowKit
set_option maxRecDepth 100000 in
set_option maxHeartbeats 4000000 in
theorem work_new (mb B : Nat) (x1 : Option Addr) (n1 c1 : Nat) (x2 : Option Addr) (n2 c2 : Nat) (fuel : Nat) (ns : List NR) (op : List Int) (i : Nat) (n : NR) (hn : ns[i]? = some n) (hform : n.form = 12) (c : Nat) (g : MM → MV × MM)
  (hg : ∀ (w : World) (nv cv rv : Value) (m : MM), MSt mb B w (.slice x1 n1 c1) (.slice x2 n2 c2) fuel nv cv rv m ns op c → Calls Tryz.prog 129 #[ptr mb, nrVal n] w (MOut mb w (.slice x1 n1 c1) (.slice x2 n2 c2) fuel nv cv rv (g m)))
  (w : World) (nv cv rv : Value) (m : MM) (h : MSt mb B w (.slice x1 n1 c1) (.slice x2 n2 c2) fuel nv cv rv m ns op c) :
  Calls Tryz.prog 98 #[ptr mb, .int .i64 i] w (MOut mb w (.slice x1 n1 c1) (.slice x2 n2 c2) fuel nv cv rv (g m)) := by
 obtain ⟨R, hR⟩ : ∃ R : Obj, R = .cells #[.bool false, .int .i64 0] 171 := ⟨_, rfl⟩
 have hW1 : Below w.heap.size w (w.alloc R) := below_al (Below.refl _ _) _
 have hno := Node_in' (w.alloc R) (.slice x1 n1 c1) (.slice x2 n2 c2) ns op (h.env.tree _ (hW1.mono h.env.s)) i n hn h.env.len
 have hsR : Beside mb w.heap.size (w.alloc R) nv cv rv (.cells #[.bool false, .int .i64 0] 171) := Beside.new h.i (by rw [hR]; exact blk_new w _) (Nat.le_refl _)
 have h1 := h.below hW1
 have HF1 : Hid (PFr mb mb w (w.alloc R) nv cv rv nv cv rv) := PFr.below mb mb nv cv rv hW1
 have H1 : Hid _ := h1
 have HSR : Hid _ := hsR
 have HG : Hid _ := hg
 have y0 : w.cell? ⟨mb, 0, none⟩ = some (.slice x1 n1 c1) := by rw [blk_cell h.i.y]; rfl
 have y1 : w.cell? ⟨mb, 1, none⟩ = some (.slice x2 n2 c2) := by rw [blk_cell h.i.y]; rfl
 have hmb := blk_lt h.i.y
 have HFORM : Hid _ := hform
 have hil : i ≤ 9000 := by have := (List.getElem?_eq_some_iff.1 hn).1; have := h.env.len; omega
 have hqb : ((n.form : Int) == 12) = true := ibeq_true' (b := 12) hform
 clear hW1 hsR h1 h hg hn hform
 unfold treeV nrVal at hno
 unfold ptr
 go_enter Tryz.func98, Tryz.ntmps98
 subst hR
 go_wp2_with fail
 refine Calls.mono hno ?_
 rintro _ w2 ⟨rfl, hb2⟩
 obtain ⟨W3, hE3⟩ : ∃ W3, W3 = w2.alloc (.cells #[.int .i64 n.form, .int .i64 n.at_, .int .i64 n.beh, .int .i64 n.num, .string (bs n.word), .int .i64 n.region, .int .i64 n.source, .int .i64 n.p0, .int .i64 n.p1, .int .i64 n.p2] 160) := ⟨_, rfl⟩
 have hb3 : Below (w.alloc (.cells #[.bool false, .int .i64 0] 171)).heap.size (w.alloc (.cells #[.bool false, .int .i64 0] 171)) W3 := by rw [hE3]; exact hb2.alloc hb2.size _
 have h3 := H1.out.below hb3
 have hf3 : PFr mb mb (w.alloc (.cells #[.bool false, .int .i64 0] 171)) W3 nv cv rv nv cv rv := PFr.below mb mb nv cv rv hb3
 have hk := HG.out W3 nv cv rv m h3
 have HK : Hid _ := hk
 have HF3 : Hid _ := HF1.out.trans hf3
 have HSR3 : Hid _ := HSR.out.keep hf3
 clear hb2 hb3 h3 hf3 hk H1 HF1 HSR HG hno y0 y1
 unfold ptr nrVal at HK
 go_wp2_with fail
 rw [← hE3]
 refine Calls.mono HK.out ?_
 rintro _ w5 ⟨rfl, nv5, cv5, rv5, hf5, hi5⟩
 have HF5 : Hid _ := HF3.out.trans hf5
 have HI5 : Hid _ := hi5
 have hsR5 := HSR3.out.keep hf5
 have HSR5 : Hid _ := hsR5
 have hrw : w.heap.size ≤ w.heap.size := Nat.le_refl _
 have x0 : w5.cell? ⟨w.heap.size, 0, none⟩ = some (.bool false) := by rw [blk_cell hsR5.b]; rfl
 have x1 : w5.cell? ⟨w.heap.size, 1, none⟩ = some (.int .i64 0) := by rw [blk_cell hsR5.b]; rfl
 have g0 : w5.frozen? ⟨w.heap.size, 0, none⟩ = false := blk_free hsR5.b 0
 have g1 : w5.frozen? ⟨w.heap.size, 1, none⟩ = false := blk_free hsR5.b 1
 have hq5 := blk_lt hsR5.b
 clear hf5 hi5 hsR5 HK HF3 HSR3 hE3 hmb
 generalize g m = res at *
 unfold mvV
 go_wp2
 have hs7 := HSR5.out
 have hi7 := (HI5.out.beside hs7.ne hs7.n hs7.c hs7.r 0 (.bool res.1.c)).beside hs7.ne hs7.n hs7.c hs7.r 1 (.int .i64 res.1.n)
 have hf7 := (HF5.out.upto (below_set' (below_set' (Below.refl _ _) ⟨w.heap.size, 0, none⟩ hrw (.bool res.1.c)) ⟨w.heap.size, 1, none⟩ hrw (.int .i64 res.1.n)))
 refine bodyPost_ret (v := .agg #[.bool res.1.c, .int .i64 res.1.n]) (by simp [results, Tryz.results98, go_sem, x0, x1]) rfl ⟨rfl, _, _, _, hf7, hi7⟩
set_option maxRecDepth 100000 in
set_option maxHeartbeats 4000000 in
theorem work_step (mb B : Nat) (x1 : Option Addr) (n1 c1 : Nat) (x2 : Option Addr) (n2 c2 : Nat) (fuel : Nat) (ns : List NR) (op : List Int) (i : Nat) (n : NR) (hn : ns[i]? = some n) (hform : n.form ≠ 12) (c : Nat) (g : MM → MV × MM)
  (hg : ∀ (w : World) (nv cv rv : Value) (m : MM), MSt mb B w (.slice x1 n1 c1) (.slice x2 n2 c2) fuel nv cv rv m ns op c → Calls Tryz.prog 130 #[ptr mb, nrVal n] w (MOut mb w (.slice x1 n1 c1) (.slice x2 n2 c2) fuel nv cv rv (g m)))
  (w : World) (nv cv rv : Value) (m : MM) (h : MSt mb B w (.slice x1 n1 c1) (.slice x2 n2 c2) fuel nv cv rv m ns op c) :
  Calls Tryz.prog 98 #[ptr mb, .int .i64 i] w (MOut mb w (.slice x1 n1 c1) (.slice x2 n2 c2) fuel nv cv rv (g m)) := by
 obtain ⟨R, hR⟩ : ∃ R : Obj, R = .cells #[.bool false, .int .i64 0] 171 := ⟨_, rfl⟩
 have hW1 : Below w.heap.size w (w.alloc R) := below_al (Below.refl _ _) _
 have hno := Node_in' (w.alloc R) (.slice x1 n1 c1) (.slice x2 n2 c2) ns op (h.env.tree _ (hW1.mono h.env.s)) i n hn h.env.len
 have hsR : Beside mb w.heap.size (w.alloc R) nv cv rv (.cells #[.bool false, .int .i64 0] 171) := Beside.new h.i (by rw [hR]; exact blk_new w _) (Nat.le_refl _)
 have h1 := h.below hW1
 have HF1 : Hid (PFr mb mb w (w.alloc R) nv cv rv nv cv rv) := PFr.below mb mb nv cv rv hW1
 have H1 : Hid _ := h1
 have HSR : Hid _ := hsR
 have HG : Hid _ := hg
 have y0 : w.cell? ⟨mb, 0, none⟩ = some (.slice x1 n1 c1) := by rw [blk_cell h.i.y]; rfl
 have y1 : w.cell? ⟨mb, 1, none⟩ = some (.slice x2 n2 c2) := by rw [blk_cell h.i.y]; rfl
 have hmb := blk_lt h.i.y
 have HFORM : Hid _ := hform
 have hil : i ≤ 9000 := by have := (List.getElem?_eq_some_iff.1 hn).1; have := h.env.len; omega
 have hqb : ((n.form : Int) == 12) = false := ibeq_false'' (b := 12) hform
 clear hW1 hsR h1 h hg hn hform
 unfold treeV nrVal at hno
 unfold ptr
 go_enter Tryz.func98, Tryz.ntmps98
 subst hR
 go_wp2_with fail
 refine Calls.mono hno ?_
 rintro _ w2 ⟨rfl, hb2⟩
 obtain ⟨W3, hE3⟩ : ∃ W3, W3 = w2.alloc (.cells #[.int .i64 n.form, .int .i64 n.at_, .int .i64 n.beh, .int .i64 n.num, .string (bs n.word), .int .i64 n.region, .int .i64 n.source, .int .i64 n.p0, .int .i64 n.p1, .int .i64 n.p2] 160) := ⟨_, rfl⟩
 have hb3 : Below (w.alloc (.cells #[.bool false, .int .i64 0] 171)).heap.size (w.alloc (.cells #[.bool false, .int .i64 0] 171)) W3 := by rw [hE3]; exact hb2.alloc hb2.size _
 have h3 := H1.out.below hb3
 have hf3 : PFr mb mb (w.alloc (.cells #[.bool false, .int .i64 0] 171)) W3 nv cv rv nv cv rv := PFr.below mb mb nv cv rv hb3
 have hk := HG.out W3 nv cv rv m h3
 have HK : Hid _ := hk
 have HF3 : Hid _ := HF1.out.trans hf3
 have HSR3 : Hid _ := HSR.out.keep hf3
 clear hb2 hb3 h3 hf3 hk H1 HF1 HSR HG hno y0 y1
 unfold ptr nrVal at HK
 go_wp2_with fail
 rw [← hE3]
 refine Calls.mono HK.out ?_
 rintro _ w5 ⟨rfl, nv5, cv5, rv5, hf5, hi5⟩
 have HF5 : Hid _ := HF3.out.trans hf5
 have HI5 : Hid _ := hi5
 have hsR5 := HSR3.out.keep hf5
 have HSR5 : Hid _ := hsR5
 have hrw : w.heap.size ≤ w.heap.size := Nat.le_refl _
 have x0 : w5.cell? ⟨w.heap.size, 0, none⟩ = some (.bool false) := by rw [blk_cell hsR5.b]; rfl
 have x1 : w5.cell? ⟨w.heap.size, 1, none⟩ = some (.int .i64 0) := by rw [blk_cell hsR5.b]; rfl
 have g0 : w5.frozen? ⟨w.heap.size, 0, none⟩ = false := blk_free hsR5.b 0
 have g1 : w5.frozen? ⟨w.heap.size, 1, none⟩ = false := blk_free hsR5.b 1
 have hq5 := blk_lt hsR5.b
 clear hf5 hi5 hsR5 HK HF3 HSR3 hE3 hmb
 generalize g m = res at *
 unfold mvV
 go_wp2
 have hs7 := HSR5.out
 have hi7 := (HI5.out.beside hs7.ne hs7.n hs7.c hs7.r 0 (.bool res.1.c)).beside hs7.ne hs7.n hs7.c hs7.r 1 (.int .i64 res.1.n)
 have hf7 := (HF5.out.upto (below_set' (below_set' (Below.refl _ _) ⟨w.heap.size, 0, none⟩ hrw (.bool res.1.c)) ⟨w.heap.size, 1, none⟩ hrw (.int .i64 res.1.n)))
 refine bodyPost_ret (v := .agg #[.bool res.1.c, .int .i64 res.1.n]) (by simp [results, Tryz.results98, go_sem, x0, x1]) rfl ⟨rfl, _, _, _, hf7, hi7⟩
mutual
def ShowsM (ns : List NR) : Sc → PT → Nat → Prop
 | _, .num _ s, base => ∃ n, ns[base]? = some n ∧ n.form = 1 ∧ n.num = valueL s
 | sc, .name _ s, base => ∃ n, ns[base]? = some n ∧ n.form = 2 ∧ n.source = findS sc s
 | sc, .node _ k nm rg kids, base => (∃ n, ns[base + cntL kids]? = some n ∧ n.form = formK k ∧ n.region = valueL rg ∧ n.p0 = (partsL kids base).getD 0 (-1) ∧ n.p1 = (partsL kids base).getD 1 (-1) ∧ n.p2 = (partsL kids base).getD 2 (-1)) ∧ ShowsML ns sc nm kids (bodK k) base
def ShowsML (ns : List NR) : Sc → List UInt8 → List PT → List Bool → Nat → Prop
 | _, _, [], _, _ => True
 | _, _, _ :: _, [], _ => False
 | sc, nm, t :: r, b :: bs, base => ShowsM ns (if b then sc ++ [(nm, (base : Int) - 1)] else sc) t base ∧ ShowsML ns sc nm r bs (base + t.cnt)
end
theorem at_midM {α : Type} (pre a post : List α) (j : Nat) (x : α) (h : a[j]? = some x) : (pre ++ (a ++ post))[pre.length + j]? = some x := by
 have hj := (List.getElem?_eq_some_iff.1 h).1
 rw [List.getElem?_append_right (by omega), Nat.add_sub_cancel_left, List.getElem?_append_left hj]; exact h
mutual
theorem NA.showsM : ∀ {scope : Sc} {t : PT} {base : Nat} {ms : List NR}, NA scope t base ms → ∀ (pre post : List NR), pre.length = base → ShowsM (pre ++ (ms ++ post)) scope t base
 | _, .num _ s, _, _, h, pre, post, hb => by
  simp only [NA] at h; subst h; subst hb
  simp only [ShowsM]
  exact ⟨_, at_midM pre _ post 0 _ rfl, rfl, rfl⟩
 | _, .name _ s, _, _, h, pre, post, hb => by
  simp only [NA] at h; subst h; subst hb
  simp only [ShowsM]
  exact ⟨_, at_midM pre _ post 0 _ rfl, rfl, rfl⟩
 | _, .node p k nm rg kids, base, _, h, pre, post, hb => by
  simp only [NA] at h
  obtain ⟨ks, beh, h1, rfl⟩ := h
  have hl := NAs.len h1
  simp only [ShowsM]
  refine ⟨⟨⟨formK k, p, beh, 0, nm, valueL rg, -1, (partsL kids base).getD 0 (-1), (partsL kids base).getD 1 (-1), (partsL kids base).getD 2 (-1)⟩, ?_, rfl, rfl, rfl, rfl, rfl⟩, ?_⟩
  ·rw [← hl]; conv => lhs; rw [show base + ks.length = pre.length + ks.length from by rw [hb]]
   refine at_midM pre _ post ks.length _ ?_
   rw [List.getElem?_append_right (Nat.le_refl _), Nat.sub_self]; rfl
  ·have h2 := NAs.showsM h1 pre (⟨formK k, p, beh, 0, nm, valueL rg, -1, (partsL kids base).getD 0 (-1), (partsL kids base).getD 1 (-1), (partsL kids base).getD 2 (-1)⟩ :: post) hb
   rw [List.append_assoc, List.singleton_append]
   exact h2
theorem NAs.showsM : ∀ {scope : Sc} {nm : List UInt8} {ts : List PT} {bs : List Bool} {base : Nat} {ms : List NR}, NAs scope nm ts bs base ms → ∀ (pre post : List NR), pre.length = base → ShowsML (pre ++ (ms ++ post)) scope nm ts bs base
 | _, _, [], _, _, _, _, _, _, _ => by simp [ShowsML]
 | _, _, _ :: _, [], _, _, h, _, _, _ => by simp [NAs] at h
 | _, _, t :: r, b :: bs, _, _, h, pre, post, hb => by
  simp only [NAs] at h
  obtain ⟨a, c, h1, h2, rfl⟩ := h
  have hl := NA.len h1
  simp only [ShowsML]
  constructor
  ·have := NA.showsM h1 pre (c ++ post) hb
   rw [List.append_assoc]; exact this
  ·have := NAs.showsM h2 (pre ++ a) post (by rw [List.length_append, hl, hb])
   simp only [List.append_assoc] at this ⊢; exact this
end
theorem NA.showsM0 {scope : Sc} {t : PT} {ns : List NR} (h : NA scope t 0 ns) : ShowsM ns scope t 0 := by
 have := NA.showsM h [] [] rfl
 simpa using this
def ScOk (sc : Sc) : Prop := ∀ x ∈ sc, -1 ≤ x.2 ∧ x.2 ≤ 9000
theorem ScOk.find {sc : Sc} (h : ScOk sc) (s : List UInt8) : -1 ≤ findS sc s ∧ findS sc s ≤ 9000 := by
 unfold findS
 split
 ·rename_i x hx
  exact h x (by have := List.mem_of_find?_eq_some hx; simpa using this)
 ·omega
theorem ScOk.snoc {sc : Sc} (h : ScOk sc) (nm : List UInt8) (i : Int) (hi : -1 ≤ i ∧ i ≤ 9000) : ScOk (sc ++ [(nm, i)]) := by
 intro x hx
 rw [List.mem_append, List.mem_singleton] at hx
 rcases hx with hx | rfl
 ·exact h x hx
 ·exact hi
def TreeOk (mb B : Nat) (x1 : Option Addr) (n1 c1 : Nat) (x2 : Option Addr) (n2 c2 : Nat) (fuel : Nat) (ns : List NR) (op : List Int) (t : PT) : Prop :=
 ∀ (sc : Sc) (base : Nat), ShowsM ns sc t base → ScOk sc → t.wf → t.rgd → base + t.cnt ≤ ns.length → ns.length ≤ 9000 → fuel ≤ 20000 → WorkOk mb B (.slice x1 n1 c1) (.slice x2 n2 c2) fuel ns op (((base + t.cnt : Nat) : Int) - 1) t.cnt (fun m => mW fuel t sc base m)
theorem tree_num (mb B : Nat) (x1 : Option Addr) (n1 c1 : Nat) (x2 : Option Addr) (n2 c2 : Nat) (fuel : Nat) (ns : List NR) (op : List Int) (p : Nat) (s : List UInt8) : TreeOk mb B x1 n1 c1 x2 n2 c2 fuel ns op (.num p s) := by
 intro sc base hs hsc hw hr hle hl9 hf w nv cv rv m h
 refine ⟨mW_keeps fuel hf _ sc base m hw hr h.bd h.rl, ?_⟩
 simp only [ShowsM] at hs
 obtain ⟨n, hn, hfm, hnum⟩ := hs
 simp only [PT.cnt] at h ⊢
 rw [show (((base + 1 : Nat) : Int) - 1) = (base : Int) from by omega]
 have := work_step mb B x1 n1 c1 x2 n2 c2 fuel ns op base n hn (by rw [hfm]; decide) 1 (fun m => mBegun fuel m (fun m => (⟨false, n.num⟩, m))) (fun w nv cv rv m h => step_1 mb B _ _ fuel ns op n hfm 1 w nv cv rv m h) w nv cv rv m h
 rw [hnum] at this
 simp only [mW]
 exact this
theorem tree_name (mb B : Nat) (x1 : Option Addr) (n1 c1 : Nat) (x2 : Option Addr) (n2 c2 : Nat) (fuel : Nat) (ns : List NR) (op : List Int) (p : Nat) (s : List UInt8) : TreeOk mb B x1 n1 c1 x2 n2 c2 fuel ns op (.name p s) := by
 intro sc base hs hsc hw hr hle hl9 hf w nv cv rv m h
 refine ⟨mW_keeps fuel hf _ sc base m hw hr h.bd h.rl, ?_⟩
 simp only [ShowsM] at hs
 obtain ⟨n, hn, hfm, hsrc⟩ := hs
 simp only [PT.cnt] at h ⊢
 rw [show (((base + 1 : Nat) : Int) - 1) = (base : Int) from by omega]
 have := work_step mb B x1 n1 c1 x2 n2 c2 fuel ns op base n hn (by rw [hfm]; decide) 1 (fun m => mBegun fuel m (fun m => (m.look n.source, m))) (fun w nv cv rv m h => step_2 mb B _ _ fuel ns op n hfm 1 (by rw [hsrc]; exact hsc.find s) w nv cv rv m h) w nv cv rv m h
 rw [hsrc] at this
 simp only [mW]
 exact this
set_option maxHeartbeats 1000000 in
theorem tree_node (mb B : Nat) (x1 : Option Addr) (n1 c1 : Nat) (x2 : Option Addr) (n2 c2 : Nat) (fuel : Nat) (ns : List NR) (op : List Int) (p : Nat) (k : Kw) (nm rg : List UInt8) (kids : List PT) (ih : ∀ x ∈ kids, TreeOk mb B x1 n1 c1 x2 n2 c2 fuel ns op x) : TreeOk mb B x1 n1 c1 x2 n2 c2 fuel ns op (.node p k nm rg kids) := by
 intro sc base hs hsc hw hr hle hl9 hf w nv cv rv m h
 refine ⟨mW_keeps fuel hf _ sc base m hw hr h.bd h.rl, ?_⟩
 simp only [ShowsM] at hs
 obtain ⟨⟨n, hn, hfm, hrg, hp0, hp1, hp2⟩, hks⟩ := hs
 simp only [PT.wf] at hw
 simp only [PT.rgd] at hr
 simp only [PT.cnt] at h hle ⊢
 rw [show (((base + (1 + cntL kids) : Nat) : Int) - 1) = ((base + cntL kids : Nat) : Int) from by omega]
 cases k with
 | let_ =>
  match kids, hw.1, ih with
  | [a, b], _, ih =>
   simp only [bodK, ShowsML, if_true, Bool.false_eq_true, if_false] at hks
   simp only [wfL] at hw
   simp only [rgdL] at hr
   simp only [cntL, Nat.add_zero] at hle hn h ⊢
   simp only [partsL, List.getD_cons_zero, List.getD_cons_succ] at hp0 hp1
   have ha := ih a (by simp) sc base hks.1 hsc hw.2.1 hr.2.1 (by omega) hl9 hf
   have hb := ih b (by simp) _ (base + a.cnt) hks.2.1 (hsc.snoc _ _ (by omega)) hw.2.2.1 hr.2.2.1 (by omega) hl9 hf
   rw [← hp0] at ha
   rw [← hp1] at hb
   have hwl := fun w nv cv rv m h => workLet_any mb B _ _ fuel ns op n a.cnt b.cnt _ _ (by rw [hp0]; omega) ha hb w nv cv rv m (MSt.less (c := 1 + (a.cnt + b.cnt)) h (by omega))
   have := work_step mb B x1 n1 c1 x2 n2 c2 fuel ns op (base + (a.cnt + b.cnt)) n hn (by rw [hfm]; decide) (1 + (a.cnt + b.cnt)) _ (fun w nv cv rv m h => step_3 mb B _ _ fuel ns op n hfm (1 + (a.cnt + b.cnt)) _ hwl w nv cv rv m h) w nv cv rv m h
   rw [hp0] at this
   simp only [mW, mLet, if_true, reduceCtorEq, if_false]
   exact this
 | pair =>
  match kids, hw.1, ih with
  | [a, b], _, ih =>
   simp only [bodK, ShowsML, Bool.false_eq_true, if_false] at hks
   simp only [wfL] at hw
   simp only [rgdL] at hr
   simp only [cntL, Nat.add_zero] at hle hn h ⊢
   simp only [partsL, List.getD_cons_zero, List.getD_cons_succ] at hp0 hp1
   have ha := ih a (by simp) sc base hks.1 hsc hw.2.1 hr.2.1 (by omega) hl9 hf
   have hb := ih b (by simp) _ (base + a.cnt) hks.2.1 hsc hw.2.2.1 hr.2.2.1 (by omega) hl9 hf
   rw [← hp0] at ha
   rw [← hp1] at hb
   have hwl := fun w nv cv rv m h => workPair_any mb B _ _ fuel ns op n a.cnt b.cnt _ _ ha hb w nv cv rv m (MSt.less (c := 1 + (a.cnt + b.cnt)) h (by omega))
   have := work_step mb B x1 n1 c1 x2 n2 c2 fuel ns op (base + (a.cnt + b.cnt)) n hn (by rw [hfm]; decide) (1 + (a.cnt + b.cnt)) _ (fun w nv cv rv m h => step_4 mb B _ _ fuel ns op n hfm (1 + (a.cnt + b.cnt)) _ hwl w nv cv rv m h) w nv cv rv m h
   rw [hrg] at this
   simp only [mW, mOps, if_true, reduceCtorEq, if_false]
   exact this
 | fst =>
  match kids, hw.1, ih with
  | [a], _, ih =>
   simp only [bodK, ShowsML, Bool.false_eq_true, if_false] at hks
   simp only [wfL] at hw
   simp only [rgdL] at hr
   simp only [cntL, Nat.add_zero] at hle hn h ⊢
   simp only [partsL, List.getD_cons_zero] at hp0
   have ha := ih a (by simp) sc base hks.1 hsc hw.2.1 hr.2.1 (by omega) hl9 hf
   rw [← hp0] at ha
   have hwl := fun w nv cv rv m h => workPart_any mb B _ _ fuel ns op n a.cnt _ ha w nv cv rv m (MSt.less (c := 1 + a.cnt) h (by omega))
   have := work_step mb B x1 n1 c1 x2 n2 c2 fuel ns op (base + a.cnt) n hn (by rw [hfm]; decide) (1 + a.cnt) _ (fun w nv cv rv m h => step_5 mb B _ _ fuel ns op n hfm (1 + a.cnt) _ hwl w nv cv rv m h) w nv cv rv m h
   simp only [if_pos (show n.form = 5 from hfm)] at this
   simp only [mW, mOps, if_true, reduceCtorEq, if_false]
   exact this
 | snd =>
  match kids, hw.1, ih with
  | [a], _, ih =>
   simp only [bodK, ShowsML, Bool.false_eq_true, if_false] at hks
   simp only [wfL] at hw
   simp only [rgdL] at hr
   simp only [cntL, Nat.add_zero] at hle hn h ⊢
   simp only [partsL, List.getD_cons_zero] at hp0
   have ha := ih a (by simp) sc base hks.1 hsc hw.2.1 hr.2.1 (by omega) hl9 hf
   rw [← hp0] at ha
   have hwl := fun w nv cv rv m h => workPart_any mb B _ _ fuel ns op n a.cnt _ ha w nv cv rv m (MSt.less (c := 1 + a.cnt) h (by omega))
   have := work_step mb B x1 n1 c1 x2 n2 c2 fuel ns op (base + a.cnt) n hn (by rw [hfm]; decide) (1 + a.cnt) _ (fun w nv cv rv m h => step_6 mb B _ _ fuel ns op n hfm (1 + a.cnt) _ hwl w nv cv rv m h) w nv cv rv m h
   simp only [if_neg (show n.form ≠ 5 by rw [hfm]; decide)] at this
   simp only [mW, mOps, reduceCtorEq, if_false]
   exact this
 | if_ =>
  match kids, hw.1, ih with
  | [a, b, c], _, ih =>
   simp only [bodK, ShowsML, Bool.false_eq_true, if_false] at hks
   simp only [wfL] at hw
   simp only [rgdL] at hr
   simp only [cntL, Nat.add_zero] at hle hn h ⊢
   simp only [partsL, List.getD_cons_zero, List.getD_cons_succ] at hp0 hp1 hp2
   have ha := ih a (by simp) sc base hks.1 hsc hw.2.1 hr.2.1 (by omega) hl9 hf
   have hb := ih b (by simp) _ (base + a.cnt) hks.2.1 hsc hw.2.2.1 hr.2.2.1 (by omega) hl9 hf
   have hc := ih c (by simp) _ (base + a.cnt + b.cnt) hks.2.2.1 hsc hw.2.2.2.1 hr.2.2.2.1 (by omega) hl9 hf
   rw [← hp0] at ha
   rw [← hp1] at hb
   rw [← hp2] at hc
   have hwl := fun w nv cv rv m h => workIf_any mb B _ _ fuel ns op n a.cnt b.cnt _ _ _ ha hb c.cnt hc w nv cv rv m (MSt.less (c := 1 + (a.cnt + (b.cnt + c.cnt))) h (by omega))
   have := work_step mb B x1 n1 c1 x2 n2 c2 fuel ns op (base + (a.cnt + (b.cnt + c.cnt))) n hn (by rw [hfm]; decide) (1 + (a.cnt + (b.cnt + c.cnt))) _ (fun w nv cv rv m h => step_7 mb B _ _ fuel ns op n hfm (1 + (a.cnt + (b.cnt + c.cnt))) _ hwl w nv cv rv m h) w nv cv rv m h
   simp only [mW, mIf, if_true, reduceCtorEq, if_false]
   exact this
 | loop =>
  match kids, hw.1, ih with
  | [a, b, c], _, ih =>
   simp only [bodK, ShowsML, if_true, Bool.false_eq_true, if_false] at hks
   simp only [wfL] at hw
   simp only [rgdL] at hr
   simp only [cntL, Nat.add_zero] at hle hn h ⊢
   simp only [partsL, List.getD_cons_zero, List.getD_cons_succ] at hp0 hp1 hp2
   have ha := ih a (by simp) sc base hks.1 hsc hw.2.1 hr.2.1 (by omega) hl9 hf
   have hb := ih b (by simp) _ (base + a.cnt) hks.2.1 hsc hw.2.2.1 hr.2.2.1 (by omega) hl9 hf
   have hc := ih c (by simp) _ (base + a.cnt + b.cnt) hks.2.2.1 (hsc.snoc _ _ (by omega)) hw.2.2.2.1 hr.2.2.2.1 (by omega) hl9 hf
   rw [← hp0] at ha
   rw [← hp1] at hb
   rw [← hp2] at hc
   have hwl := fun w nv cv rv m h => workLoop_any mb B _ _ fuel ns op n (by rw [hp1]; omega) a.cnt b.cnt c.cnt _ _ _ ha hb (by omega) hc w nv cv rv m (MSt.less (c := 1 + (a.cnt + (b.cnt + c.cnt))) h (by omega))
   have := work_step mb B x1 n1 c1 x2 n2 c2 fuel ns op (base + (a.cnt + (b.cnt + c.cnt))) n hn (by rw [hfm]; decide) (1 + (a.cnt + (b.cnt + c.cnt))) _ (fun w nv cv rv m h => step_11 mb B _ _ fuel ns op n hfm (1 + (a.cnt + (b.cnt + c.cnt))) _ hwl w nv cv rv m h) w nv cv rv m h
   rw [hp1] at this
   simp only [mW, mLoop, if_true, reduceCtorEq, if_false]
   exact this
 | new =>
  match kids, hw.1, ih with
  | [a], _, ih =>
   simp only [bodK, ShowsML, Bool.false_eq_true, if_false] at hks
   simp only [wfL] at hw
   simp only [rgdL] at hr
   simp only [cntL, Nat.add_zero] at hle hn h ⊢
   simp only [partsL, List.getD_cons_zero] at hp0
   have ha := ih a (by simp) sc base hks.1 hsc hw.2.1 hr.2.1 (by omega) hl9 hf
   rw [← hp0] at ha
   have := work_new mb B x1 n1 c1 x2 n2 c2 fuel ns op (base + a.cnt) n hn hfm (1 + a.cnt) _ (fun w nv cv rv m h => workNew_any mb B _ _ fuel ns op n (by rw [hrg]; omega) a.cnt _ ha w nv cv rv m h) w nv cv rv m h
   rw [hrg] at this
   simp only [mW, mNew, if_true]
   exact this
 | _ =>
  match kids, hw.1, ih with
  | [a, b], _, ih =>
   simp only [bodK, ShowsML, Bool.false_eq_true, if_false] at hks
   simp only [wfL] at hw
   simp only [rgdL] at hr
   simp only [cntL, Nat.add_zero] at hle hn h ⊢
   simp only [partsL, List.getD_cons_zero, List.getD_cons_succ] at hp0 hp1
   have ha := ih a (by simp) sc base hks.1 hsc hw.2.1 hr.2.1 (by omega) hl9 hf
   have hb := ih b (by simp) _ (base + a.cnt) hks.2.1 hsc hw.2.2.1 hr.2.2.1 (by omega) hl9 hf
   rw [← hp0] at ha
   rw [← hp1] at hb
   have hwl := fun w nv cv rv m h => workNumbers_any mb B _ _ fuel ns op n a.cnt b.cnt _ _ ha hb w nv cv rv m (MSt.less (c := 1 + (a.cnt + b.cnt)) h (by omega))
   first
   | (have := work_step mb B x1 n1 c1 x2 n2 c2 fuel ns op (base + (a.cnt + b.cnt)) n hn (by rw [hfm]; decide) (1 + (a.cnt + b.cnt)) _ (fun w nv cv rv m h => step_8 mb B _ _ fuel ns op n hfm (1 + (a.cnt + b.cnt)) _ hwl w nv cv rv m h) w nv cv rv m h
      simp only [hfm] at this
      simp only [mW, mOps, reduceCtorEq, if_false]
      exact this)
   | (have := work_step mb B x1 n1 c1 x2 n2 c2 fuel ns op (base + (a.cnt + b.cnt)) n hn (by rw [hfm]; decide) (1 + (a.cnt + b.cnt)) _ (fun w nv cv rv m h => step_9 mb B _ _ fuel ns op n hfm (1 + (a.cnt + b.cnt)) _ hwl w nv cv rv m h) w nv cv rv m h
      simp only [hfm] at this
      simp only [mW, mOps, reduceCtorEq, if_false]
      exact this)
   | (have := work_step mb B x1 n1 c1 x2 n2 c2 fuel ns op (base + (a.cnt + b.cnt)) n hn (by rw [hfm]; decide) (1 + (a.cnt + b.cnt)) _ (fun w nv cv rv m h => step_10 mb B _ _ fuel ns op n hfm (1 + (a.cnt + b.cnt)) _ hwl w nv cv rv m h) w nv cv rv m h
      simp only [hfm] at this
      simp only [mW, mOps, reduceCtorEq, if_false]
      exact this)
theorem tree_all (mb B : Nat) (x1 : Option Addr) (n1 c1 : Nat) (x2 : Option Addr) (n2 c2 : Nat) (fuel : Nat) (ns : List NR) (op : List Int) (t : PT) : TreeOk mb B x1 n1 c1 x2 n2 c2 fuel ns op t := by
 induction t using PT.ind with
 | h1 p s => exact tree_num mb B x1 n1 c1 x2 n2 c2 fuel ns op p s
 | h2 p s => exact tree_name mb B x1 n1 c1 x2 n2 c2 fuel ns op p s
 | h3 p k nm rg kids ih => exact tree_node mb B x1 n1 c1 x2 n2 c2 fuel ns op p k nm rg kids ih
def Fits (cells : List MC) : Ty → MV → Prop
 | .n, v => v.c = false ∧ 0 ≤ v.n ∧ v.n ≤ 9999
 | .p _ A B, v => (v.c = false ∧ 0 ≤ v.n ∧ v.n ≤ 9999) ∨ (v.c = true ∧ ∃ (i : Nat) (c : MC), v.n = i ∧ cells[i]? = some c ∧ Fits cells A c.a ∧ Fits cells B c.b)
theorem fits_v0 (cells : List MC) (T : Ty) : Fits cells T v0 := by cases T <;> simp [Fits, v0]
theorem Fits.mono {cells l : List MC} : ∀ {T : Ty} {v : MV}, Fits cells T v → Fits (cells ++ l) T v
 | .n, _, h => h
 | .p _ A B, _, h => by
  simp only [Fits] at h ⊢
  rcases h with h | ⟨hc, i, c, hv, hi, ha, hb⟩
  ·exact Or.inl h
  ·refine Or.inr ⟨hc, i, c, hv, ?_, Fits.mono ha, Fits.mono hb⟩
   rw [List.getElem?_append_left (List.getElem?_eq_some_iff.1 hi).1]; exact hi
structure Ext (m m' : MM) (base c : Nat) : Prop where
 cells : ∃ l, m'.cells = m.cells ++ l
 len : m'.named.length = m.named.length
 named : ∀ i, (i < base ∨ base + c ≤ i) → m'.named[i]? = m.named[i]?
theorem Ext.refl (m : MM) (base c : Nat) : Ext m m base c := ⟨⟨[], by simp⟩, rfl, fun _ _ => rfl⟩
theorem Ext.trans {m m1 m2 : MM} {b c b1 c1 b2 c2 : Nat} (h : Ext m m1 b1 c1) (h' : Ext m1 m2 b2 c2) (hb1 : b ≤ b1 ∧ b1 + c1 ≤ b + c) (hb2 : b ≤ b2 ∧ b2 + c2 ≤ b + c) : Ext m m2 b c := by
 obtain ⟨l, hl⟩ := h.cells
 obtain ⟨l', hl'⟩ := h'.cells
 exact ⟨⟨l ++ l', by rw [hl', hl, List.append_assoc]⟩, h'.len.trans h.len, fun i hi => (h'.named i (by omega)).trans (h.named i (by omega))⟩
theorem Ext.same {m m' : MM} (h1 : m'.cells = m.cells) (h2 : m'.named = m.named) (base c : Nat) : Ext m m' base c := ⟨⟨[], by simp [h1]⟩, by rw [h2], fun _ _ => by rw [h2]⟩
theorem Fits.on {m m' : MM} {b c : Nat} {T : Ty} {v : MV} (h : Fits m.cells T v) (he : Ext m m' b c) : Fits m'.cells T v := by
 obtain ⟨l, hl⟩ := he.cells
 rw [hl]; exact h.mono
theorem stop_ext (m : MM) (f base c : Nat) : Ext m (m.stop f) base c := by unfold MM.stop; split <;> (refine Ext.same ?_ ?_ _ _ <;> rfl)
theorem use_ext (m : MM) (v : MV) (base c : Nat) : Ext m (m.use v).2 base c := by
 unfold MM.use; split
 ·exact Ext.refl _ _ _
 ·simp only; split
  ·exact Ext.refl _ _ _
  ·exact stop_ext _ _ _ _
theorem cell_ext (m : MM) (k : Int) (a b : MV) (base c : Nat) : Ext m (m.newCell k a b).2 base c := by
 unfold MM.newCell; split
 ·exact Ext.refl _ _ _
 ·exact ⟨⟨_, rfl⟩, rfl, fun _ _ => rfl⟩
theorem name_ext (m : MM) (j : Nat) (v : MV) (base c : Nat) (hj : base ≤ j ∧ j < base + c) : Ext m (m.name (j : Int) v) base c := by
 unfold MM.name; split
 ·refine ⟨⟨[], by simp⟩, by simp, fun i hi => ?_⟩
  simp only [Int.toNat_natCast]
  rw [List.getElem?_set_ne (by omega)]
 ·exact Ext.refl _ _ _
theorem name_at (m : MM) (j : Nat) (v : MV) (hj : j < m.named.length) : (m.name (j : Int) v).named[j]? = some v := by
 unfold MM.name
 rw [if_pos (by omega)]
 simp only [Int.toNat_natCast]
 rw [List.getElem?_set_self hj]
theorem fin_ext (m : MM) (base c : Nat) : Ext m m.fin base c := by unfold MM.fin; split <;> (refine Ext.same ?_ ?_ _ _ <;> rfl)
def EF (named : List MV) (cells : List MC) (sc : Sc) (G : TEnv) (base : Nat) : Prop := ∀ s T, look G s = some T → ∃ (i : Nat) (v : MV), findS sc s = (i : Int) ∧ i < base ∧ named[i]? = some v ∧ Fits cells T v
theorem look_snocF (G : TEnv) (nm : List UInt8) (T : Ty) (s : List UInt8) : look (G ++ [(nm, T)]) s = if nm = s then some T else look G s := by
 unfold look
 rw [List.reverse_append]
 simp only [List.reverse_cons, List.reverse_nil, List.nil_append, List.singleton_append, List.find?_cons]
 by_cases h : nm = s
 ·simp [h]
 ·have : (nm == s) = false := by rw [beq_eq_false_iff_ne]; exact h
  simp [h, this]
theorem findS_snoc (sc : Sc) (nm : List UInt8) (j : Int) (s : List UInt8) : findS (sc ++ [(nm, j)]) s = if nm = s then j else findS sc s := by
 unfold findS
 rw [List.reverse_append]
 simp only [List.reverse_cons, List.reverse_nil, List.nil_append, List.singleton_append, List.find?_cons]
 by_cases h : nm = s
 ·simp [h]
 ·have : (nm == s) = false := by rw [beq_eq_false_iff_ne]; exact h
  simp [h, this]
theorem EF.on {m m' : MM} {sc : Sc} {G : TEnv} {base b c : Nat} (h : EF m.named m.cells sc G base) (he : Ext m m' b c) (hb : base ≤ b) : EF m'.named m'.cells sc G base := by
 intro s T hl
 obtain ⟨i, v, h1, h2, h3, h4⟩ := h s T hl
 exact ⟨i, v, h1, h2, (he.named i (Or.inl (by omega))).trans h3, h4.on he⟩
theorem EF.up {named : List MV} {cells : List MC} {sc : Sc} {G : TEnv} {base b : Nat} (h : EF named cells sc G base) (hb : base ≤ b) : EF named cells sc G b := by
 intro s T hl
 obtain ⟨i, v, h1, h2, h3, h4⟩ := h s T hl
 exact ⟨i, v, h1, by omega, h3, h4⟩
theorem EF.snoc {m : MM} {sc : Sc} {G : TEnv} {base j : Nat} {nm : List UInt8} {T : Ty} {v : MV} (h : EF m.named m.cells sc G base) (hj : base ≤ j) (hl : j < m.named.length) (hv : Fits m.cells T v) : EF (m.name (j : Int) v).named (m.name (j : Int) v).cells (sc ++ [(nm, (j : Int))]) (G ++ [(nm, T)]) (j + 1) := by
 have he := name_ext m j v j 1 (by omega)
 intro s T' hlk
 rw [look_snocF] at hlk
 rw [findS_snoc]
 by_cases hs : nm = s
 ·rw [if_pos hs] at hlk ⊢
  cases hlk
  exact ⟨j, v, rfl, by omega, name_at m j v hl, hv.on he⟩
 ·rw [if_neg hs] at hlk ⊢
  obtain ⟨i, u, h1, h2, h3, h4⟩ := h s T' hlk
  exact ⟨i, u, h1, by omega, (he.named i (Or.inl (by omega))).trans h3, h4.on he⟩
def FitOut (m : MM) (x : MV × MM) (base c : Nat) (T : Ty) : Prop := Ext m x.2 base c ∧ Fits x.2.cells T x.1
theorem begun_fit {fuel : Nat} {m : MM} {f : MM → MV × MM} {base c : Nat} {T : Ty} (h : FitOut { m with steps := m.steps + 1 } (f { m with steps := m.steps + 1 }) base c T) : FitOut m (mBegun fuel m f) base c T := by
 unfold mBegun
 by_cases hfu : fuel ≤ m.steps
 ·simp only [if_pos hfu]
  have hne : (m.stop 12).fault ≠ 0 := by unfold MM.stop; split <;> simp_all
  simp only [if_pos hne]
  exact ⟨stop_ext _ _ _ _, fits_v0 _ _⟩
 ·simp only [if_neg hfu]
  by_cases hz : m.fault = 0
  ·rw [if_neg (fun hn => hn hz)]
   exact ⟨(show Ext m { m with steps := m.steps + 1 } base c from Ext.same (by rfl) (by rfl) base c).trans h.1 (by omega) (by omega), h.2⟩
  ·rw [if_pos hz]
   exact ⟨Ext.refl _ _ _, fits_v0 _ _⟩
theorem turns_fit {base c j : Nat} {T : Ty} {f : MM → MV × MM} {L : Nat} {P : MM → Prop} (hj : base ≤ j ∧ j < base + c) (hP : ∀ m v, P m → Fits m.cells T v → m.named.length = L → FitOut (m.name (j : Int) v) (f (m.name (j : Int) v)) base c T) (hPe : ∀ m m', P m → Ext m m' base c → P m') : ∀ (k : Nat) (v : MV) (m : MM), P m → Fits m.cells T v → m.named.length = L → FitOut m (mTurns (j : Int) f k v m) base c T
 | 0, v, m, _, hv, _ => ⟨Ext.refl _ _ _, hv⟩
 | k + 1, v, m, hm, hv, hL => by
  simp only [mTurns]
  split
  ·exact ⟨Ext.refl _ _ _, hv⟩
  ·have h1 := hP m v hm hv hL
   have he : Ext m (f (m.name (j : Int) v)).2 base c := (name_ext m j v base c hj).trans h1.1 (by omega) (by omega)
   have h2 := turns_fit hj hP hPe k (f (m.name (j : Int) v)).1 (f (m.name (j : Int) v)).2 (hPe m _ hm he) h1.2 (he.len.trans hL)
   exact ⟨he.trans h2.1 (by omega) (by omega), h2.2⟩
theorem arith_fit (cells : List MC) (k : Kw) (a b : Int) (ha : 0 ≤ a ∧ a ≤ 9999) (hb : 0 ≤ b ∧ b ≤ 9999) : Fits cells .n ⟨false, mArith k a b⟩ := by
 simp only [Fits, mArith, true_and]
 split
 ·rw [Int.tmod_eq_emod_of_nonneg (by omega)]; omega
 ·split
  ·rw [Int.tmod_eq_emod_of_nonneg (by omega)]; omega
  ·split <;> omega
theorem use_fit {m : MM} {A B : Ty} {r : Nat} {v : MV} (h : Fits m.cells (.p r A B) v) : Fits m.cells A (m.use v).1.a ∧ Fits m.cells B (m.use v).1.b := by
 simp only [Fits] at h
 rcases h with h | ⟨hc, i, c, hv, hi, ha, hb⟩
 ·have e : (m.use v).1 = c0 := by unfold MM.use; rw [if_pos (Or.inl h.1)]
  rw [e]; exact ⟨fits_v0 _ _, fits_v0 _ _⟩
 ·have hil := (List.getElem?_eq_some_iff.1 hi).1
  have e : (m.use v).1 = c := by
   unfold MM.use
   rw [if_neg (by rw [hc, hv]; simp; omega)]
   simp only
   rw [hv, Int.toNat_natCast, List.getD_eq_getElem?_getD, hi]; rfl
  rw [e]; exact ⟨ha, hb⟩
theorem cell_fit {m : MM} {A B : Ty} {k : Int} {a b : MV} (ha : Fits m.cells A a) (hb : Fits m.cells B b) : Fits (m.newCell k a b).2.cells (.p 0 A B) (m.newCell k a b).1 := by
 have he := cell_ext m k a b 0 0
 unfold MM.newCell at he ⊢
 split
 ·exact fits_v0 _ _
 ·rename_i r hr
  simp only [Fits]
  refine Or.inr ⟨trivial, m.cells.length, ⟨a, b, m.home k, r.ser⟩, rfl, by simp, ha.mono, hb.mono⟩
set_option maxHeartbeats 1000000 in
theorem mW_fits (fuel : Nat) {G : TEnv} {t : PT} {T : Ty} (h : WT G t T) : ∀ (sc : Sc) (base : Nat) (m : MM), t.rgd → EF m.named m.cells sc G base → base + t.cnt ≤ m.named.length → FitOut m (mW fuel t sc base m) base t.cnt T := by
 induction h with
 | num =>
  intro sc base m hr he hl
  simp only [PT.rgd] at hr
  simp only [mW]
  exact begun_fit ⟨Ext.refl _ _ _, by simp only [Fits, true_and]; exact hr⟩
 | name hlk =>
  intro sc base m hr he hl
  simp only [mW]
  refine begun_fit ⟨Ext.refl _ _ _, ?_⟩
  obtain ⟨i, v, h1, h2, h3, h4⟩ := he _ _ hlk
  have hil := (List.getElem?_eq_some_iff.1 h3).1
  unfold MM.look
  simp only [h1]
  rw [if_neg (by omega), Int.toNat_natCast, List.getD_eq_getElem?_getD, h3]
  exact h4
 | @let_ G p nm rg a b A B ha hb iha ihb =>
  intro sc base m hr he hl
  simp only [PT.rgd, rgdL] at hr
  simp only [PT.cnt, cntL, Nat.add_zero] at hl ⊢
  simp only [mW, mLet, if_true, reduceCtorEq, if_false]
  refine begun_fit ?_
  have h1 := iha sc base { m with steps := m.steps + 1 } hr.2.1 he (by simp only; omega)
  generalize mW fuel a sc base { m with steps := m.steps + 1 } = x at h1 ⊢
  have hca := cnt_pos' a
  have hxl : x.2.named.length = m.named.length := h1.1.len
  have hx := EF.on (m := { m with steps := m.steps + 1 }) he h1.1 (Nat.le_refl _)
  rw [show (((base + a.cnt : Nat) : Int) - 1) = ((base + a.cnt - 1 : Nat) : Int) from by omega]
  have hsn := hx.snoc (nm := nm) (j := base + a.cnt - 1) (by omega) (by omega) h1.2
  rw [show base + a.cnt - 1 + 1 = base + a.cnt from by omega] at hsn
  have hne := name_ext x.2 (base + a.cnt - 1) x.1 base a.cnt (by omega)
  have h2 := ihb _ (base + a.cnt) _ hr.2.2.1 hsn (by rw [hne.len, hxl]; omega)
  exact ⟨(h1.1.trans hne (b := base) (c := a.cnt) (by omega) (by omega)).trans h2.1 (by omega) (by omega), h2.2⟩
 | @pair G p nm rg a b A B ha hb hs iha ihb =>
  intro sc base m hr he hl
  simp only [PT.rgd, rgdL] at hr
  simp only [PT.cnt, cntL, Nat.add_zero] at hl ⊢
  simp only [mW, mOps, if_true, reduceCtorEq, if_false]
  refine begun_fit ?_
  have h1 := iha sc base { m with steps := m.steps + 1 } hr.2.1 he (by simp only; omega)
  generalize mW fuel a sc base { m with steps := m.steps + 1 } = x at h1 ⊢
  have hxl : x.2.named.length = m.named.length := h1.1.len
  have h2 := ihb sc (base + a.cnt) x.2 hr.2.2.1 ((EF.on (m := { m with steps := m.steps + 1 }) he h1.1 (Nat.le_refl _)).up (by omega)) (by omega)
  generalize mW fuel b sc (base + a.cnt) x.2 = y at h2 ⊢
  have h3 := cell_ext y.2 (valueL rg) x.1 y.1 base (1 + (a.cnt + b.cnt))
  exact ⟨(h1.1.trans h2.1 (b := base) (c := a.cnt + b.cnt) (by omega) (by omega)).trans h3 (by omega) (by omega), cell_fit (h1.2.on h2.1) h2.2⟩
 | @fst G p nm rg a A B ha iha =>
  intro sc base m hr he hl
  simp only [PT.rgd, rgdL] at hr
  simp only [PT.cnt, cntL, Nat.add_zero] at hl ⊢
  simp only [mW, mOps, if_true, reduceCtorEq, if_false]
  refine begun_fit ?_
  have h1 := iha sc base { m with steps := m.steps + 1 } hr.2.1 he (by simp only; omega)
  generalize mW fuel a sc base { m with steps := m.steps + 1 } = x at h1 ⊢
  have h3 := use_ext x.2 x.1 base a.cnt
  exact ⟨h1.1.trans h3 (by omega) (by omega), (use_fit h1.2).1.on h3⟩
 | @snd G p nm rg a A B ha iha =>
  intro sc base m hr he hl
  simp only [PT.rgd, rgdL] at hr
  simp only [PT.cnt, cntL, Nat.add_zero] at hl ⊢
  simp only [mW, mOps, reduceCtorEq, if_false]
  refine begun_fit ?_
  have h1 := iha sc base { m with steps := m.steps + 1 } hr.2.1 he (by simp only; omega)
  generalize mW fuel a sc base { m with steps := m.steps + 1 } = x at h1 ⊢
  have h3 := use_ext x.2 x.1 base a.cnt
  exact ⟨h1.1.trans h3 (by omega) (by omega), (use_fit h1.2).2.on h3⟩
 | @if_ G p nm rg a b c T ha hb hc iha ihb ihc =>
  intro sc base m hr he hl
  simp only [PT.rgd, rgdL] at hr
  simp only [PT.cnt, cntL, Nat.add_zero] at hl ⊢
  simp only [mW, mIf, if_true, reduceCtorEq, if_false]
  refine begun_fit ?_
  have h1 := iha sc base { m with steps := m.steps + 1 } hr.2.1 he (by simp only; omega)
  generalize mW fuel a sc base { m with steps := m.steps + 1 } = x at h1 ⊢
  have hxl : x.2.named.length = m.named.length := h1.1.len
  have hx := EF.on (m := { m with steps := m.steps + 1 }) he h1.1 (Nat.le_refl _)
  split
  ·have h2 := ihb sc (base + a.cnt) x.2 hr.2.2.1 (hx.up (by omega)) (by omega)
   exact ⟨h1.1.trans h2.1 (by omega) (by omega), h2.2⟩
  ·have h2 := ihc sc (base + a.cnt + b.cnt) x.2 hr.2.2.2.1 (hx.up (by omega)) (by omega)
   exact ⟨h1.1.trans h2.1 (by omega) (by omega), h2.2⟩
 | @two G p k nm rg a b hk ha hb iha ihb =>
  intro sc base m hr he hl
  simp only [PT.rgd, rgdL] at hr
  simp only [PT.cnt, cntL, Nat.add_zero] at hl ⊢
  have e : mW fuel (.node p k nm rg [a, b]) sc base m = mBegun fuel m (fun m => (⟨false, mArith k (mW fuel a sc base m).1.n (mW fuel b sc (base + a.cnt) (mW fuel a sc base m).2).1.n⟩, (mW fuel b sc (base + a.cnt) (mW fuel a sc base m).2).2)) := by
   rcases hk with rfl | rfl | rfl <;> simp only [mW, mOps, reduceCtorEq, if_false]
  rw [e]
  refine begun_fit ?_
  have h1 := iha sc base { m with steps := m.steps + 1 } hr.2.1 he (by simp only; omega)
  generalize mW fuel a sc base { m with steps := m.steps + 1 } = x at h1 ⊢
  have hxl : x.2.named.length = m.named.length := h1.1.len
  have h2 := ihb sc (base + a.cnt) x.2 hr.2.2.1 ((EF.on (m := { m with steps := m.steps + 1 }) he h1.1 (Nat.le_refl _)).up (by omega)) (by omega)
  generalize mW fuel b sc (base + a.cnt) x.2 = y at h2 ⊢
  have f1 := h1.2
  have f2 := h2.2
  simp only [Fits] at f1 f2
  exact ⟨h1.1.trans h2.1 (by omega) (by omega), arith_fit _ _ _ _ f1.2 f2.2⟩
 | @loop G p nm rg a b c T ha hb hc iha ihb ihc =>
  intro sc base m hr he hl
  simp only [PT.rgd, rgdL] at hr
  simp only [PT.cnt, cntL, Nat.add_zero] at hl ⊢
  simp only [mW, mLoop, if_true, reduceCtorEq, if_false]
  refine begun_fit ?_
  have h1 := iha sc base { m with steps := m.steps + 1 } hr.2.1 he (by simp only; omega)
  generalize mW fuel a sc base { m with steps := m.steps + 1 } = x at h1 ⊢
  have hxl : x.2.named.length = m.named.length := h1.1.len
  have hx := EF.on (m := { m with steps := m.steps + 1 }) he h1.1 (Nat.le_refl _)
  have h2 := ihb sc (base + a.cnt) x.2 hr.2.2.1 (hx.up (by omega)) (by omega)
  generalize mW fuel b sc (base + a.cnt) x.2 = y at h2 ⊢
  have hyl : y.2.named.length = m.named.length := h2.1.len.trans hxl
  have hcb := cnt_pos' b
  have hy := hx.on h2.1 (by omega)
  rw [show (((base + a.cnt + b.cnt : Nat) : Int) - 1) = ((base + a.cnt + b.cnt - 1 : Nat) : Int) from by omega]
  have ht := turns_fit (base := base + a.cnt) (c := b.cnt + c.cnt) (j := base + a.cnt + b.cnt - 1) (T := T) (L := m.named.length) (P := fun m => EF m.named m.cells sc G base) (f := fun m => mW fuel c (sc ++ [(nm, ((base + a.cnt + b.cnt - 1 : Nat) : Int))]) (base + a.cnt + b.cnt) m) (by omega)
   (fun m' v hP hv hL => by
    have hsn := EF.snoc (nm := nm) (j := base + a.cnt + b.cnt - 1) (EF.up hP (show base ≤ base + a.cnt + b.cnt - 1 by omega)) (Nat.le_refl _) (by omega) hv
    rw [show base + a.cnt + b.cnt - 1 + 1 = base + a.cnt + b.cnt from by omega] at hsn
    have h3 := ihc _ (base + a.cnt + b.cnt) _ hr.2.2.2.1 hsn (by rw [(name_ext m' (base + a.cnt + b.cnt - 1) v (base + a.cnt + b.cnt - 1) 1 (by omega)).len]; omega)
    exact ⟨(Ext.refl _ (base + a.cnt) 0).trans h3.1 (by omega) (by omega), h3.2⟩)
   (fun m1 m2 hP hE => EF.on hP hE (by omega)) x.1.n.toNat y.1 y.2 hy h2.2 hyl
  exact ⟨(h1.1.trans h2.1 (b := base) (c := a.cnt + b.cnt) (by omega) (by omega)).trans ht.1 (by omega) (by omega), ht.2⟩
 | @new G p nm rg a T ha iha =>
  intro sc base m hr he hl
  simp only [PT.rgd, rgdL] at hr
  simp only [PT.cnt, cntL, Nat.add_zero] at hl ⊢
  simp only [mW, mNew, if_true]
  have h1 := iha sc base (m.opn (valueL rg)) hr.2.1 he (by show _ ≤ m.named.length; omega)
  generalize mW fuel a sc base (m.opn (valueL rg)) = x at h1 ⊢
  have h0 : Ext m (m.opn (valueL rg)) base a.cnt := Ext.same (by rfl) (by rfl) _ _
  have h3 := fin_ext x.2 base a.cnt
  exact ⟨(h0.trans h1.1 (b := base) (c := a.cnt) (by omega) (by omega)).trans h3 (by omega) (by omega), h1.2.on h3⟩
def Rep (cells : List MC) : Vl → MV → Prop
 | .n k, v => v.c = false ∧ v.n = k ∧ k ≤ 9999
 | .p a b, v => v.c = true ∧ ∃ (i : Nat) (c : MC), v.n = i ∧ cells[i]? = some c ∧ Rep cells a c.a ∧ Rep cells b c.b
theorem Rep.mono {cells l : List MC} : ∀ {x : Vl} {v : MV}, Rep cells x v → Rep (cells ++ l) x v
 | .n _, _, h => h
 | .p a b, _, h => by
  simp only [Rep] at h ⊢
  obtain ⟨hc, i, c, hv, hi, ha, hb⟩ := h
  refine ⟨hc, i, c, hv, ?_, Rep.mono ha, Rep.mono hb⟩
  rw [List.getElem?_append_left (List.getElem?_eq_some_iff.1 hi).1]; exact hi
theorem Rep.on {m m' : MM} {b c : Nat} {x : Vl} {v : MV} (h : Rep m.cells x v) (he : Ext m m' b c) : Rep m'.cells x v := by
 obtain ⟨l, hl⟩ := he.cells
 rw [hl]; exact h.mono
theorem Rep.fits {cells : List MC} : ∀ {x : Vl} {T : Ty} {v : MV}, Rep cells x v → x.has T → Fits cells T v
 | .n k, .n, v, h, _ => by simp only [Rep] at h; simp only [Fits]; exact ⟨h.1, by omega, by omega⟩
 | .p a b, .p _ A B, v, h, ht => by
  simp only [Rep] at h
  simp only [Vl.has] at ht
  obtain ⟨hc, i, c, hv, hi, ha, hb⟩ := h
  simp only [Fits]
  exact Or.inr ⟨hc, i, c, hv, hi, ha.fits ht.1, hb.fits ht.2⟩
 | .n _, .p _ _ _, _, _, ht => by simp [Vl.has] at ht
 | .p _ _, .n, _, _, ht => by simp [Vl.has] at ht
theorem fits_rp {cells : List MC} : ∀ {T : Ty} {v : MV}, Fits cells T v → ∃ x, Rep cells x v ∧ x.size ≤ T.size
 | .n, v, h => by simp only [Fits] at h; exact ⟨.n v.n.toNat, by simp only [Rep]; exact ⟨h.1, by omega, by omega⟩, by simp [Vl.size]⟩
 | .p r A B, v, h => by
  simp only [Fits] at h
  rcases h with h | ⟨hc, i, c, hv, hi, ha, hb⟩
  ·exact ⟨.n v.n.toNat, by simp only [Rep]; exact ⟨h.1, by omega, by omega⟩, by simp [Vl.size]⟩
  ·obtain ⟨x, hx, hxs⟩ := fits_rp ha
   obtain ⟨y, hy, hys⟩ := fits_rp hb
   exact ⟨.p x y, by simp only [Rep]; exact ⟨hc, i, c, hv, hi, hx, hy⟩, by simp only [Vl.size, Ty.size]; omega⟩
structure Sm (fuel : Nat) (st : ESt) (m : MM) : Prop where
 e : st.e = 0
 f : m.fault = 0
 s : m.steps = st.steps
 le : st.steps ≤ fuel
 c : m.cells.length = st.cells
 r : m.regs = [⟨-1, 0, st.cells⟩]
 l : m.live = st.cells
 o : m.most = st.cells
 h : ∀ c ∈ m.cells, c.home = 0 ∧ c.ser = 0
def Both (st : ESt) (m : MM) : Prop := st.e = 12 ∧ m.fault = 12
def SimOut (fuel : Nat) (y : Vl × ESt) (x : MV × MM) (T : Ty) : Prop := (Sm fuel y.2 x.2 ∧ Rep x.2.cells y.1 x.1 ∧ y.1.has T) ∨ Both y.2 x.2
def ER (named : List MV) (cells : List MC) (sc : Sc) (env : VEnv) (G : TEnv) (base : Nat) : Prop := ∀ s T, look G s = some T → ∃ (i : Nat) (v : MV), findS sc s = (i : Int) ∧ i < base ∧ named[i]? = some v ∧ Rep cells (lookV env s) v ∧ (lookV env s).has T
theorem ER.ef {named : List MV} {cells : List MC} {sc : Sc} {env : VEnv} {G : TEnv} {base : Nat} (h : ER named cells sc env G base) : EF named cells sc G base := by
 intro s T hl
 obtain ⟨i, v, h1, h2, h3, h4, h5⟩ := h s T hl
 exact ⟨i, v, h1, h2, h3, h4.fits h5⟩
theorem ER.on {m m' : MM} {sc : Sc} {env : VEnv} {G : TEnv} {base b c : Nat} (h : ER m.named m.cells sc env G base) (he : Ext m m' b c) (hb : base ≤ b) : ER m'.named m'.cells sc env G base := by
 intro s T hl
 obtain ⟨i, v, h1, h2, h3, h4, h5⟩ := h s T hl
 exact ⟨i, v, h1, h2, (he.named i (Or.inl (by omega))).trans h3, h4.on he, h5⟩
theorem ER.up {named : List MV} {cells : List MC} {sc : Sc} {env : VEnv} {G : TEnv} {base b : Nat} (h : ER named cells sc env G base) (hb : base ≤ b) : ER named cells sc env G b := by
 intro s T hl
 obtain ⟨i, v, h1, h2, h3, h4, h5⟩ := h s T hl
 exact ⟨i, v, h1, by omega, h3, h4, h5⟩
theorem lookV_snoc (env : VEnv) (nm : List UInt8) (x : Vl) (s : List UInt8) : lookV (env ++ [(nm, x)]) s = if nm = s then x else lookV env s := by
 unfold lookV
 rw [List.reverse_append]
 simp only [List.reverse_cons, List.reverse_nil, List.nil_append, List.singleton_append, List.find?_cons]
 by_cases h : nm = s
 ·simp [h]
 ·have : (nm == s) = false := by rw [beq_eq_false_iff_ne]; exact h
  simp [h, this]
theorem ER.snoc {m : MM} {sc : Sc} {env : VEnv} {G : TEnv} {base j : Nat} {nm : List UInt8} {T : Ty} {x : Vl} {v : MV} (h : ER m.named m.cells sc env G base) (hj : base ≤ j) (hl : j < m.named.length) (hv : Rep m.cells x v) (hx : x.has T) : ER (m.name (j : Int) v).named (m.name (j : Int) v).cells (sc ++ [(nm, (j : Int))]) (env ++ [(nm, x)]) (G ++ [(nm, T)]) (j + 1) := by
 have he := name_ext m j v j 1 (by omega)
 intro s T' hlk
 rw [look_snocF] at hlk
 rw [findS_snoc, lookV_snoc]
 by_cases hs : nm = s
 ·rw [if_pos hs] at hlk ⊢
  rw [if_pos hs]
  cases hlk
  exact ⟨j, v, rfl, by omega, name_at m j v hl, hv.on he, hx⟩
 ·rw [if_neg hs] at hlk ⊢
  rw [if_neg hs]
  obtain ⟨i, u, h1, h2, h3, h4, h5⟩ := h s T' hlk
  exact ⟨i, u, h1, by omega, (he.named i (Or.inl (by omega))).trans h3, h4.on he, h5⟩
theorem Sm.name {fuel : Nat} {st : ESt} {m : MM} (h : Sm fuel st m) (i : Int) (v : MV) : Sm fuel st (m.name i v) := by
 unfold MM.name; split
 ·exact ⟨h.e, h.f, h.s, h.le, h.c, h.r, h.l, h.o, h.h⟩
 ·exact h
theorem stop_keep (m : MM) (f : Nat) (h : m.fault ≠ 0) : m.stop f = m := by unfold MM.stop; rw [if_neg h]
theorem begun_keep (fuel : Nat) (m : MM) (f : MM → MV × MM) (h : m.fault ≠ 0) : mBegun fuel m f = (v0, m) := by
 unfold mBegun
 have : (if fuel ≤ m.steps then m.stop 12 else m) = m := by split <;> simp [stop_keep m 12 h]
 simp only [this]
 rw [if_pos h]
theorem ev_keep (fuel : Nat) (t : PT) (env : VEnv) (st : ESt) (h : st.e ≠ 0) : ev fuel t env st = (.n 0, st) := by
 cases t <;> (simp only [ev, begun]; rw [if_pos h])
inductive NoNew : PT → Prop
 | num {p : Nat} {s : List UInt8} : NoNew (.num p s)
 | name {p : Nat} {s : List UInt8} : NoNew (.name p s)
 | node {p : Nat} {k : Kw} {nm rg : List UInt8} {kids : List PT} (hk : k ≠ .new) (h : ∀ x ∈ kids, NoNew x) : NoNew (.node p k nm rg kids)
theorem mW_keep (fuel : Nat) (t : PT) (hn : NoNew t) (sc : Sc) (base : Nat) (m : MM) (h : m.fault ≠ 0) : mW fuel t sc base m = (v0, m) := by
 cases hn with
 | num => simp only [mW]; exact begun_keep fuel m _ h
 | name => simp only [mW]; exact begun_keep fuel m _ h
 | node hk _ => simp only [mW]; rw [if_neg hk]; exact begun_keep fuel m _ h
theorem both_keep {fuel : Nat} {t : PT} (hn : NoNew t) (sc : Sc) (base : Nat) (env : VEnv) {st : ESt} {m : MM} (h : Both st m) (T : Ty) : SimOut fuel (ev fuel t env st) (mW fuel t sc base m) T := by
 rw [ev_keep fuel t env st (by rw [h.1]; decide), mW_keep fuel t hn sc base m (by rw [h.2]; decide)]
 exact Or.inr h
theorem begun_sim {fuel : Nat} {st : ESt} {m : MM} {f : ESt → Vl × ESt} {g : MM → MV × MM} {T : Ty} (h : Sm fuel st m) (hk : Sm fuel { st with steps := st.steps + 1 } { m with steps := m.steps + 1 } → SimOut fuel (f { st with steps := st.steps + 1 }) (g { m with steps := m.steps + 1 }) T) : SimOut fuel (begun fuel st f) (mBegun fuel m g) T := by
 unfold begun mBegun
 have hs := h.s
 have hle := h.le
 rw [if_neg (fun hn => hn h.e)]
 by_cases hq : st.steps = fuel
 ·rw [if_pos hq]
  have hq' : fuel ≤ m.steps := by omega
  simp only [if_pos hq']
  have e : m.stop 12 = { m with fault := 12 } := by unfold MM.stop; rw [if_pos h.f]
  rw [e]
  exact Or.inr ⟨rfl, rfl⟩
 ·rw [if_neg hq]
  have hq' : ¬ fuel ≤ m.steps := by omega
  simp only [if_neg hq']
  rw [if_neg (fun hn => hn h.f)]
  exact hk ⟨h.e, h.f, by simp only; omega, by simp only; omega, h.c, h.r, h.l, h.o, h.h⟩
theorem turns_sim {fuel : Nat} {T : Ty} {j : Nat} {f : Vl → ESt → Vl × ESt} {g : MM → MV × MM} {P : MM → Prop} (hstep : ∀ st m x v, P m → Sm fuel st m → Rep m.cells x v → x.has T → SimOut fuel (f x st) (g (m.name (j : Int) v)) T ∧ P (g (m.name (j : Int) v)).2) : ∀ (k : Nat) (st : ESt) (m : MM) (x : Vl) (v : MV), P m → Sm fuel st m → Rep m.cells x v → x.has T → SimOut fuel (turns f k x st) (mTurns (j : Int) g k v m) T
 | 0, st, m, x, v, _, hs, hr, ht => Or.inl ⟨hs, hr, ht⟩
 | k + 1, st, m, x, v, hP, hs, hr, ht => by
  simp only [turns, mTurns]
  rw [if_neg (fun hn => hn hs.e), if_neg (fun hn => hn hs.f)]
  obtain ⟨h1, h2⟩ := hstep st m x v hP hs hr ht
  rcases h1 with ⟨a, b, c⟩ | hB
  ·exact turns_sim hstep k _ _ _ _ h2 a b c
  ·cases k with
   | zero => exact Or.inr hB
   | succ k =>
    simp only [turns, mTurns]
    rw [if_pos (by rw [hB.1]; decide), if_pos (by rw [hB.2]; decide)]
    exact Or.inr hB
end Go.Proofs.YtpicaknklgccoaaGreatDoor
