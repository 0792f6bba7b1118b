import Derived.Test.YtpicaknklgccoabGreatDoorX25
import Derived.Test.YtpicaknklgccoabGreatDoorX19
import Derived.Test.YtpicaknklgccoabGreatDoorX1
import Derived.Test.YtpicaknklgccoabGreatDoorX8
namespace Go.Proofs.YtpicaknklgccoabGreatDoor
open Go.RowKit
set_option maxRecDepth 100000 in
set_option maxHeartbeats 4000000 in
theorem work_new (mb B : Nat) (x1 : Option Addr) (n1 c1 : Nat) (x2 : Option Addr) (n2 c2 : Nat) (fuel : Nat) (ns : List NR) (op : List Int) (i : Nat) (n : NR) (hn : ns[i]? = some n) (hform : n.form = 12) (c : Nat) (g : MM → MV × MM)
  (hg : ∀ (w : World) (nv cv rv : Value) (m : MM), MSt mb B w (.slice x1 n1 c1) (.slice x2 n2 c2) fuel nv cv rv m ns op c → Calls Tryz.prog 88 #[ptr mb, nrVal n] w (MOut mb w (.slice x1 n1 c1) (.slice x2 n2 c2) fuel nv cv rv (g m)))
  (w : World) (nv cv rv : Value) (m : MM) (h : MSt mb B w (.slice x1 n1 c1) (.slice x2 n2 c2) fuel nv cv rv m ns op c) :
  Calls Tryz.prog 68 #[ptr mb, .int .i64 i] w (MOut mb w (.slice x1 n1 c1) (.slice x2 n2 c2) fuel nv cv rv (g m)) := by
 obtain ⟨R, hR⟩ : ∃ R : Obj, R = .cells #[.bool false, .int .i64 0] 122 := ⟨_, rfl⟩
 have hW1 : Below w.heap.size w (w.alloc R) := below_al (Below.refl _ _) _
 have hno := Node_in' (w.alloc R) (.slice x1 n1 c1) (.slice x2 n2 c2) ns op (h.env.tree _ (hW1.mono h.env.s)) i n hn h.env.len
 have hsR : Beside mb w.heap.size (w.alloc R) nv cv rv (.cells #[.bool false, .int .i64 0] 122) := Beside.new h.i (by rw [hR]; exact blk_new w _) (Nat.le_refl _)
 have h1 := h.below hW1
 have HF1 : Hid (PFr mb mb w (w.alloc R) nv cv rv nv cv rv) := PFr.below mb mb nv cv rv hW1
 have H1 : Hid _ := h1
 have HSR : Hid _ := hsR
 have HG : Hid _ := hg
 have y0 : w.cell? ⟨mb, 0, none⟩ = some (.slice x1 n1 c1) := by rw [blk_cell h.i.y]; rfl
 have y1 : w.cell? ⟨mb, 1, none⟩ = some (.slice x2 n2 c2) := by rw [blk_cell h.i.y]; rfl
 have hmb := blk_lt h.i.y
 have HFORM : Hid _ := hform
 have hil : i ≤ 9000 := by have := (List.getElem?_eq_some_iff.1 hn).1; have := h.env.len; omega
 have hqb : ((n.form : Int) == 12) = true := ibeq_true' (b := 12) hform
 clear hW1 hsR h1 h hg hn hform
 unfold treeV nrVal at hno
 unfold ptr
 go_enter Tryz.func68, Tryz.ntmps68
 subst hR
 go_wp2_with fail
 refine Calls.mono hno ?_
 rintro _ w2 ⟨rfl, hb2⟩
 obtain ⟨W3, hE3⟩ : ∃ W3, W3 = w2.alloc (.cells #[.int .i64 n.form, .int .i64 n.at_, .int .i64 n.beh, .int .i64 n.num, .string (bs n.word), .int .i64 n.region, .int .i64 n.source, .int .i64 n.p0, .int .i64 n.p1, .int .i64 n.p2] 108) := ⟨_, rfl⟩
 have hb3 : Below (w.alloc (.cells #[.bool false, .int .i64 0] 122)).heap.size (w.alloc (.cells #[.bool false, .int .i64 0] 122)) W3 := by rw [hE3]; exact hb2.alloc hb2.size _
 have h3 := H1.out.below hb3
 have hf3 : PFr mb mb (w.alloc (.cells #[.bool false, .int .i64 0] 122)) W3 nv cv rv nv cv rv := PFr.below mb mb nv cv rv hb3
 have hk := HG.out W3 nv cv rv m h3
 have HK : Hid _ := hk
 have HF3 : Hid _ := HF1.out.trans hf3
 have HSR3 : Hid _ := HSR.out.keep hf3
 clear hb2 hb3 h3 hf3 hk H1 HF1 HSR HG hno y0 y1
 unfold ptr nrVal at HK
 go_wp2_with fail
 rw [← hE3]
 refine Calls.mono HK.out ?_
 rintro _ w5 ⟨rfl, nv5, cv5, rv5, hf5, hi5⟩
 have HF5 : Hid _ := HF3.out.trans hf5
 have HI5 : Hid _ := hi5
 have hsR5 := HSR3.out.keep hf5
 have HSR5 : Hid _ := hsR5
 have hrw : w.heap.size ≤ w.heap.size := Nat.le_refl _
 have x0 : w5.cell? ⟨w.heap.size, 0, none⟩ = some (.bool false) := by rw [blk_cell hsR5.b]; rfl
 have x1 : w5.cell? ⟨w.heap.size, 1, none⟩ = some (.int .i64 0) := by rw [blk_cell hsR5.b]; rfl
 have g0 : w5.frozen? ⟨w.heap.size, 0, none⟩ = false := blk_free hsR5.b 0
 have g1 : w5.frozen? ⟨w.heap.size, 1, none⟩ = false := blk_free hsR5.b 1
 have hq5 := blk_lt hsR5.b
 clear hf5 hi5 hsR5 HK HF3 HSR3 hE3 hmb
 generalize g m = res at *
 unfold mvV
 go_wp2
 have hs7 := HSR5.out
 have hi7 := (HI5.out.beside hs7.ne hs7.n hs7.c hs7.r 0 (.bool res.1.c)).beside hs7.ne hs7.n hs7.c hs7.r 1 (.int .i64 res.1.n)
 have hf7 := (HF5.out.upto (below_set' (below_set' (Below.refl _ _) ⟨w.heap.size, 0, none⟩ hrw (.bool res.1.c)) ⟨w.heap.size, 1, none⟩ hrw (.int .i64 res.1.n)))
 refine bodyPost_ret (v := .agg #[.bool res.1.c, .int .i64 res.1.n]) (by simp [results, Tryz.results68, go_sem, x0, x1]) rfl ⟨rfl, _, _, _, hf7, hi7⟩
set_option maxRecDepth 100000 in
set_option maxHeartbeats 4000000 in
theorem work_step (mb B : Nat) (x1 : Option Addr) (n1 c1 : Nat) (x2 : Option Addr) (n2 c2 : Nat) (fuel : Nat) (ns : List NR) (op : List Int) (i : Nat) (n : NR) (hn : ns[i]? = some n) (hform : n.form ≠ 12) (c : Nat) (g : MM → MV × MM)
  (hg : ∀ (w : World) (nv cv rv : Value) (m : MM), MSt mb B w (.slice x1 n1 c1) (.slice x2 n2 c2) fuel nv cv rv m ns op c → Calls Tryz.prog 89 #[ptr mb, nrVal n] w (MOut mb w (.slice x1 n1 c1) (.slice x2 n2 c2) fuel nv cv rv (g m)))
  (w : World) (nv cv rv : Value) (m : MM) (h : MSt mb B w (.slice x1 n1 c1) (.slice x2 n2 c2) fuel nv cv rv m ns op c) :
  Calls Tryz.prog 68 #[ptr mb, .int .i64 i] w (MOut mb w (.slice x1 n1 c1) (.slice x2 n2 c2) fuel nv cv rv (g m)) := by
 obtain ⟨R, hR⟩ : ∃ R : Obj, R = .cells #[.bool false, .int .i64 0] 122 := ⟨_, rfl⟩
 have hW1 : Below w.heap.size w (w.alloc R) := below_al (Below.refl _ _) _
 have hno := Node_in' (w.alloc R) (.slice x1 n1 c1) (.slice x2 n2 c2) ns op (h.env.tree _ (hW1.mono h.env.s)) i n hn h.env.len
 have hsR : Beside mb w.heap.size (w.alloc R) nv cv rv (.cells #[.bool false, .int .i64 0] 122) := Beside.new h.i (by rw [hR]; exact blk_new w _) (Nat.le_refl _)
 have h1 := h.below hW1
 have HF1 : Hid (PFr mb mb w (w.alloc R) nv cv rv nv cv rv) := PFr.below mb mb nv cv rv hW1
 have H1 : Hid _ := h1
 have HSR : Hid _ := hsR
 have HG : Hid _ := hg
 have y0 : w.cell? ⟨mb, 0, none⟩ = some (.slice x1 n1 c1) := by rw [blk_cell h.i.y]; rfl
 have y1 : w.cell? ⟨mb, 1, none⟩ = some (.slice x2 n2 c2) := by rw [blk_cell h.i.y]; rfl
 have hmb := blk_lt h.i.y
 have HFORM : Hid _ := hform
 have hil : i ≤ 9000 := by have := (List.getElem?_eq_some_iff.1 hn).1; have := h.env.len; omega
 have hqb : ((n.form : Int) == 12) = false := ibeq_false'' (b := 12) hform
 clear hW1 hsR h1 h hg hn hform
 unfold treeV nrVal at hno
 unfold ptr
 go_enter Tryz.func68, Tryz.ntmps68
 subst hR
 go_wp2_with fail
 refine Calls.mono hno ?_
 rintro _ w2 ⟨rfl, hb2⟩
 obtain ⟨W3, hE3⟩ : ∃ W3, W3 = w2.alloc (.cells #[.int .i64 n.form, .int .i64 n.at_, .int .i64 n.beh, .int .i64 n.num, .string (bs n.word), .int .i64 n.region, .int .i64 n.source, .int .i64 n.p0, .int .i64 n.p1, .int .i64 n.p2] 108) := ⟨_, rfl⟩
 have hb3 : Below (w.alloc (.cells #[.bool false, .int .i64 0] 122)).heap.size (w.alloc (.cells #[.bool false, .int .i64 0] 122)) W3 := by rw [hE3]; exact hb2.alloc hb2.size _
 have h3 := H1.out.below hb3
 have hf3 : PFr mb mb (w.alloc (.cells #[.bool false, .int .i64 0] 122)) W3 nv cv rv nv cv rv := PFr.below mb mb nv cv rv hb3
 have hk := HG.out W3 nv cv rv m h3
 have HK : Hid _ := hk
 have HF3 : Hid _ := HF1.out.trans hf3
 have HSR3 : Hid _ := HSR.out.keep hf3
 clear hb2 hb3 h3 hf3 hk H1 HF1 HSR HG hno y0 y1
 unfold ptr nrVal at HK
 go_wp2_with fail
 rw [← hE3]
 refine Calls.mono HK.out ?_
 rintro _ w5 ⟨rfl, nv5, cv5, rv5, hf5, hi5⟩
 have HF5 : Hid _ := HF3.out.trans hf5
 have HI5 : Hid _ := hi5
 have hsR5 := HSR3.out.keep hf5
 have HSR5 : Hid _ := hsR5
 have hrw : w.heap.size ≤ w.heap.size := Nat.le_refl _
 have x0 : w5.cell? ⟨w.heap.size, 0, none⟩ = some (.bool false) := by rw [blk_cell hsR5.b]; rfl
 have x1 : w5.cell? ⟨w.heap.size, 1, none⟩ = some (.int .i64 0) := by rw [blk_cell hsR5.b]; rfl
 have g0 : w5.frozen? ⟨w.heap.size, 0, none⟩ = false := blk_free hsR5.b 0
 have g1 : w5.frozen? ⟨w.heap.size, 1, none⟩ = false := blk_free hsR5.b 1
 have hq5 := blk_lt hsR5.b
 clear hf5 hi5 hsR5 HK HF3 HSR3 hE3 hmb
 generalize g m = res at *
 unfold mvV
 go_wp2
 have hs7 := HSR5.out
 have hi7 := (HI5.out.beside hs7.ne hs7.n hs7.c hs7.r 0 (.bool res.1.c)).beside hs7.ne hs7.n hs7.c hs7.r 1 (.int .i64 res.1.n)
 have hf7 := (HF5.out.upto (below_set' (below_set' (Below.refl _ _) ⟨w.heap.size, 0, none⟩ hrw (.bool res.1.c)) ⟨w.heap.size, 1, none⟩ hrw (.int .i64 res.1.n)))
 refine bodyPost_ret (v := .agg #[.bool res.1.c, .int .i64 res.1.n]) (by simp [results, Tryz.results68, go_sem, x0, x1]) rfl ⟨rfl, _, _, _, hf7, hi7⟩
mutual
def ShowsM (ns : List NR) : Sc → PT → Nat → Prop
 | _, .num _ s, base => ∃ n, ns[base]? = some n ∧ n.form = 1 ∧ n.num = valueL s
 | sc, .name _ s, base => ∃ n, ns[base]? = some n ∧ n.form = 2 ∧ n.source = findS sc s
 | sc, .node _ k nm rg kids, base => (∃ n, ns[base + cntL kids]? = some n ∧ n.form = formK k ∧ n.region = valueL rg ∧ n.p0 = (partsL kids base).getD 0 (-1) ∧ n.p1 = (partsL kids base).getD 1 (-1) ∧ n.p2 = (partsL kids base).getD 2 (-1)) ∧ ShowsML ns sc nm kids (bodK k) base
def ShowsML (ns : List NR) : Sc → List UInt8 → List PT → List Bool → Nat → Prop
 | _, _, [], _, _ => True
 | _, _, _ :: _, [], _ => False
 | sc, nm, t :: r, b :: bs, base => ShowsM ns (if b then sc ++ [(nm, (base : Int) - 1)] else sc) t base ∧ ShowsML ns sc nm r bs (base + t.cnt)
end
theorem at_midM {α : Type} (pre a post : List α) (j : Nat) (x : α) (h : a[j]? = some x) : (pre ++ (a ++ post))[pre.length + j]? = some x := by
 have hj := (List.getElem?_eq_some_iff.1 h).1
 rw [List.getElem?_append_right (by omega), Nat.add_sub_cancel_left, List.getElem?_append_left hj]; exact h
mutual
theorem NA.showsM : ∀ {scope : Sc} {t : PT} {base : Nat} {ms : List NR}, NA scope t base ms → ∀ (pre post : List NR), pre.length = base → ShowsM (pre ++ (ms ++ post)) scope t base
 | _, .num _ s, _, _, h, pre, post, hb => by
  simp only [NA] at h; subst h; subst hb
  simp only [ShowsM]
  exact ⟨_, at_midM pre _ post 0 _ rfl, rfl, rfl⟩
 | _, .name _ s, _, _, h, pre, post, hb => by
  simp only [NA] at h; subst h; subst hb
  simp only [ShowsM]
  exact ⟨_, at_midM pre _ post 0 _ rfl, rfl, rfl⟩
 | _, .node p k nm rg kids, base, _, h, pre, post, hb => by
  simp only [NA] at h
  obtain ⟨ks, beh, h1, rfl⟩ := h
  have hl := NAs.len h1
  simp only [ShowsM]
  refine ⟨⟨⟨formK k, p, beh, 0, nm, valueL rg, -1, (partsL kids base).getD 0 (-1), (partsL kids base).getD 1 (-1), (partsL kids base).getD 2 (-1)⟩, ?_, rfl, rfl, rfl, rfl, rfl⟩, ?_⟩
  ·rw [← hl]; conv => lhs; rw [show base + ks.length = pre.length + ks.length from by rw [hb]]
   refine at_midM pre _ post ks.length _ ?_
   rw [List.getElem?_append_right (Nat.le_refl _), Nat.sub_self]; rfl
  ·have h2 := NAs.showsM h1 pre (⟨formK k, p, beh, 0, nm, valueL rg, -1, (partsL kids base).getD 0 (-1), (partsL kids base).getD 1 (-1), (partsL kids base).getD 2 (-1)⟩ :: post) hb
   rw [List.append_assoc, List.singleton_append]
   exact h2
theorem NAs.showsM : ∀ {scope : Sc} {nm : List UInt8} {ts : List PT} {bs : List Bool} {base : Nat} {ms : List NR}, NAs scope nm ts bs base ms → ∀ (pre post : List NR), pre.length = base → ShowsML (pre ++ (ms ++ post)) scope nm ts bs base
 | _, _, [], _, _, _, _, _, _, _ => by simp [ShowsML]
 | _, _, _ :: _, [], _, _, h, _, _, _ => by simp [NAs] at h
 | _, _, t :: r, b :: bs, _, _, h, pre, post, hb => by
  simp only [NAs] at h
  obtain ⟨a, c, h1, h2, rfl⟩ := h
  have hl := NA.len h1
  simp only [ShowsML]
  constructor
  ·have := NA.showsM h1 pre (c ++ post) hb
   rw [List.append_assoc]; exact this
  ·have := NAs.showsM h2 (pre ++ a) post (by rw [List.length_append, hl, hb])
   simp only [List.append_assoc] at this ⊢; exact this
end
theorem NA.showsM0 {scope : Sc} {t : PT} {ns : List NR} (h : NA scope t 0 ns) : ShowsM ns scope t 0 := by
 have := NA.showsM h [] [] rfl
 simpa using this
def ScOk (sc : Sc) : Prop := ∀ x ∈ sc, -1 ≤ x.2 ∧ x.2 ≤ 9000
theorem ScOk.find {sc : Sc} (h : ScOk sc) (s : List UInt8) : -1 ≤ findS sc s ∧ findS sc s ≤ 9000 := by
 unfold findS
 split
 ·rename_i x hx
  exact h x (by have := List.mem_of_find?_eq_some hx; simpa using this)
 ·omega
theorem ScOk.snoc {sc : Sc} (h : ScOk sc) (nm : List UInt8) (i : Int) (hi : -1 ≤ i ∧ i ≤ 9000) : ScOk (sc ++ [(nm, i)]) := by
 intro x hx
 rw [List.mem_append, List.mem_singleton] at hx
 rcases hx with hx | rfl
 ·exact h x hx
 ·exact hi
def TreeOk (mb B : Nat) (x1 : Option Addr) (n1 c1 : Nat) (x2 : Option Addr) (n2 c2 : Nat) (fuel : Nat) (ns : List NR) (op : List Int) (t : PT) : Prop :=
 ∀ (sc : Sc) (base : Nat), ShowsM ns sc t base → ScOk sc → t.wf → t.rgd → base + t.cnt ≤ ns.length → ns.length ≤ 9000 → fuel ≤ 20000 → WorkOk mb B (.slice x1 n1 c1) (.slice x2 n2 c2) fuel ns op (((base + t.cnt : Nat) : Int) - 1) t.cnt (fun m => mW fuel t sc base m)
theorem tree_num (mb B : Nat) (x1 : Option Addr) (n1 c1 : Nat) (x2 : Option Addr) (n2 c2 : Nat) (fuel : Nat) (ns : List NR) (op : List Int) (p : Nat) (s : List UInt8) : TreeOk mb B x1 n1 c1 x2 n2 c2 fuel ns op (.num p s) := by
 intro sc base hs hsc hw hr hle hl9 hf w nv cv rv m h
 refine ⟨mW_keeps fuel hf _ sc base m hw hr h.bd h.rl, ?_⟩
 simp only [ShowsM] at hs
 obtain ⟨n, hn, hfm, hnum⟩ := hs
 simp only [PT.cnt] at h ⊢
 rw [show (((base + 1 : Nat) : Int) - 1) = (base : Int) from by omega]
 have := work_step mb B x1 n1 c1 x2 n2 c2 fuel ns op base n hn (by rw [hfm]; decide) 1 (fun m => mBegun fuel m (fun m => (⟨false, n.num⟩, m))) (fun w nv cv rv m h => step_1 mb B _ _ fuel ns op n hfm 1 w nv cv rv m h) w nv cv rv m h
 rw [hnum] at this
 simp only [mW]
 exact this
theorem tree_name (mb B : Nat) (x1 : Option Addr) (n1 c1 : Nat) (x2 : Option Addr) (n2 c2 : Nat) (fuel : Nat) (ns : List NR) (op : List Int) (p : Nat) (s : List UInt8) : TreeOk mb B x1 n1 c1 x2 n2 c2 fuel ns op (.name p s) := by
 intro sc base hs hsc hw hr hle hl9 hf w nv cv rv m h
 refine ⟨mW_keeps fuel hf _ sc base m hw hr h.bd h.rl, ?_⟩
 simp only [ShowsM] at hs
 obtain ⟨n, hn, hfm, hsrc⟩ := hs
 simp only [PT.cnt] at h ⊢
 rw [show (((base + 1 : Nat) : Int) - 1) = (base : Int) from by omega]
 have := work_step mb B x1 n1 c1 x2 n2 c2 fuel ns op base n hn (by rw [hfm]; decide) 1 (fun m => mBegun fuel m (fun m => (m.look n.source, m))) (fun w nv cv rv m h => step_2 mb B _ _ fuel ns op n hfm 1 (by rw [hsrc]; exact hsc.find s) w nv cv rv m h) w nv cv rv m h
 rw [hsrc] at this
 simp only [mW]
 exact this
set_option maxHeartbeats 1000000 in
theorem tree_node (mb B : Nat) (x1 : Option Addr) (n1 c1 : Nat) (x2 : Option Addr) (n2 c2 : Nat) (fuel : Nat) (ns : List NR) (op : List Int) (p : Nat) (k : Kw) (nm rg : List UInt8) (kids : List PT) (ih : ∀ x ∈ kids, TreeOk mb B x1 n1 c1 x2 n2 c2 fuel ns op x) : TreeOk mb B x1 n1 c1 x2 n2 c2 fuel ns op (.node p k nm rg kids) := by
 intro sc base hs hsc hw hr hle hl9 hf w nv cv rv m h
 refine ⟨mW_keeps fuel hf _ sc base m hw hr h.bd h.rl, ?_⟩
 simp only [ShowsM] at hs
 obtain ⟨⟨n, hn, hfm, hrg, hp0, hp1, hp2⟩, hks⟩ := hs
 simp only [PT.wf] at hw
 simp only [PT.rgd] at hr
 simp only [PT.cnt] at h hle ⊢
 rw [show (((base + (1 + cntL kids) : Nat) : Int) - 1) = ((base + cntL kids : Nat) : Int) from by omega]
 cases k with
 | let_ =>
  match kids, hw.1, ih with
  | [a, b], _, ih =>
   simp only [bodK, ShowsML, if_true, Bool.false_eq_true, if_false] at hks
   simp only [wfL] at hw
   simp only [rgdL] at hr
   simp only [cntL, Nat.add_zero] at hle hn h ⊢
   simp only [partsL, List.getD_cons_zero, List.getD_cons_succ] at hp0 hp1
   have ha := ih a (by simp) sc base hks.1 hsc hw.2.1 hr.2.1 (by omega) hl9 hf
   have hb := ih b (by simp) _ (base + a.cnt) hks.2.1 (hsc.snoc _ _ (by omega)) hw.2.2.1 hr.2.2.1 (by omega) hl9 hf
   rw [← hp0] at ha
   rw [← hp1] at hb
   have hwl := fun w nv cv rv m h => workLet_any mb B _ _ fuel ns op n a.cnt b.cnt _ _ (by rw [hp0]; omega) ha hb w nv cv rv m (MSt.less (c := 1 + (a.cnt + b.cnt)) h (by omega))
   have := work_step mb B x1 n1 c1 x2 n2 c2 fuel ns op (base + (a.cnt + b.cnt)) n hn (by rw [hfm]; decide) (1 + (a.cnt + b.cnt)) _ (fun w nv cv rv m h => step_3 mb B _ _ fuel ns op n hfm (1 + (a.cnt + b.cnt)) _ hwl w nv cv rv m h) w nv cv rv m h
   rw [hp0] at this
   simp only [mW, mLet, if_true, reduceCtorEq, if_false]
   exact this
 | pair =>
  match kids, hw.1, ih with
  | [a, b], _, ih =>
   simp only [bodK, ShowsML, Bool.false_eq_true, if_false] at hks
   simp only [wfL] at hw
   simp only [rgdL] at hr
   simp only [cntL, Nat.add_zero] at hle hn h ⊢
   simp only [partsL, List.getD_cons_zero, List.getD_cons_succ] at hp0 hp1
   have ha := ih a (by simp) sc base hks.1 hsc hw.2.1 hr.2.1 (by omega) hl9 hf
   have hb := ih b (by simp) _ (base + a.cnt) hks.2.1 hsc hw.2.2.1 hr.2.2.1 (by omega) hl9 hf
   rw [← hp0] at ha
   rw [← hp1] at hb
   have hwl := fun w nv cv rv m h => workPair_any mb B _ _ fuel ns op n a.cnt b.cnt _ _ ha hb w nv cv rv m (MSt.less (c := 1 + (a.cnt + b.cnt)) h (by omega))
   have := work_step mb B x1 n1 c1 x2 n2 c2 fuel ns op (base + (a.cnt + b.cnt)) n hn (by rw [hfm]; decide) (1 + (a.cnt + b.cnt)) _ (fun w nv cv rv m h => step_4 mb B _ _ fuel ns op n hfm (1 + (a.cnt + b.cnt)) _ hwl w nv cv rv m h) w nv cv rv m h
   rw [hrg] at this
   simp only [mW, mOps, if_true, reduceCtorEq, if_false]
   exact this
 | fst =>
  match kids, hw.1, ih with
  | [a], _, ih =>
   simp only [bodK, ShowsML, Bool.false_eq_true, if_false] at hks
   simp only [wfL] at hw
   simp only [rgdL] at hr
   simp only [cntL, Nat.add_zero] at hle hn h ⊢
   simp only [partsL, List.getD_cons_zero] at hp0
   have ha := ih a (by simp) sc base hks.1 hsc hw.2.1 hr.2.1 (by omega) hl9 hf
   rw [← hp0] at ha
   have hwl := fun w nv cv rv m h => workPart_any mb B _ _ fuel ns op n a.cnt _ ha w nv cv rv m (MSt.less (c := 1 + a.cnt) h (by omega))
   have := work_step mb B x1 n1 c1 x2 n2 c2 fuel ns op (base + a.cnt) n hn (by rw [hfm]; decide) (1 + a.cnt) _ (fun w nv cv rv m h => step_5 mb B _ _ fuel ns op n hfm (1 + a.cnt) _ hwl w nv cv rv m h) w nv cv rv m h
   simp only [if_pos (show n.form = 5 from hfm)] at this
   simp only [mW, mOps, if_true, reduceCtorEq, if_false]
   exact this
 | snd =>
  match kids, hw.1, ih with
  | [a], _, ih =>
   simp only [bodK, ShowsML, Bool.false_eq_true, if_false] at hks
   simp only [wfL] at hw
   simp only [rgdL] at hr
   simp only [cntL, Nat.add_zero] at hle hn h ⊢
   simp only [partsL, List.getD_cons_zero] at hp0
   have ha := ih a (by simp) sc base hks.1 hsc hw.2.1 hr.2.1 (by omega) hl9 hf
   rw [← hp0] at ha
   have hwl := fun w nv cv rv m h => workPart_any mb B _ _ fuel ns op n a.cnt _ ha w nv cv rv m (MSt.less (c := 1 + a.cnt) h (by omega))
   have := work_step mb B x1 n1 c1 x2 n2 c2 fuel ns op (base + a.cnt) n hn (by rw [hfm]; decide) (1 + a.cnt) _ (fun w nv cv rv m h => step_6 mb B _ _ fuel ns op n hfm (1 + a.cnt) _ hwl w nv cv rv m h) w nv cv rv m h
   simp only [if_neg (show n.form ≠ 5 by rw [hfm]; decide)] at this
   simp only [mW, mOps, reduceCtorEq, if_false]
   exact this
 | if_ =>
  match kids, hw.1, ih with
  | [a, b, c], _, ih =>
   simp only [bodK, ShowsML, Bool.false_eq_true, if_false] at hks
   simp only [wfL] at hw
   simp only [rgdL] at hr
   simp only [cntL, Nat.add_zero] at hle hn h ⊢
   simp only [partsL, List.getD_cons_zero, List.getD_cons_succ] at hp0 hp1 hp2
   have ha := ih a (by simp) sc base hks.1 hsc hw.2.1 hr.2.1 (by omega) hl9 hf
   have hb := ih b (by simp) _ (base + a.cnt) hks.2.1 hsc hw.2.2.1 hr.2.2.1 (by omega) hl9 hf
   have hc := ih c (by simp) _ (base + a.cnt + b.cnt) hks.2.2.1 hsc hw.2.2.2.1 hr.2.2.2.1 (by omega) hl9 hf
   rw [← hp0] at ha
   rw [← hp1] at hb
   rw [← hp2] at hc
   have hwl := fun w nv cv rv m h => workIf_any mb B _ _ fuel ns op n a.cnt b.cnt _ _ _ ha hb c.cnt hc w nv cv rv m (MSt.less (c := 1 + (a.cnt + (b.cnt + c.cnt))) h (by omega))
   have := work_step mb B x1 n1 c1 x2 n2 c2 fuel ns op (base + (a.cnt + (b.cnt + c.cnt))) n hn (by rw [hfm]; decide) (1 + (a.cnt + (b.cnt + c.cnt))) _ (fun w nv cv rv m h => step_7 mb B _ _ fuel ns op n hfm (1 + (a.cnt + (b.cnt + c.cnt))) _ hwl w nv cv rv m h) w nv cv rv m h
   simp only [mW, mIf, if_true, reduceCtorEq, if_false]
   exact this
 | loop =>
  match kids, hw.1, ih with
  | [a, b, c], _, ih =>
   simp only [bodK, ShowsML, if_true, Bool.false_eq_true, if_false] at hks
   simp only [wfL] at hw
   simp only [rgdL] at hr
   simp only [cntL, Nat.add_zero] at hle hn h ⊢
   simp only [partsL, List.getD_cons_zero, List.getD_cons_succ] at hp0 hp1 hp2
   have ha := ih a (by simp) sc base hks.1 hsc hw.2.1 hr.2.1 (by omega) hl9 hf
   have hb := ih b (by simp) _ (base + a.cnt) hks.2.1 hsc hw.2.2.1 hr.2.2.1 (by omega) hl9 hf
   have hc := ih c (by simp) _ (base + a.cnt + b.cnt) hks.2.2.1 (hsc.snoc _ _ (by omega)) hw.2.2.2.1 hr.2.2.2.1 (by omega) hl9 hf
   rw [← hp0] at ha
   rw [← hp1] at hb
   rw [← hp2] at hc
   have hwl := fun w nv cv rv m h => workLoop_any mb B _ _ fuel ns op n (by rw [hp1]; omega) a.cnt b.cnt c.cnt _ _ _ ha hb (by omega) hc w nv cv rv m (MSt.less (c := 1 + (a.cnt + (b.cnt + c.cnt))) h (by omega))
   have := work_step mb B x1 n1 c1 x2 n2 c2 fuel ns op (base + (a.cnt + (b.cnt + c.cnt))) n hn (by rw [hfm]; decide) (1 + (a.cnt + (b.cnt + c.cnt))) _ (fun w nv cv rv m h => step_11 mb B _ _ fuel ns op n hfm (1 + (a.cnt + (b.cnt + c.cnt))) _ hwl w nv cv rv m h) w nv cv rv m h
   rw [hp1] at this
   simp only [mW, mLoop, if_true, reduceCtorEq, if_false]
   exact this
 | new =>
  match kids, hw.1, ih with
  | [a], _, ih =>
   simp only [bodK, ShowsML, Bool.false_eq_true, if_false] at hks
   simp only [wfL] at hw
   simp only [rgdL] at hr
   simp only [cntL, Nat.add_zero] at hle hn h ⊢
   simp only [partsL, List.getD_cons_zero] at hp0
   have ha := ih a (by simp) sc base hks.1 hsc hw.2.1 hr.2.1 (by omega) hl9 hf
   rw [← hp0] at ha
   have := work_new mb B x1 n1 c1 x2 n2 c2 fuel ns op (base + a.cnt) n hn hfm (1 + a.cnt) _ (fun w nv cv rv m h => workNew_any mb B _ _ fuel ns op n (by rw [hrg]; omega) a.cnt _ ha w nv cv rv m h) w nv cv rv m h
   rw [hrg] at this
   simp only [mW, mNew, if_true]
   exact this
 | _ =>
  match kids, hw.1, ih with
  | [a, b], _, ih =>
   simp only [bodK, ShowsML, Bool.false_eq_true, if_false] at hks
   simp only [wfL] at hw
   simp only [rgdL] at hr
   simp only [cntL, Nat.add_zero] at hle hn h ⊢
   simp only [partsL, List.getD_cons_zero, List.getD_cons_succ] at hp0 hp1
   have ha := ih a (by simp) sc base hks.1 hsc hw.2.1 hr.2.1 (by omega) hl9 hf
   have hb := ih b (by simp) _ (base + a.cnt) hks.2.1 hsc hw.2.2.1 hr.2.2.1 (by omega) hl9 hf
   rw [← hp0] at ha
   rw [← hp1] at hb
   have hwl := fun w nv cv rv m h => workNumbers_any mb B _ _ fuel ns op n a.cnt b.cnt _ _ ha hb w nv cv rv m (MSt.less (c := 1 + (a.cnt + b.cnt)) h (by omega))
   first
   | (have := work_step mb B x1 n1 c1 x2 n2 c2 fuel ns op (base + (a.cnt + b.cnt)) n hn (by rw [hfm]; decide) (1 + (a.cnt + b.cnt)) _ (fun w nv cv rv m h => step_8 mb B _ _ fuel ns op n hfm (1 + (a.cnt + b.cnt)) _ hwl w nv cv rv m h) w nv cv rv m h
      simp only [hfm] at this
      simp only [mW, mOps, reduceCtorEq, if_false]
      exact this)
   | (have := work_step mb B x1 n1 c1 x2 n2 c2 fuel ns op (base + (a.cnt + b.cnt)) n hn (by rw [hfm]; decide) (1 + (a.cnt + b.cnt)) _ (fun w nv cv rv m h => step_9 mb B _ _ fuel ns op n hfm (1 + (a.cnt + b.cnt)) _ hwl w nv cv rv m h) w nv cv rv m h
      simp only [hfm] at this
      simp only [mW, mOps, reduceCtorEq, if_false]
      exact this)
   | (have := work_step mb B x1 n1 c1 x2 n2 c2 fuel ns op (base + (a.cnt + b.cnt)) n hn (by rw [hfm]; decide) (1 + (a.cnt + b.cnt)) _ (fun w nv cv rv m h => step_10 mb B _ _ fuel ns op n hfm (1 + (a.cnt + b.cnt)) _ hwl w nv cv rv m h) w nv cv rv m h
      simp only [hfm] at this
      simp only [mW, mOps, reduceCtorEq, if_false]
      exact this)
theorem tree_all (mb B : Nat) (x1 : Option Addr) (n1 c1 : Nat) (x2 : Option Addr) (n2 c2 : Nat) (fuel : Nat) (ns : List NR) (op : List Int) (t : PT) : TreeOk mb B x1 n1 c1 x2 n2 c2 fuel ns op t := by
 induction t using PT.ind with
 | h1 p s => exact tree_num mb B x1 n1 c1 x2 n2 c2 fuel ns op p s
 | h2 p s => exact tree_name mb B x1 n1 c1 x2 n2 c2 fuel ns op p s
 | h3 p k nm rg kids ih => exact tree_node mb B x1 n1 c1 x2 n2 c2 fuel ns op p k nm rg kids ih
end Go.Proofs.YtpicaknklgccoabGreatDoor
namespace Go.Proofs.YtpicaknklgccoabGreatDoor
open Go.RowKit
open Go.Lib (decDigits)
def mText : Vl → MV → MM → MM
 | .n _, _, m => m
 | .p a b, v, m => mText b (m.use v).1.b (mText a (m.use v).1.a (m.use v).2)
theorem stop_same (m : MM) (f : Nat) : (m.stop f).cells = m.cells ∧ (m.stop f).regs = m.regs ∧ (m.stop f).named = m.named ∧ (m.stop f).steps = m.steps ∧ (m.stop f).live = m.live ∧ (m.stop f).most = m.most := by unfold MM.stop; split <;> simp
theorem use_same (m : MM) (v : MV) : (m.use v).2.cells = m.cells ∧ (m.use v).2.regs = m.regs ∧ (m.use v).2.named = m.named ∧ (m.use v).2.steps = m.steps ∧ (m.use v).2.live = m.live ∧ (m.use v).2.most = m.most := by
 unfold MM.use; split
 ·simp
 ·simp only; split
  ·simp
  ·exact stop_same m 13
theorem text_same : ∀ (x : Vl) (v : MV) (m : MM), (mText x v m).cells = m.cells ∧ (mText x v m).regs = m.regs ∧ (mText x v m).named = m.named ∧ (mText x v m).steps = m.steps ∧ (mText x v m).live = m.live ∧ (mText x v m).most = m.most
 | .n _, _, m => by simp [mText]
 | .p a b, v, m => by
  simp only [mText]
  have h1 := use_same m v
  have h2 := text_same a (m.use v).1.a (m.use v).2
  have h3 := text_same b (m.use v).1.b (mText a (m.use v).1.a (m.use v).2)
  exact ⟨h3.1.trans (h2.1.trans h1.1), h3.2.1.trans (h2.2.1.trans h1.2.1), h3.2.2.1.trans (h2.2.2.1.trans h1.2.2.1), h3.2.2.2.1.trans (h2.2.2.2.1.trans h1.2.2.2.1), h3.2.2.2.2.1.trans (h2.2.2.2.2.1.trans h1.2.2.2.2.1), h3.2.2.2.2.2.trans (h2.2.2.2.2.2.trans h1.2.2.2.2.2)⟩
theorem text_bd {fuel : Nat} : ∀ (x : Vl) (v : MV) (m : MM), MBd fuel m → MBd fuel (mText x v m)
 | .n _, _, _, h => h
 | .p a b, v, m, h => by
  simp only [mText]
  exact text_bd b _ _ (text_bd a _ _ (MM.use_bd h v).1)
theorem dec4 (u : Nat) (h : u ≤ 9999) : (decDigits u).length ≤ 4 := by
 rw [Go.Lib.decDigits]; split
 ·simp
 ·rw [Go.Lib.decDigits]; split
  ·simp
  ·rw [Go.Lib.decDigits]; split
   ·simp
   ·rw [Go.Lib.decDigits]; split
    ·simp
    ·omega
theorem Rep.len {cells : List MC} : ∀ {x : Vl} {v : MV}, Rep cells x v → x.txt.length ≤ 7 * x.size + 4
 | .n k, _, h => by simp only [Rep] at h; simp only [Vl.txt, Vl.size]; have := dec4 k h.2.2; omega
 | .p a b, _, h => by
  simp only [Rep] at h
  obtain ⟨_, i, c, _, _, ha, hb⟩ := h
  have := Rep.len ha
  have := Rep.len hb
  simp only [Vl.txt, Vl.size, List.length_cons, List.length_append, List.length_nil]; omega
theorem Rep.use {cells : List MC} {a b : Vl} {v : MV} (h : Rep cells (.p a b) v) (m : MM) (hm : m.cells = cells) : Rep cells a (m.use v).1.a ∧ Rep cells b (m.use v).1.b := by
 simp only [Rep] at h
 obtain ⟨hc, i, c, hv, hi, ha, hb⟩ := h
 have hil := (List.getElem?_eq_some_iff.1 hi).1
 have e : (m.use v).1 = c := by
  unfold MM.use
  rw [if_neg (by rw [hc, hv, hm]; simp; omega)]
  simp only
  rw [hv, hm, Int.toNat_natCast, List.getD_eq_getElem?_getD, hi]; rfl
 rw [e]; exact ⟨ha, hb⟩
set_option maxRecDepth 100000 in
set_option maxHeartbeats 4000000 in
theorem text_any (mb B : Nat) (tn to_ : Value) (fuel : Nat) (hfu : fuel ≤ 20000) (ns : List NR) (op : List Int) (nv cv rv : Value) (cells : List MC) : ∀ (x : Vl) (v : MV) (w : World) (m : MM), m.cells = cells → Rep cells x v → x.size ≤ 63 → v.bd → MIn mb w tn to_ fuel nv cv rv m → MBd fuel m → MEnv mb B w nv cv rv tn to_ ns op →
  Lib.TabBelow Tryz.prog B w "internal/strconv.uint64pow10" .u64 Lib.pow10Tab → Calls Tryz.prog 69 #[ptr mb, mvV v] w fun e w' => e = .returned (.string (bs x.txt)) ∧ PFr mb mb w w' nv cv rv nv cv rv ∧ MIn mb w' tn to_ fuel nv cv rv (mText x v m)
 | .n k, v, w, m, hm, hr, hsz, hvb, hi, hbd, henv, htab => by
  simp only [Rep] at hr
  obtain ⟨hc, hn, hk⟩ := hr
  obtain ⟨vc, vn⟩ := v
  simp only at hc hn
  subst hc
  subst hn
  have hit := fun W (hW : Below w.heap.size w W) => itoa_ok W (htab W (hW.mono henv.s)) k W hk (Below.refl _ _)
  have HIT : Hid _ := hit
  have HI : Hid _ := hi
  simp only [Vl.txt, mText]
  clear hit hi hbd henv htab hvb hm
  unfold ptr mvV
  go_enter Tryz.func69, Tryz.ntmps69
  go_wp2_with fail
  refine Calls.mono (HIT.out _ (below_al (Below.refl _ _) _)) ?_
  rintro _ w2 ⟨rfl, hb2⟩
  have HB : Hid _ := (below_al (Below.refl _ w) (.cells #[.bool false, .int .i64 k] 122)).trans (hb2.mono (by simp))
  clear hb2 HIT
  go_wp2
  go_ret
  exact ⟨rfl, PFr.below mb mb nv cv rv HB.out, HI.out.below HB.out⟩
 | .p a b, v, w, m, hm, hr, hsz, hvb, hi, hbd, henv, htab => by
  have hl := hr.len
  have hra := hr.use m hm
  simp only [Rep] at hr
  obtain ⟨hc, i, c, hn, _, _, _⟩ := hr
  simp only [Vl.size] at hsz
  have hla := hra.1.len
  have hlb := hra.2.len
  have hus := fun W (hW : Below w.heap.size w W) => use_any mb W tn to_ fuel nv cv rv m v hbd hfu hvb (hi.below hW)
  have hbd2 := MM.use_bd hbd v
  have hsm := use_same m v
  have hta := fun W h1 h2 h3 => text_any mb B tn to_ fuel hfu ns op nv cv rv cells a (m.use v).1.a W (m.use v).2 (hsm.1.trans hm) hra.1 (by omega) hbd2.2.1 h1 hbd2.1 h2 h3
  have hsa := text_same a (m.use v).1.a (m.use v).2
  have htb := fun W h1 h2 h3 => text_any mb B tn to_ fuel hfu ns op nv cv rv cells b (m.use v).1.b W (mText a (m.use v).1.a (m.use v).2) (hsa.1.trans (hsm.1.trans hm)) hra.2 (by omega) hbd2.2.2 h1 (text_bd a _ _ hbd2.1) h2 h3
  have z1 : (ByteArray.mk #[91]).size = 1 := rfl
  have z2 : (ByteArray.mk #[32]).size = 1 := rfl
  have z3 : (ByteArray.mk #[93]).size = 1 := rfl
  have zA : (bs a.txt).size ≤ 500 := by rw [bs_size]; omega
  have zB : (bs b.txt).size ≤ 500 := by rw [bs_size]; omega
  have zC : (ByteArray.mk #[91] ++ bs a.txt).size ≤ 501 := by rw [ByteArray.size_append]; omega
  have zD : (ByteArray.mk #[91] ++ bs a.txt ++ ByteArray.mk #[32]).size ≤ 502 := by rw [ByteArray.size_append]; omega
  have zE : (ByteArray.mk #[91] ++ bs a.txt ++ ByteArray.mk #[32] ++ bs b.txt).size ≤ 1002 := by rw [ByteArray.size_append]; omega
  have hfin : ByteArray.mk #[91] ++ bs a.txt ++ ByteArray.mk #[32] ++ bs b.txt ++ ByteArray.mk #[93] = bs (Vl.txt (.p a b)) := by
   rw [show ByteArray.mk #[91] = bs [91] from rfl, show ByteArray.mk #[32] = bs [32] from rfl, show ByteArray.mk #[93] = bs [93] from rfl, bs_app, bs_app, bs_app, bs_app]
   simp [Vl.txt]
  have HFIN : Hid _ := hfin
  have HUS : Hid _ := hus
  have HTA : Hid _ := hta
  have HTB : Hid _ := htb
  have HENV : Hid _ := henv
  have HTAB : Hid _ := htab
  simp only [mText]
  clear hus hta htb hsm hsa hbd2 hra hla hlb hl hi hbd henv htab hvb hm hfin hsz
  generalize m.use v = z at *
  obtain ⟨vc, vn⟩ := v
  simp only at hc hn
  subst hc
  subst hn
  unfold ptr mvV at HUS
  unfold ptr mvV
  go_enter Tryz.func69, Tryz.ntmps69
  go_wp2_with fail
  refine Calls.mono (HUS.out _ (below_al (Below.refl _ _) _)) ?_
  rintro _ w2 ⟨rfl, hf2, hi2⟩
  obtain ⟨W3, hE3⟩ : ∃ W3, W3 = w2.alloc (.cells #[.bool z.1.a.c, .int .i64 z.1.a.n, .bool z.1.b.c, .int .i64 z.1.b.n, .int .i64 z.1.home, .int .i64 z.1.ser] 154) := ⟨_, rfl⟩
  have hW3 : Below w2.heap.size w2 W3 := by rw [hE3]; exact below_al (Below.refl _ _) _
  have hf3 : PFr mb mb w W3 nv cv rv nv cv rv := ((PFr.below mb mb nv cv rv (below_al (Below.refl _ w) _)).trans hf2).trans (PFr.below mb mb nv cv rv hW3)
  have hi3 := hi2.below hW3
  have henv3 := HENV.out.on hf3
  have htab3 : Lib.TabBelow Tryz.prog B W3 "internal/strconv.uint64pow10" .u64 Lib.pow10Tab := fun w' h' => HTAB.out w' ((HENV.out.bel hf3).trans h')
  have hs3 : Beside mb w2.heap.size W3 nv cv rv (.cells #[.bool z.1.a.c, .int .i64 z.1.a.n, .bool z.1.b.c, .int .i64 z.1.b.n, .int .i64 z.1.home, .int .i64 z.1.ser] 154) := Beside.new hi2 (by rw [hE3]; exact blk_new w2 _) (Nat.le_refl _)
  have hca := HTA.out W3 hi3 henv3 htab3
  have HCA : Hid _ := hca
  have HF3 : Hid _ := hf3
  have HENV3 : Hid _ := henv3
  have HTAB3 : Hid _ := htab3
  have HS3 : Hid _ := hs3
  clear hf2 hi2 hW3 hf3 hi3 henv3 htab3 hs3 hca HUS HTA HENV HTAB
  unfold ptr mvV at HCA
  unfold mcV
  go_wp2_with fail
  rw [← hE3]
  refine Calls.mono HCA.out ?_
  rintro _ w4 ⟨rfl, hf4, hi4⟩
  have hs4 := HS3.out.keep hf4
  have hcb := HTB.out w4 hi4 (HENV3.out.on hf4) (fun w' h' => HTAB3.out w' ((HENV3.out.bel hf4).trans h'))
  have HCB : Hid _ := hcb
  have HF4 : Hid _ := HF3.out.trans hf4
  obtain ⟨e0, e1, e2, e3, e4, e5⟩ := mc_cells hs4.b
  have hl4 := blk_lt hs4.b
  clear hE3 hf4 hi4 hs4 hcb HCA HF3 HENV3 HTAB3 HS3 HTB
  unfold ptr mvV at HCB
  generalize w2.heap.size = p at *
  go_wp2_with fail
  refine Calls.mono HCB.out ?_
  rintro _ w5 ⟨rfl, hf5, hi5⟩
  have HF5 : Hid _ := HF4.out.trans hf5
  have HI5 : Hid _ := hi5
  clear hf5 hi5 HCB HF4 e0 e1 e2 e3 e4 e5 hl4
  go_wp2
  go_ret
  exact ⟨by rw [← HFIN.out]; rfl, HF5.out, HI5.out⟩
end Go.Proofs.YtpicaknklgccoabGreatDoor
namespace Go.Proofs.YtpicaknklgccoabGreatDoor
open Go.RowKit
set_option maxRecDepth 100000 in
set_option maxHeartbeats 2000000 in
theorem Root_any (w : World) (nv ov : Value) (ns : List NR) (op : List Int) (h : TreeIn w nv ov ns op) (hl : ns.length ≤ 9000) : Calls Tryz.prog 55 #[treeV nv ov] w fun v w' => v = .returned (.int .i64 ((ns.length : Int) - 1)) ∧ Below w.heap.size w w' := by
 obtain ⟨a, cap, rfl⟩ := slice_any h.nd
 obtain ⟨a', cap', rfl⟩ := slice_any h.op
 clear h
 unfold treeV
 go_enter Tryz.func55, Tryz.ntmps55
 go_wp2
 go_ret
 exact ⟨rfl, (Below.refl _ _).alloc (Nat.le_refl _) _⟩
end Go.Proofs.YtpicaknklgccoabGreatDoor
