import Derived.Test.YtpicaknklgccoaaGreatDoorS23
set_option maxHeartbeats 4000000
set_option maxRecDepth 100000
namespace Go.Proofs.YtpicaknklgccoaaGreatDoor
open Go.RowKit
theorem KS (mb B : Nat) (x1 : Option Addr) (n1 c1 : Nat) (x2 : Option Addr) (n2 c2 : Nat) (fuel : Nat) (ns : List NR) (op : List Int) (i : Nat) (n : NR) (hn : ns[i]? = some n) (hform : n.form = 12) (c : Nat) (g : MM -> MV × MM)
  (hg : ∀ (w : World) (nv cv rv : Value) (m : MM), iL mb B w (.slice x1 n1 c1) (.slice x2 n2 c2) fuel nv cv rv m ns op c -> Calls Tryz.prog 129 #[ptr mb, aI n] w (fO mb w (.slice x1 n1 c1) (.slice x2 n2 c2) fuel nv cv rv (g m)))
  (w : World) (nv cv rv : Value) (m : MM) (h : iL mb B w (.slice x1 n1 c1) (.slice x2 n2 c2) fuel nv cv rv m ns op c) :
  Calls Tryz.prog 98 #[ptr mb, .int .i64 i] w (fO mb w (.slice x1 n1 c1) (.slice x2 n2 c2) fuel nv cv rv (g m)) := by
 obtain ⟨R, hR⟩ : ∃ R : Obj, R = .cells #[.bool false, .int .i64 0] 171 := ⟨_, rfl⟩
 have hW1 : Below w.heap.size w (w.alloc R) := aE (Below.refl _ _) _
 have hno := dZ (w.alloc R) (.slice x1 n1 c1) (.slice x2 n2 c2) ns op (h.env.tree _ (hW1.mono h.env.s)) i n hn h.env.len
 have kM : Beside mb w.heap.size (w.alloc R) nv cv rv (.cells #[.bool false, .int .i64 0] 171) := Beside.new h.i (by rw [hR]; exact aj w _) (Nat.le_refl _)
 have h1 := h.below hW1
 have dO : Hid (bu mb mb w (w.alloc R) nv cv rv nv cv rv) := bu.below mb mb nv cv rv hW1
 have H1 : Hid _ := h1
 have jD : Hid _ := kM
 have HG : Hid _ := hg
 have y0 : w.cell? ⟨mb, 0, none⟩ = some (.slice x1 n1 c1) := by rw [aa h.i.y]; rfl
 have y1 : w.cell? ⟨mb, 1, none⟩ = some (.slice x2 n2 c2) := by rw [aa h.i.y]; rfl
 have nu := af h.i.y
 have tV : Hid _ := hform
 have lP : i <= 9000 := by have := (List.getElem?_eq_some_iff.1 hn).1; have := h.env.len; omega
 have KL : ((n.form : Int) == 12) = true := mD (b := 12) hform
 clear hW1 kM h1 h hg hn hform
 unfold aK aI at hno
 unfold ptr
 go_enter Tryz.func98, Tryz.ntmps98
 subst hR
 go_wp2_with fail
 refine Calls.mono hno ?_
 rintro _ w2 ⟨rfl, hb2⟩
 obtain ⟨W3, gS⟩ : ∃ W3, W3 = w2.alloc (.cells #[.int .i64 n.form, .int .i64 n.at_, .int .i64 n.aO, .int .i64 n.num, .string (bs n.word), .int .i64 n.region, .int .i64 n.source, .int .i64 n.p0, .int .i64 n.p1, .int .i64 n.p2] 160) := ⟨_, rfl⟩
 have hb3 : Below (w.alloc (.cells #[.bool false, .int .i64 0] 171)).heap.size (w.alloc (.cells #[.bool false, .int .i64 0] 171)) W3 := by rw [gS]; exact hb2.alloc hb2.size _
 have h3 := H1.out.below hb3
 have hf3 : bu mb mb (w.alloc (.cells #[.bool false, .int .i64 0] 171)) W3 nv cv rv nv cv rv := bu.below mb mb nv cv rv hb3
 have hk := HG.out W3 nv cv rv m h3
 have HK : Hid _ := hk
 have dC : Hid _ := dO.out.trans hf3
 have eA : Hid _ := jD.out.keep hf3
 clear hb2 hb3 h3 hf3 hk H1 dO jD HG hno y0 y1
 unfold ptr aI at HK
 go_wp2_with fail
 rw [<- gS]
 refine Calls.mono HK.out ?_
 rintro _ w5 ⟨rfl, Er, Zj, Zk, ew, nA⟩
 have fJ : Hid _ := dC.out.trans ew
 have iJ : Hid _ := nA
 have aG := eA.out.keep ew
 have cZ : Hid _ := aG
 have fL : w.heap.size <= w.heap.size := Nat.le_refl _
 have x0 : w5.cell? ⟨w.heap.size, 0, none⟩ = some (.bool false) := by rw [aa aG.b]; rfl
 have x1 : w5.cell? ⟨w.heap.size, 1, none⟩ = some (.int .i64 0) := by rw [aa aG.b]; rfl
 have g0 : w5.frozen? ⟨w.heap.size, 0, none⟩ = false := ag aG.b 0
 have g1 : w5.frozen? ⟨w.heap.size, 1, none⟩ = false := ag aG.b 1
 have wh := af aG.b
 clear ew nA aG HK dC eA gS nu
 generalize g m = res at *
 unfold lf
 go_wp2
 have aS := cZ.out
 have jn := (iJ.out.beside aS.ne aS.n aS.c aS.r 0 (.bool res.1.c)).beside aS.ne aS.n aS.c aS.r 1 (.int .i64 res.1.n)
 have iq := (fJ.out.upto (aw (aw (Below.refl _ _) ⟨w.heap.size, 0, none⟩ fL (.bool res.1.c)) ⟨w.heap.size, 1, none⟩ fL (.int .i64 res.1.n)))
 refine bodyPost_ret (v := .agg #[.bool res.1.c, .int .i64 res.1.n]) (by simp [results, Tryz.results98, go_sem, x0, x1]) rfl ⟨rfl, _, _, _, iq, jn⟩
theorem eu (mb B : Nat) (x1 : Option Addr) (n1 c1 : Nat) (x2 : Option Addr) (n2 c2 : Nat) (fuel : Nat) (ns : List NR) (op : List Int) (i : Nat) (n : NR) (hn : ns[i]? = some n) (hform : n.form ≠ 12) (c : Nat) (g : MM -> MV × MM)
  (hg : ∀ (w : World) (nv cv rv : Value) (m : MM), iL mb B w (.slice x1 n1 c1) (.slice x2 n2 c2) fuel nv cv rv m ns op c -> Calls Tryz.prog 130 #[ptr mb, aI n] w (fO mb w (.slice x1 n1 c1) (.slice x2 n2 c2) fuel nv cv rv (g m)))
  (w : World) (nv cv rv : Value) (m : MM) (h : iL mb B w (.slice x1 n1 c1) (.slice x2 n2 c2) fuel nv cv rv m ns op c) :
  Calls Tryz.prog 98 #[ptr mb, .int .i64 i] w (fO mb w (.slice x1 n1 c1) (.slice x2 n2 c2) fuel nv cv rv (g m)) := by
 obtain ⟨R, hR⟩ : ∃ R : Obj, R = .cells #[.bool false, .int .i64 0] 171 := ⟨_, rfl⟩
 have hW1 : Below w.heap.size w (w.alloc R) := aE (Below.refl _ _) _
 have hno := dZ (w.alloc R) (.slice x1 n1 c1) (.slice x2 n2 c2) ns op (h.env.tree _ (hW1.mono h.env.s)) i n hn h.env.len
 have kM : Beside mb w.heap.size (w.alloc R) nv cv rv (.cells #[.bool false, .int .i64 0] 171) := Beside.new h.i (by rw [hR]; exact aj w _) (Nat.le_refl _)
 have h1 := h.below hW1
 have dO : Hid (bu mb mb w (w.alloc R) nv cv rv nv cv rv) := bu.below mb mb nv cv rv hW1
 have H1 : Hid _ := h1
 have jD : Hid _ := kM
 have HG : Hid _ := hg
 have y0 : w.cell? ⟨mb, 0, none⟩ = some (.slice x1 n1 c1) := by rw [aa h.i.y]; rfl
 have y1 : w.cell? ⟨mb, 1, none⟩ = some (.slice x2 n2 c2) := by rw [aa h.i.y]; rfl
 have nu := af h.i.y
 have tV : Hid _ := hform
 have lP : i <= 9000 := by have := (List.getElem?_eq_some_iff.1 hn).1; have := h.env.len; omega
 have KL : ((n.form : Int) == 12) = false := jX (b := 12) hform
 clear hW1 kM h1 h hg hn hform
 unfold aK aI at hno
 unfold ptr
 go_enter Tryz.func98, Tryz.ntmps98
 subst hR
 go_wp2_with fail
 refine Calls.mono hno ?_
 rintro _ w2 ⟨rfl, hb2⟩
 obtain ⟨W3, gS⟩ : ∃ W3, W3 = w2.alloc (.cells #[.int .i64 n.form, .int .i64 n.at_, .int .i64 n.aO, .int .i64 n.num, .string (bs n.word), .int .i64 n.region, .int .i64 n.source, .int .i64 n.p0, .int .i64 n.p1, .int .i64 n.p2] 160) := ⟨_, rfl⟩
 have hb3 : Below (w.alloc (.cells #[.bool false, .int .i64 0] 171)).heap.size (w.alloc (.cells #[.bool false, .int .i64 0] 171)) W3 := by rw [gS]; exact hb2.alloc hb2.size _
 have h3 := H1.out.below hb3
 have hf3 : bu mb mb (w.alloc (.cells #[.bool false, .int .i64 0] 171)) W3 nv cv rv nv cv rv := bu.below mb mb nv cv rv hb3
 have hk := HG.out W3 nv cv rv m h3
 have HK : Hid _ := hk
 have dC : Hid _ := dO.out.trans hf3
 have eA : Hid _ := jD.out.keep hf3
 clear hb2 hb3 h3 hf3 hk H1 dO jD HG hno y0 y1
 unfold ptr aI at HK
 go_wp2_with fail
 rw [<- gS]
 refine Calls.mono HK.out ?_
 rintro _ w5 ⟨rfl, Er, Zj, Zk, ew, nA⟩
 have fJ : Hid _ := dC.out.trans ew
 have iJ : Hid _ := nA
 have aG := eA.out.keep ew
 have cZ : Hid _ := aG
 have fL : w.heap.size <= w.heap.size := Nat.le_refl _
 have x0 : w5.cell? ⟨w.heap.size, 0, none⟩ = some (.bool false) := by rw [aa aG.b]; rfl
 have x1 : w5.cell? ⟨w.heap.size, 1, none⟩ = some (.int .i64 0) := by rw [aa aG.b]; rfl
 have g0 : w5.frozen? ⟨w.heap.size, 0, none⟩ = false := ag aG.b 0
 have g1 : w5.frozen? ⟨w.heap.size, 1, none⟩ = false := ag aG.b 1
 have wh := af aG.b
 clear ew nA aG HK dC eA gS nu
 generalize g m = res at *
 unfold lf
 go_wp2
 have aS := cZ.out
 have jn := (iJ.out.beside aS.ne aS.n aS.c aS.r 0 (.bool res.1.c)).beside aS.ne aS.n aS.c aS.r 1 (.int .i64 res.1.n)
 have iq := (fJ.out.upto (aw (aw (Below.refl _ _) ⟨w.heap.size, 0, none⟩ fL (.bool res.1.c)) ⟨w.heap.size, 1, none⟩ fL (.int .i64 res.1.n)))
 refine bodyPost_ret (v := .agg #[.bool res.1.c, .int .i64 res.1.n]) (by simp [results, Tryz.results98, go_sem, x0, x1]) rfl ⟨rfl, _, _, _, iq, jn⟩
mutual
def kO (ns : List NR) : Sc -> PT -> Nat -> Prop
 | _, .num _ s, base => ∃ n, ns[base]? = some n /\ n.form = 1 /\ n.num = au s
 | sc, .name _ s, base => ∃ n, ns[base]? = some n /\ n.form = 2 /\ n.source = bL sc s
 | sc, .node _ k nm rg kids, base => (∃ n, ns[base + aB kids]? = some n /\ n.form = aU k /\ n.region = au rg /\ n.p0 = (ay kids base).getD 0 (-1) /\ n.p1 = (ay kids base).getD 1 (-1) /\ n.p2 = (ay kids base).getD 2 (-1)) /\ fP ns sc nm kids (bX k) base
def fP (ns : List NR) : Sc -> List UInt8 -> List PT -> List Bool -> Nat -> Prop
 | _, _, [], _, _ => True
 | _, _, _ :: _, [], _ => False
 | sc, nm, t :: r, b :: bs, base => kO ns (if b then sc ++ [(nm, (base : Int) - 1)] else sc) t base /\ fP ns sc nm r bs (base + t.cnt)
end
theorem Ao {α : Type} (pre a post : List α) (j : Nat) (x : α) (h : a[j]? = some x) : (pre ++ (a ++ post))[pre.length + j]? = some x := by
 have hj := (List.getElem?_eq_some_iff.1 h).1
 rw [List.getElem?_append_right (by omega), Nat.add_sub_cancel_left, List.getElem?_append_left hj]; exact h
mutual
theorem NA.wk : ∀ {scope : Sc} {t : PT} {base : Nat} {ms : List NR}, NA scope t base ms -> ∀ (pre post : List NR), pre.length = base -> kO (pre ++ (ms ++ post)) scope t base
 | _, .num _ s, _, _, h, pre, post, hb => by
  simp only [NA] at h; subst h; subst hb
  simp only [kO]
  exact ⟨_, Ao pre _ post 0 _ rfl, rfl, rfl⟩
 | _, .name _ s, _, _, h, pre, post, hb => by
  simp only [NA] at h; subst h; subst hb
  simp only [kO]
  exact ⟨_, Ao pre _ post 0 _ rfl, rfl, rfl⟩
 | _, .node p k nm rg kids, base, _, h, pre, post, hb => by
  simp only [NA] at h
  obtain ⟨ks, aO, h1, rfl⟩ := h
  have hl := cR.len h1
  simp only [kO]
  refine ⟨⟨⟨aU k, p, aO, 0, nm, au rg, -1, (ay kids base).getD 0 (-1), (ay kids base).getD 1 (-1), (ay kids base).getD 2 (-1)⟩, ?_, rfl, rfl, rfl, rfl, rfl⟩, ?_⟩
  ·rw [<- hl]; conv => lhs; rw [show base + ks.length = pre.length + ks.length from by rw [hb]]
   refine Ao pre _ post ks.length _ ?_
   rw [List.getElem?_append_right (Nat.le_refl _), Nat.sub_self]; rfl
  ·have h2 := cR.wk h1 pre (⟨aU k, p, aO, 0, nm, au rg, -1, (ay kids base).getD 0 (-1), (ay kids base).getD 1 (-1), (ay kids base).getD 2 (-1)⟩ :: post) hb
   rw [List.append_assoc, List.singleton_append]
   exact h2
theorem cR.wk : ∀ {scope : Sc} {nm : List UInt8} {ts : List PT} {bs : List Bool} {base : Nat} {ms : List NR}, cR scope nm ts bs base ms -> ∀ (pre post : List NR), pre.length = base -> fP (pre ++ (ms ++ post)) scope nm ts bs base
 | _, _, [], _, _, _, _, _, _, _ => by simp [fP]
 | _, _, _ :: _, [], _, _, h, _, _, _ => by simp [cR] at h
 | _, _, t :: r, b :: bs, _, _, h, pre, post, hb => by
  simp only [cR] at h
  obtain ⟨a, c, h1, h2, rfl⟩ := h
  have hl := NA.len h1
  simp only [fP]
  constructor
  ·have := NA.wk h1 pre (c ++ post) hb
   rw [List.append_assoc]; exact this
  ·have := cR.wk h2 (pre ++ a) post (by rw [List.length_append, hl, hb])
   simp only [List.append_assoc] at this ⊢; exact this
end
theorem NA.OC {scope : Sc} {t : PT} {ns : List NR} (h : NA scope t 0 ns) : kO ns scope t 0 := by
 have := NA.wk h [] [] rfl
 simpa using this
def Io (sc : Sc) : Prop := ∀ x ∈ sc, -1 <= x.2 /\ x.2 <= 9000
theorem Io.find {sc : Sc} (h : Io sc) (s : List UInt8) : -1 <= bL sc s /\ bL sc s <= 9000 := by
 unfold bL
 split
 ·rename_i x hx
  exact h x (by have := List.mem_of_find?_eq_some hx; simpa using this)
 ·omega
theorem Io.snoc {sc : Sc} (h : Io sc) (nm : List UInt8) (i : Int) (hi : -1 <= i /\ i <= 9000) : Io (sc ++ [(nm, i)]) := by
 intro x hx
 rw [List.mem_append, List.mem_singleton] at hx
 rcases hx with hx | rfl
 ·exact h x hx
 ·exact hi
def wm (mb B : Nat) (x1 : Option Addr) (n1 c1 : Nat) (x2 : Option Addr) (n2 c2 : Nat) (fuel : Nat) (ns : List NR) (op : List Int) (t : PT) : Prop :=
 ∀ (sc : Sc) (base : Nat), kO ns sc t base -> Io sc -> t.wf -> t.mZ -> base + t.cnt <= ns.length -> ns.length <= 9000 -> fuel <= 20000 -> gf mb B (.slice x1 n1 c1) (.slice x2 n2 c2) fuel ns op (((base + t.cnt : Nat) : Int) - 1) t.cnt (fun m => mW fuel t sc base m)
theorem KU (mb B : Nat) (x1 : Option Addr) (n1 c1 : Nat) (x2 : Option Addr) (n2 c2 : Nat) (fuel : Nat) (ns : List NR) (op : List Int) (p : Nat) (s : List UInt8) : wm mb B x1 n1 c1 x2 n2 c2 fuel ns op (.num p s) := by
 intro sc base hs hsc hw hr hle xN hf w nv cv rv m h
 refine ⟨cQ fuel hf _ sc base m hw hr h.bd h.rl, ?_⟩
 simp only [kO] at hs
 obtain ⟨n, hn, hfm, oV⟩ := hs
 simp only [PT.cnt] at h ⊢
 rw [show (((base + 1 : Nat) : Int) - 1) = (base : Int) from by omega]
 have := eu mb B x1 n1 c1 x2 n2 c2 fuel ns op base n hn (by rw [hfm]; decide) 1 (fun m => bn fuel m (fun m => (⟨false, n.num⟩, m))) (fun w nv cv rv m h => Sk mb B _ _ fuel ns op n hfm 1 w nv cv rv m h) w nv cv rv m h
 rw [oV] at this
 simp only [mW]
 exact this
theorem Ip (mb B : Nat) (x1 : Option Addr) (n1 c1 : Nat) (x2 : Option Addr) (n2 c2 : Nat) (fuel : Nat) (ns : List NR) (op : List Int) (p : Nat) (s : List UInt8) : wm mb B x1 n1 c1 x2 n2 c2 fuel ns op (.name p s) := by
 intro sc base hs hsc hw hr hle xN hf w nv cv rv m h
 refine ⟨cQ fuel hf _ sc base m hw hr h.bd h.rl, ?_⟩
 simp only [kO] at hs
 obtain ⟨n, hn, hfm, hsrc⟩ := hs
 simp only [PT.cnt] at h ⊢
 rw [show (((base + 1 : Nat) : Int) - 1) = (base : Int) from by omega]
 have := eu mb B x1 n1 c1 x2 n2 c2 fuel ns op base n hn (by rw [hfm]; decide) 1 (fun m => bn fuel m (fun m => (m.look n.source, m))) (fun w nv cv rv m h => Sl mb B _ _ fuel ns op n hfm 1 (by rw [hsrc]; exact hsc.find s) w nv cv rv m h) w nv cv rv m h
 rw [hsrc] at this
 simp only [mW]
 exact this
theorem Iq (mb B : Nat) (x1 : Option Addr) (n1 c1 : Nat) (x2 : Option Addr) (n2 c2 : Nat) (fuel : Nat) (ns : List NR) (op : List Int) (p : Nat) (k : Kw) (nm rg : List UInt8) (kids : List PT) (ih : ∀ x ∈ kids, wm mb B x1 n1 c1 x2 n2 c2 fuel ns op x) : wm mb B x1 n1 c1 x2 n2 c2 fuel ns op (.node p k nm rg kids) := by
 intro sc base hs hsc hw hr hle xN hf w nv cv rv m h
 refine ⟨cQ fuel hf _ sc base m hw hr h.bd h.rl, ?_⟩
 simp only [kO] at hs
 obtain ⟨⟨n, hn, hfm, hrg, oA, gu, uE⟩, hks⟩ := hs
 simp only [PT.wf] at hw
 simp only [PT.mZ] at hr
 simp only [PT.cnt] at h hle ⊢
 rw [show (((base + (1 + aB kids) : Nat) : Int) - 1) = ((base + aB kids : Nat) : Int) from by omega]
 cases k with
 | bb =>
  match kids, hw.1, ih with
  | [a, b], _, ih =>
   simp only [bX, fP, if_true, Bool.false_eq_true, if_false] at hks
   simp only [oG] at hw
   simp only [dP] at hr
   simp only [aB, Nat.add_zero] at hle hn h ⊢
   simp only [ay, List.getD_cons_zero, List.getD_cons_succ] at oA gu
   have ha := ih a (by simp) sc base hks.1 hsc hw.2.1 hr.2.1 (by omega) xN hf
   have hb := ih b (by simp) _ (base + a.cnt) hks.2.1 (hsc.snoc _ _ (by omega)) hw.2.2.1 hr.2.2.1 (by omega) xN hf
   rw [<- oA] at ha
   rw [<- gu] at hb
   have hwl := fun w nv cv rv m h => Ck mb B _ _ fuel ns op n a.cnt b.cnt _ _ (by rw [oA]; omega) ha hb w nv cv rv m (iL.less (c := 1 + (a.cnt + b.cnt)) h (by omega))
   have := eu mb B x1 n1 c1 x2 n2 c2 fuel ns op (base + (a.cnt + b.cnt)) n hn (by rw [hfm]; decide) (1 + (a.cnt + b.cnt)) _ (fun w nv cv rv m h => Sa mb B _ _ fuel ns op n hfm (1 + (a.cnt + b.cnt)) _ hwl w nv cv rv m h) w nv cv rv m h
   rw [oA] at this
   simp only [mW, Ah, if_true, reduceCtorEq, if_false]
   exact this
 | pair =>
  match kids, hw.1, ih with
  | [a, b], _, ih =>
   simp only [bX, fP, Bool.false_eq_true, if_false] at hks
   simp only [oG] at hw
   simp only [dP] at hr
   simp only [aB, Nat.add_zero] at hle hn h ⊢
   simp only [ay, List.getD_cons_zero, List.getD_cons_succ] at oA gu
   have ha := ih a (by simp) sc base hks.1 hsc hw.2.1 hr.2.1 (by omega) xN hf
   have hb := ih b (by simp) _ (base + a.cnt) hks.2.1 hsc hw.2.2.1 hr.2.2.1 (by omega) xN hf
   rw [<- oA] at ha
   rw [<- gu] at hb
   have hwl := fun w nv cv rv m h => Ak mb B _ _ fuel ns op n a.cnt b.cnt _ _ ha hb w nv cv rv m (iL.less (c := 1 + (a.cnt + b.cnt)) h (by omega))
   have := eu mb B x1 n1 c1 x2 n2 c2 fuel ns op (base + (a.cnt + b.cnt)) n hn (by rw [hfm]; decide) (1 + (a.cnt + b.cnt)) _ (fun w nv cv rv m h => Sb mb B _ _ fuel ns op n hfm (1 + (a.cnt + b.cnt)) _ hwl w nv cv rv m h) w nv cv rv m h
   rw [hrg] at this
   simp only [mW, iK, if_true, reduceCtorEq, if_false]
   exact this
 | fst =>
  match kids, hw.1, ih with
  | [a], _, ih =>
   simp only [bX, fP, Bool.false_eq_true, if_false] at hks
   simp only [oG] at hw
   simp only [dP] at hr
   simp only [aB, Nat.add_zero] at hle hn h ⊢
   simp only [ay, List.getD_cons_zero] at oA
   have ha := ih a (by simp) sc base hks.1 hsc hw.2.1 hr.2.1 (by omega) xN hf
   rw [<- oA] at ha
   have hwl := fun w nv cv rv m h => rM mb B _ _ fuel ns op n a.cnt _ ha w nv cv rv m (iL.less (c := 1 + a.cnt) h (by omega))
   have := eu mb B x1 n1 c1 x2 n2 c2 fuel ns op (base + a.cnt) n hn (by rw [hfm]; decide) (1 + a.cnt) _ (fun w nv cv rv m h => Sd mb B _ _ fuel ns op n hfm (1 + a.cnt) _ hwl w nv cv rv m h) w nv cv rv m h
   simp only [if_pos (show n.form = 5 from hfm)] at this
   simp only [mW, iK, if_true, reduceCtorEq, if_false]
   exact this
 | snd =>
  match kids, hw.1, ih with
  | [a], _, ih =>
   simp only [bX, fP, Bool.false_eq_true, if_false] at hks
   simp only [oG] at hw
   simp only [dP] at hr
   simp only [aB, Nat.add_zero] at hle hn h ⊢
   simp only [ay, List.getD_cons_zero] at oA
   have ha := ih a (by simp) sc base hks.1 hsc hw.2.1 hr.2.1 (by omega) xN hf
   rw [<- oA] at ha
   have hwl := fun w nv cv rv m h => rM mb B _ _ fuel ns op n a.cnt _ ha w nv cv rv m (iL.less (c := 1 + a.cnt) h (by omega))
   have := eu mb B x1 n1 c1 x2 n2 c2 fuel ns op (base + a.cnt) n hn (by rw [hfm]; decide) (1 + a.cnt) _ (fun w nv cv rv m h => Sg mb B _ _ fuel ns op n hfm (1 + a.cnt) _ hwl w nv cv rv m h) w nv cv rv m h
   simp only [if_neg (show n.form ≠ 5 by rw [hfm]; decide)] at this
   simp only [mW, iK, reduceCtorEq, if_false]
   exact this
 | fH =>
  match kids, hw.1, ih with
  | [a, b, c], _, ih =>
   simp only [bX, fP, Bool.false_eq_true, if_false] at hks
   simp only [oG] at hw
   simp only [dP] at hr
   simp only [aB, Nat.add_zero] at hle hn h ⊢
   simp only [ay, List.getD_cons_zero, List.getD_cons_succ] at oA gu uE
   have ha := ih a (by simp) sc base hks.1 hsc hw.2.1 hr.2.1 (by omega) xN hf
   have hb := ih b (by simp) _ (base + a.cnt) hks.2.1 hsc hw.2.2.1 hr.2.2.1 (by omega) xN hf
   have hc := ih c (by simp) _ (base + a.cnt + b.cnt) hks.2.2.1 hsc hw.2.2.2.1 hr.2.2.2.1 (by omega) xN hf
   rw [<- oA] at ha
   rw [<- gu] at hb
   rw [<- uE] at hc
   have hwl := fun w nv cv rv m h => Es mb B _ _ fuel ns op n a.cnt b.cnt _ _ _ ha hb c.cnt hc w nv cv rv m (iL.less (c := 1 + (a.cnt + (b.cnt + c.cnt))) h (by omega))
   have := eu mb B x1 n1 c1 x2 n2 c2 fuel ns op (base + (a.cnt + (b.cnt + c.cnt))) n hn (by rw [hfm]; decide) (1 + (a.cnt + (b.cnt + c.cnt))) _ (fun w nv cv rv m h => Sh mb B _ _ fuel ns op n hfm (1 + (a.cnt + (b.cnt + c.cnt))) _ hwl w nv cv rv m h) w nv cv rv m h
   simp only [mW, Om, if_true, reduceCtorEq, if_false]
   exact this
 | loop =>
  match kids, hw.1, ih with
  | [a, b, c], _, ih =>
   simp only [bX, fP, if_true, Bool.false_eq_true, if_false] at hks
   simp only [oG] at hw
   simp only [dP] at hr
   simp only [aB, Nat.add_zero] at hle hn h ⊢
   simp only [ay, List.getD_cons_zero, List.getD_cons_succ] at oA gu uE
   have ha := ih a (by simp) sc base hks.1 hsc hw.2.1 hr.2.1 (by omega) xN hf
   have hb := ih b (by simp) _ (base + a.cnt) hks.2.1 hsc hw.2.2.1 hr.2.2.1 (by omega) xN hf
   have hc := ih c (by simp) _ (base + a.cnt + b.cnt) hks.2.2.1 (hsc.snoc _ _ (by omega)) hw.2.2.2.1 hr.2.2.2.1 (by omega) xN hf
   rw [<- oA] at ha
   rw [<- gu] at hb
   rw [<- uE] at hc
   have hwl := fun w nv cv rv m h => Am mb B _ _ fuel ns op n (by rw [gu]; omega) a.cnt b.cnt c.cnt _ _ _ ha hb (by omega) hc w nv cv rv m (iL.less (c := 1 + (a.cnt + (b.cnt + c.cnt))) h (by omega))
   have := eu mb B x1 n1 c1 x2 n2 c2 fuel ns op (base + (a.cnt + (b.cnt + c.cnt))) n hn (by rw [hfm]; decide) (1 + (a.cnt + (b.cnt + c.cnt))) _ (fun w nv cv rv m h => OB mb B _ _ fuel ns op n hfm (1 + (a.cnt + (b.cnt + c.cnt))) _ hwl w nv cv rv m h) w nv cv rv m h
   rw [gu] at this
   simp only [mW, rF, if_true, reduceCtorEq, if_false]
   exact this
 | new =>
  match kids, hw.1, ih with
  | [a], _, ih =>
   simp only [bX, fP, Bool.false_eq_true, if_false] at hks
   simp only [oG] at hw
   simp only [dP] at hr
   simp only [aB, Nat.add_zero] at hle hn h ⊢
   simp only [ay, List.getD_cons_zero] at oA
   have ha := ih a (by simp) sc base hks.1 hsc hw.2.1 hr.2.1 (by omega) xN hf
   rw [<- oA] at ha
   have := KS mb B x1 n1 c1 x2 n2 c2 fuel ns op (base + a.cnt) n hn hfm (1 + a.cnt) _ (fun w nv cv rv m h => Cn mb B _ _ fuel ns op n (by rw [hrg]; omega) a.cnt _ ha w nv cv rv m h) w nv cv rv m h
   rw [hrg] at this
   simp only [mW, vX, if_true]
   exact this
 | _ =>
  match kids, hw.1, ih with
  | [a, b], _, ih =>
   simp only [bX, fP, Bool.false_eq_true, if_false] at hks
   simp only [oG] at hw
   simp only [dP] at hr
   simp only [aB, Nat.add_zero] at hle hn h ⊢
   simp only [ay, List.getD_cons_zero, List.getD_cons_succ] at oA gu
   have ha := ih a (by simp) sc base hks.1 hsc hw.2.1 hr.2.1 (by omega) xN hf
   have hb := ih b (by simp) _ (base + a.cnt) hks.2.1 hsc hw.2.2.1 hr.2.2.1 (by omega) xN hf
   rw [<- oA] at ha
   rw [<- gu] at hb
   have hwl := fun w nv cv rv m h => uu mb B _ _ fuel ns op n a.cnt b.cnt _ _ ha hb w nv cv rv m (iL.less (c := 1 + (a.cnt + b.cnt)) h (by omega))
   first
   | (have := eu mb B x1 n1 c1 x2 n2 c2 fuel ns op (base + (a.cnt + b.cnt)) n hn (by rw [hfm]; decide) (1 + (a.cnt + b.cnt)) _ (fun w nv cv rv m h => Si mb B _ _ fuel ns op n hfm (1 + (a.cnt + b.cnt)) _ hwl w nv cv rv m h) w nv cv rv m h
      simp only [hfm] at this
      simp only [mW, iK, reduceCtorEq, if_false]
      exact this)
   | (have := eu mb B x1 n1 c1 x2 n2 c2 fuel ns op (base + (a.cnt + b.cnt)) n hn (by rw [hfm]; decide) (1 + (a.cnt + b.cnt)) _ (fun w nv cv rv m h => Sj mb B _ _ fuel ns op n hfm (1 + (a.cnt + b.cnt)) _ hwl w nv cv rv m h) w nv cv rv m h
      simp only [hfm] at this
      simp only [mW, iK, reduceCtorEq, if_false]
      exact this)
   | (have := eu mb B x1 n1 c1 x2 n2 c2 fuel ns op (base + (a.cnt + b.cnt)) n hn (by rw [hfm]; decide) (1 + (a.cnt + b.cnt)) _ (fun w nv cv rv m h => OA mb B _ _ fuel ns op n hfm (1 + (a.cnt + b.cnt)) _ hwl w nv cv rv m h) w nv cv rv m h
      simp only [hfm] at this
      simp only [mW, iK, reduceCtorEq, if_false]
      exact this)
theorem KV (mb B : Nat) (x1 : Option Addr) (n1 c1 : Nat) (x2 : Option Addr) (n2 c2 : Nat) (fuel : Nat) (ns : List NR) (op : List Int) (t : PT) : wm mb B x1 n1 c1 x2 n2 c2 fuel ns op t := by
 induction t using PT.ind with
 | h1 p s => exact KU mb B x1 n1 c1 x2 n2 c2 fuel ns op p s
 | h2 p s => exact Ip mb B x1 n1 c1 x2 n2 c2 fuel ns op p s
 | h3 p k nm rg kids ih => exact Iq mb B x1 n1 c1 x2 n2 c2 fuel ns op p k nm rg kids ih
def Fits (cells : List MC) : Ty -> MV -> Prop
 | .n, v => v.c = false /\ 0 <= v.n /\ v.n <= 9999
 | .p _ A B, v => (v.c = false /\ 0 <= v.n /\ v.n <= 9999) \/ (v.c = true /\ ∃ (i : Nat) (c : MC), v.n = i /\ cells[i]? = some c /\ Fits cells A c.a /\ Fits cells B c.b)
theorem rN (cells : List MC) (T : Ty) : Fits cells T v0 := by cases T <;> simp [Fits, v0]
theorem Fits.mono {cells l : List MC} : ∀ {T : Ty} {v : MV}, Fits cells T v -> Fits (cells ++ l) T v
 | .n, _, h => h
 | .p _ A B, _, h => by
  simp only [Fits] at h ⊢
  rcases h with h | ⟨hc, i, c, hv, hi, ha, hb⟩
  ·exact Or.inl h
  ·refine Or.inr ⟨hc, i, c, hv, ?_, Fits.mono ha, Fits.mono hb⟩
   rw [List.getElem?_append_left (List.getElem?_eq_some_iff.1 hi).1]; exact hi
structure Ext (m m' : MM) (base c : Nat) : Prop where
 cells : ∃ l, m'.cells = m.cells ++ l
 len : m'.named.length = m.named.length
 named : ∀ i, (i < base \/ base + c <= i) -> m'.named[i]? = m.named[i]?
theorem Ext.refl (m : MM) (base c : Nat) : Ext m m base c := ⟨⟨[], by simp⟩, rfl, fun _ _ => rfl⟩
theorem Ext.trans {m m1 m2 : MM} {b c b1 c1 b2 c2 : Nat} (h : Ext m m1 b1 c1) (h' : Ext m1 m2 b2 c2) (hb1 : b <= b1 /\ b1 + c1 <= b + c) (hb2 : b <= b2 /\ b2 + c2 <= b + c) : Ext m m2 b c := by
 obtain ⟨l, hl⟩ := h.cells
 obtain ⟨l', hl'⟩ := h'.cells
 exact ⟨⟨l ++ l', by rw [hl', hl, List.append_assoc]⟩, h'.len.trans h.len, fun i hi => (h'.named i (by omega)).trans (h.named i (by omega))⟩
theorem Ext.same {m m' : MM} (h1 : m'.cells = m.cells) (h2 : m'.named = m.named) (base c : Nat) : Ext m m' base c := ⟨⟨[], by simp [h1]⟩, by rw [h2], fun _ _ => by rw [h2]⟩
theorem Fits.on {m m' : MM} {b c : Nat} {T : Ty} {v : MV} (h : Fits m.cells T v) (he : Ext m m' b c) : Fits m'.cells T v := by
 obtain ⟨l, hl⟩ := he.cells
 rw [hl]; exact h.mono
theorem Cp (m : MM) (f base c : Nat) : Ext m (m.stop f) base c := by unfold MM.stop; split <;> (refine Ext.same ?_ ?_ _ _ <;> rfl)
theorem FZ (m : MM) (v : MV) (base c : Nat) : Ext m (m.use v).2 base c := by
 unfold MM.use; split
 ·exact Ext.refl _ _ _
 ·simp only; split
  ·exact Ext.refl _ _ _
  ·exact Cp _ _ _ _
theorem rO (m : MM) (k : Int) (a b : MV) (base c : Nat) : Ext m (m.aZ k a b).2 base c := by
 unfold MM.aZ; split
 ·exact Ext.refl _ _ _
 ·exact ⟨⟨_, rfl⟩, rfl, fun _ _ => rfl⟩
theorem fE (m : MM) (j : Nat) (v : MV) (base c : Nat) (hj : base <= j /\ j < base + c) : Ext m (m.name (j : Int) v) base c := by
 unfold MM.name; split
 ·refine ⟨⟨[], by simp⟩, by simp, fun i hi => ?_⟩
  simp only [Int.toNat_natCast]
  rw [List.getElem?_set_ne (by omega)]
 ·exact Ext.refl _ _ _
theorem Ap (m : MM) (j : Nat) (v : MV) (hj : j < m.named.length) : (m.name (j : Int) v).named[j]? = some v := by
 unfold MM.name
 rw [if_pos (by omega)]
 simp only [Int.toNat_natCast]
 rw [List.getElem?_set_self hj]
theorem Aq (m : MM) (base c : Nat) : Ext m m.fin base c := by unfold MM.fin; split <;> (refine Ext.same ?_ ?_ _ _ <;> rfl)
def EF (named : List MV) (cells : List MC) (sc : Sc) (G : aQ) (base : Nat) : Prop := ∀ s T, look G s = some T -> ∃ (i : Nat) (v : MV), bL sc s = (i : Int) /\ i < base /\ named[i]? = some v /\ Fits cells T v
theorem qu (G : aQ) (nm : List UInt8) (T : Ty) (s : List UInt8) : look (G ++ [(nm, T)]) s = if nm = s then some T else look G s := by
 unfold look
 rw [List.reverse_append]
 simp only [List.reverse_cons, List.reverse_nil, List.nil_append, List.singleton_append, List.find?_cons]
 by_cases h : nm = s
 ·simp [h]
 ·have : (nm == s) = false := by rw [beq_eq_false_iff_ne]; exact h
  simp [h, this]
theorem wo (sc : Sc) (nm : List UInt8) (j : Int) (s : List UInt8) : bL (sc ++ [(nm, j)]) s = if nm = s then j else bL sc s := by
 unfold bL
 rw [List.reverse_append]
 simp only [List.reverse_cons, List.reverse_nil, List.nil_append, List.singleton_append, List.find?_cons]
 by_cases h : nm = s
 ·simp [h]
 ·have : (nm == s) = false := by rw [beq_eq_false_iff_ne]; exact h
  simp [h, this]
theorem EF.on {m m' : MM} {sc : Sc} {G : aQ} {base b c : Nat} (h : EF m.named m.cells sc G base) (he : Ext m m' b c) (hb : base <= b) : EF m'.named m'.cells sc G base := by
 intro s T hl
 obtain ⟨i, v, h1, h2, h3, h4⟩ := h s T hl
 exact ⟨i, v, h1, h2, (he.named i (Or.inl (by omega))).trans h3, h4.on he⟩
theorem EF.up {named : List MV} {cells : List MC} {sc : Sc} {G : aQ} {base b : Nat} (h : EF named cells sc G base) (hb : base <= b) : EF named cells sc G b := by
 intro s T hl
 obtain ⟨i, v, h1, h2, h3, h4⟩ := h s T hl
 exact ⟨i, v, h1, by omega, h3, h4⟩
theorem EF.snoc {m : MM} {sc : Sc} {G : aQ} {base j : Nat} {nm : List UInt8} {T : Ty} {v : MV} (h : EF m.named m.cells sc G base) (hj : base <= j) (hl : j < m.named.length) (hv : Fits m.cells T v) : EF (m.name (j : Int) v).named (m.name (j : Int) v).cells (sc ++ [(nm, (j : Int))]) (G ++ [(nm, T)]) (j + 1) := by
 have he := fE m j v j 1 (by omega)
 intro s T' hlk
 rw [qu] at hlk
 rw [wo]
 by_cases hs : nm = s
 ·rw [if_pos hs] at hlk ⊢
  cases hlk
  exact ⟨j, v, rfl, by omega, Ap m j v hl, hv.on he⟩
 ·rw [if_neg hs] at hlk ⊢
  obtain ⟨i, u, h1, h2, h3, h4⟩ := h s T' hlk
  exact ⟨i, u, h1, by omega, (he.named i (Or.inl (by omega))).trans h3, h4.on he⟩
def wq (m : MM) (x : MV × MM) (base c : Nat) (T : Ty) : Prop := Ext m x.2 base c /\ Fits x.2.cells T x.1
theorem fQ {fuel : Nat} {m : MM} {f : MM -> MV × MM} {base c : Nat} {T : Ty} (h : wq { m with steps := m.steps + 1 } (f { m with steps := m.steps + 1 }) base c T) : wq m (bn fuel m f) base c T := by
 unfold bn
 by_cases lO : fuel <= m.steps
 ·simp only [if_pos lO]
  have hne : (m.stop 12).fault ≠ 0 := by unfold MM.stop; split <;> simp_all
  simp only [if_pos hne]
  exact ⟨Cp _ _ _ _, rN _ _⟩
 ·simp only [if_neg lO]
  by_cases hz : m.fault = 0
  ·rw [if_neg (fun hn => hn hz)]
   exact ⟨(show Ext m { m with steps := m.steps + 1 } base c from Ext.same (by rfl) (by rfl) base c).trans h.1 (by omega) (by omega), h.2⟩
  ·rw [if_pos hz]
   exact ⟨Ext.refl _ _ _, rN _ _⟩
theorem yP {base c j : Nat} {T : Ty} {f : MM -> MV × MM} {L : Nat} {P : MM -> Prop} (hj : base <= j /\ j < base + c) (hP : ∀ m v, P m -> Fits m.cells T v -> m.named.length = L -> wq (m.name (j : Int) v) (f (m.name (j : Int) v)) base c T) (hPe : ∀ m m', P m -> Ext m m' base c -> P m') : ∀ (k : Nat) (v : MV) (m : MM), P m -> Fits m.cells T v -> m.named.length = L -> wq m (cP (j : Int) f k v m) base c T
 | 0, v, m, _, hv, _ => ⟨Ext.refl _ _ _, hv⟩
 | k + 1, v, m, hm, hv, hL => by
  simp only [cP]
  split
  ·exact ⟨Ext.refl _ _ _, hv⟩
  ·have h1 := hP m v hm hv hL
   have he : Ext m (f (m.name (j : Int) v)).2 base c := (fE m j v base c hj).trans h1.1 (by omega) (by omega)
   have h2 := yP hj hP hPe k (f (m.name (j : Int) v)).1 (f (m.name (j : Int) v)).2 (hPe m _ hm he) h1.2 (he.len.trans hL)
   exact ⟨he.trans h2.1 (by omega) (by omega), h2.2⟩
theorem Ir (cells : List MC) (k : Kw) (a b : Int) (ha : 0 <= a /\ a <= 9999) (hb : 0 <= b /\ b <= 9999) : Fits cells .n ⟨false, ij k a b⟩ := by
 simp only [Fits, ij, true_and]
 split
 ·rw [Int.tmod_eq_emod_of_nonneg (by omega)]; omega
 ·split
  ·rw [Int.tmod_eq_emod_of_nonneg (by omega)]; omega
  ·split <;> omega
theorem F2 {m : MM} {A B : Ty} {r : Nat} {v : MV} (h : Fits m.cells (.p r A B) v) : Fits m.cells A (m.use v).1.a /\ Fits m.cells B (m.use v).1.b := by
 simp only [Fits] at h
 rcases h with h | ⟨hc, i, c, hv, hi, ha, hb⟩
 ·have e : (m.use v).1 = c0 := by unfold MM.use; rw [if_pos (Or.inl h.1)]
  rw [e]; exact ⟨rN _ _, rN _ _⟩
 ·have lP := (List.getElem?_eq_some_iff.1 hi).1
  have e : (m.use v).1 = c := by
   unfold MM.use
   rw [if_neg (by rw [hc, hv]; simp; omega)]
   simp only
   rw [hv, Int.toNat_natCast, List.getD_eq_getElem?_getD, hi]; rfl
  rw [e]; exact ⟨ha, hb⟩
theorem KW {m : MM} {A B : Ty} {k : Int} {a b : MV} (ha : Fits m.cells A a) (hb : Fits m.cells B b) : Fits (m.aZ k a b).2.cells (.p 0 A B) (m.aZ k a b).1 := by
 have he := rO m k a b 0 0
 unfold MM.aZ at he ⊢
 split
 ·exact rN _ _
 ·rename_i r hr
  simp only [Fits]
  refine Or.inr ⟨trivial, m.cells.length, ⟨a, b, m.home k, r.gb⟩, rfl, by simp, ha.mono, hb.mono⟩
theorem jY (fuel : Nat) {G : aQ} {t : PT} {T : Ty} (h : WT G t T) : ∀ (sc : Sc) (base : Nat) (m : MM), t.mZ -> EF m.named m.cells sc G base -> base + t.cnt <= m.named.length -> wq m (mW fuel t sc base m) base t.cnt T := by
 induction h with
 | num =>
  intro sc base m hr he hl
  simp only [PT.mZ] at hr
  simp only [mW]
  exact fQ ⟨Ext.refl _ _ _, by simp only [Fits, true_and]; exact hr⟩
 | name hlk =>
  intro sc base m hr he hl
  simp only [mW]
  refine fQ ⟨Ext.refl _ _ _, ?_⟩
  obtain ⟨i, v, h1, h2, h3, h4⟩ := he _ _ hlk
  have lP := (List.getElem?_eq_some_iff.1 h3).1
  unfold MM.look
  simp only [h1]
  rw [if_neg (by omega), Int.toNat_natCast, List.getD_eq_getElem?_getD, h3]
  exact h4
 | @bb G p nm rg a b A B ha hb bI dG =>
  intro sc base m hr he hl
  simp only [PT.mZ, dP] at hr
  simp only [PT.cnt, aB, Nat.add_zero] at hl ⊢
  simp only [mW, Ah, if_true, reduceCtorEq, if_false]
  refine fQ ?_
  have h1 := bI sc base { m with steps := m.steps + 1 } hr.2.1 he (by simp only; omega)
  generalize mW fuel a sc base { m with steps := m.steps + 1 } = x at h1 ⊢
  have Wa := dI a
  have hxl : x.2.named.length = m.named.length := h1.1.len
  have hx := EF.on (m := { m with steps := m.steps + 1 }) he h1.1 (Nat.le_refl _)
  rw [show (((base + a.cnt : Nat) : Int) - 1) = ((base + a.cnt - 1 : Nat) : Int) from by omega]
  have iF := hx.snoc (nm := nm) (j := base + a.cnt - 1) (by omega) (by omega) h1.2
  rw [show base + a.cnt - 1 + 1 = base + a.cnt from by omega] at iF
  have hne := fE x.2 (base + a.cnt - 1) x.1 base a.cnt (by omega)
  have h2 := dG _ (base + a.cnt) _ hr.2.2.1 iF (by rw [hne.len, hxl]; omega)
  exact ⟨(h1.1.trans hne (b := base) (c := a.cnt) (by omega) (by omega)).trans h2.1 (by omega) (by omega), h2.2⟩
 | @pair G p nm rg a b A B ha hb hs bI dG =>
  intro sc base m hr he hl
  simp only [PT.mZ, dP] at hr
  simp only [PT.cnt, aB, Nat.add_zero] at hl ⊢
  simp only [mW, iK, if_true, reduceCtorEq, if_false]
  refine fQ ?_
  have h1 := bI sc base { m with steps := m.steps + 1 } hr.2.1 he (by simp only; omega)
  generalize mW fuel a sc base { m with steps := m.steps + 1 } = x at h1 ⊢
  have hxl : x.2.named.length = m.named.length := h1.1.len
  have h2 := dG sc (base + a.cnt) x.2 hr.2.2.1 ((EF.on (m := { m with steps := m.steps + 1 }) he h1.1 (Nat.le_refl _)).up (by omega)) (by omega)
  generalize mW fuel b sc (base + a.cnt) x.2 = y at h2 ⊢
  have h3 := rO y.2 (au rg) x.1 y.1 base (1 + (a.cnt + b.cnt))
  exact ⟨(h1.1.trans h2.1 (b := base) (c := a.cnt + b.cnt) (by omega) (by omega)).trans h3 (by omega) (by omega), KW (h1.2.on h2.1) h2.2⟩
 | @fst G p nm rg a A B ha bI =>
  intro sc base m hr he hl
  simp only [PT.mZ, dP] at hr
  simp only [PT.cnt, aB, Nat.add_zero] at hl ⊢
  simp only [mW, iK, if_true, reduceCtorEq, if_false]
  refine fQ ?_
  have h1 := bI sc base { m with steps := m.steps + 1 } hr.2.1 he (by simp only; omega)
  generalize mW fuel a sc base { m with steps := m.steps + 1 } = x at h1 ⊢
  have h3 := FZ x.2 x.1 base a.cnt
  exact ⟨h1.1.trans h3 (by omega) (by omega), (F2 h1.2).1.on h3⟩
 | @snd G p nm rg a A B ha bI =>
  intro sc base m hr he hl
  simp only [PT.mZ, dP] at hr
  simp only [PT.cnt, aB, Nat.add_zero] at hl ⊢
  simp only [mW, iK, reduceCtorEq, if_false]
  refine fQ ?_
  have h1 := bI sc base { m with steps := m.steps + 1 } hr.2.1 he (by simp only; omega)
  generalize mW fuel a sc base { m with steps := m.steps + 1 } = x at h1 ⊢
  have h3 := FZ x.2 x.1 base a.cnt
  exact ⟨h1.1.trans h3 (by omega) (by omega), (F2 h1.2).2.on h3⟩
 | @fH G p nm rg a b c T ha hb hc bI dG nY =>
  intro sc base m hr he hl
  simp only [PT.mZ, dP] at hr
  simp only [PT.cnt, aB, Nat.add_zero] at hl ⊢
  simp only [mW, Om, if_true, reduceCtorEq, if_false]
  refine fQ ?_
  have h1 := bI sc base { m with steps := m.steps + 1 } hr.2.1 he (by simp only; omega)
  generalize mW fuel a sc base { m with steps := m.steps + 1 } = x at h1 ⊢
  have hxl : x.2.named.length = m.named.length := h1.1.len
  have hx := EF.on (m := { m with steps := m.steps + 1 }) he h1.1 (Nat.le_refl _)
  split
  ·have h2 := dG sc (base + a.cnt) x.2 hr.2.2.1 (hx.up (by omega)) (by omega)
   exact ⟨h1.1.trans h2.1 (by omega) (by omega), h2.2⟩
  ·have h2 := nY sc (base + a.cnt + b.cnt) x.2 hr.2.2.2.1 (hx.up (by omega)) (by omega)
   exact ⟨h1.1.trans h2.1 (by omega) (by omega), h2.2⟩
 | @two G p k nm rg a b hk ha hb bI dG =>
  intro sc base m hr he hl
  simp only [PT.mZ, dP] at hr
  simp only [PT.cnt, aB, Nat.add_zero] at hl ⊢
  have e : mW fuel (.node p k nm rg [a, b]) sc base m = bn fuel m (fun m => (⟨false, ij k (mW fuel a sc base m).1.n (mW fuel b sc (base + a.cnt) (mW fuel a sc base m).2).1.n⟩, (mW fuel b sc (base + a.cnt) (mW fuel a sc base m).2).2)) := by
   rcases hk with rfl | rfl | rfl <;> simp only [mW, iK, reduceCtorEq, if_false]
  rw [e]
  refine fQ ?_
  have h1 := bI sc base { m with steps := m.steps + 1 } hr.2.1 he (by simp only; omega)
  generalize mW fuel a sc base { m with steps := m.steps + 1 } = x at h1 ⊢
  have hxl : x.2.named.length = m.named.length := h1.1.len
  have h2 := dG sc (base + a.cnt) x.2 hr.2.2.1 ((EF.on (m := { m with steps := m.steps + 1 }) he h1.1 (Nat.le_refl _)).up (by omega)) (by omega)
  generalize mW fuel b sc (base + a.cnt) x.2 = y at h2 ⊢
  have f1 := h1.2
  have f2 := h2.2
  simp only [Fits] at f1 f2
  exact ⟨h1.1.trans h2.1 (by omega) (by omega), Ir _ _ _ _ f1.2 f2.2⟩
 | @loop G p nm rg a b c T ha hb hc bI dG nY =>
  intro sc base m hr he hl
  simp only [PT.mZ, dP] at hr
  simp only [PT.cnt, aB, Nat.add_zero] at hl ⊢
  simp only [mW, rF, if_true, reduceCtorEq, if_false]
  refine fQ ?_
  have h1 := bI sc base { m with steps := m.steps + 1 } hr.2.1 he (by simp only; omega)
  generalize mW fuel a sc base { m with steps := m.steps + 1 } = x at h1 ⊢
  have hxl : x.2.named.length = m.named.length := h1.1.len
  have hx := EF.on (m := { m with steps := m.steps + 1 }) he h1.1 (Nat.le_refl _)
  have h2 := dG sc (base + a.cnt) x.2 hr.2.2.1 (hx.up (by omega)) (by omega)
  generalize mW fuel b sc (base + a.cnt) x.2 = y at h2 ⊢
  have nj : y.2.named.length = m.named.length := h2.1.len.trans hxl
  have uD := dI b
  have hy := hx.on h2.1 (by omega)
  rw [show (((base + a.cnt + b.cnt : Nat) : Int) - 1) = ((base + a.cnt + b.cnt - 1 : Nat) : Int) from by omega]
  have ht := yP (base := base + a.cnt) (c := b.cnt + c.cnt) (j := base + a.cnt + b.cnt - 1) (T := T) (L := m.named.length) (P := fun m => EF m.named m.cells sc G base) (f := fun m => mW fuel c (sc ++ [(nm, ((base + a.cnt + b.cnt - 1 : Nat) : Int))]) (base + a.cnt + b.cnt) m) (by omega)
   (fun m' v hP hv hL => by
    have iF := EF.snoc (nm := nm) (j := base + a.cnt + b.cnt - 1) (EF.up hP (show base <= base + a.cnt + b.cnt - 1 by omega)) (Nat.le_refl _) (by omega) hv
    rw [show base + a.cnt + b.cnt - 1 + 1 = base + a.cnt + b.cnt from by omega] at iF
    have h3 := nY _ (base + a.cnt + b.cnt) _ hr.2.2.2.1 iF (by rw [(fE m' (base + a.cnt + b.cnt - 1) v (base + a.cnt + b.cnt - 1) 1 (by omega)).len]; omega)
    exact ⟨(Ext.refl _ (base + a.cnt) 0).trans h3.1 (by omega) (by omega), h3.2⟩)
   (fun m1 m2 hP hE => EF.on hP hE (by omega)) x.1.n.toNat y.1 y.2 hy h2.2 nj
  exact ⟨(h1.1.trans h2.1 (b := base) (c := a.cnt + b.cnt) (by omega) (by omega)).trans ht.1 (by omega) (by omega), ht.2⟩
 | @new G p nm rg a T ha bI =>
  intro sc base m hr he hl
  simp only [PT.mZ, dP] at hr
  simp only [PT.cnt, aB, Nat.add_zero] at hl ⊢
  simp only [mW, vX, if_true]
  have h1 := bI sc base (m.opn (au rg)) hr.2.1 he (by show _ <= m.named.length; omega)
  generalize mW fuel a sc base (m.opn (au rg)) = x at h1 ⊢
  have h0 : Ext m (m.opn (au rg)) base a.cnt := Ext.same (by rfl) (by rfl) _ _
  have h3 := Aq x.2 base a.cnt
  exact ⟨(h0.trans h1.1 (b := base) (c := a.cnt) (by omega) (by omega)).trans h3 (by omega) (by omega), h1.2.on h3⟩
def iv (cells : List MC) : Vl -> MV -> Prop
 | .n k, v => v.c = false /\ v.n = k /\ k <= 9999
 | .p a b, v => v.c = true /\ ∃ (i : Nat) (c : MC), v.n = i /\ cells[i]? = some c /\ iv cells a c.a /\ iv cells b c.b
theorem iv.mono {cells l : List MC} : ∀ {x : Vl} {v : MV}, iv cells x v -> iv (cells ++ l) x v
 | .n _, _, h => h
 | .p a b, _, h => by
  simp only [iv] at h ⊢
  obtain ⟨hc, i, c, hv, hi, ha, hb⟩ := h
  refine ⟨hc, i, c, hv, ?_, iv.mono ha, iv.mono hb⟩
  rw [List.getElem?_append_left (List.getElem?_eq_some_iff.1 hi).1]; exact hi
theorem iv.on {m m' : MM} {b c : Nat} {x : Vl} {v : MV} (h : iv m.cells x v) (he : Ext m m' b c) : iv m'.cells x v := by
 obtain ⟨l, hl⟩ := he.cells
 rw [hl]; exact h.mono
theorem iv.fits {cells : List MC} : ∀ {x : Vl} {T : Ty} {v : MV}, iv cells x v -> x.has T -> Fits cells T v
 | .n k, .n, v, h, _ => by simp only [iv] at h; simp only [Fits]; exact ⟨h.1, by omega, by omega⟩
 | .p a b, .p _ A B, v, h, ht => by
  simp only [iv] at h
  simp only [Vl.has] at ht
  obtain ⟨hc, i, c, hv, hi, ha, hb⟩ := h
  simp only [Fits]
  exact Or.inr ⟨hc, i, c, hv, hi, ha.fits ht.1, hb.fits ht.2⟩
 | .n _, .p _ _ _, _, _, ht => by simp [Vl.has] at ht
 | .p _ _, .n, _, _, ht => by simp [Vl.has] at ht
theorem uP {cells : List MC} : ∀ {T : Ty} {v : MV}, Fits cells T v -> ∃ x, iv cells x v /\ x.size <= T.size
 | .n, v, h => by simp only [Fits] at h; exact ⟨.n v.n.toNat, by simp only [iv]; exact ⟨h.1, by omega, by omega⟩, by simp [Vl.size]⟩
 | .p r A B, v, h => by
  simp only [Fits] at h
  rcases h with h | ⟨hc, i, c, hv, hi, ha, hb⟩
  ·exact ⟨.n v.n.toNat, by simp only [iv]; exact ⟨h.1, by omega, by omega⟩, by simp [Vl.size]⟩
  ·obtain ⟨x, hx, hxs⟩ := uP ha
   obtain ⟨y, hy, hys⟩ := uP hb
   exact ⟨.p x y, by simp only [iv]; exact ⟨hc, i, c, hv, hi, hx, hy⟩, by simp only [Vl.size, Ty.size]; omega⟩
def Iu (st : cd) (m : MM) : Prop := st.e = 12 /\ m.fault = 12
def ER (named : List MV) (cells : List MC) (sc : Sc) (env : dU) (G : aQ) (base : Nat) : Prop := ∀ s T, look G s = some T -> ∃ (i : Nat) (v : MV), bL sc s = (i : Int) /\ i < base /\ named[i]? = some v /\ iv cells (mP env s) v /\ (mP env s).has T
theorem ER.ef {named : List MV} {cells : List MC} {sc : Sc} {env : dU} {G : aQ} {base : Nat} (h : ER named cells sc env G base) : EF named cells sc G base := by
 intro s T hl
 obtain ⟨i, v, h1, h2, h3, h4, h5⟩ := h s T hl
 exact ⟨i, v, h1, h2, h3, h4.fits h5⟩
theorem ER.on {m m' : MM} {sc : Sc} {env : dU} {G : aQ} {base b c : Nat} (h : ER m.named m.cells sc env G base) (he : Ext m m' b c) (hb : base <= b) : ER m'.named m'.cells sc env G base := by
 intro s T hl
 obtain ⟨i, v, h1, h2, h3, h4, h5⟩ := h s T hl
 exact ⟨i, v, h1, h2, (he.named i (Or.inl (by omega))).trans h3, h4.on he, h5⟩
theorem ER.up {named : List MV} {cells : List MC} {sc : Sc} {env : dU} {G : aQ} {base b : Nat} (h : ER named cells sc env G base) (hb : base <= b) : ER named cells sc env G b := by
 intro s T hl
 obtain ⟨i, v, h1, h2, h3, h4, h5⟩ := h s T hl
 exact ⟨i, v, h1, by omega, h3, h4, h5⟩
theorem wu (env : dU) (nm : List UInt8) (x : Vl) (s : List UInt8) : mP (env ++ [(nm, x)]) s = if nm = s then x else mP env s := by
 unfold mP
 rw [List.reverse_append]
 simp only [List.reverse_cons, List.reverse_nil, List.nil_append, List.singleton_append, List.find?_cons]
 by_cases h : nm = s
 ·simp [h]
 ·have : (nm == s) = false := by rw [beq_eq_false_iff_ne]; exact h
  simp [h, this]
theorem ER.snoc {m : MM} {sc : Sc} {env : dU} {G : aQ} {base j : Nat} {nm : List UInt8} {T : Ty} {x : Vl} {v : MV} (h : ER m.named m.cells sc env G base) (hj : base <= j) (hl : j < m.named.length) (hv : iv m.cells x v) (hx : x.has T) : ER (m.name (j : Int) v).named (m.name (j : Int) v).cells (sc ++ [(nm, (j : Int))]) (env ++ [(nm, x)]) (G ++ [(nm, T)]) (j + 1) := by
 have he := fE m j v j 1 (by omega)
 intro s T' hlk
 rw [qu] at hlk
 rw [wo, wu]
 by_cases hs : nm = s
 ·rw [if_pos hs] at hlk ⊢
  rw [if_pos hs]
  cases hlk
  exact ⟨j, v, rfl, by omega, Ap m j v hl, hv.on he, hx⟩
 ·rw [if_neg hs] at hlk ⊢
  rw [if_neg hs]
  obtain ⟨i, u, h1, h2, h3, h4, h5⟩ := h s T' hlk
  exact ⟨i, u, h1, by omega, (he.named i (Or.inl (by omega))).trans h3, h4.on he, h5⟩
theorem sQ (m : MM) (f : Nat) (h : m.fault ≠ 0) : m.stop f = m := by unfold MM.stop; rw [if_neg h]
theorem je (fuel : Nat) (m : MM) (f : MM -> MV × MM) (h : m.fault ≠ 0) : bn fuel m f = (v0, m) := by
 unfold bn
 have : (if fuel <= m.steps then m.stop 12 else m) = m := by split <;> simp [sQ m 12 h]
 simp only [this]
 rw [if_pos h]
theorem OD (fuel : Nat) (t : PT) (env : dU) (st : cd) (h : st.e ≠ 0) : ev fuel t env st = (.n 0, st) := by
 cases t <;> (simp only [ev, begun]; rw [if_pos h])
inductive cJ : PT -> Prop
 | num {p : Nat} {s : List UInt8} : cJ (.num p s)
 | name {p : Nat} {s : List UInt8} : cJ (.name p s)
 | node {p : Nat} {k : Kw} {nm rg : List UInt8} {kids : List PT} (hk : k ≠ .new) (h : ∀ x ∈ kids, cJ x) : cJ (.node p k nm rg kids)
open Go.Lib (decDigits)
def cK : Vl -> MV -> MM -> MM
 | .n _, _, m => m
 | .p a b, v, m => cK b (m.use v).1.b (cK a (m.use v).1.a (m.use v).2)
theorem Iv (m : MM) (f : Nat) : (m.stop f).cells = m.cells /\ (m.stop f).regs = m.regs /\ (m.stop f).named = m.named /\ (m.stop f).steps = m.steps /\ (m.stop f).live = m.live /\ (m.stop f).most = m.most := by unfold MM.stop; split <;> simp
theorem Cq (m : MM) (v : MV) : (m.use v).2.cells = m.cells /\ (m.use v).2.regs = m.regs /\ (m.use v).2.named = m.named /\ (m.use v).2.steps = m.steps /\ (m.use v).2.live = m.live /\ (m.use v).2.most = m.most := by
 unfold MM.use; split
 ·simp
 ·simp only; split
  ·simp
  ·exact Iv m 13
theorem oO : ∀ (x : Vl) (v : MV) (m : MM), (cK x v m).cells = m.cells /\ (cK x v m).regs = m.regs /\ (cK x v m).named = m.named /\ (cK x v m).steps = m.steps /\ (cK x v m).live = m.live /\ (cK x v m).most = m.most
 | .n _, _, m => by simp [cK]
 | .p a b, v, m => by
  simp only [cK]
  have h1 := Cq m v
  have h2 := oO a (m.use v).1.a (m.use v).2
  have h3 := oO b (m.use v).1.b (cK a (m.use v).1.a (m.use v).2)
  exact ⟨h3.1.trans (h2.1.trans h1.1), h3.2.1.trans (h2.2.1.trans h1.2.1), h3.2.2.1.trans (h2.2.2.1.trans h1.2.2.1), h3.2.2.2.1.trans (h2.2.2.2.1.trans h1.2.2.2.1), h3.2.2.2.2.1.trans (h2.2.2.2.2.1.trans h1.2.2.2.2.1), h3.2.2.2.2.2.trans (h2.2.2.2.2.2.trans h1.2.2.2.2.2)⟩
theorem Ar {fuel : Nat} : ∀ (x : Vl) (v : MV) (m : MM), mR fuel m -> mR fuel (cK x v m)
 | .n _, _, _, h => h
 | .p a b, v, m, h => by
  simp only [cK]
  exact Ar b _ _ (Ar a _ _ (MM.Eg h v).1)
theorem Zx (u : Nat) (h : u <= 9999) : (decDigits u).length <= 4 := by
 rw [Go.Lib.decDigits]; split
 ·simp
 ·rw [Go.Lib.decDigits]; split
  ·simp
  ·rw [Go.Lib.decDigits]; split
   ·simp
   ·rw [Go.Lib.decDigits]; split
    ·simp
    ·omega
theorem iv.len {cells : List MC} : ∀ {x : Vl} {v : MV}, iv cells x v -> x.txt.length <= 7 * x.size + 4
 | .n k, _, h => by simp only [iv] at h; simp only [Vl.txt, Vl.size]; have := Zx k h.2.2; omega
 | .p a b, _, h => by
  simp only [iv] at h
  obtain ⟨_, i, c, _, _, ha, hb⟩ := h
  have := iv.len ha
  have := iv.len hb
  simp only [Vl.txt, Vl.size, List.length_cons, List.length_append, List.length_nil]; omega
theorem iv.use {cells : List MC} {a b : Vl} {v : MV} (h : iv cells (.p a b) v) (m : MM) (hm : m.cells = cells) : iv cells a (m.use v).1.a /\ iv cells b (m.use v).1.b := by
 simp only [iv] at h
 obtain ⟨hc, i, c, hv, hi, ha, hb⟩ := h
 have lP := (List.getElem?_eq_some_iff.1 hi).1
 have e : (m.use v).1 = c := by
  unfold MM.use
  rw [if_neg (by rw [hc, hv, hm]; simp; omega)]
  simp only
  rw [hv, hm, Int.toNat_natCast, List.getD_eq_getElem?_getD, hi]; rfl
 rw [e]; exact ⟨ha, hb⟩
theorem wv (mb B : Nat) (tn aM : Value) (fuel : Nat) (lO : fuel <= 20000) (ns : List NR) (op : List Int) (nv cv rv : Value) (cells : List MC) : ∀ (x : Vl) (v : MV) (w : World) (m : MM), m.cells = cells -> iv cells x v -> x.size <= 63 -> v.bd -> gR mb w tn aM fuel nv cv rv m -> mR fuel m -> Cj mb B w nv cv rv tn aM ns op ->
  Lib.TabBelow Tryz.prog B w "internal/strconv.uint64pow10" .u64 Lib.pow10Tab -> Calls Tryz.prog 99 #[ptr mb, lf v] w fun e w' => e = .returned (.string (bs x.txt)) /\ bu mb mb w w' nv cv rv nv cv rv /\ gR mb w' tn aM fuel nv cv rv (cK x v m)
 | .n k, v, w, m, hm, hr, hsz, XY, hi, gB, aW, htab => by
  simp only [iv] at hr
  obtain ⟨hc, hn, hk⟩ := hr
  obtain ⟨vc, vn⟩ := v
  simp only at hc hn
  subst hc
  subst hn
  have hit := fun W (hW : Below w.heap.size w W) => uH W (htab W (hW.mono aW.s)) k W hk (Below.refl _ _)
  have Qg : Hid _ := hit
  have HI : Hid _ := hi
  simp only [Vl.txt, cK]
  clear hit hi gB aW htab XY hm
  unfold ptr lf
  go_enter Tryz.func99, Tryz.ntmps99
  go_wp2_with fail
  refine Calls.mono (Qg.out _ (aE (Below.refl _ _) _)) ?_
  rintro _ w2 ⟨rfl, hb2⟩
  have HB : Hid _ := (aE (Below.refl _ w) (.cells #[.bool false, .int .i64 k] 171)).trans (hb2.mono (by simp))
  clear hb2 Qg
  go_wp2
  go_ret
  exact ⟨rfl, bu.below mb mb nv cv rv HB.out, HI.out.below HB.out⟩
 | .p a b, v, w, m, hm, hr, hsz, XY, hi, gB, aW, htab => by
  have hl := hr.len
  have P7 := hr.use m hm
  simp only [iv] at hr
  obtain ⟨hc, i, c, hn, _, _, _⟩ := hr
  simp only [Vl.size] at hsz
  have hla := P7.1.len
  have hlb := P7.2.len
  have VX := fun W (hW : Below w.heap.size w W) => FY mb W tn aM fuel nv cv rv m v gB lO XY (hi.below hW)
  have iM := MM.Eg gB v
  have sj := Cq m v
  have jU := fun W h1 h2 h3 => wv mb B tn aM fuel lO ns op nv cv rv cells a (m.use v).1.a W (m.use v).2 (sj.1.trans hm) P7.1 (by omega) iM.2.1 h1 iM.1 h2 h3
  have hsa := oO a (m.use v).1.a (m.use v).2
  have FA := fun W h1 h2 h3 => wv mb B tn aM fuel lO ns op nv cv rv cells b (m.use v).1.b W (cK a (m.use v).1.a (m.use v).2) (hsa.1.trans (sj.1.trans hm)) P7.2 (by omega) iM.2.2 h1 (Ar a _ _ iM.1) h2 h3
  have z1 : (ByteArray.mk #[91]).size = 1 := rfl
  have z2 : (ByteArray.mk #[32]).size = 1 := rfl
  have z3 : (ByteArray.mk #[93]).size = 1 := rfl
  have zA : (bs a.txt).size <= 500 := by rw [dm]; omega
  have zB : (bs b.txt).size <= 500 := by rw [dm]; omega
  have zC : (ByteArray.mk #[91] ++ bs a.txt).size <= 501 := by rw [ByteArray.size_append]; omega
  have zD : (ByteArray.mk #[91] ++ bs a.txt ++ ByteArray.mk #[32]).size <= 502 := by rw [ByteArray.size_append]; omega
  have zE : (ByteArray.mk #[91] ++ bs a.txt ++ ByteArray.mk #[32] ++ bs b.txt).size <= 1002 := by rw [ByteArray.size_append]; omega
  have hfin : ByteArray.mk #[91] ++ bs a.txt ++ ByteArray.mk #[32] ++ bs b.txt ++ ByteArray.mk #[93] = bs (Vl.txt (.p a b)) := by
   rw [show ByteArray.mk #[91] = bs [91] from rfl, show ByteArray.mk #[32] = bs [32] from rfl, show ByteArray.mk #[93] = bs [93] from rfl, fg, fg, fg, fg]
   simp [Vl.txt]
  have KX : Hid _ := hfin
  have R7 : Hid _ := VX
  have HTA : Hid _ := jU
  have Jt : Hid _ := FA
  have nP : Hid _ := aW
  have KY : Hid _ := htab
  simp only [cK]
  clear VX jU FA sj hsa iM P7 hla hlb hl hi gB aW htab XY hm hfin hsz
  generalize m.use v = z at *
  obtain ⟨vc, vn⟩ := v
  simp only at hc hn
  subst hc
  subst hn
  unfold ptr lf at R7
  unfold ptr lf
  go_enter Tryz.func99, Tryz.ntmps99
  go_wp2_with fail
  refine Calls.mono (R7.out _ (aE (Below.refl _ _) _)) ?_
  rintro _ w2 ⟨rfl, hf2, qj⟩
  obtain ⟨W3, gS⟩ : ∃ W3, W3 = w2.alloc (.cells #[.bool z.1.a.c, .int .i64 z.1.a.n, .bool z.1.b.c, .int .i64 z.1.b.n, .int .i64 z.1.home, .int .i64 z.1.gb] 219) := ⟨_, rfl⟩
  have hW3 : Below w2.heap.size w2 W3 := by rw [gS]; exact aE (Below.refl _ _) _
  have hf3 : bu mb mb w W3 nv cv rv nv cv rv := ((bu.below mb mb nv cv rv (aE (Below.refl _ w) _)).trans hf2).trans (bu.below mb mb nv cv rv hW3)
  have qU := qj.below hW3
  have KZ := nP.out.on hf3
  have K0 : Lib.TabBelow Tryz.prog B W3 "internal/strconv.uint64pow10" .u64 Lib.pow10Tab := fun w' h' => KY.out w' ((nP.out.Qs hf3).trans h')
  have hs3 : Beside mb w2.heap.size W3 nv cv rv (.cells #[.bool z.1.a.c, .int .i64 z.1.a.n, .bool z.1.b.c, .int .i64 z.1.b.n, .int .i64 z.1.home, .int .i64 z.1.gb] 219) := Beside.new qj (by rw [gS]; exact aj w2 _) (Nat.le_refl _)
  have Wa := HTA.out W3 qU KZ K0
  have Zy : Hid _ := Wa
  have dC : Hid _ := hf3
  have K1 : Hid _ := KZ
  have Qy : Hid _ := K0
  have JB : Hid _ := hs3
  clear hf2 qj hW3 hf3 qU KZ K0 hs3 Wa R7 HTA nP KY
  unfold ptr lf at Zy
  unfold KH
  go_wp2_with fail
  rw [<- gS]
  refine Calls.mono Zy.out ?_
  rintro _ w4 ⟨rfl, cT, hi4⟩
  have D1 := JB.out.keep cT
  have uD := Jt.out w4 hi4 (K1.out.on cT) (fun w' h' => Qy.out w' ((K1.out.Qs cT).trans h'))
  have Zz : Hid _ := uD
  have js : Hid _ := dC.out.trans cT
  obtain ⟨e0, e1, e2, e3, e4, e5⟩ := kL D1.b
  have hl4 := af D1.b
  clear gS cT hi4 D1 uD Zy dC K1 Qy JB Jt
  unfold ptr lf at Zz
  generalize w2.heap.size = p at *
  go_wp2_with fail
  refine Calls.mono Zz.out ?_
  rintro _ w5 ⟨rfl, ew, nA⟩
  have fJ : Hid _ := js.out.trans ew
  have iJ : Hid _ := nA
  clear ew nA Zz js e0 e1 e2 e3 e4 e5 hl4
  go_wp2
  go_ret
  exact ⟨by rw [<- KX.out]; rfl, fJ.out, iJ.out⟩
end Go.Proofs.YtpicaknklgccoaaGreatDoor
