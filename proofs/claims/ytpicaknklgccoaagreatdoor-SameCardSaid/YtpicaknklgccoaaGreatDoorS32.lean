import Derived.Test.YtpicaknklgccoaaGreatDoorS31
set_option maxHeartbeats 4000000
set_option maxRecDepth 100000
namespace Go.Proofs.YtpicaknklgccoaaGreatDoor
open Go.RowKit
open Go.Lib (decDigits)
theorem cF.E3 {w w' : World} {yb q o : Nat} {x nv bw : Value} (h : cF w w' yb nv bw) (hq : w.heap.size <= q) : cF w (w'.setCell ⟨q, o, none⟩ x) yb nv bw :=
 ⟨by have := h.size; simpa [World.setCell] using this, fun k hk hy hn => by rw [ak _ _ (by simp only; omega)]; exact h.blk k hk hy hn, h.n⟩
theorem dr.j3 {w : World} {q o : Nat} {x : Value} {arr : Array Value} (hq : w.heap[q]? = some (.cells arr 142 (0, 0))) {v : Vl} {p : Nat} (h : dr w v p) : dr (w.setCell ⟨q, o, none⟩ x) v p :=
 h.keep (fun k S5 hk => by
  rw [ak _ _ (by
   simp only
   rintro rfl
   rw [hq] at hk
   simp only [Option.some.injEq, Obj.cells.injEq] at hk
   exact absurd hk.2.1 (by decide))]
  exact hk)
theorem du.j3 {w0 w : World} {yb : Nat} {vals : List Vl} {ps : List Nat} {fuel : Nat} {st : cd} {nv : Value} {q o : Nat} {x : Value} {arr : Array Value} (h : du w0 w yb vals ps fuel st nv) (hq : w.heap[q]? = some (.cells arr 142 (0, 0))) (h0 : w0.heap.size <= q) : du w0 (w.setCell ⟨q, o, none⟩ x) yb vals ps fuel st nv := by
 have hne : ∀ (k : Nat) (S5 : Array Value) (U : TypeId) (fz : Nat × Nat), U ≠ 142 -> w.heap[k]? = some (.cells S5 U fz) -> (w.setCell ⟨q, o, none⟩ x).heap[k]? = w.heap[k]? := by
  intro k S5 U fz hU hk
  refine ak _ _ ?_
  simp only
  rintro rfl
  rw [hq] at hk
  simp only [Option.some.injEq, Obj.cells.injEq] at hk
  exact hU hk.2.1.symm
 refine ⟨⟨h.ob.b0.setCell (p := ⟨q, o, none⟩) h0 _, h.ob.hyb, ?_, ax h.ob.n (fun k hk => ?_), h.ob.ny⟩, h.len, fun i v p h1 h2 => (h.v i v p h1 h2).j3 hq⟩
 ·rw [hne yb _ _ _ (by decide) h.ob.y]; exact h.ob.y
 ·rcases h.ob.n.2 with ⟨hv, _⟩ | ⟨g, cap, cur, hv, _, hg, _⟩
  ·rw [hv] at hk; cases hk
  ·rw [hv] at hk
   simp only [Value.ownBlock, Option.some.injEq] at hk
   subst hk
   exact hne _ _ _ _ (by decide) hg
def xh (a b : Value) : Obj := .cells #[a, b] 142 (0, 0)
theorem uW {w0 : World} (yb fuel : Nat) (vs : List Nat) (k : Kw) (n : Nat) (a d : KE) (ta td : Nat) (hk1 : k ≠ .bb) (hk2 : k ≠ .fH) (pL : k ≠ .loop) (jU : KT vs a ta) (htd : KT vs d td) (hvl : vs.length <= 100) (bI : I1 w0 yb fuel a vs) (LW : I1 w0 yb fuel d vs) (WQ : CV w0 yb fuel k (uU ta) (uU td)) : CP w0 yb fuel (.n2 k n a d) vs := by
 intro b vals ps st nv w hx hin aW hlen hs he hq
 obtain ⟨c, pa, pd, eK, lS, qX⟩ := QL hx
 have hne : b ≠ yb := by have := hin.ob.hyb; have := eK.hb; omega
 have QG : c ≠ yb := by have := hin.ob.hyb; have := eK.hg; omega
 have pI : ev fuel ((KE.n2 k n a d).pt []) (cf vals) st = qI fuel k [a.pt [], d.pt []] (cf vals) { st with steps := st.steps + 1 } := by
  simp only [KE.pt]
  rw [l9 fuel _ k _ _ _ (cf vals) st hk1 hk2 pL, ji he hq]
 rw [pI, AL]
 have hs' := hs.step hq
 have hr1 := j0 (fuel := fuel) jU hvl vals { st with steps := st.steps + 1 } (fun _ => aW)
 have h1 := fun cq w2 (bf : du w0 w2 yb vals ps fuel { st with steps := st.steps + 1 } cq) => bI pa vals ps { st with steps := st.steps + 1 } cq w2 lS bf (fun _ => aW) hlen hs'
 have hs2 := hs'.on (a.pt []) (cf vals)
 generalize ev fuel (a.pt []) (cf vals) { st with steps := st.steps + 1 } = r1 at *
 have ez := j0 (fuel := fuel) htd hvl vals r1.2 (fun _ => aW)
 have h2 := fun cq w2 (bf : du w0 w2 yb vals ps fuel r1.2 cq) => LW pd vals ps r1.2 cq w2 qX bf (fun _ => aW) hlen hs2
 have hs3 := hs2.on (d.pt []) (cf vals)
 generalize ev fuel (d.pt []) (cf vals) r1.2 = r2 at *
 obtain ⟨R, hR⟩ : ∃ R, R = if r2.2.e ≠ 0 then (Vl.n 0, r2.2) else ct k [r1.1, r2.1] r2.2 := ⟨_, rfl⟩
 rw [<- hR]
 have OZ : Hid (r2.2.e = 0 -> R = ct k [r1.1, r2.1] r2.2) := fun h => by rw [hR, if_neg (fun g => g h)]
 have NT : Hid (r2.2.e ≠ 0 -> R = (Vl.n 0, r2.2)) := fun h => by rw [hR, if_pos h]
 have hm : ∀ (cq : Value) (w2 : World) (p1 p2 : Nat), r2.2.e = 0 -> du w0 w2 yb vals ps fuel r2.2 cq -> dr w2 r1.1 p1 -> dr w2 r2.1 p2 ->
   Calls Tryz.prog 86 #[.pointer (some ⟨yb, 0, none⟩), .pointer (some ⟨b, 0, none⟩), .pointer (some ⟨p1, 0, none⟩), .pointer (some ⟨p2, 0, none⟩)] w2 fun e w' => ∃ r, e = .returned (.pointer (some ⟨r, 0, none⟩)) /\ cF w2 w' yb cq cq /\ du w0 w' yb vals ps fuel (ct k [r1.1, r2.1] r2.2).2 cq /\ dr w' (ct k [r1.1, r2.1] r2.2).1 r := by
  intro cq w2 p1 p2 e bf Gm WR
  have a2 := ez.1 e
  exact WQ b c n [pa, pd] vals ps r2.2 cq w2 r1.1 r2.1 p1 p2 eK bf hs3 (hr1.1 a2.1).2 a2.2 Gm WR
 have cB := eK.on hin.ob.b0
 have x0 := cB.c0
 have Nn := cB.hb
 have Yg := cB.hg
 have q0 : ((bs k.bytes).toList == []) = false := by rw [aR]; cases k <;> decide
 have q1 : ((bs k.bytes).toList == [120]) = false := by rw [aR]; cases k <;> decide
 have q2 : ((bs k.bytes).toList == [108, 101, 116]) = false := by rw [aR]; cases k <;> first | decide | exact absurd rfl hk1
 have q3 : ((bs k.bytes).toList == [105, 102]) = false := by rw [aR]; cases k <;> first | decide | exact absurd rfl hk2
 have q4 : ((bs k.bytes).toList == [108, 111, 111, 112]) = false := by rw [aR]; cases k <;> first | decide | exact absurd rfl pL
 have y1 : w.cell? ⟨yb, 1, none⟩ = some (.int .i64 fuel) := by rw [aa hin.ob.y]; rfl
 have y2 : w.cell? ⟨yb, 2, none⟩ = some (.int .i64 st.steps) := by rw [aa hin.ob.y]; rfl
 have y4 : w.cell? ⟨yb, 4, none⟩ = some (.bool false) := by rw [aa hin.ob.y]; simp [dn, he]
 have f2 : w.frozen? ⟨yb, 2, none⟩ = false := ag hin.ob.y 2
 have nj := af hin.ob.y
 have q9 : ((st.steps : Int) == (fuel : Int)) = false := by rw [beq_eq_false_iff_ne]; omega
 have yj := hs.s
 have Qx := hs.f
 have HK : Hid _ := eK
 have ym : Hid _ := fun m => hin.begin m
 have TR : Hid _ := hin.ob.b0.size
 have H1 : Hid _ := h1
 have H2 : Hid _ := h2
 have HM : Hid _ := hm
 clear eK cB hx hin aW hs he pI hq lS qX bI LW hs' hs2 hs3 hr1 ez h1 h2 hm hlen WQ hR jU htd
 go_enter Tryz.func51, Tryz.ntmps51
 go_wp2_with fail
 go_quiet (fail)
 go_wp2_with fail
 have WS : Hid _ := ym.out nq
 have HNQ : Hid _ := rY w nq ⟨yb, 2, none⟩ (.int .i64 ((st.steps : Int) + 1)) Pl
 clear ym x0 y1 y2 y4 f2
 generalize hQ : w.heap.size = Q at *
 go_loopw [11] (fun i wr => ∃ (j : Nat) (gy : Value), i = .int .i64 j /\ cF w wr yb nv gy /\ ((j = 0 /\ du w0 wr yb vals ps fuel { st with steps := st.steps + 1 } gy /\ wr.heap[Q]? = some (xh (.pointer none) (.pointer none))) \/ (j = 1 /\ ∃ p1 : Nat, du w0 wr yb vals ps fuel r1.2 gy /\ wr.heap[Q]? = some (xh (.pointer (some ⟨p1, 0, none⟩)) (.pointer none)) /\ dr wr r1.1 p1) \/ (j = 2 /\ ∃ p1 p2 : Nat, du w0 wr yb vals ps fuel r2.2 gy /\ wr.heap[Q]? = some (xh (.pointer (some ⟨p1, 0, none⟩)) (.pointer (some ⟨p2, 0, none⟩))) /\ dr wr r1.1 p1 /\ dr wr r2.1 p2))) (fun i _ => 2 - (intOf i).toNat)
 case atStart => exact ⟨0, nv, rfl, WS.out.2, Or.inl ⟨rfl, WS.out.1, HNQ.out⟩⟩
 case round =>
  obtain ⟨j, gy, rfl, hfr, hP⟩ := hrel
  have HF : Hid _ := hfr
  rcases hP with ⟨rfl, bQ, zm⟩ | ⟨rfl, p1, bQ, zm, Gm⟩ | ⟨rfl, p1, p2, bQ, zm, Gm, WR⟩
  ·have cB := HK.out.on bQ.ob.b0
   have u2 := cB.c2
   have uk := cB.ck 0 pa rfl
   have WL := cB.hb
   have WM := cB.hg
   have HI : Hid _ := bQ
   have QN : Hid _ := zm
   have HC : Hid _ := H1.out gy wr bQ
   clear hfr bQ zm cB
   go_wp2_with fail
   refine Calls.mono HC.out ?_
   rintro _ w2 ⟨r, Er, rfl, ew, nA, Gn⟩
   have uX : w2.heap[Q]? = some (xh (.pointer none) (.pointer none)) := HI.out.ob.other ew (by decide) (by decide) QN.out
   have ql := af uX
   have qf : w2.frozen? ⟨Q, 0, none⟩ = false := ag uX 0
   have qc : w2.cell? ⟨Q, 0, none⟩ = some (.pointer none) := by rw [aa uX]; rfl
   have L5 : w0.heap.size <= Q := by have := TR.out; omega
   have fJ : Hid _ := (HF.out.trans ew).E3 (q := Q) (o := 0) (x := .pointer (some ⟨r, 0, none⟩)) (by omega)
   have iJ : Hid _ := nA.j3 (o := 0) (x := .pointer (some ⟨r, 0, none⟩)) uX L5
   have Pq : Hid _ := Gn.j3 (o := 0) (x := .pointer (some ⟨r, 0, none⟩)) uX
   have WU : Hid ((w2.setCell ⟨Q, 0, none⟩ (.pointer (some ⟨r, 0, none⟩))).heap[Q]? = some (xh (.pointer (some ⟨r, 0, none⟩)) (.pointer none))) := (az uX 0 _).trans rfl
   clear ew nA Gn uX HC HI QN
   go_wp2
   go_roundw
   case rel => exact ⟨1, Er, by first | rfl | go_num, fJ.out, Or.inr (Or.inl ⟨rfl, r, iJ.out, WU.out, Pq.out⟩)⟩
   case measure => simp [intOf]
  ·have cB := HK.out.on bQ.ob.b0
   have u2 := cB.c2
   have uk := cB.ck 1 pd rfl
   have WL := cB.hb
   have WM := cB.hg
   have HI : Hid _ := bQ
   have QN : Hid _ := zm
   have HV1 : Hid _ := Gm
   have HC : Hid _ := H2.out gy wr bQ
   clear hfr bQ zm cB Gm
   go_wp2_with fail
   refine Calls.mono HC.out ?_
   rintro _ w2 ⟨r, Er, rfl, ew, nA, Gn⟩
   have uX : w2.heap[Q]? = some (xh (.pointer (some ⟨p1, 0, none⟩)) (.pointer none)) := HI.out.ob.other ew (by decide) (by decide) QN.out
   have ql := af uX
   have qf : w2.frozen? ⟨Q, 1, none⟩ = false := ag uX 1
   have qc : w2.cell? ⟨Q, 1, none⟩ = some (.pointer none) := by rw [aa uX]; rfl
   have L5 : w0.heap.size <= Q := by have := TR.out; omega
   have fJ : Hid _ := (HF.out.trans ew).E3 (q := Q) (o := 1) (x := .pointer (some ⟨r, 0, none⟩)) (by omega)
   have iJ : Hid _ := nA.j3 (o := 1) (x := .pointer (some ⟨r, 0, none⟩)) uX L5
   have Pq : Hid _ := Gn.j3 (o := 1) (x := .pointer (some ⟨r, 0, none⟩)) uX
   have HV6 : Hid _ := (HV1.out.fr HI.out.ob ew).j3 (o := 1) (x := .pointer (some ⟨r, 0, none⟩)) uX
   have WU : Hid ((w2.setCell ⟨Q, 1, none⟩ (.pointer (some ⟨r, 0, none⟩))).heap[Q]? = some (xh (.pointer (some ⟨p1, 0, none⟩)) (.pointer (some ⟨r, 0, none⟩)))) := (az uX 1 _).trans rfl
   clear ew nA Gn uX HC HI QN HV1
   go_wp2
   go_roundw
   case rel => exact ⟨2, Er, by first | rfl | go_num, fJ.out, Or.inr (Or.inr ⟨rfl, p1, r, iJ.out, WU.out, HV6.out, Pq.out⟩)⟩
   case measure => simp [intOf]
  ·have cB := HK.out.on bQ.ob.b0
   have u2 := cB.c2
   have WL := cB.hb
   have WM := cB.hg
   have e4 : wr.cell? ⟨yb, 4, none⟩ = some (.bool (decide (r2.2.e ≠ 0))) := by rw [aa bQ.ob.y]; rfl
   have SG := af bQ.ob.y
   have qa : wr.cell? ⟨Q, 0, none⟩ = some (.pointer (some ⟨p1, 0, none⟩)) := by rw [aa zm]; rfl
   have qb : wr.cell? ⟨Q, 1, none⟩ = some (.pointer (some ⟨p2, 0, none⟩)) := by rw [aa zm]; rfl
   have ql := af zm
   have HI : Hid _ := bQ
   by_cases he2 : r2.2.e = 0
   ·rw [show decide (r2.2.e ≠ 0) = false by simp [he2]] at e4
    have HC : Hid _ := HM.out gy wr p1 p2 he2 bQ Gm WR
    have HR : Hid _ := OZ.out he2
    clear hfr bQ zm cB Gm WR he2
    go_wp2_with fail
    refine Calls.mono HC.out ?_
    rintro _ w2 ⟨r, rfl, ew, nA, Gn⟩
    have fJ : Hid _ := HF.out.trans ew
    have iJ : Hid _ := nA
    have Pq : Hid _ := Gn
    clear ew nA Gn HC
    go_wp2
    go_ret
    rw [HR.out]
    exact ⟨r, gy, rfl, fJ.out, iJ.out, Pq.out⟩
   ·rw [show decide (r2.2.e ≠ 0) = true by simp [he2]] at e4
    have HR : Hid _ := NT.out he2
    clear hfr bQ zm cB Gm WR he2
    go_wp2
    go_ret
    rw [HR.out]
    have pO := aY (Below.refl _ wr) Nl
    exact ⟨wr.heap.size, gy, rfl, HF.out.trans (cF.below pO _ _), HI.out.grow pO, aj wr Nl⟩
theorem Gp {w0 : World} (yb fuel : Nat) (vs : List Nat) (k : Kw) (a : KE) (ta : Nat) (hk1 : k ≠ .bb) (hk2 : k ≠ .fH) (pL : k ≠ .loop) (jU : KT vs a ta) (hvl : vs.length <= 100) (bI : I1 w0 yb fuel a vs) (WQ : L0 w0 yb fuel k (uU ta)) : CP w0 yb fuel (.n1 k a) vs := by
 intro b vals ps st nv w hx hin aW hlen hs he hq
 obtain ⟨c, pa, eK, lS⟩ := WI hx
 have hne : b ≠ yb := by have := hin.ob.hyb; have := eK.hb; omega
 have QG : c ≠ yb := by have := hin.ob.hyb; have := eK.hg; omega
 have pI : ev fuel ((KE.n1 k a).pt []) (cf vals) st = qI fuel k [a.pt []] (cf vals) { st with steps := st.steps + 1 } := by
  simp only [KE.pt]
  rw [l9 fuel _ k _ _ _ (cf vals) st hk1 hk2 pL, ji he hq]
 rw [pI, AK]
 have hs' := hs.step hq
 have hr1 := j0 (fuel := fuel) jU hvl vals { st with steps := st.steps + 1 } (fun _ => aW)
 have h1 := fun cq w2 (bf : du w0 w2 yb vals ps fuel { st with steps := st.steps + 1 } cq) => bI pa vals ps { st with steps := st.steps + 1 } cq w2 lS bf (fun _ => aW) hlen hs'
 generalize ev fuel (a.pt []) (cf vals) { st with steps := st.steps + 1 } = r1 at *
 obtain ⟨R, hR⟩ : ∃ R, R = if r1.2.e ≠ 0 then (Vl.n 0, r1.2) else ct k [r1.1] r1.2 := ⟨_, rfl⟩
 rw [<- hR]
 have OZ : Hid (r1.2.e = 0 -> R = ct k [r1.1] r1.2) := fun h => by rw [hR, if_neg (fun g => g h)]
 have NT : Hid (r1.2.e ≠ 0 -> R = (Vl.n 0, r1.2)) := fun h => by rw [hR, if_pos h]
 have hm : ∀ (cq : Value) (w2 : World) (p1 : Nat), r1.2.e = 0 -> du w0 w2 yb vals ps fuel r1.2 cq -> dr w2 r1.1 p1 ->
   Calls Tryz.prog 86 #[.pointer (some ⟨yb, 0, none⟩), .pointer (some ⟨b, 0, none⟩), .pointer (some ⟨p1, 0, none⟩), .pointer none] w2 fun e w' => ∃ r, e = .returned (.pointer (some ⟨r, 0, none⟩)) /\ cF w2 w' yb cq cq /\ du w0 w' yb vals ps fuel (ct k [r1.1] r1.2).2 cq /\ dr w' (ct k [r1.1] r1.2).1 r := by
  intro cq w2 p1 e bf Gm
  exact WQ b c 0 [pa] vals ps r1.2 cq w2 r1.1 p1 eK bf (hr1.1 e).2 Gm
 have cB := eK.on hin.ob.b0
 have x0 := cB.c0
 have Nn := cB.hb
 have Yg := cB.hg
 have q0 : ((bs k.bytes).toList == []) = false := by rw [aR]; cases k <;> decide
 have q1 : ((bs k.bytes).toList == [120]) = false := by rw [aR]; cases k <;> decide
 have q2 : ((bs k.bytes).toList == [108, 101, 116]) = false := by rw [aR]; cases k <;> first | decide | exact absurd rfl hk1
 have q3 : ((bs k.bytes).toList == [105, 102]) = false := by rw [aR]; cases k <;> first | decide | exact absurd rfl hk2
 have q4 : ((bs k.bytes).toList == [108, 111, 111, 112]) = false := by rw [aR]; cases k <;> first | decide | exact absurd rfl pL
 have y1 : w.cell? ⟨yb, 1, none⟩ = some (.int .i64 fuel) := by rw [aa hin.ob.y]; rfl
 have y2 : w.cell? ⟨yb, 2, none⟩ = some (.int .i64 st.steps) := by rw [aa hin.ob.y]; rfl
 have y4 : w.cell? ⟨yb, 4, none⟩ = some (.bool false) := by rw [aa hin.ob.y]; simp [dn, he]
 have f2 : w.frozen? ⟨yb, 2, none⟩ = false := ag hin.ob.y 2
 have nj := af hin.ob.y
 have q9 : ((st.steps : Int) == (fuel : Int)) = false := by rw [beq_eq_false_iff_ne]; omega
 have yj := hs.s
 have Qx := hs.f
 have HK : Hid _ := eK
 have ym : Hid _ := fun m => hin.begin m
 have TR : Hid _ := hin.ob.b0.size
 have H1 : Hid _ := h1
 have HM : Hid _ := hm
 clear eK cB hx hin aW hs he pI hq lS bI hs' hr1 h1 hm hlen WQ hR jU
 go_enter Tryz.func51, Tryz.ntmps51
 go_wp2_with fail
 go_quiet (fail)
 go_wp2_with fail
 have WS : Hid _ := ym.out nq
 have HNQ : Hid _ := rY w nq ⟨yb, 2, none⟩ (.int .i64 ((st.steps : Int) + 1)) Pl
 clear ym x0 y1 y2 y4 f2
 generalize hQ : w.heap.size = Q at *
 go_loopw [11] (fun i wr => ∃ (j : Nat) (gy : Value), i = .int .i64 j /\ cF w wr yb nv gy /\ ((j = 0 /\ du w0 wr yb vals ps fuel { st with steps := st.steps + 1 } gy /\ wr.heap[Q]? = some (xh (.pointer none) (.pointer none))) \/ (j = 1 /\ ∃ p1 : Nat, du w0 wr yb vals ps fuel r1.2 gy /\ wr.heap[Q]? = some (xh (.pointer (some ⟨p1, 0, none⟩)) (.pointer none)) /\ dr wr r1.1 p1))) (fun i _ => 1 - (intOf i).toNat)
 case atStart => exact ⟨0, nv, rfl, WS.out.2, Or.inl ⟨rfl, WS.out.1, HNQ.out⟩⟩
 case round =>
  obtain ⟨j, gy, rfl, hfr, hP⟩ := hrel
  have HF : Hid _ := hfr
  rcases hP with ⟨rfl, bQ, zm⟩ | ⟨rfl, p1, bQ, zm, Gm⟩
  ·have cB := HK.out.on bQ.ob.b0
   have u2 := cB.c2
   have uk := cB.ck 0 pa rfl
   have WL := cB.hb
   have WM := cB.hg
   have HI : Hid _ := bQ
   have QN : Hid _ := zm
   have HC : Hid _ := H1.out gy wr bQ
   clear hfr bQ zm cB
   go_wp2_with fail
   refine Calls.mono HC.out ?_
   rintro _ w2 ⟨r, Er, rfl, ew, nA, Gn⟩
   have uX : w2.heap[Q]? = some (xh (.pointer none) (.pointer none)) := HI.out.ob.other ew (by decide) (by decide) QN.out
   have ql := af uX
   have qf : w2.frozen? ⟨Q, 0, none⟩ = false := ag uX 0
   have qc : w2.cell? ⟨Q, 0, none⟩ = some (.pointer none) := by rw [aa uX]; rfl
   have L5 : w0.heap.size <= Q := by have := TR.out; omega
   have fJ : Hid _ := (HF.out.trans ew).E3 (q := Q) (o := 0) (x := .pointer (some ⟨r, 0, none⟩)) (by omega)
   have iJ : Hid _ := nA.j3 (o := 0) (x := .pointer (some ⟨r, 0, none⟩)) uX L5
   have Pq : Hid _ := Gn.j3 (o := 0) (x := .pointer (some ⟨r, 0, none⟩)) uX
   have WU : Hid ((w2.setCell ⟨Q, 0, none⟩ (.pointer (some ⟨r, 0, none⟩))).heap[Q]? = some (xh (.pointer (some ⟨r, 0, none⟩)) (.pointer none))) := (az uX 0 _).trans rfl
   clear ew nA Gn uX HC HI QN
   go_wp2
   go_roundw
   case rel => exact ⟨1, Er, by first | rfl | go_num, fJ.out, Or.inr ⟨rfl, r, iJ.out, WU.out, Pq.out⟩⟩
   case measure => simp [intOf]
  ·have cB := HK.out.on bQ.ob.b0
   have u2 := cB.c2
   have WL := cB.hb
   have WM := cB.hg
   have e4 : wr.cell? ⟨yb, 4, none⟩ = some (.bool (decide (r1.2.e ≠ 0))) := by rw [aa bQ.ob.y]; rfl
   have SG := af bQ.ob.y
   have qa : wr.cell? ⟨Q, 0, none⟩ = some (.pointer (some ⟨p1, 0, none⟩)) := by rw [aa zm]; rfl
   have qb : wr.cell? ⟨Q, 1, none⟩ = some (.pointer none) := by rw [aa zm]; rfl
   have ql := af zm
   have HI : Hid _ := bQ
   by_cases he2 : r1.2.e = 0
   ·rw [show decide (r1.2.e ≠ 0) = false by simp [he2]] at e4
    have HC : Hid _ := HM.out gy wr p1 he2 bQ Gm
    have HR : Hid _ := OZ.out he2
    clear hfr bQ zm cB Gm he2
    go_wp2_with fail
    refine Calls.mono HC.out ?_
    rintro _ w2 ⟨r, rfl, ew, nA, Gn⟩
    have fJ : Hid _ := HF.out.trans ew
    have iJ : Hid _ := nA
    have Pq : Hid _ := Gn
    clear ew nA Gn HC
    go_wp2
    go_ret
    rw [HR.out]
    exact ⟨r, gy, rfl, fJ.out, iJ.out, Pq.out⟩
   ·rw [show decide (r1.2.e ≠ 0) = true by simp [he2]] at e4
    have HR : Hid _ := NT.out he2
    clear hfr bQ zm cB Gm he2
    go_wp2
    go_ret
    rw [HR.out]
    have pO := aY (Below.refl _ wr) Nl
    exact ⟨wr.heap.size, gy, rfl, HF.out.trans (cF.below pO _ _), HI.out.grow pO, aj wr Nl⟩
theorem Pr {w0 : World} (yb fuel : Nat) : ∀ {vs : List Nat} {x : KE} {t : Nat}, KT vs x t -> vs.length <= 100 -> I1 w0 yb fuel x vs := by
 intro vs x t h
 induction h with
 | num _ => intro _; exact kV (Pm yb fuel _ _)
 | var h => intro hl; exact kV (Pn yb fuel _ _ (List.getElem?_eq_some_iff.1 h).1 (by omega))
 | bb _ hl h1 _ ha hb => intro _; exact kV (Pp yb fuel _ _ _ _ h1 hl (ha (by omega)) (hb (by simp; omega)))
 | fH h1 _ _ ha hb hc => intro hl; exact kV (SX yb fuel _ _ _ _ h1 hl (ha hl) (hb hl) (hc hl))
 | loop hl h1 h2 h3 ha hb hc => intro _; exact kV (LY yb fuel _ _ _ _ _ h1 h2 h3 hl (ha (by omega)) (hb (by omega)) (hc (by simp; omega)))
 | pair _ _ h1 h2 ha hb => intro hl; exact kV (uW yb fuel _ .pair 0 _ _ _ _ (by decide) (by decide) (by decide) h1 h2 hl (ha hl) (hb hl) (EY yb fuel _ _))
 | fst h0 hp h1 ha => intro hl; exact kV (Gp yb fuel _ .fst _ _ (by decide) (by decide) (by decide) h1 hl (ha hl) (by rw [l8 hp h0]; exact I6 yb fuel _ _ _))
 | snd h0 hp h1 ha => intro hl; exact kV (Gp yb fuel _ .snd _ _ (by decide) (by decide) (by decide) h1 hl (ha hl) (by rw [l8 hp h0]; exact I7 yb fuel _ _ _))
 | two hk h1 h2 ha hb =>
  intro hl
  rcases hk with rfl | rfl | rfl
  ·exact kV (uW yb fuel _ .add 0 _ _ _ _ (by decide) (by decide) (by decide) h1 h2 hl (ha hl) (hb hl) (I8 yb fuel))
  ·exact kV (uW yb fuel _ .sub 0 _ _ _ _ (by decide) (by decide) (by decide) h1 h2 hl (ha hl) (hb hl) (I9 yb fuel))
  ·exact kV (uW yb fuel _ .less 0 _ _ _ _ (by decide) (by decide) (by decide) h1 h2 hl (ha hl) (hb hl) (E2 yb fuel))
theorem ky {w : World} {q : Nat} {S : ByteArray} {a b c d : Int} (h : w.heap[q]? = some (.cells #[.string S, .int .i64 a, .int .i64 b, .int .i64 c, .int .i64 d] 23)) :
  w.cell? ⟨q, 0, none⟩ = some (.string S) /\ w.cell? ⟨q, 1, none⟩ = some (.int .i64 a) /\ w.cell? ⟨q, 2, none⟩ = some (.int .i64 b) /\ w.cell? ⟨q, 3, none⟩ = some (.int .i64 c) /\ w.cell? ⟨q, 4, none⟩ = some (.int .i64 d) := by
 refine ⟨?_, ?_, ?_, ?_, ?_⟩ <;> (rw [aa h]; rfl)
theorem S9 (w : World) (x1 : Option Addr) (n1 c1 : Nat) (x2 : Option Addr) (n2 c2 : Nat) (fuel : Nat) (hf : fuel <= 20000) (S : ByteArray) (a b c d E : Int)
  (hrun : ∀ w', Below w.heap.size w w' -> Calls Tryz.prog 59 #[aK (.slice x1 n1 c1) (.slice x2 n2 c2), .int .i64 fuel] w' fun e w'' => e = .returned (.tuple #[.agg #[.string S, .int .i64 a, .int .i64 b, .int .i64 c, .int .i64 d], .int .i64 E]) /\ Below w'.heap.size w' w'') :
  Calls Tryz.prog 32 #[aK (.slice x1 n1 c1) (.slice x2 n2 c2), .int .i64 fuel] w fun e w' => e = .returned (.tuple #[.agg #[.string S, .int .i64 a, .int .i64 b, .int .i64 c, .int .i64 d], .int .i64 E]) /\ Below w.heap.size w w' := by
 have HR : Hid _ := hrun
 clear hrun
 unfold aK at HR
 unfold aK
 go_enter Tryz.func32, Tryz.ntmps32
 go_wp2_with fail
 refine Calls.mono (HR.out _ (aE (aE (Below.refl _ _) _) _)) ?_
 rintro _ w2 ⟨rfl, hb2⟩
 have hq : w2.heap[w.heap.size + 1]? = some (.cells #[.string ⟨#[]⟩, .int .i64 0, .int .i64 0, .int .i64 0, .int .i64 0] 23) := by
  rw [hb2.block _ (by simp)]
  have := aj (w.alloc (.cells #[.slice x1 n1 c1, .slice x2 n2 c2] 59)) (.cells #[.string ⟨#[]⟩, .int .i64 0, .int .i64 0, .int .i64 0, .int .i64 0] 23)
  simpa using this
 have hB : Below w.heap.size w w2 := (aE (aE (Below.refl _ w) (.cells #[.slice x1 n1 c1, .slice x2 n2 c2] 59)) (.cells #[.string ⟨#[]⟩, .int .i64 0, .int .i64 0, .int .i64 0, .int .i64 0] 23)).trans (hb2.mono (by simp; omega))
 have HB : Hid _ := hB
 have hle : w.heap.size <= w.heap.size + 1 := by omega
 have JA : Hid _ := hle
 clear hb2 hB hle HR
 generalize w.heap.size + 1 = q at *
 go_wp2_with (refine jb rfl 23 (.tmp 4) (.tmp 16) rfl q #[.string S, .int .i64 a, .int .i64 b, .int .i64 c, .int .i64 d] rfl rfl 23 _ hq Tryz.uQ rfl (by simp [Value.oneCell']) ?_; intro W hW lh mg hW1 hW2 hW3)
 obtain ⟨s0, s1, s2, s3, s4⟩ := ky hW
 have A9 : Hid _ := eX HB.out JA.out lh mg hW1 hW2 hW3
 clear hW lh mg hW1 hW2 hW3 HB hq
 go_wp2
 refine bodyPost_ret (v := .tuple #[.agg #[.string S, .int .i64 a, .int .i64 b, .int .i64 c, .int .i64 d], .int .i64 E]) (by simp [results, Tryz.results32, go_sem, s0, s1, s2, s3, s4]) rfl ⟨rfl, A9.out⟩
theorem CX (k : Kw) : Wt.region ∉ bS k false := by cases k <;> decide
mutual
theorem PE.plain : ∀ {l : List Tk} {e : PT} {r : List Tk}, PE false l e r -> (∀ t ∈ l, lM t) -> (e.mZ /\ cJ e) /\ ∀ t ∈ r, lM t
 | _, _, _, .num (t := t) h, ha => ⟨⟨by simp only [PT.mZ]; exact (ha t (by simp)).1 h, .num⟩, fun x hx => ha x (by simp [hx])⟩
 | _, _, _, .name (t := t) h, ha => ⟨⟨by simp [PT.mZ], .name⟩, fun x hx => ha x (by simp [hx])⟩
 | _, _, _, .node (k := k) _ _ h3 h4, ha => by
  have h := PW.plain h4 (CX k) (fun x hx => ha x (by simp [hx]))
  refine ⟨⟨by simp only [PT.mZ]; exact ⟨by rw [h.1]; decide, h.2.1⟩, .node (fun e => by subst e; exact h3 rfl) h.2.2.1⟩, h.2.2.2⟩
theorem PW.plain : ∀ {ws : List Wt} {l : List Tk} {nm rg : List UInt8} {kids : List PT} {r : List Tk}, PW false ws l nm rg kids r -> Wt.region ∉ ws -> (∀ t ∈ l, lM t) -> rg = [] /\ dP kids /\ (∀ x ∈ kids, cJ x) /\ ∀ t ∈ r, lM t
 | _, _, _, _, _, _, .nil, _, ha => ⟨rfl, by simp [dP], by simp, ha⟩
 | _, _, _, _, _, _, .close _ h1, hn, ha => PW.plain h1 (fun h => hn (by simp [h])) (fun x hx => ha x (by simp [hx]))
 | _, _, _, _, _, _, .name _ h1, hn, ha => PW.plain h1 (fun h => hn (by simp [h])) (fun x hx => ha x (by simp [hx]))
 | _, _, _, _, _, _, .region _ h1, hn, ha => absurd (by simp) hn
 | _, _, _, _, _, _, .e h0 h1, hn, ha => by
  have a := PE.plain h0 ha
  have b := PW.plain h1 (fun h => hn (by simp [h])) a.2
  refine ⟨b.1, by simp only [dP]; exact ⟨a.1.1, b.2.1⟩, ?_, b.2.2.2⟩
  intro x hx
  rcases List.mem_cons.1 hx with rfl | hx
  ·exact a.1.2
  ·exact b.2.2.1 x hx
end
theorem Ta {e : PT} (hw : e.wf) (h : (cx e).1 = 0) : ∃ T, WT [] e T /\ T.size <= 63 := by
 unfold cx at h
 split at h
 ·simp at h
 ·have := iX (List.range e.bJ) e 0 0 [] (BF e) hw h
  exact ⟨_, this.2.2, by rw [eE]; exact this.2.1⟩
abbrev rZ : Obj := .cells #[.string ⟨#[]⟩, .int .i64 0, .int .i64 0, .int .i64 0, .int .i64 0] 23 (0, 0)
theorem kW {B : Nat} {w W : World} (h : Below B w W) (p : Addr) (hp : B <= p.block) (x : Value) : Below B w (W.setCell p x) := h.setCell hp x
theorem E4 (w : World) (x : KE) (t p fuel : Nat) (lO : fuel <= 20000) (hT : KT [] x t) (hk : eH w x p) (hit : ∀ W, Below w.heap.size w W -> vJ W) (R : Vl × cd) (hR : R = ev fuel (x.pt []) [] ⟨0, 0, 0⟩) :
  Calls Tryz.prog 24 #[.pointer (some ⟨p, 0, none⟩), .int .i64 fuel] w fun e w' => e = .returned (.tuple #[pN R, .bool (decide (R.2.e = 0))]) /\ Below w.heap.size w w' := by
 have hb0 : Below w.heap.size w (w.alloc rZ) := aY (Below.refl _ _) _
 have hs0 : (w.alloc rZ).heap.size = w.heap.size + 1 := by simp
 have hin : du (w.alloc rZ) ((w.alloc rZ).alloc (.cells (dn (.slice none 0 0) fuel ⟨0, 0, 0⟩) 103 (0, 0))) (w.heap.size + 1) [] [] fuel ⟨0, 0, 0⟩ (.slice none 0 0) := by
  refine ⟨⟨aY (Below.refl _ _) _, by omega, ?_, World.ownsRow_nil _ _ _ _, by simp [Value.ownBlock]⟩, rfl, fun i v p h => by simp at h⟩
  have := aj (w.alloc rZ) (.cells (dn (.slice none 0 0) fuel ⟨0, 0, 0⟩) 103 (0, 0))
  rw [hs0] at this; exact this
 have hs : rX fuel ⟨0, 0, 0⟩ := ⟨lO, Nat.zero_le _, Nat.le_refl _⟩
 have aW : oo (cf []) (wZ []) := fun s T h => by simp [look, wZ] at h
 have hgo := Pr (w0 := w.alloc rZ) (w.heap.size + 1) fuel hT (by simp) p [] [] ⟨0, 0, 0⟩ _ _ (hk.below hb0) hin (fun _ => aW) rfl hs
 have hres := j0 (fuel := fuel) hT (by simp) [] ⟨0, 0, 0⟩ (fun _ => aW)
 rw [show cf [] = ([] : dU) from rfl, <- hR] at hgo hres
 have Yi : Hid _ := hgo
 have iN : Hid _ := hres
 have Qg : Hid _ := hit
 have DD : Hid _ := hb0
 have ui := (hs.on (x.pt []) [])
 rw [<- hR] at ui
 have Yj : Hid ((w.alloc rZ).heap[w.heap.size]? = some rZ) := aj w rZ
 clear hgo hin hs aW hres hit hb0 hk hR hT
 by_cases he : R.2.e = 0
 ·have hV : pN R = .agg #[.string (bs R.1.txt), .int .i64 R.2.steps, .int .i64 R.2.cells, .int .i64 R.2.cells, .int .i64 R.2.cells] := by unfold pN; rw [if_neg (fun h => h he)]
  rw [hV, show decide (R.2.e = 0) = true by simp [he]]
  have HE : Hid _ := he
  clear hV he
  go_enter Tryz.func24, Tryz.ntmps24
  go_wp2_with fail
  refine Calls.mono Yi.out ?_
  rintro _ w2 ⟨r, cq, rfl, hfr, bf, I5⟩
  have nj := af bf.ob.y
  have y2 : w2.cell? ⟨w.heap.size + 1, 2, none⟩ = some (.int .i64 R.2.steps) := by rw [aa bf.ob.y]; rfl
  have y3 : w2.cell? ⟨w.heap.size + 1, 3, none⟩ = some (.int .i64 R.2.cells) := by rw [aa bf.ob.y]; rfl
  have y4 : w2.cell? ⟨w.heap.size + 1, 4, none⟩ = some (.bool false) := by rw [aa bf.ob.y]; simp [dn, HE.out]
  have hq : w2.heap[w.heap.size]? = some rZ := by rw [bf.ob.b0.block _ (by omega)]; exact Yj.out
  have dN : Hid (Below w.heap.size w w2) := DD.out.trans (bf.ob.b0.mono DD.out.size)
  have P5 : Hid (∀ W, Below w2.heap.size w2 W -> Calls Tryz.prog 52 #[.pointer (some ⟨r, 0, none⟩)] W fun e w' => e = .returned (.string (bs R.1.txt)) /\ Below W.heap.size W w') := fun W hW => s6 R.1 (uU t) r W (iN.out.1 HE.out).2 (by have := rW t; omega) (I5.below hW) (fun W' hW' => Qg.out W' (dN.out.trans ((hW.trans (hW'.mono hW.size)).mono dN.out.size)))
  have hS : ∀ W, Below w2.heap.size w2 W -> W.cell? ⟨w.heap.size + 1, 2, none⟩ = some (.int .i64 R.2.steps) /\ W.cell? ⟨w.heap.size + 1, 3, none⟩ = some (.int .i64 R.2.cells) := fun W hW => ⟨(hW.cell (p := ⟨w.heap.size + 1, 2, none⟩) nj).trans y2, (hW.cell (p := ⟨w.heap.size + 1, 3, none⟩) nj).trans y3⟩
  have Rv : ∀ W, Below w2.heap.size w2 W -> W.cell? ⟨w.heap.size, 0, none⟩ = some (.string ⟨#[]⟩) /\ W.cell? ⟨w.heap.size, 1, none⟩ = some (.int .i64 0) /\ W.cell? ⟨w.heap.size, 2, none⟩ = some (.int .i64 0) /\ W.cell? ⟨w.heap.size, 3, none⟩ = some (.int .i64 0) /\ W.cell? ⟨w.heap.size, 4, none⟩ = some (.int .i64 0) /\ W.frozen? ⟨w.heap.size, 0, none⟩ = false /\ W.frozen? ⟨w.heap.size, 1, none⟩ = false /\ W.frozen? ⟨w.heap.size, 2, none⟩ = false /\ W.frozen? ⟨w.heap.size, 3, none⟩ = false /\ W.frozen? ⟨w.heap.size, 4, none⟩ = false /\ w.heap.size < W.heap.size /\ w.heap.size + 1 < W.heap.size := fun W hW => by
   have L6 := (hW.block _ (af hq)).trans hq
   exact ⟨by rw [aa L6]; rfl, by rw [aa L6]; rfl, by rw [aa L6]; rfl, by rw [aa L6]; rfl, by rw [aa L6]; rfl, ag L6 0, ag L6 1, ag L6 2, ag L6 3, ag L6 4, af L6, by have := hW.size; omega⟩
  have TM := af hq
  have hYQ : w.heap.size + 1 ≠ w.heap.size := by omega
  have hQY : w.heap.size ≠ w.heap.size + 1 := by omega
  have HS : Hid _ := hS
  have TT : Hid _ := Rv
  have HQ : Hid _ := hq
  clear hfr bf I5 hq hS Rv Yi iN Qg Yj DD y2 y3
  generalize w.heap.size + 1 = Y at *
  generalize hQE : w.heap.size = Q at *
  have HQE : Hid _ := hQE
  clear hQE
  go_wp2_with fail
  have HSa : Hid (w2.cell? ⟨Y, 2, none⟩ = some (.int .i64 R.2.steps) /\ w2.cell? ⟨Y, 3, none⟩ = some (.int .i64 R.2.cells)) := HS.out w2 (Below.refl _ _)
  have HSb : Hid (∀ m, (w2.drewN m).cell? ⟨Y, 2, none⟩ = some (.int .i64 R.2.steps) /\ (w2.drewN m).cell? ⟨Y, 3, none⟩ = some (.int .i64 R.2.cells)) := fun m => HS.out _ (cM w2 m)
  have HSc : Hid (w2.drew.cell? ⟨Y, 2, none⟩ = some (.int .i64 R.2.steps) /\ w2.drew.cell? ⟨Y, 3, none⟩ = some (.int .i64 R.2.cells)) := HS.out w2.drew ⟨rfl, rfl, rfl, Nat.le_refl _, fun _ _ => rfl⟩
  go_region_held3 (fun W => W.cell? ⟨Y, 2, none⟩ = some (.int .i64 R.2.steps) /\ W.cell? ⟨Y, 3, none⟩ = some (.int .i64 R.2.cells)) (first | with_reducible exact HSa.out | with_reducible exact HSb.out _ | with_reducible exact HSc.out | with_reducible exact ⟨t2, t3⟩ | go_keep) (first | (go_at_call 52; refine Calls.mono (P5.out _ ?_) ?_; exact ⟨rfl, rfl, rfl, Nat.le_refl _, fun _ _ => rfl⟩; rintro e w3 ⟨rfl, hb3⟩; obtain ⟨t2, t3⟩ := HS.out w3 ⟨hb3.os, hb3.tape, hb3.output, hb3.size, fun k hk => hb3.block k hk⟩; obtain ⟨r0, r1, r2, r3, r4, g0, g1, g2, g3, g4, l1, l2⟩ := TT.out w3 ⟨hb3.os, hb3.tape, hb3.output, hb3.size, fun k hk => hb3.block k hk⟩))
  all_goals
   have Jx : w3.heap[Q]? = some rZ := (hb3.block Q TM).trans HQ.out
   have Dz : Below Q w w3 := dN.out.trans ((⟨hb3.os, hb3.tape, hb3.output, hb3.size, fun k hk => hb3.block k hk⟩ : Below w2.heap.size w2 w3).mono (by omega))
   obtain ⟨W7, OP⟩ : ∃ W7, W7 = (((((w3.setCell ⟨Q, 0, none⟩ (.string (bs R.1.txt))).setCell ⟨Q, 1, none⟩ (.int .i64 R.2.steps)).setCell ⟨Q, 2, none⟩ (.int .i64 R.2.cells)).setCell ⟨Q, 3, none⟩ (.int .i64 R.2.cells)).setCell ⟨Q, 4, none⟩ (.int .i64 R.2.cells)) := ⟨_, rfl⟩
   have OQ : W7.heap[Q]? = some (.cells #[.string (bs R.1.txt), .int .i64 R.2.steps, .int .i64 R.2.cells, .int .i64 R.2.cells, .int .i64 R.2.cells] 23 (0, 0)) := by
    rw [OP]; exact (az (az (az (az (az Jx 0 _) 1 _) 2 _) 3 _) 4 _).trans rfl
   have RI : Hid (Below Q w W7) := by
    show Below Q w W7
    rw [OP]; exact kW (kW (kW (kW (kW Dz _ (Nat.le_refl _) _) _ (Nat.le_refl _) _) _ (Nat.le_refl _) _) _ (Nat.le_refl _) _) _ (Nat.le_refl _) _
   rw [<- OP]
   obtain ⟨s0, s1, s2, s3, s4⟩ := ky OQ
   clear OP OQ Jx Dz hb3 t2 t3 r0 r1 r2 r3 r4 g0 g1 g2 g3 g4 l1 l2 y4
   go_wp2
   refine bodyPost_ret (v := .tuple #[.agg #[.string (bs R.1.txt), .int .i64 R.2.steps, .int .i64 R.2.cells, .int .i64 R.2.cells, .int .i64 R.2.cells], .bool true]) (by simp [results, Tryz.results24, go_sem, s0, s1, s2, s3, s4]) rfl ⟨rfl, by rw [HQE.out]; exact RI.out⟩
 ·have hV : pN R = .agg #[.string ⟨#[]⟩, .int .i64 0, .int .i64 0, .int .i64 0, .int .i64 0] := by unfold pN; rw [if_pos he]
  rw [hV, show decide (R.2.e = 0) = false by simp [he]]
  have HE : Hid _ := he
  clear hV he
  go_enter Tryz.func24, Tryz.ntmps24
  go_wp2_with fail
  refine Calls.mono Yi.out ?_
  rintro _ w2 ⟨r, cq, rfl, hfr, bf, I5⟩
  have nj := af bf.ob.y
  have y4 : w2.cell? ⟨w.heap.size + 1, 4, none⟩ = some (.bool true) := by
   have hne : decide (R.2.e ≠ 0) = true := decide_eq_true HE.out
   rw [aa bf.ob.y]
   show some (Value.bool (decide (R.2.e ≠ 0))) = _
   rw [hne]
  have hq : w2.heap[w.heap.size]? = some rZ := by rw [bf.ob.b0.block _ (by omega)]; exact Yj.out
  have dN : Hid (Below w.heap.size w w2) := DD.out.trans (bf.ob.b0.mono DD.out.size)
  clear hfr bf I5 Yi iN Qg Yj DD
  go_wp2_with (refine jb rfl 23 (.tmp 4) (.tmp 18) rfl w.heap.size #[.string ⟨#[]⟩, .int .i64 0, .int .i64 0, .int .i64 0, .int .i64 0] rfl rfl 23 _ hq Tryz.uQ rfl (by simp [Value.oneCell']) ?_; intro W hW lh mg hW1 hW2 hW3)
  obtain ⟨s0, s1, s2, s3, s4⟩ := ky hW
  have A9 : Hid _ := eX dN.out (Nat.le_refl _) lh mg hW1 hW2 hW3
  clear hW lh mg hW1 hW2 hW3 dN hq
  go_wp2
  refine bodyPost_ret (v := .tuple #[.agg #[.string ⟨#[]⟩, .int .i64 0, .int .i64 0, .int .i64 0, .int .i64 0], .bool false]) (by simp [results, Tryz.results24, go_sem, s0, s1, s2, s3, s4]) rfl ⟨rfl, A9.out⟩
theorem L7 {ae : Bool} {rg : List UInt8} (hr : SK ae rg) {x : KE} {t : Nat} (h : KT [] x t) (hp : x.bJ <= 100) :
  ∃ e, PE ae (tokens (x.pt rg).tidy) e [] /\ cx e = (0, 0) /\ e.np = x.pt rg /\ ∀ fuel env st, ev fuel e env st = ev fuel (x.pt []) env st := by
 obtain ⟨e, he, xO⟩ := Gc (x.pt rg) (QJ hr h)
 rw [wY] at xO
 have E5 : WT [] (x.pt rg) (uU t) := LC (rg := rg) h (by simp)
 refine ⟨e, he, LS (iU e (by rw [xO]; exact E5)) ?_, xO, fun fuel env st => ?_⟩
 ·rw [<- AO, xO, LB rg h]; exact hp
 ·rw [<- mT, xO, kU]
theorem Ja (S : ByteArray) (a b c d : Int) (w : World) : Calls Tryz.prog 27 #[.agg #[.string S, .int .i64 a, .int .i64 b, .int .i64 c, .int .i64 d], .agg #[.string S, .int .i64 a, .int .i64 b, .int .i64 c, .int .i64 d]] w fun v w' => v = .returned (.bool true) /\ Below w.heap.size w w' := by
 have q0 : (S.toList == S.toList) = true := by simp
 have q1 : (a == a) = true := by simp
 have q2 : (b == b) = true := by simp
 have q3 : (c == c) = true := by simp
 have q4 : (d == d) = true := by simp
 go_enter Tryz.func27, Tryz.ntmps27
 go_wp2
 go_ret
 exact ⟨rfl, ((Below.refl _ w).alloc (Nat.le_refl _) _).alloc (by simp) _⟩
theorem CY (w : World) : Calls Tryz.prog 26 #[.agg #[.string ⟨#[]⟩, .int .i64 0, .int .i64 0, .int .i64 0, .int .i64 0]] w fun v w' => v = .returned (.bool true) /\ Below w.heap.size w w' := by
 have HS : Hid _ := fun W => Ja ⟨#[]⟩ 0 0 0 0 W
 have hq := aj w rZ
 obtain ⟨s0, s1, s2, s3, s4⟩ := ky hq
 have hl := af hq
 have HB : Hid _ := aY (Below.refl _ w) rZ
 clear hq
 go_enter Tryz.func26, Tryz.ntmps26
 go_wp2_with fail
 refine Calls.mono (HS.out _) ?_
 rintro _ w2 ⟨rfl, hb⟩
 have dN : Hid _ := HB.out.trans (hb.mono HB.out.size)
 clear hb HS
 go_wp2
 go_ret
 exact ⟨rfl, dN.out⟩
theorem jj (T A X : List Ty) (U : Ty) (c : Nat) (hc : c = A.length + 1) : ai (T ++ (A ++ [U]) ++ X) (((T.length + c : Nat) : Int) - 1) = U := by
 have e : (((T.length + c : Nat) : Int) - 1) = ((T.length + A.length : Nat) : Int) := by omega
 rw [e]
 refine qA X ?_
 rw [List.getElem?_append_right (by omega), Nat.add_sub_cancel_left, List.getElem?_append_right (by omega), Nat.sub_self]; rfl
theorem kn2 (T A B X : List Ty) (U V : Ty) (ca cb : Nat) (hA : A.length + 1 = ca) (hB : B.length + 1 = cb) :
  ai (T ++ ((A ++ [U]) ++ (B ++ [V])) ++ X) (((T.length + ca : Nat) : Int) - 1) = U /\ ai (T ++ ((A ++ [U]) ++ (B ++ [V])) ++ X) (((T.length + ca + cb : Nat) : Int) - 1) = V := by
 constructor
 ·have := jj T A ((B ++ [V]) ++ X) U ca hA.symm
  simpa only [List.append_assoc] using this
 ·have := jj (T ++ (A ++ [U])) B X V cb hB.symm
  have hl : (T ++ (A ++ [U])).length = T.length + ca := by simp; omega
  rw [hl] at this
  simpa only [List.append_assoc] using this
theorem kn3 (T A B C X : List Ty) (U V W : Ty) (ca cb cc : Nat) (hA : A.length + 1 = ca) (hB : B.length + 1 = cb) (hC : C.length + 1 = cc) :
  ai (T ++ ((A ++ [U]) ++ ((B ++ [V]) ++ (C ++ [W]))) ++ X) (((T.length + ca : Nat) : Int) - 1) = U /\ ai (T ++ ((A ++ [U]) ++ ((B ++ [V]) ++ (C ++ [W]))) ++ X) (((T.length + ca + cb : Nat) : Int) - 1) = V /\ ai (T ++ ((A ++ [U]) ++ ((B ++ [V]) ++ (C ++ [W]))) ++ X) (((T.length + ca + cb + cc : Nat) : Int) - 1) = W := by
 have h1 := kn2 T A B ((C ++ [W]) ++ X) U V ca cb hA hB
 have h2 := jj (T ++ (A ++ [U]) ++ (B ++ [V])) C X W cc hC.symm
 have hl : (T ++ (A ++ [U]) ++ (B ++ [V])).length = T.length + ca + cb := by simp; omega
 rw [hl] at h2
 refine ⟨?_, ?_, ?_⟩
 ·simpa only [List.append_assoc] using h1.1
 ·simpa only [List.append_assoc] using h1.2
 ·simpa only [List.append_assoc] using h2
theorem lD (sc : Sc) (nm : List UInt8) (i : Int) (s : List UInt8) : bL (sc ++ [(nm, i)]) s = if nm = s then i else bL sc s := by
 unfold bL
 rw [List.reverse_append, List.reverse_singleton, List.singleton_append, List.find?_cons]
 by_cases h : nm = s
 ·subst h; simp
 ·have : (nm == s) = false := by rw [beq_eq_false_iff_ne]; exact h
  simp only [this, if_neg h]
theorem xj {w : World} {base : Nat} {e : TypeId} {size : Nat} {v : Value} {n : Nat} {xs : List Value} (h : w.ownsRow base e size v n xs) : ∃ a c, v = .slice a n c := by
 rcases h.2 with ⟨h1, h2⟩ | ⟨g, cap, cur, h1, _⟩
 ·exact ⟨none, 0, by rw [h1, h2]⟩
 ·exact ⟨_, _, h1⟩
theorem s7 (s : ByteArray) (w : World) (hs : s.size <= 9000) (e : PT) (hp : PE true (tokens s.data.toList) e []) : Calls Tryz.prog 54 #[.string s] w fun v w' => ∃ x1 n1 c1 x2 n2 c2 ns, v = .returned (.tuple #[aK (.slice x1 n1 c1) (.slice x2 n2 c2), .int .i64 0, .int .i64 0]) /\ Below w.heap.size w w' /\ bh w' (.slice x1 n1 c1) (.slice x2 n2 c2) ns (opn e 0) /\ NA [] e 0 ns := by
 obtain ⟨ns, bq, DA⟩ := rP (len := s.size) hp
 have Cr := fun w => mQ s w (by omega)
 have QC : Hid _ := DA
 have Cm : Hid _ := bq
 clear hp bq DA
 go_enter Tryz.func54, Tryz.ntmps54
 go_wp2_with fail
 refine (Cr _).mono ?_
 rintro v w1 ⟨hb, hv⟩
 have hr := rA hb
 have hlt := af hr
 have HB : Hid _ := mq hb
 rcases hv with ⟨q', hq', _⟩ | ⟨_, nv, ov, rfl, hT⟩
 ·rw [QC.out] at hq'; cases hq'
 ·rw [QC.out] at hT
  simp only at hT
  obtain ⟨x1, c1, e1⟩ := xj hT.nd
  obtain ⟨x2, c2, e2⟩ := xj hT.op
  have Ba : Hid _ := oQ hT.nd hr (by decide)
  have qQ : Hid _ := oQ hT.op hr (by decide)
  subst e1
  subst e2
  have r0 : w1.cell? ⟨w.heap.size, 0, none⟩ = some (.slice none 0 0) := by rw [aa hr]; rfl
  have r1 : w1.cell? ⟨w.heap.size, 1, none⟩ = some (.slice none 0 0) := by rw [aa hr]; rfl
  have f0 := ag hr 0
  have f1 := ag hr 1
  have hW := aL (.cells #[.slice x1 ns.length c1, .slice x2 (opn e 0).length c2] 59) (az (az hr 0 (.slice x1 ns.length c1)) 1 (.slice x2 (opn e 0).length c2))
  have S0 : Hid ((((w1.setCell ⟨w.heap.size, 0, none⟩ (.slice x1 ns.length c1)).setCell ⟨w.heap.size, 1, none⟩ (.slice x2 (opn e 0).length c2)).alloc (.cells #[.slice x1 ns.length c1, .slice x2 (opn e 0).length c2] 59)).cell? ⟨w.heap.size, 0, none⟩ = some (.slice x1 ns.length c1)) := (aa hW 0).trans rfl
  have S1 : Hid ((((w1.setCell ⟨w.heap.size, 0, none⟩ (.slice x1 ns.length c1)).setCell ⟨w.heap.size, 1, none⟩ (.slice x2 (opn e 0).length c2)).alloc (.cells #[.slice x1 ns.length c1, .slice x2 (opn e 0).length c2] 59)).cell? ⟨w.heap.size, 1, none⟩ = some (.slice x2 (opn e 0).length c2)) := (aa hW 1).trans rfl
  have Wj : bh ((w1.setCell ⟨w.heap.size, 0, none⟩ (.slice x1 ns.length c1)).setCell ⟨w.heap.size, 1, none⟩ (.slice x2 (opn e 0).length c2)) (.slice x1 ns.length c1) (.slice x2 (opn e 0).length c2) ns (opn e 0) := ⟨ax hT.nd (fun k hk => by rw [ak _ _ (by simpa using Ba.out k hk), ak _ _ (by simpa using Ba.out k hk)]), ax hT.op (fun k hk => by rw [ak _ _ (by simpa using qQ.out k hk), ak _ _ (by simpa using qQ.out k hk)])⟩
  have ZK : Hid _ := Wj.below ((Below.refl _ _).alloc (Nat.le_refl _) (.cells #[.slice x1 ns.length c1, .slice x2 (opn e 0).length c2] 59))
  have hne : w.heap.size ≠ w1.heap.size := by omega
  unfold aK
  clear hT hb hr Cr hW Wj
  go_wp2
  refine bodyPost_ret (v := .tuple #[.agg #[.slice x1 ns.length c1, .slice x2 (opn e 0).length c2], .int .i64 0, .int .i64 0]) (by have s0 := S0.out; have s1 := S1.out; simp [results, Tryz.results54, go_sem, s0, s1]) rfl ⟨x1, ns.length, c1, x2, (opn e 0).length, c2, ns, rfl, ?_, ZK.out, Cm.out⟩
  exact ((HB.out.setCell (p := ⟨w.heap.size, 0, none⟩) (Nat.le_refl _) _).setCell (p := ⟨w.heap.size, 1, none⟩) (Nat.le_refl _) _).alloc (by have := HB.out.size; simp [World.setCell]; omega) _
theorem uA (s : ByteArray) (w : World) (hs : s.size <= 9000) (e : PT) (hp : PE true (tokens s.data.toList) e []) : Calls Tryz.prog 42 #[.string s] w fun v w' => ∃ x1 n1 c1 x2 n2 c2 ns, v = .returned (.tuple #[aK (.slice x1 n1 c1) (.slice x2 n2 c2), .int .i64 (cx e).1, .int .i64 (cx e).2]) /\ Below w.heap.size w w' /\ bh w' (.slice x1 n1 c1) (.slice x2 n2 c2) ns (opn e 0) /\ NA [] e 0 ns := by
 have o6 := iZ hp
 have Cr := fun w => s7 s w hs e hp
 have jm := fun (w : World) (nv ov : Value) (ns : List NR) (bq : NA [] e 0 ns) (h : bh w nv ov ns (opn e 0)) => nJ w nv ov ns (opn e 0) h (yI bq) (by have := bq.len; omega) (bq.small (fun _ h => by simp at h) (by omega)) (fun j n hj => by have := bq.back j n hj; simpa using this)
 unfold aK at Cr
 have A6 : Hid _ := jm
 have Wk : Hid _ := Cr
 clear hp jm Cr
 obtain ⟨ans, cN⟩ : ∃ ans, ans = cx e := ⟨_, rfl⟩
 rw [<- cN]
 have jT : Hid _ := cN
 clear cN
 go_enter Tryz.func42, Tryz.ntmps42
 go_wp2_with fail
 refine (Wk.out _).mono ?_
 rintro _ w1 ⟨x1, n1, c1, x2, n2, c2, ns, rfl, hb, hT, bq⟩
 have hr := rA hb
 have hlt := af hr
 have HB : Hid _ := mq hb
 have HR : Hid _ := hr
 have Ba : Hid _ := oQ hT.nd hr (by decide)
 have qQ : Hid _ := oQ hT.op hr (by decide)
 have lS := hT.below ((Below.refl _ w1).alloc (Nat.le_refl _) (.cells #[.slice x1 n1 c1, .slice x2 n2 c2] 59))
 have jm := A6.out (w1.alloc (.cells #[.slice x1 n1 c1, .slice x2 n2 c2] 59)) _ _ ns bq lS
 rw [vL bq, <- jT.out] at jm
 have Cm : Hid _ := bq
 unfold aK at jm
 clear hT hb hr Wk A6 bq
 go_wp2_with fail
 refine jm.mono ?_
 rintro _ w2 ⟨rfl, hb2⟩
 have Cs : Hid _ := lS.below hb2
 have hk := rA hb2
 have k0 : w2.cell? ⟨w1.heap.size, 0, none⟩ = some (.slice x1 n1 c1) := by rw [aa hk]; rfl
 have k1 : w2.cell? ⟨w1.heap.size, 1, none⟩ = some (.slice x2 n2 c2) := by rw [aa hk]; rfl
 have ez : w2.heap[w.heap.size]? = some (.cells #[.slice none 0 0, .slice none 0 0] 59 (0, 0)) := by
  rw [hb2.block _ (by simp; omega)]; exact aL _ HR.out
 have r0 : w2.cell? ⟨w.heap.size, 0, none⟩ = some (.slice none 0 0) := by rw [aa ez]; rfl
 have r1 : w2.cell? ⟨w.heap.size, 1, none⟩ = some (.slice none 0 0) := by rw [aa ez]; rfl
 have f0 := ag ez 0
 have f1 := ag ez 1
 have kZ : Below w.heap.size w w2 := HB.out.trans ((mq hb2).mono HB.out.size)
 have dN : Hid _ := kZ
 have hne : w.heap.size ≠ w1.heap.size := by omega
 clear hk ez hb2 kZ jm lS
 go_wp2
 refine bodyPost_ret (v := .tuple #[.agg #[.slice x1 n1 c1, .slice x2 n2 c2], .int .i64 ans.1, .int .i64 ans.2]) (by simp [results, Tryz.results42, go_sem, r0, r1]) rfl ⟨x1, n1, c1, x2, n2, c2, ns, rfl, ?_, ⟨ax Cs.out.nd (fun k hk => by rw [ak _ _ (by simpa using Ba.out k hk), ak _ _ (by simpa using Ba.out k hk)]), ax Cs.out.op (fun k hk => by rw [ak _ _ (by simpa using qQ.out k hk), ak _ _ (by simpa using qQ.out k hk)])⟩, Cm.out⟩
 exact (dN.out.setCell (p := ⟨w.heap.size, 0, none⟩) (Nat.le_refl _) _).setCell (p := ⟨w.heap.size, 1, none⟩) (Nat.le_refl _) _
theorem CZ (s : ByteArray) (fuel : Int) (w : World) (e : PT) (y : Nat) (S : ByteArray) (a b c d E : Int) (Sv : ∀ w, Calls Tryz.prog 42 #[.string s] w fun v w' => ∃ x1 n1 c1 x2 n2 c2 ns, v = .returned (.tuple #[aK (.slice x1 n1 c1) (.slice x2 n2 c2), .int .i64 0, .int .i64 y]) /\ Below w.heap.size w w' /\ bh w' (.slice x1 n1 c1) (.slice x2 n2 c2) ns (opn e 0) /\ NA [] e 0 ns)
  (qR : ∀ (w' : World) (x1 : Option Addr) (n1 c1 : Nat) (x2 : Option Addr) (n2 c2 : Nat) (ns : List NR), Below w.heap.size w w' -> bh w' (.slice x1 n1 c1) (.slice x2 n2 c2) ns (opn e 0) -> NA [] e 0 ns -> Calls Tryz.prog 32 #[aK (.slice x1 n1 c1) (.slice x2 n2 c2), .int .i64 fuel] w' fun v w'' => v = .returned (.tuple #[.agg #[.string S, .int .i64 a, .int .i64 b, .int .i64 c, .int .i64 d], .int .i64 E]) /\ Below w'.heap.size w' w'') :
  Calls Tryz.prog 18 #[.string s, .int .i64 fuel] w fun v w' => v = .returned (.tuple #[.agg #[.string S, .int .i64 a, .int .i64 b, .int .i64 c, .int .i64 d], .int .i64 E]) /\ Below w.heap.size w w' := by
 unfold aK at Sv qR
 have HR : Hid _ := Sv
 have HN : Hid _ := qR
 clear Sv qR
 go_enter Tryz.func18, Tryz.ntmps18
 go_wp2_with fail
 refine (HR.out _).mono ?_
 rintro _ w1 ⟨x1, n1, c1, x2, n2, c2, ns, rfl, hb, hT, bq⟩
 have hq : w1.heap[w.heap.size]? = some (.cells #[.string ⟨#[]⟩, .int .i64 0, .int .i64 0, .int .i64 0, .int .i64 0] 23) := rA hb
 have hB := mq hb
 obtain ⟨W2, tT⟩ : ∃ W2, W2 = w1.alloc (.cells #[.slice x1 n1 c1, .slice x2 n2 c2] 59) := ⟨_, rfl⟩
 have hb2 : Below w1.heap.size w1 W2 := by rw [tT]; exact aE (Below.refl _ _) _
 have WV := HN.out W2 x1 n1 c1 x2 n2 c2 ns (hB.trans (hb2.mono hB.size)) (hT.below hb2) bq
 have OZ : Hid _ := WV
 have dN : Hid _ := hB.trans (hb2.mono hB.size)
 have HQ2 : Hid (W2.heap[w.heap.size]? = some (.cells #[.string ⟨#[]⟩, .int .i64 0, .int .i64 0, .int .i64 0, .int .i64 0] 23)) := by
  show W2.heap[w.heap.size]? = _
  rw [hb2.block _ (af hq)]; exact hq
 clear hb hT bq hq hB hb2 WV HR HN
 go_wp2_with fail
 rw [<- tT]
 refine Calls.mono OZ.out ?_
 rintro _ w3 ⟨rfl, hb3⟩
 have Jx : w3.heap[w.heap.size]? = some (.cells #[.string ⟨#[]⟩, .int .i64 0, .int .i64 0, .int .i64 0, .int .i64 0] 23) := by rw [hb3.block _ (af HQ2.out)]; exact HQ2.out
 have iI : Hid _ := dN.out.trans (hb3.mono dN.out.size)
 clear hb3 OZ dN HQ2 tT
 go_wp2_with (refine jb rfl 23 (.tmp 4) (.tmp 22) rfl w.heap.size #[.string S, .int .i64 a, .int .i64 b, .int .i64 c, .int .i64 d] rfl rfl 23 _ Jx Tryz.uQ rfl (by simp [Value.oneCell']) ?_; intro W hW lh mg hW1 hW2 hW3)
 obtain ⟨s0, s1, s2, s3, s4⟩ := ky hW
 have A9 : Hid _ := eX iI.out (Nat.le_refl _) lh mg hW1 hW2 hW3
 clear hW lh mg hW1 hW2 hW3 iI Jx
 go_wp2
 refine bodyPost_ret (v := .tuple #[.agg #[.string S, .int .i64 a, .int .i64 b, .int .i64 c, .int .i64 d], .int .i64 E]) (by simp [results, Tryz.results18, go_sem, s0, s1, s2, s3, s4]) rfl ⟨rfl, A9.out⟩
mutual
theorem AP : ∀ t : PT, t.bN -> t.uR -> t.mZ
 | .num _ _, h, _ => by simp only [PT.bN] at h; simp only [PT.mZ]; exact h
 | .name _ _, _, _ => by simp [PT.mZ]
 | .node _ _ _ _ kids, h, h3 => by
  simp only [PT.bN] at h
  simp only [PT.uR] at h3
  simp only [PT.mZ]
  exact ⟨by omega, C0 kids h.2 h3.2⟩
theorem C0 : ∀ ts : List PT, bG ts -> wH ts -> dP ts
 | [], _, _ => by simp [dP]
 | t :: r, h, h3 => by
  simp only [bG] at h
  simp only [wH] at h3
  simp only [dP]
  exact ⟨AP t h.1 h3.1, C0 r h.2 h3.2⟩
end
end Go.Proofs.YtpicaknklgccoaaGreatDoor
