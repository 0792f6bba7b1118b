import Derived.Test.YtpicaknklgccoabGreatDoorX22
import Derived.Deep.RegionHeld3
import Derived.Test.YtpicaknklgccoabGreatDoorX20
import Derived.Test.YtpicaknklgccoabGreatDoorX5
import Derived.BigQuiet
import Derived.Laws.Tables
import Derived.Laws.CopyOwn
namespace Go.Proofs.YtpicaknklgccoabGreatDoor
open Go.RowKit
open Go.Lib (decDigits)
theorem FrO.setNew {w w' : World} {yb q o : Nat} {x nv nv' : Value} (h : FrO w w' yb nv nv') (hq : w.heap.size ≤ q) : FrO w (w'.setCell ⟨q, o, none⟩ x) yb nv nv' :=
 ⟨by have := h.size; simpa [World.setCell] using this, fun k hk hy hn => by rw [blk_other _ _ (by simp only; omega)]; exact h.blk k hk hy hn, h.n⟩
theorem KVal.setElse {w : World} {q o : Nat} {x : Value} {arr : Array Value} (hq : w.heap[q]? = some (.cells arr 86 (0, 0))) {v : Vl} {p : Nat} (h : KVal w v p) : KVal (w.setCell ⟨q, o, none⟩ x) v p :=
 h.keep (fun k arr' hk => by
  rw [blk_other _ _ (by
   simp only
   rintro rfl
   rw [hq] at hk
   simp only [Option.some.injEq, Obj.cells.injEq] at hk
   exact absurd hk.2.1 (by decide))]
  exact hk)
theorem WkIn.setElse {w0 w : World} {yb : Nat} {vals : List Vl} {ps : List Nat} {fuel : Nat} {st : ESt} {nv : Value} {q o : Nat} {x : Value} {arr : Array Value} (h : WkIn w0 w yb vals ps fuel st nv) (hq : w.heap[q]? = some (.cells arr 86 (0, 0))) (h0 : w0.heap.size ≤ q) : WkIn w0 (w.setCell ⟨q, o, none⟩ x) yb vals ps fuel st nv := by
 have hne : ∀ (k : Nat) (arr' : Array Value) (U : TypeId) (fz : Nat × Nat), U ≠ 86 → w.heap[k]? = some (.cells arr' U fz) → (w.setCell ⟨q, o, none⟩ x).heap[k]? = w.heap[k]? := by
  intro k arr' U fz hU hk
  refine blk_other _ _ ?_
  simp only
  rintro rfl
  rw [hq] at hk
  simp only [Option.some.injEq, Obj.cells.injEq] at hk
  exact hU hk.2.1.symm
 refine ⟨⟨h.ob.b0.setCell (p := ⟨q, o, none⟩) h0 _, h.ob.hyb, ?_, owns_blk h.ob.n (fun k hk => ?_), h.ob.ny⟩, h.len, fun i v p h1 h2 => (h.v i v p h1 h2).setElse hq⟩
 ·rw [hne yb _ _ _ (by decide) h.ob.y]; exact h.ob.y
 ·rcases h.ob.n.2 with ⟨hv, _⟩ | ⟨g, cap, cur, hv, _, hg, _⟩
  ·rw [hv] at hk; cases hk
  ·rw [hv] at hk
   simp only [Value.ownBlock, Option.some.injEq] at hk
   subst hk
   exact hne _ _ _ _ (by decide) hg
def two2 (a b : Value) : Obj := .cells #[a, b] 86 (0, 0)
set_option maxRecDepth 100000 in
set_option maxHeartbeats 4000000 in
theorem kgo_two {w0 : World} (yb fuel : Nat) (vs : List Nat) (k : Kw) (n : Nat) (a d : KE) (ta td : Nat) (hk1 : k ≠ .let_) (hk2 : k ≠ .if_) (hk3 : k ≠ .loop) (hta : KT vs a ta) (htd : KT vs d td) (hvl : vs.length ≤ 100) (iha : KGo w0 yb fuel a vs) (ihd : KGo w0 yb fuel d vs) (hmd : Made2 w0 yb fuel k (tyZ ta) (tyZ td)) : KGoN w0 yb fuel (.n2 k n a d) vs := by
 intro b vals ps st nv w hx hin henv hlen hs he hq
 obtain ⟨c, pa, pd, hka, hT1, hT2⟩ := katz2 hx
 have hne : b ≠ yb := by have := hin.ob.hyb; have := hka.hb; omega
 have hgy : c ≠ yb := by have := hin.ob.hyb; have := hka.hg; omega
 have hev : ev fuel ((KE.n2 k n a d).pt []) (envV vals) st = partsV fuel k [a.pt [], d.pt []] (envV vals) { st with steps := st.steps + 1 } := by
  simp only [KE.pt]
  rw [ev_parts fuel _ k _ _ _ (envV vals) st hk1 hk2 hk3, begun_goZ he hq]
 rw [hev, partsV2]
 have hs' := hs.step hq
 have hr1 := kev_res (fuel := fuel) hta hvl vals { st with steps := st.steps + 1 } (fun _ => henv)
 have h1 := fun nv2 w2 (hin2 : WkIn w0 w2 yb vals ps fuel { st with steps := st.steps + 1 } nv2) => iha pa vals ps { st with steps := st.steps + 1 } nv2 w2 hT1 hin2 (fun _ => henv) hlen hs'
 have hs2 := hs'.on (a.pt []) (envV vals)
 generalize ev fuel (a.pt []) (envV vals) { st with steps := st.steps + 1 } = r1 at *
 have hr2 := kev_res (fuel := fuel) htd hvl vals r1.2 (fun _ => henv)
 have h2 := fun nv2 w2 (hin2 : WkIn w0 w2 yb vals ps fuel r1.2 nv2) => ihd pd vals ps r1.2 nv2 w2 hT2 hin2 (fun _ => henv) hlen hs2
 have hs3 := hs2.on (d.pt []) (envV vals)
 generalize ev fuel (d.pt []) (envV vals) r1.2 = r2 at *
 obtain ⟨R, hR⟩ : ∃ R, R = if r2.2.e ≠ 0 then (Vl.n 0, r2.2) else madeV k [r1.1, r2.1] r2.2 := ⟨_, rfl⟩
 rw [← hR]
 have HRN : Hid (r2.2.e = 0 → R = madeV k [r1.1, r2.1] r2.2) := fun h => by rw [hR, if_neg (fun g => g h)]
 have HRE : Hid (r2.2.e ≠ 0 → R = (Vl.n 0, r2.2)) := fun h => by rw [hR, if_pos h]
 have hm : ∀ (nv2 : Value) (w2 : World) (p1 p2 : Nat), r2.2.e = 0 → WkIn w0 w2 yb vals ps fuel r2.2 nv2 → KVal w2 r1.1 p1 → KVal w2 r2.1 p2 →
   Calls Tryz.prog 50 #[.pointer (some ⟨yb, 0, none⟩), .pointer (some ⟨b, 0, none⟩), .pointer (some ⟨p1, 0, none⟩), .pointer (some ⟨p2, 0, none⟩)] w2 fun e w' => ∃ r, e = .returned (.pointer (some ⟨r, 0, none⟩)) ∧ FrO w2 w' yb nv2 nv2 ∧ WkIn w0 w' yb vals ps fuel (madeV k [r1.1, r2.1] r2.2).2 nv2 ∧ KVal w' (madeV k [r1.1, r2.1] r2.2).1 r := by
  intro nv2 w2 p1 p2 e hin2 hv1 hv2
  have a2 := hr2.1 e
  exact hmd b c n [pa, pd] vals ps r2.2 nv2 w2 r1.1 r2.1 p1 p2 hka hin2 hs3 (hr1.1 a2.1).2 a2.2 hv1 hv2
 have hkw := hka.on hin.ob.b0
 have x0 := hkw.c0
 have xl1 := hkw.hb
 have xl2 := hkw.hg
 have q0 : ((bs k.bytes).toList == []) = false := by rw [bs_beq0]; cases k <;> decide
 have q1 : ((bs k.bytes).toList == [120]) = false := by rw [bs_beq0]; cases k <;> decide
 have q2 : ((bs k.bytes).toList == [108, 101, 116]) = false := by rw [bs_beq0]; cases k <;> first | decide | exact absurd rfl hk1
 have q3 : ((bs k.bytes).toList == [105, 102]) = false := by rw [bs_beq0]; cases k <;> first | decide | exact absurd rfl hk2
 have q4 : ((bs k.bytes).toList == [108, 111, 111, 112]) = false := by rw [bs_beq0]; cases k <;> first | decide | exact absurd rfl hk3
 have y1 : w.cell? ⟨yb, 1, none⟩ = some (.int .i64 fuel) := by rw [blk_cell hin.ob.y]; rfl
 have y2 : w.cell? ⟨yb, 2, none⟩ = some (.int .i64 st.steps) := by rw [blk_cell hin.ob.y]; rfl
 have y4 : w.cell? ⟨yb, 4, none⟩ = some (.bool false) := by rw [blk_cell hin.ob.y]; simp [wkCells, he]
 have f2 : w.frozen? ⟨yb, 2, none⟩ = false := blk_free hin.ob.y 2
 have hyl := blk_lt hin.ob.y
 have q9 : ((st.steps : Int) == (fuel : Int)) = false := by rw [beq_eq_false_iff_ne]; omega
 have hss := hs.s
 have hsf := hs.f
 have HK : Hid _ := hka
 have HBG : Hid _ := fun m => hin.begin m
 have HW0 : Hid _ := hin.ob.b0.size
 have H1 : Hid _ := h1
 have H2 : Hid _ := h2
 have HM : Hid _ := hm
 clear hka hkw hx hin henv hs he hev hq hT1 hT2 iha ihd hs' hs2 hs3 hr1 hr2 h1 h2 hm hlen hmd hR hta htd
 go_enter Tryz.func29, Tryz.ntmps29
 go_wp2_with fail
 go_quiet (fail)
 go_wp2_with fail
 have HBQ : Hid _ := HBG.out nq
 have HNQ : Hid _ := blk_newS w nq ⟨yb, 2, none⟩ (.int .i64 ((st.steps : Int) + 1)) arr2
 clear HBG x0 y1 y2 y4 f2
 generalize hQ : w.heap.size = Q at *
 go_loopw [11] (fun i wr => ∃ (j : Nat) (nv4 : Value), i = .int .i64 j ∧ FrO w wr yb nv nv4 ∧ ((j = 0 ∧ WkIn w0 wr yb vals ps fuel { st with steps := st.steps + 1 } nv4 ∧ wr.heap[Q]? = some (two2 (.pointer none) (.pointer none))) ∨ (j = 1 ∧ ∃ p1 : Nat, WkIn w0 wr yb vals ps fuel r1.2 nv4 ∧ wr.heap[Q]? = some (two2 (.pointer (some ⟨p1, 0, none⟩)) (.pointer none)) ∧ KVal wr r1.1 p1) ∨ (j = 2 ∧ ∃ p1 p2 : Nat, WkIn w0 wr yb vals ps fuel r2.2 nv4 ∧ wr.heap[Q]? = some (two2 (.pointer (some ⟨p1, 0, none⟩)) (.pointer (some ⟨p2, 0, none⟩))) ∧ KVal wr r1.1 p1 ∧ KVal wr r2.1 p2))) (fun i _ => 2 - (intOf i).toNat)
 case atStart => exact ⟨0, nv, rfl, HBQ.out.2, Or.inl ⟨rfl, HBQ.out.1, HNQ.out⟩⟩
 case round =>
  obtain ⟨j, nv4, rfl, hfr, hP⟩ := hrel
  have HF : Hid _ := hfr
  rcases hP with ⟨rfl, hin4, hQb⟩ | ⟨rfl, p1, hin4, hQb, hv1⟩ | ⟨rfl, p1, p2, hin4, hQb, hv1, hv2⟩
  ·have hkw := HK.out.on hin4.ob.b0
   have u2 := hkw.c2
   have uk := hkw.ck 0 pa rfl
   have ul1 := hkw.hb
   have ul2 := hkw.hg
   have HI : Hid _ := hin4
   have HQB : Hid _ := hQb
   have HC : Hid _ := H1.out nv4 wr hin4
   clear hfr hin4 hQb hkw
   go_wp2_with fail
   refine Calls.mono HC.out ?_
   rintro _ w2 ⟨r, nv5, rfl, hf5, hi5, hv5⟩
   have hQ2 : w2.heap[Q]? = some (two2 (.pointer none) (.pointer none)) := HI.out.ob.other hf5 (by decide) (by decide) HQB.out
   have ql := blk_lt hQ2
   have qf : w2.frozen? ⟨Q, 0, none⟩ = false := blk_free hQ2 0
   have qc : w2.cell? ⟨Q, 0, none⟩ = some (.pointer none) := by rw [blk_cell hQ2]; rfl
   have hqw0 : w0.heap.size ≤ Q := by have := HW0.out; omega
   have HF5 : Hid _ := (HF.out.trans hf5).setNew (q := Q) (o := 0) (x := .pointer (some ⟨r, 0, none⟩)) (by omega)
   have HI5 : Hid _ := hi5.setElse (o := 0) (x := .pointer (some ⟨r, 0, none⟩)) hQ2 hqw0
   have HV5 : Hid _ := hv5.setElse (o := 0) (x := .pointer (some ⟨r, 0, none⟩)) hQ2
   have HQ5 : Hid ((w2.setCell ⟨Q, 0, none⟩ (.pointer (some ⟨r, 0, none⟩))).heap[Q]? = some (two2 (.pointer (some ⟨r, 0, none⟩)) (.pointer none))) := (blk_set hQ2 0 _).trans rfl
   clear hf5 hi5 hv5 hQ2 HC HI HQB
   go_wp2
   go_roundw
   case rel => exact ⟨1, nv5, by first | rfl | go_num, HF5.out, Or.inr (Or.inl ⟨rfl, r, HI5.out, HQ5.out, HV5.out⟩)⟩
   case measure => simp [intOf]
  ·have hkw := HK.out.on hin4.ob.b0
   have u2 := hkw.c2
   have uk := hkw.ck 1 pd rfl
   have ul1 := hkw.hb
   have ul2 := hkw.hg
   have HI : Hid _ := hin4
   have HQB : Hid _ := hQb
   have HV1 : Hid _ := hv1
   have HC : Hid _ := H2.out nv4 wr hin4
   clear hfr hin4 hQb hkw hv1
   go_wp2_with fail
   refine Calls.mono HC.out ?_
   rintro _ w2 ⟨r, nv5, rfl, hf5, hi5, hv5⟩
   have hQ2 : w2.heap[Q]? = some (two2 (.pointer (some ⟨p1, 0, none⟩)) (.pointer none)) := HI.out.ob.other hf5 (by decide) (by decide) HQB.out
   have ql := blk_lt hQ2
   have qf : w2.frozen? ⟨Q, 1, none⟩ = false := blk_free hQ2 1
   have qc : w2.cell? ⟨Q, 1, none⟩ = some (.pointer none) := by rw [blk_cell hQ2]; rfl
   have hqw0 : w0.heap.size ≤ Q := by have := HW0.out; omega
   have HF5 : Hid _ := (HF.out.trans hf5).setNew (q := Q) (o := 1) (x := .pointer (some ⟨r, 0, none⟩)) (by omega)
   have HI5 : Hid _ := hi5.setElse (o := 1) (x := .pointer (some ⟨r, 0, none⟩)) hQ2 hqw0
   have HV5 : Hid _ := hv5.setElse (o := 1) (x := .pointer (some ⟨r, 0, none⟩)) hQ2
   have HV6 : Hid _ := (HV1.out.fr HI.out.ob hf5).setElse (o := 1) (x := .pointer (some ⟨r, 0, none⟩)) hQ2
   have HQ5 : Hid ((w2.setCell ⟨Q, 1, none⟩ (.pointer (some ⟨r, 0, none⟩))).heap[Q]? = some (two2 (.pointer (some ⟨p1, 0, none⟩)) (.pointer (some ⟨r, 0, none⟩)))) := (blk_set hQ2 1 _).trans rfl
   clear hf5 hi5 hv5 hQ2 HC HI HQB HV1
   go_wp2
   go_roundw
   case rel => exact ⟨2, nv5, by first | rfl | go_num, HF5.out, Or.inr (Or.inr ⟨rfl, p1, r, HI5.out, HQ5.out, HV6.out, HV5.out⟩)⟩
   case measure => simp [intOf]
  ·have hkw := HK.out.on hin4.ob.b0
   have u2 := hkw.c2
   have ul1 := hkw.hb
   have ul2 := hkw.hg
   have e4 : wr.cell? ⟨yb, 4, none⟩ = some (.bool (decide (r2.2.e ≠ 0))) := by rw [blk_cell hin4.ob.y]; rfl
   have hylr := blk_lt hin4.ob.y
   have qa : wr.cell? ⟨Q, 0, none⟩ = some (.pointer (some ⟨p1, 0, none⟩)) := by rw [blk_cell hQb]; rfl
   have qb : wr.cell? ⟨Q, 1, none⟩ = some (.pointer (some ⟨p2, 0, none⟩)) := by rw [blk_cell hQb]; rfl
   have ql := blk_lt hQb
   have HI : Hid _ := hin4
   by_cases he2 : r2.2.e = 0
   ·rw [show decide (r2.2.e ≠ 0) = false by simp [he2]] at e4
    have HC : Hid _ := HM.out nv4 wr p1 p2 he2 hin4 hv1 hv2
    have HR : Hid _ := HRN.out he2
    clear hfr hin4 hQb hkw hv1 hv2 he2
    go_wp2_with fail
    refine Calls.mono HC.out ?_
    rintro _ w2 ⟨r, rfl, hf5, hi5, hv5⟩
    have HF5 : Hid _ := HF.out.trans hf5
    have HI5 : Hid _ := hi5
    have HV5 : Hid _ := hv5
    clear hf5 hi5 hv5 HC
    go_wp2
    go_ret
    rw [HR.out]
    exact ⟨r, nv4, rfl, HF5.out, HI5.out, HV5.out⟩
   ·rw [show decide (r2.2.e ≠ 0) = true by simp [he2]] at e4
    have HR : Hid _ := HRE.out he2
    clear hfr hin4 hQb hkw hv1 hv2 he2
    go_wp2
    go_ret
    rw [HR.out]
    have hbn := below_alZ (Below.refl _ wr) kn0
    exact ⟨wr.heap.size, nv4, rfl, HF.out.trans (FrO.below hbn _ _), HI.out.grow hbn, blk_new wr kn0⟩
set_option maxRecDepth 100000 in
set_option maxHeartbeats 4000000 in
theorem kgo_one {w0 : World} (yb fuel : Nat) (vs : List Nat) (k : Kw) (a : KE) (ta : Nat) (hk1 : k ≠ .let_) (hk2 : k ≠ .if_) (hk3 : k ≠ .loop) (hta : KT vs a ta) (hvl : vs.length ≤ 100) (iha : KGo w0 yb fuel a vs) (hmd : Made1 w0 yb fuel k (tyZ ta)) : KGoN w0 yb fuel (.n1 k a) vs := by
 intro b vals ps st nv w hx hin henv hlen hs he hq
 obtain ⟨c, pa, hka, hT1⟩ := katz1 hx
 have hne : b ≠ yb := by have := hin.ob.hyb; have := hka.hb; omega
 have hgy : c ≠ yb := by have := hin.ob.hyb; have := hka.hg; omega
 have hev : ev fuel ((KE.n1 k a).pt []) (envV vals) st = partsV fuel k [a.pt []] (envV vals) { st with steps := st.steps + 1 } := by
  simp only [KE.pt]
  rw [ev_parts fuel _ k _ _ _ (envV vals) st hk1 hk2 hk3, begun_goZ he hq]
 rw [hev, partsV1]
 have hs' := hs.step hq
 have hr1 := kev_res (fuel := fuel) hta hvl vals { st with steps := st.steps + 1 } (fun _ => henv)
 have h1 := fun nv2 w2 (hin2 : WkIn w0 w2 yb vals ps fuel { st with steps := st.steps + 1 } nv2) => iha pa vals ps { st with steps := st.steps + 1 } nv2 w2 hT1 hin2 (fun _ => henv) hlen hs'
 generalize ev fuel (a.pt []) (envV vals) { st with steps := st.steps + 1 } = r1 at *
 obtain ⟨R, hR⟩ : ∃ R, R = if r1.2.e ≠ 0 then (Vl.n 0, r1.2) else madeV k [r1.1] r1.2 := ⟨_, rfl⟩
 rw [← hR]
 have HRN : Hid (r1.2.e = 0 → R = madeV k [r1.1] r1.2) := fun h => by rw [hR, if_neg (fun g => g h)]
 have HRE : Hid (r1.2.e ≠ 0 → R = (Vl.n 0, r1.2)) := fun h => by rw [hR, if_pos h]
 have hm : ∀ (nv2 : Value) (w2 : World) (p1 : Nat), r1.2.e = 0 → WkIn w0 w2 yb vals ps fuel r1.2 nv2 → KVal w2 r1.1 p1 →
   Calls Tryz.prog 50 #[.pointer (some ⟨yb, 0, none⟩), .pointer (some ⟨b, 0, none⟩), .pointer (some ⟨p1, 0, none⟩), .pointer none] w2 fun e w' => ∃ r, e = .returned (.pointer (some ⟨r, 0, none⟩)) ∧ FrO w2 w' yb nv2 nv2 ∧ WkIn w0 w' yb vals ps fuel (madeV k [r1.1] r1.2).2 nv2 ∧ KVal w' (madeV k [r1.1] r1.2).1 r := by
  intro nv2 w2 p1 e hin2 hv1
  exact hmd b c 0 [pa] vals ps r1.2 nv2 w2 r1.1 p1 hka hin2 (hr1.1 e).2 hv1
 have hkw := hka.on hin.ob.b0
 have x0 := hkw.c0
 have xl1 := hkw.hb
 have xl2 := hkw.hg
 have q0 : ((bs k.bytes).toList == []) = false := by rw [bs_beq0]; cases k <;> decide
 have q1 : ((bs k.bytes).toList == [120]) = false := by rw [bs_beq0]; cases k <;> decide
 have q2 : ((bs k.bytes).toList == [108, 101, 116]) = false := by rw [bs_beq0]; cases k <;> first | decide | exact absurd rfl hk1
 have q3 : ((bs k.bytes).toList == [105, 102]) = false := by rw [bs_beq0]; cases k <;> first | decide | exact absurd rfl hk2
 have q4 : ((bs k.bytes).toList == [108, 111, 111, 112]) = false := by rw [bs_beq0]; cases k <;> first | decide | exact absurd rfl hk3
 have y1 : w.cell? ⟨yb, 1, none⟩ = some (.int .i64 fuel) := by rw [blk_cell hin.ob.y]; rfl
 have y2 : w.cell? ⟨yb, 2, none⟩ = some (.int .i64 st.steps) := by rw [blk_cell hin.ob.y]; rfl
 have y4 : w.cell? ⟨yb, 4, none⟩ = some (.bool false) := by rw [blk_cell hin.ob.y]; simp [wkCells, he]
 have f2 : w.frozen? ⟨yb, 2, none⟩ = false := blk_free hin.ob.y 2
 have hyl := blk_lt hin.ob.y
 have q9 : ((st.steps : Int) == (fuel : Int)) = false := by rw [beq_eq_false_iff_ne]; omega
 have hss := hs.s
 have hsf := hs.f
 have HK : Hid _ := hka
 have HBG : Hid _ := fun m => hin.begin m
 have HW0 : Hid _ := hin.ob.b0.size
 have H1 : Hid _ := h1
 have HM : Hid _ := hm
 clear hka hkw hx hin henv hs he hev hq hT1 iha hs' hr1 h1 hm hlen hmd hR hta
 go_enter Tryz.func29, Tryz.ntmps29
 go_wp2_with fail
 go_quiet (fail)
 go_wp2_with fail
 have HBQ : Hid _ := HBG.out nq
 have HNQ : Hid _ := blk_newS w nq ⟨yb, 2, none⟩ (.int .i64 ((st.steps : Int) + 1)) arr2
 clear HBG x0 y1 y2 y4 f2
 generalize hQ : w.heap.size = Q at *
 go_loopw [11] (fun i wr => ∃ (j : Nat) (nv4 : Value), i = .int .i64 j ∧ FrO w wr yb nv nv4 ∧ ((j = 0 ∧ WkIn w0 wr yb vals ps fuel { st with steps := st.steps + 1 } nv4 ∧ wr.heap[Q]? = some (two2 (.pointer none) (.pointer none))) ∨ (j = 1 ∧ ∃ p1 : Nat, WkIn w0 wr yb vals ps fuel r1.2 nv4 ∧ wr.heap[Q]? = some (two2 (.pointer (some ⟨p1, 0, none⟩)) (.pointer none)) ∧ KVal wr r1.1 p1))) (fun i _ => 1 - (intOf i).toNat)
 case atStart => exact ⟨0, nv, rfl, HBQ.out.2, Or.inl ⟨rfl, HBQ.out.1, HNQ.out⟩⟩
 case round =>
  obtain ⟨j, nv4, rfl, hfr, hP⟩ := hrel
  have HF : Hid _ := hfr
  rcases hP with ⟨rfl, hin4, hQb⟩ | ⟨rfl, p1, hin4, hQb, hv1⟩
  ·have hkw := HK.out.on hin4.ob.b0
   have u2 := hkw.c2
   have uk := hkw.ck 0 pa rfl
   have ul1 := hkw.hb
   have ul2 := hkw.hg
   have HI : Hid _ := hin4
   have HQB : Hid _ := hQb
   have HC : Hid _ := H1.out nv4 wr hin4
   clear hfr hin4 hQb hkw
   go_wp2_with fail
   refine Calls.mono HC.out ?_
   rintro _ w2 ⟨r, nv5, rfl, hf5, hi5, hv5⟩
   have hQ2 : w2.heap[Q]? = some (two2 (.pointer none) (.pointer none)) := HI.out.ob.other hf5 (by decide) (by decide) HQB.out
   have ql := blk_lt hQ2
   have qf : w2.frozen? ⟨Q, 0, none⟩ = false := blk_free hQ2 0
   have qc : w2.cell? ⟨Q, 0, none⟩ = some (.pointer none) := by rw [blk_cell hQ2]; rfl
   have hqw0 : w0.heap.size ≤ Q := by have := HW0.out; omega
   have HF5 : Hid _ := (HF.out.trans hf5).setNew (q := Q) (o := 0) (x := .pointer (some ⟨r, 0, none⟩)) (by omega)
   have HI5 : Hid _ := hi5.setElse (o := 0) (x := .pointer (some ⟨r, 0, none⟩)) hQ2 hqw0
   have HV5 : Hid _ := hv5.setElse (o := 0) (x := .pointer (some ⟨r, 0, none⟩)) hQ2
   have HQ5 : Hid ((w2.setCell ⟨Q, 0, none⟩ (.pointer (some ⟨r, 0, none⟩))).heap[Q]? = some (two2 (.pointer (some ⟨r, 0, none⟩)) (.pointer none))) := (blk_set hQ2 0 _).trans rfl
   clear hf5 hi5 hv5 hQ2 HC HI HQB
   go_wp2
   go_roundw
   case rel => exact ⟨1, nv5, by first | rfl | go_num, HF5.out, Or.inr ⟨rfl, r, HI5.out, HQ5.out, HV5.out⟩⟩
   case measure => simp [intOf]
  ·have hkw := HK.out.on hin4.ob.b0
   have u2 := hkw.c2
   have ul1 := hkw.hb
   have ul2 := hkw.hg
   have e4 : wr.cell? ⟨yb, 4, none⟩ = some (.bool (decide (r1.2.e ≠ 0))) := by rw [blk_cell hin4.ob.y]; rfl
   have hylr := blk_lt hin4.ob.y
   have qa : wr.cell? ⟨Q, 0, none⟩ = some (.pointer (some ⟨p1, 0, none⟩)) := by rw [blk_cell hQb]; rfl
   have qb : wr.cell? ⟨Q, 1, none⟩ = some (.pointer none) := by rw [blk_cell hQb]; rfl
   have ql := blk_lt hQb
   have HI : Hid _ := hin4
   by_cases he2 : r1.2.e = 0
   ·rw [show decide (r1.2.e ≠ 0) = false by simp [he2]] at e4
    have HC : Hid _ := HM.out nv4 wr p1 he2 hin4 hv1
    have HR : Hid _ := HRN.out he2
    clear hfr hin4 hQb hkw hv1 he2
    go_wp2_with fail
    refine Calls.mono HC.out ?_
    rintro _ w2 ⟨r, rfl, hf5, hi5, hv5⟩
    have HF5 : Hid _ := HF.out.trans hf5
    have HI5 : Hid _ := hi5
    have HV5 : Hid _ := hv5
    clear hf5 hi5 hv5 HC
    go_wp2
    go_ret
    rw [HR.out]
    exact ⟨r, nv4, rfl, HF5.out, HI5.out, HV5.out⟩
   ·rw [show decide (r1.2.e ≠ 0) = true by simp [he2]] at e4
    have HR : Hid _ := HRE.out he2
    clear hfr hin4 hQb hkw hv1 he2
    go_wp2
    go_ret
    rw [HR.out]
    have hbn := below_alZ (Below.refl _ wr) kn0
    exact ⟨wr.heap.size, nv4, rfl, HF.out.trans (FrO.below hbn _ _), HI.out.grow hbn, blk_new wr kn0⟩
theorem kgo_any {w0 : World} (yb fuel : Nat) : ∀ {vs : List Nat} {x : KE} {t : Nat}, KT vs x t → vs.length ≤ 100 → KGo w0 yb fuel x vs := by
 intro vs x t h
 induction h with
 | num _ => intro _; exact go1_of (kgo_num yb fuel _ _)
 | var h => intro hl; exact go1_of (kgo_var yb fuel _ _ (List.getElem?_eq_some_iff.1 h).1 (by omega))
 | let_ _ hl h1 _ ha hb => intro _; exact go1_of (kgo_let yb fuel _ _ _ _ h1 hl (ha (by omega)) (hb (by simp; omega)))
 | if_ h1 _ _ ha hb hc => intro hl; exact go1_of (kgo_if yb fuel _ _ _ _ h1 hl (ha hl) (hb hl) (hc hl))
 | loop hl h1 h2 h3 ha hb hc => intro _; exact go1_of (kgo_loop yb fuel _ _ _ _ _ h1 h2 h3 hl (ha (by omega)) (hb (by omega)) (hc (by simp; omega)))
 | pair _ _ h1 h2 ha hb => intro hl; exact go1_of (kgo_two yb fuel _ .pair 0 _ _ _ _ (by decide) (by decide) (by decide) h1 h2 hl (ha hl) (hb hl) (madeZ_pair yb fuel _ _))
 | fst h0 hp h1 ha => intro hl; exact go1_of (kgo_one yb fuel _ .fst _ _ (by decide) (by decide) (by decide) h1 hl (ha hl) (by rw [tyZ_pair hp h0]; exact madeZ_fst yb fuel _ _ _))
 | snd h0 hp h1 ha => intro hl; exact go1_of (kgo_one yb fuel _ .snd _ _ (by decide) (by decide) (by decide) h1 hl (ha hl) (by rw [tyZ_pair hp h0]; exact madeZ_snd yb fuel _ _ _))
 | two hk h1 h2 ha hb =>
  intro hl
  rcases hk with rfl | rfl | rfl
  ·exact go1_of (kgo_two yb fuel _ .add 0 _ _ _ _ (by decide) (by decide) (by decide) h1 h2 hl (ha hl) (hb hl) (madeZ_add yb fuel))
  ·exact go1_of (kgo_two yb fuel _ .sub 0 _ _ _ _ (by decide) (by decide) (by decide) h1 h2 hl (ha hl) (hb hl) (madeZ_sub yb fuel))
  ·exact go1_of (kgo_two yb fuel _ .less 0 _ _ _ _ (by decide) (by decide) (by decide) h1 h2 hl (ha hl) (hb hl) (madeZ_less yb fuel))
end Go.Proofs.YtpicaknklgccoabGreatDoor
namespace Go.Proofs.YtpicaknklgccoabGreatDoor
open Go.RowKit
theorem ibeq_false' {a : Nat} (h : a ≠ 0) : ((a : Int) == 0) = false := by rw [beq_eq_false_iff_ne]; omega
def mvL (v : MV) : List Value := [.bool v.c, .int .i64 v.n]
def mvV (v : MV) : Value := .agg #[.bool v.c, .int .i64 v.n]
def mcL (c : MC) : List Value := [.bool c.a.c, .int .i64 c.a.n, .bool c.b.c, .int .i64 c.b.n, .int .i64 c.home, .int .i64 c.ser]
def mcV (c : MC) : Value := .agg #[.bool c.a.c, .int .i64 c.a.n, .bool c.b.c, .int .i64 c.b.n, .int .i64 c.home, .int .i64 c.ser]
def mrL (r : MR) : List Value := [.int .i64 r.num, .int .i64 r.ser, .int .i64 r.cells]
def mmCells (tn to_ : Value) (fuel : Nat) (nv cv rv : Value) (m : MM) : Array Value := #[tn, to_, .int .i64 fuel, .int .i64 m.steps, .int .i64 m.fault, nv, cv, rv, .int .i64 m.opened, .int .i64 m.live, .int .i64 m.most]
structure MIn (mb : Nat) (w : World) (tn to_ : Value) (fuel : Nat) (nv cv rv : Value) (m : MM) : Prop where
 y : w.heap[mb]? = some (.cells (mmCells tn to_ fuel nv cv rv m) 120 (0, 0))
 nm : w.ownsRow 0 122 2 nv m.named.length (m.named.flatMap mvL)
 cl : w.ownsRow 0 154 6 cv m.cells.length (m.cells.flatMap mcL)
 rg : w.ownsRow 0 151 3 rv m.regs.length (m.regs.flatMap mrL)
 ny : nv.ownBlock ≠ some mb
 cy : cv.ownBlock ≠ some mb
 ry : rv.ownBlock ≠ some mb
 nc : apart nv cv
 nr : apart nv rv
 cr : apart cv rv
theorem MIn.slt {mb : Nat} {w : World} {tn to_ : Value} {fuel : Nat} {nv cv rv : Value} {m : MM} (h : MIn mb w tn to_ fuel nv cv rv m) :
  (∀ k, nv.ownBlock = some k → k < w.heap.size) ∧ (∀ k, cv.ownBlock = some k → k < w.heap.size) ∧ (∀ k, rv.ownBlock = some k → k < w.heap.size) ∧ mb < w.heap.size :=
 ⟨fun k hk => (h.nm.lt k hk).2, fun k hk => (h.cl.lt k hk).2, fun k hk => (h.rg.lt k hk).2, blk_lt h.y⟩
theorem MIn.below {mb : Nat} {w w' : World} {tn to_ : Value} {fuel : Nat} {nv cv rv : Value} {m : MM} (h : MIn mb w tn to_ fuel nv cv rv m) (hb : Below w.heap.size w w') : MIn mb w' tn to_ fuel nv cv rv m :=
 ⟨by rw [hb.block mb h.slt.2.2.2]; exact h.y, owns_below h.nm hb, owns_below h.cl hb, owns_below h.rg hb, h.ny, h.cy, h.ry, h.nc, h.nr, h.cr⟩
theorem MIn.scal {mb : Nat} {w : World} {tn to_ : Value} {fuel : Nat} {nv cv rv : Value} {m : MM} (h : MIn mb w tn to_ fuel nv cv rv m) (m' : MM) (i : Nat) (u : Value)
  (h1 : m'.named = m.named) (h2 : m'.cells = m.cells) (h3 : m'.regs = m.regs) (ha : (mmCells tn to_ fuel nv cv rv m).setIfInBounds i u = mmCells tn to_ fuel nv cv rv m') :
  PFr mb mb w (w.setCell ⟨mb, i, none⟩ u) nv cv rv nv cv rv ∧ MIn mb (w.setCell ⟨mb, i, none⟩ u) tn to_ fuel nv cv rv m' := by
 have kp : ∀ k, k ≠ mb → (w.setCell ⟨mb, i, none⟩ u).heap[k]? = w.heap[k]? := fun k hk => blk_other _ _ (by simpa using hk)
 refine ⟨⟨rfl, rfl, rfl, by simp only [World.setCell, Array.size_modify]; omega, fun k _ hp _ _ _ _ => kp k hp, fun _ h => Or.inl h, fun _ h => Or.inl h, fun _ h => Or.inl h⟩, ?_⟩
 refine ⟨by rw [← ha]; exact blk_set h.y i u, ?_, ?_, ?_, h.ny, h.cy, h.ry, h.nc, h.nr, h.cr⟩
 ·rw [h1]; exact owns_blk h.nm (fun k hk => kp k (fun e => h.ny (by rw [hk, e])))
 ·rw [h2]; exact owns_blk h.cl (fun k hk => kp k (fun e => h.cy (by rw [hk, e])))
 ·rw [h3]; exact owns_blk h.rg (fun k hk => kp k (fun e => h.ry (by rw [hk, e])))
theorem mm_cells {mb : Nat} {w : World} {tn to_ : Value} {fuel : Nat} {nv cv rv : Value} {m : MM} (h : w.heap[mb]? = some (.cells (mmCells tn to_ fuel nv cv rv m) 120 (0, 0))) :
  w.cell? ⟨mb, 2, none⟩ = some (.int .i64 fuel) ∧ w.cell? ⟨mb, 3, none⟩ = some (.int .i64 m.steps) ∧ w.cell? ⟨mb, 4, none⟩ = some (.int .i64 m.fault) ∧ w.cell? ⟨mb, 5, none⟩ = some nv ∧ w.cell? ⟨mb, 6, none⟩ = some cv ∧ w.cell? ⟨mb, 7, none⟩ = some rv ∧
  w.cell? ⟨mb, 8, none⟩ = some (.int .i64 m.opened) ∧ w.cell? ⟨mb, 9, none⟩ = some (.int .i64 m.live) ∧ w.cell? ⟨mb, 10, none⟩ = some (.int .i64 m.most) := by
 refine ⟨?_, ?_, ?_, ?_, ?_, ?_, ?_, ?_, ?_⟩ <;> (rw [blk_cell h]; rfl)
set_option maxRecDepth 100000 in
set_option maxHeartbeats 1000000 in
theorem stop_any (mb : Nat) (w : World) (tn to_ : Value) (fuel : Nat) (nv cv rv : Value) (m : MM) (f : Nat) (h : MIn mb w tn to_ fuel nv cv rv m) :
  Calls Tryz.prog 108 #[ptr mb, .int .i64 f] w fun e w' => e = .returned (.tuple #[]) ∧ PFr mb mb w w' nv cv rv nv cv rv ∧ MIn mb w' tn to_ fuel nv cv rv (m.stop f) := by
 obtain ⟨_, _, y4, _⟩ := mm_cells h.y
 have f4 : w.frozen? ⟨mb, 4, none⟩ = false := blk_free h.y 4
 have hmb := blk_lt h.y
 unfold ptr
 by_cases hz : m.fault = 0
 ·have hs : m.stop f = { m with fault := f } := by unfold MM.stop; rw [if_pos hz]
  have hd := h.scal { m with fault := f } 4 (.int .i64 f) rfl rfl rfl rfl
  rw [hs]
  rw [hz] at y4
  have HD : Hid _ := hd
  clear h hd hs hz
  go_enter Tryz.func108, Tryz.ntmps108
  go_wp2
  refine bodyPost_end (v := .tuple #[]) (by simp [results, Tryz.results108, go_sem]) rfl ⟨rfl, HD.out⟩
 ·have hs : m.stop f = m := by unfold MM.stop; rw [if_neg hz]
  rw [hs]
  have q : ((m.fault : Int) == 0) = false := ibeq_false' hz
  have HD : Hid _ := h
  clear h hs hz
  go_enter Tryz.func108, Tryz.ntmps108
  go_wp2
  refine bodyPost_end (v := .tuple #[]) (by simp [results, Tryz.results108, go_sem]) rfl ⟨rfl, PFr.refl _ _ _ _ _ _, HD.out⟩
theorem flat_at {α : Type} (f : α → List Value) (s : Nat) (hs : ∀ x, (f x).length = s) : ∀ (l : List α) (i j : Nat), j < s → (l.flatMap f)[i * s + j]? = (l[i]?).bind (fun x => (f x)[j]?)
 | [], i, j, _ => by simp
 | x :: l, 0, j, hj => by
  rw [List.flatMap_cons, Nat.zero_mul, Nat.zero_add, List.getElem?_append_left (by rw [hs]; exact hj)]; simp
 | x :: l, i + 1, j, hj => by
  rw [List.flatMap_cons, List.getElem?_append_right (by rw [hs, Nat.succ_mul]; omega), hs, show (i + 1) * s + j - s = i * s + j from by rw [Nat.succ_mul]; omega, flat_at f s hs l i j hj]; simp
theorem slice_of' {w : World} {base : Nat} {e : TypeId} {size : Nat} {v : Value} {n : Nat} {xs : List Value} (h : w.ownsRow base e size v n xs) (hn : 0 < n) : ∃ g cap, v = .slice (some ⟨g, 0, none⟩) n cap := by
 rcases h.2 with ⟨_, h2⟩ | ⟨g, cap, cur, h1, _⟩
 ·omega
 ·exact ⟨g, cap, h1⟩
theorem slice_any' {w : World} {base : Nat} {e : TypeId} {size : Nat} {v : Value} {n : Nat} {xs : List Value} (h : w.ownsRow base e size v n xs) : ∃ a cap, v = .slice a n cap := by
 rcases h.2 with ⟨h1, h2⟩ | ⟨g, cap, cur, h1, _⟩
 ·exact ⟨none, 0, by rw [h1, h2]⟩
 ·exact ⟨_, _, h1⟩
theorem named_cells {w : World} {l : List MV} {g cap : Nat} (h : w.ownsRow 0 122 2 (.slice (some ⟨g, 0, none⟩) l.length cap) l.length (l.flatMap mvL)) (k : Nat) (hk : k < l.length) :
  w.cell? ⟨g, k * 2, none⟩ = some (.bool l[k].c) ∧ w.cell? ⟨g, k * 2 + 1, none⟩ = some (.int .i64 l[k].n) := by
 have key : ∀ j, j < 2 → w.cell? ⟨g, k * 2 + j, none⟩ = (mvL l[k])[j]? := by
  intro j hj
  rw [h.cellAt (k * 2 + j) (by omega), flat_at mvL 2 (fun _ => rfl) l k j hj, List.getElem?_eq_getElem hk]; rfl
 exact ⟨key 0 (by omega), key 1 (by omega)⟩
set_option maxRecDepth 100000 in
set_option maxHeartbeats 2000000 in
theorem look_any (mb : Nat) (w : World) (tn to_ : Value) (fuel : Nat) (nv cv rv : Value) (m : MM) (i : Int) (hi : -10000 ≤ i ∧ i ≤ 10000) (hl : m.named.length ≤ 9000) (h : MIn mb w tn to_ fuel nv cv rv m) :
  Calls Tryz.prog 109 #[ptr mb, .int .i64 i] w fun e w' => e = .returned (mvV (m.look i)) ∧ Below w.heap.size w w' := by
 obtain ⟨_, _, _, y5, _⟩ := mm_cells h.y
 have hmb := blk_lt h.y
 unfold ptr
 by_cases hc : i < 0 ∨ (m.named.length : Int) ≤ i
 ·have hs : m.look i = v0 := by unfold MM.look; rw [if_pos hc]
  rw [hs]
  obtain ⟨ao, cap, rfl⟩ := slice_any' h.nm
  clear h hs
  unfold mvV v0
  generalize m.named.length = n at *
  rcases hc with hc | hc
  ·go_enter Tryz.func109, Tryz.ntmps109
   go_wp2
   refine bodyPost_ret (v := .agg #[.bool false, .int .i64 0]) (by simp [results, Tryz.results109, go_sem]) rfl ⟨rfl, (Below.refl _ _).alloc (Nat.le_refl _) _⟩
  ·have hc2 : ¬ i < 0 := by omega
   go_enter Tryz.func109, Tryz.ntmps109
   go_wp2
   refine bodyPost_ret (v := .agg #[.bool false, .int .i64 0]) (by simp [results, Tryz.results109, go_sem]) rfl ⟨rfl, (Below.refl _ _).alloc (Nat.le_refl _) _⟩
 ·obtain ⟨k, rfl⟩ : ∃ k : Nat, i = k := ⟨i.toNat, by omega⟩
  have hk : k < m.named.length := by omega
  obtain ⟨g, cap, rfl⟩ := slice_of' h.nm (by omega)
  obtain ⟨c0, c1⟩ := named_cells h.nm k hk
  have hg : g < w.heap.size := (h.nm.lt g rfl).2
  have hs : m.look k = m.named[k] := by
   unfold MM.look
   rw [if_neg (by omega)]
   simp [List.getD_eq_getElem?_getD, hk]
  rw [hs]
  clear h hs hc
  unfold mvV
  generalize m.named[k] = v at *
  generalize m.named.length = n at *
  go_enter Tryz.func109, Tryz.ntmps109
  go_wp2
  refine bodyPost_ret (v := .agg #[.bool v.c, .int .i64 v.n]) (by simp [results, Tryz.results109, go_sem]) rfl ⟨rfl, (Below.refl _ _).alloc (Nat.le_refl _) _⟩
theorem below_ad (W : World) (B : Obj) : Below W.heap.size W (W.alloc B).drew := ((Below.refl _ W).alloc (Nat.le_refl _) B).trans ⟨rfl, rfl, rfl, Nat.le_refl _, fun _ _ => rfl⟩
theorem set2 {xs : List Value} {f : MV → List Value} {l : List MV} {k : Nat} {v : MV} (hx : xs = l.flatMap f) (hs : ∀ x, (f x).length = 2) (a b : Value) (hf : f v = [a, b]) (hk : k < l.length) : (xs.set (k * 2) a).set (k * 2 + 1) b = (l.set k v).flatMap f := by
 subst hx
 apply List.ext_getElem?
 intro i
 have hlen : (l.flatMap f).length = l.length * 2 := by
  clear hk
  induction l with
  | nil => rfl
  | cons x l ih => simp only [List.flatMap_cons, List.length_append, hs, ih, List.length_cons]; omega
 have key := flat_at f 2 hs (l.set k v) (i / 2) (i % 2) (Nat.mod_lt _ (by omega))
 have key0 := flat_at f 2 hs l (i / 2) (i % 2) (Nat.mod_lt _ (by omega))
 rw [show i / 2 * 2 + i % 2 = i from by omega] at key key0
 rw [key]
 by_cases hik : i / 2 = k
 ·rw [hik, List.getElem?_set_self hk]
  simp only [Option.bind_some, hf]
  rcases (show i = k * 2 ∨ i = k * 2 + 1 by omega) with rfl | rfl
  ·rw [List.getElem?_set_ne (by omega), List.getElem?_set_self (by omega)]
   rw [show k * 2 % 2 = 0 from by omega]; rfl
  ·rw [List.getElem?_set_self (by rw [List.length_set, hlen]; omega)]
   rw [show (k * 2 + 1) % 2 = 1 from by omega]; rfl
 ·rw [List.getElem?_set_ne (by omega), List.getElem?_set_ne (by omega), key0, List.getElem?_set_ne (fun e => hik e.symm)]
theorem MIn.setV {mb : Nat} {w : World} {tn to_ : Value} {fuel : Nat} {cv rv : Value} {m : MM} {g cap : Nat} (h : MIn mb w tn to_ fuel (.slice (some ⟨g, 0, none⟩) m.named.length cap) cv rv m) (k : Nat) (v : MV) (hk : k < m.named.length) :
  PFr mb mb w ((w.setCell ⟨g, k * 2, none⟩ (.bool v.c)).setCell ⟨g, k * 2 + 1, none⟩ (.int .i64 v.n)) (.slice (some ⟨g, 0, none⟩) m.named.length cap) cv rv (.slice (some ⟨g, 0, none⟩) m.named.length cap) cv rv ∧
  MIn mb ((w.setCell ⟨g, k * 2, none⟩ (.bool v.c)).setCell ⟨g, k * 2 + 1, none⟩ (.int .i64 v.n)) tn to_ fuel (.slice (some ⟨g, 0, none⟩) m.named.length cap) cv rv { m with named := m.named.set k v } := by
 have hgp : g ≠ mb := fun e => h.ny (by rw [e]; rfl)
 have kp : ∀ k', k' ≠ g → ((w.setCell ⟨g, k * 2, none⟩ (.bool v.c)).setCell ⟨g, k * 2 + 1, none⟩ (.int .i64 v.n)).heap[k']? = w.heap[k']? := fun k' hk => by rw [blk_other _ _ (by simpa using hk), blk_other _ _ (by simpa using hk)]
 have h1 := (h.nm.stored (k * 2) (.bool v.c)).1
 have h2 := (h1.stored (k * 2 + 1) (.int .i64 v.n)).1
 rw [set2 (v := v) rfl (fun _ => rfl) (.bool v.c) (.int .i64 v.n) rfl hk] at h2
 refine ⟨⟨rfl, rfl, rfl, by simp only [World.setCell, Array.size_modify]; omega, fun k' _ _ _ hs _ _ => kp k' (fun e => hs (by rw [e]; rfl)), fun _ h => Or.inl h, fun _ h => Or.inl h, fun _ h => Or.inl h⟩, ?_⟩
 refine ⟨by rw [kp mb (fun e => hgp e.symm)]; exact h.y, by simp only [List.length_set]; exact h2, owns_blk h.cl (fun k' hk => kp k' (fun e => h.nc g rfl (by rw [← e]; exact hk))), owns_blk h.rg (fun k' hk => kp k' (fun e => h.nr g rfl (by rw [← e]; exact hk))), h.ny, h.cy, h.ry, h.nc, h.nr, h.cr⟩
set_option maxRecDepth 100000 in
set_option maxHeartbeats 2000000 in
theorem name_any (mb : Nat) (w : World) (tn to_ : Value) (fuel : Nat) (nv cv rv : Value) (m : MM) (i : Int) (v : MV) (hi : -10000 ≤ i ∧ i ≤ 10000) (hl : m.named.length ≤ 9000) (h : MIn mb w tn to_ fuel nv cv rv m) :
  Calls Tryz.prog 125 #[ptr mb, .int .i64 i, mvV v] w fun e w' => e = .returned (.tuple #[]) ∧ PFr mb mb w w' nv cv rv nv cv rv ∧ MIn mb w' tn to_ fuel nv cv rv (m.name i v) := by
 obtain ⟨B, hB⟩ : ∃ B : Obj, B = .cells #[.bool v.c, .int .i64 v.n] 122 := ⟨_, rfl⟩
 have h' := h.below ((Below.refl _ w).alloc (Nat.le_refl _) B)
 have hfr : PFr mb mb w (w.alloc B) nv cv rv nv cv rv := PFr.below mb mb nv cv rv ((Below.refl _ w).alloc (Nat.le_refl _) B)
 obtain ⟨_, _, _, y5, _⟩ := mm_cells h.y
 have hmb := blk_lt h.y
 unfold ptr mvV
 by_cases hc : 0 ≤ i ∧ i < m.named.length
 ·obtain ⟨k, rfl⟩ : ∃ k : Nat, i = k := ⟨i.toNat, by omega⟩
  have hk : k < m.named.length := by omega
  have hs : m.name k v = { m with named := m.named.set k v } := by unfold MM.name; rw [if_pos hc]; rfl
  rw [hs]
  obtain ⟨g, cap, rfl⟩ := slice_of' h.nm (by omega)
  have hset := h.setV k v hk
  have f0 := h.nm.frozenAt (k * 2)
  have f1 := h.nm.frozenAt (k * 2 + 1)
  obtain ⟨c0, c1⟩ := named_cells h.nm k hk
  have hg : g < w.heap.size := (h.nm.lt g rfl).2
  have HD : Hid _ := hset
  clear h h' hset hs hfr
  subst hB
  generalize m.named[k] = u at c0 c1
  generalize m.named.length = n at *
  go_enter Tryz.func125, Tryz.ntmps125
  go_wp2
  go_region
  all_goals
   go_wp2
   refine bodyPost_end (v := .tuple #[]) (by simp [results, Tryz.results125, go_sem]) rfl ⟨rfl, ?_⟩
   exact ⟨HD.out.1.trans (PFr.below mb mb _ _ _ (below_ad _ _)), HD.out.2.below (below_ad _ _)⟩
 ·have hs : m.name i v = m := by unfold MM.name; rw [if_neg hc]
  rw [hs]
  obtain ⟨ao, cap, rfl⟩ := slice_any' h.nm
  have HD : Hid _ := h'
  have HF : Hid _ := hfr
  clear h h' hs hfr
  subst hB
  have hc' : i < 0 ∨ (0 ≤ i ∧ (m.named.length : Int) ≤ i) := by omega
  generalize m.named.length = n at *
  clear hc
  rcases hc' with hc | ⟨hc1, hc2⟩
  all_goals
   go_enter Tryz.func125, Tryz.ntmps125
   go_wp2
   refine bodyPost_end (v := .tuple #[]) (by simp [results, Tryz.results125, go_sem]) rfl ⟨rfl, HF.out, HD.out⟩
theorem regs_cells {w : World} {l : List MR} {g cap : Nat} (h : w.ownsRow 0 151 3 (.slice (some ⟨g, 0, none⟩) l.length cap) l.length (l.flatMap mrL)) (k : Nat) (r : MR) (hr : l[k]? = some r) :
  w.cell? ⟨g, k * 3, none⟩ = some (.int .i64 r.num) ∧ w.cell? ⟨g, k * 3 + 1, none⟩ = some (.int .i64 r.ser) ∧ w.cell? ⟨g, k * 3 + 2, none⟩ = some (.int .i64 r.cells) := by
 have hk := (List.getElem?_eq_some_iff.1 hr).1
 have key : ∀ j, j < 3 → w.cell? ⟨g, k * 3 + j, none⟩ = (mrL r)[j]? := by
  intro j hj
  rw [h.cellAt (k * 3 + j) (by omega), flat_at mrL 3 (fun _ => rfl) l k j hj, hr]; rfl
 exact ⟨key 0 (by omega), key 1 (by omega), key 2 (by omega)⟩
theorem cells_cells {w : World} {l : List MC} {g cap : Nat} (h : w.ownsRow 0 154 6 (.slice (some ⟨g, 0, none⟩) l.length cap) l.length (l.flatMap mcL)) (k : Nat) (c : MC) (hr : l[k]? = some c) :
  w.cell? ⟨g, k * 6, none⟩ = some (.bool c.a.c) ∧ w.cell? ⟨g, k * 6 + 1, none⟩ = some (.int .i64 c.a.n) ∧ w.cell? ⟨g, k * 6 + 2, none⟩ = some (.bool c.b.c) ∧ w.cell? ⟨g, k * 6 + 3, none⟩ = some (.int .i64 c.b.n) ∧ w.cell? ⟨g, k * 6 + 4, none⟩ = some (.int .i64 c.home) ∧ w.cell? ⟨g, k * 6 + 5, none⟩ = some (.int .i64 c.ser) := by
 have hk := (List.getElem?_eq_some_iff.1 hr).1
 have key : ∀ j, j < 6 → w.cell? ⟨g, k * 6 + j, none⟩ = (mcL c)[j]? := by
  intro j hj
  rw [h.cellAt (k * 6 + j) (by omega), flat_at mcL 6 (fun _ => rfl) l k j hj, hr]; rfl
 exact ⟨key 0 (by omega), key 1 (by omega), key 2 (by omega), key 3 (by omega), key 4 (by omega), key 5 (by omega)⟩
theorem below_dn {W w : World} {n : Nat} {b : Nat} (h : Below b W w) : Below b W (w.drewN n) := h.trans ⟨rfl, rfl, rfl, Nat.le_refl _, fun _ _ => rfl⟩
set_option maxRecDepth 100000 in
set_option maxHeartbeats 4000000 in
theorem isLive_any (mb : Nat) (w : World) (tn to_ : Value) (fuel : Nat) (nv cv rv : Value) (m : MM) (c : MC) (hl : m.regs.length ≤ 20000) (hh : c.home ≤ 20000) (h : MIn mb w tn to_ fuel nv cv rv m) :
  Calls Tryz.prog 116 #[ptr mb, mcV c] w fun e w' => e = .returned (.bool (m.isLive c)) ∧ Below w.heap.size w w' := by
 obtain ⟨_, _, _, _, _, y7, _⟩ := mm_cells h.y
 have hmb := blk_lt h.y
 have hd0 : (0 : Int) ≤ (c.home : Int) := by omega
 unfold ptr mcV
 cases hr : m.regs[c.home]? with
 | none =>
  have hs : m.isLive c = false := by unfold MM.isLive; rw [hr]
  rw [hs]
  have hn : m.regs.length ≤ c.home := by simpa using hr
  obtain ⟨ao, cap, rfl⟩ := slice_any' h.rg
  have hd : decide ((c.home : Int) < (m.regs.length : Int)) = false := decide_eq_false (by omega)
  have hd2 : decide (c.home < m.regs.length) = false := decide_eq_false (by omega)
  clear h hs hr
  generalize m.regs.length = n at *
  go_enter Tryz.func116, Tryz.ntmps116
  go_wp2
  go_quiet (fail)
  go_wp2
  go_ret
  exact ⟨rfl, below_dn ((Below.refl _ _).alloc (Nat.le_refl _) _)⟩
 | some r =>
  have hk := (List.getElem?_eq_some_iff.1 hr).1
  obtain ⟨g, cap, rfl⟩ := slice_of' h.rg (by omega)
  obtain ⟨_, r1, _⟩ := regs_cells h.rg c.home r hr
  have hg : g < w.heap.size := (h.rg.lt g rfl).2
  have hd : (c.home : Int) < (m.regs.length : Int) := by omega
  obtain ⟨b, hb⟩ : ∃ b, ((r.ser : Int) == (c.ser : Int)) = b := ⟨_, rfl⟩
  have hs : m.isLive c = b := by
   unfold MM.isLive; rw [hr]
   simp only
   rw [← hb, Bool.eq_iff_iff, beq_iff_eq, beq_iff_eq]
   omega
  rw [hs]
  clear h hs hr
  generalize m.regs.length = n at *
  go_enter Tryz.func116, Tryz.ntmps116
  go_wp2
  go_quiet (fail)
  go_wp2
  go_ret
  exact ⟨rfl, below_dn ((Below.refl _ _).alloc (Nat.le_refl _) _)⟩
theorem below_al {w W : World} (h : Below w.heap.size w W) (o : Obj) : Below w.heap.size w (W.alloc o) := h.alloc h.size o
theorem below_d {W w : World} {b : Nat} (h : Below b W w) : Below b W w.drew := h.trans ⟨rfl, rfl, rfl, Nat.le_refl _, fun _ _ => rfl⟩
theorem blk_new2 (w : World) (A O : Obj) (n : Nat) : (((w.alloc A).alloc O).drewN n).heap[w.heap.size + 1]? = some O := by
 have := blk_new (w.alloc A) O
 simpa using this
theorem below_set {w W : World} (h : Below w.heap.size w W) (a : Addr) (ha : w.heap.size ≤ a.block) (u : Value) : Below w.heap.size w (W.setCell a u) := h.setCell (p := a) ha u
theorem below_set' {b : Nat} {w W : World} (h : Below b w W) (a : Addr) (ha : b ≤ a.block) (u : Value) : Below b w (W.setCell a u) := h.setCell (p := a) ha u
theorem MIn.upto {mb b : Nat} {w w' : World} {tn to_ : Value} {fuel : Nat} {nv cv rv : Value} {m : MM} (h : MIn mb w tn to_ fuel nv cv rv m) (h1 : mb < b) (h2 : ∀ k, nv.ownBlock = some k → k < b) (h3 : ∀ k, cv.ownBlock = some k → k < b) (h4 : ∀ k, rv.ownBlock = some k → k < b) (hb : Below b w w') : MIn mb w' tn to_ fuel nv cv rv m :=
 ⟨by rw [hb.block mb h1]; exact h.y, owns_blk h.nm (fun k hk => hb.block k (h2 k hk)), owns_blk h.cl (fun k hk => hb.block k (h3 k hk)), owns_blk h.rg (fun k hk => hb.block k (h4 k hk)), h.ny, h.cy, h.ry, h.nc, h.nr, h.cr⟩
theorem PFr.upto {mb : Nat} {w w1 w2 : World} {nv cv rv nv' cv' rv' : Value} (h : PFr mb mb w w1 nv cv rv nv' cv' rv') (hb : Below w.heap.size w1 w2) : PFr mb mb w w2 nv cv rv nv' cv' rv' :=
 ⟨hb.os.trans h.os, hb.tape.trans h.tape, hb.output.trans h.output, Nat.le_trans h.size hb.size, fun k hk a b c d e => (hb.block k hk).trans (h.blk k hk a b c d e), h.s, h.n, h.o⟩
theorem mc_cells {w : World} {b : Nat} {c : MC} (h : w.heap[b]? = some (.cells #[.bool c.a.c, .int .i64 c.a.n, .bool c.b.c, .int .i64 c.b.n, .int .i64 c.home, .int .i64 c.ser] 154)) :
  w.cell? ⟨b, 0, none⟩ = some (.bool c.a.c) ∧ w.cell? ⟨b, 1, none⟩ = some (.int .i64 c.a.n) ∧ w.cell? ⟨b, 2, none⟩ = some (.bool c.b.c) ∧ w.cell? ⟨b, 3, none⟩ = some (.int .i64 c.b.n) ∧ w.cell? ⟨b, 4, none⟩ = some (.int .i64 c.home) ∧ w.cell? ⟨b, 5, none⟩ = some (.int .i64 c.ser) := by
 refine ⟨?_, ?_, ?_, ?_, ?_, ?_⟩ <;> (rw [blk_cell h]; rfl)
theorem Tryz.infoCell : (Tryz.prog.info? 154).map (·.size) = some 6 := by kernel_rfl
theorem store_cell {ops : Array Oper} {rest : List Oper} {o : Oper} {a : Act} {w : World} {Q : Exit → Act → World → Prop} (hgd : o.guard = none) (x y : Operand) (ho : o.op = .store 154 x y) (hd : o.dst = none)
  (g : Nat) (c d : MC) (hx : a.eval x = .pointer (some ⟨g, 0, none⟩)) (hy : a.eval y = mcV c)
  (hg : w.heap[g]? = some (.cells #[.bool d.a.c, .int .i64 d.a.n, .bool d.b.c, .int .i64 d.b.n, .int .i64 d.home, .int .i64 d.ser] 154 (0, 0)))
  (h : wpList Tryz.prog ops Q rest a (w.setRow g #[.bool c.a.c, .int .i64 c.a.n, .bool c.b.c, .int .i64 c.b.n, .int .i64 c.home, .int .i64 c.ser])) : wpList Tryz.prog ops Q (o :: rest) a w :=
 wpList_store_row hgd 154 x y ho g _ hx hy 154 _ hg Tryz.infoCell rfl (by simp [Value.oneCell']) (by rw [hd]; exact h)
set_option maxRecDepth 100000 in
set_option maxHeartbeats 400000 in
theorem use_yes (mb : Nat) (w : World) (tn to_ : Value) (fuel : Nat) (nv cv rv : Value) (m : MM) (k : Nat) (c : MC) (hl : m.cells.length ≤ 20000) (hrl : m.regs.length ≤ 20000) (hh : c.home ≤ 20000) (hk : m.cells[k]? = some c) (h : MIn mb w tn to_ fuel nv cv rv m) :
  Calls Tryz.prog 90 #[ptr mb, mvV ⟨true, k⟩] w fun e w' => e = .returned (mcV c) ∧ PFr mb mb w w' nv cv rv nv cv rv ∧ MIn mb w' tn to_ fuel nv cv rv (if m.isLive c = true then m else m.stop 13) := by
 obtain ⟨_, _, _, _, y6, _⟩ := mm_cells h.y
 obtain ⟨m', hm'⟩ : ∃ m', m' = if m.isLive c = true then m else m.stop 13 := ⟨_, rfl⟩
 rw [← hm']
 have HM : Hid _ := hm'
 clear hm'
 have hmb := blk_lt h.y
 have hkl := (List.getElem?_eq_some_iff.1 hk).1
 obtain ⟨g, cap, rfl⟩ := slice_of' h.cl (by omega)
 obtain ⟨c0', c1, c2, c3, c4, c5⟩ := cells_cells h.cl k c hk
 have hg : g < w.heap.size := (h.cl.lt g rfl).2
 have hd : decide ((m.cells.length : Int) ≤ (k : Int)) = false := decide_eq_false (by omega)
 have hd2 : decide (m.cells.length ≤ k) = false := decide_eq_false (by omega)
 have hd3 : (k : Int) < (m.cells.length : Int) := by omega
 have hil := fun W (hW : Below w.heap.size w W) => isLive_any mb W _ _ _ _ _ _ m c hrl hh (h.below hW)
 have hst := fun W (hW : Below w.heap.size w W) => stop_any mb W _ _ _ _ _ _ m 13 (h.below hW)
 unfold ptr mcV at hil
 unfold ptr at hst
 have HIL : Hid _ := hil
 have HST : Hid _ := hst
 have HH : Hid _ := h
 clear h hil hst hk
 unfold ptr mvV mcV
 generalize hlen : m.cells.length = n at *
 go_enter Tryz.func90, Tryz.ntmps90
 go_wp2
 go_quiet (fail)
 rename_i nq
 obtain ⟨W1, hW1⟩ : ∃ W, W = ((w.alloc (.cells #[.bool true, .int .i64 k] 122)).alloc (.cells #[.bool false, .int .i64 0, .bool false, .int .i64 0, .int .i64 0, .int .i64 0] 154)).drewN nq := ⟨_, rfl⟩
 rw [← hW1]
 have hb1 : Below w.heap.size w W1 := by
  rw [hW1]
  exact below_dn (below_al (below_al (Below.refl _ _) _) _)
 have hbk : W1.heap[w.heap.size]? = some (.cells #[.bool true, .int .i64 k] 122) := by
  rw [hW1]
  exact blk_alloc _ (blk_new w _)
 have x1 : W1.cell? ⟨w.heap.size, 1, none⟩ = some (.int .i64 k) := by rw [blk_cell hbk]; rfl
 have x0 : W1.cell? ⟨w.heap.size, 0, none⟩ = some (.bool true) := by rw [blk_cell hbk]; rfl
 have z6 := (hb1.cell (p := ⟨mb, 6, none⟩) hmb).trans y6
 have e0 := (hb1.cell (p := ⟨g, k * 6, none⟩) hg).trans c0'
 have e1 := (hb1.cell (p := ⟨g, k * 6 + 1, none⟩) hg).trans c1
 have e2 := (hb1.cell (p := ⟨g, k * 6 + 2, none⟩) hg).trans c2
 have e3 := (hb1.cell (p := ⟨g, k * 6 + 3, none⟩) hg).trans c3
 have e4 := (hb1.cell (p := ⟨g, k * 6 + 4, none⟩) hg).trans c4
 have e5 := (hb1.cell (p := ⟨g, k * 6 + 5, none⟩) hg).trans c5
 have hw1 : w.heap.size + 2 = W1.heap.size := by rw [hW1]; simp
 have hlt1 : mb < W1.heap.size := by omega
 have hlt2 : g < W1.heap.size := by omega
 have hlt3 : w.heap.size < W1.heap.size := by omega
 have hrb : W1.heap[w.heap.size + 1]? = some (.cells #[.bool false, .int .i64 0, .bool false, .int .i64 0, .int .i64 0, .int .i64 0] 154) := by
  rw [hW1]
  have := blk_new (w.alloc (.cells #[.bool true, .int .i64 k] 122)) (.cells #[.bool false, .int .i64 0, .bool false, .int .i64 0, .int .i64 0, .int .i64 0] 154)
  simpa using this
 have HRB : Hid _ := hrb
 have HB1 : Hid _ := hb1
 clear hbk hW1 y6 c0' c1 c2 c3 c4 c5 hb1 hrb
 go_wp2
 go_region
 all_goals
  go_wp2_with fail
  have hC : Below w.heap.size w (W1.alloc (.cells #[.bool c.a.c, .int .i64 c.a.n, .bool c.b.c, .int .i64 c.b.n, .int .i64 c.home, .int .i64 c.ser] 154)).drew := below_d (below_al HB1.out _)
  refine Calls.mono (HIL.out _ hC) ?_
  rintro _ w2 ⟨rfl, hb2⟩
  have hB2 : Below w.heap.size w w2 := hC.trans (hb2.mono hC.size)
  have hq : w2.heap[W1.heap.size]? = some (.cells #[.bool c.a.c, .int .i64 c.a.n, .bool c.b.c, .int .i64 c.b.n, .int .i64 c.home, .int .i64 c.ser] 154) := by
   rw [hb2.block _ (by simp)]; exact blk_new W1 _
  have hr : w2.heap[w.heap.size + 1]? = some (.cells #[.bool c0.a.c, .int .i64 c0.a.n, .bool c0.b.c, .int .i64 c0.b.n, .int .i64 c0.home, .int .i64 c0.ser] 154) := by
   rw [hb2.block _ (by simp; omega)]
   exact blk_alloc _ HRB.out
  have HQ : Hid _ := hq
  have HR : Hid _ := hr
  have HB2 : Hid _ := hB2
  clear hq hr hB2 hb2 hC
  have hne : W1.heap.size ≠ w.heap.size + 1 := by omega
  have hrw : w.heap.size ≤ w.heap.size + 1 := by omega
  have hqw : w.heap.size ≤ W1.heap.size := by omega
  clear x0 x1 z6 e0 e1 e2 e3 e4 e5 hlt1 hlt2 hlt3 hw1 hd hd2 hd3 HRB HB1 HIL
  generalize w.heap.size + 1 = r at *
  generalize W1.heap.size = q at *
  obtain ⟨bl, hbl⟩ : ∃ bl, m.isLive c = bl := ⟨_, rfl⟩
  rw [hbl]
  cases bl with
  | true =>
   have HM2 : Hid (m' = m) := by have := HM.out; rw [hbl] at this; exact this
   obtain ⟨a0, a1, a2, a3, a4, a5⟩ := mc_cells HQ.out
   have hlq := blk_lt HQ.out
   have hlr := blk_lt HR.out
   go_upto_region 6 with fail
   go_step
   go_step
   go_step
   go_step
   refine store_cell rfl (.tmp 4) (.tmp 39) rfl rfl r c c0 rfl rfl HR.out ?_
   have hN := setRow_heap w2 r _ #[.bool c.a.c, .int .i64 c.a.n, .bool c.b.c, .int .i64 c.b.n, .int .i64 c.home, .int .i64 c.ser] 154 (0, 0) HR.out
   have hBN := below_setRow HB2.out hrw #[.bool c.a.c, .int .i64 c.a.n, .bool c.b.c, .int .i64 c.b.n, .int .i64 c.home, .int .i64 c.ser]
   generalize w2.setRow r #[.bool c.a.c, .int .i64 c.a.n, .bool c.b.c, .int .i64 c.b.n, .int .i64 c.home, .int .i64 c.ser] = w5 at hN hBN ⊢
   obtain ⟨s0, s1, s2, s3, s4, s5⟩ := mc_cells hN
   have HBN : Hid _ := hBN
   clear hN hBN HR HQ HB2 a0 a1 a2 a3 a4 a5
   go_wp2
   refine bodyPost_ret (v := .agg #[.bool c.a.c, .int .i64 c.a.n, .bool c.b.c, .int .i64 c.b.n, .int .i64 c.home, .int .i64 c.ser]) (by simp [results, Tryz.results90, go_sem, s0, s1, s2, s3, s4, s5]) rfl ⟨rfl, ?_, ?_⟩
   ·exact PFr.below mb mb _ _ _ HBN.out
   ·rw [HM2.out]; exact HH.out.below HBN.out
  | false =>
   have HM2 : Hid (m' = m.stop 13) := by have := HM.out; rw [hbl] at this; exact this
   go_wp2_with fail
   refine Calls.mono (HST.out _ HB2.out) ?_
   rintro _ w3 ⟨rfl, hfr3, hin3⟩
   obtain ⟨l1, l2, l3, l4⟩ := HH.out.slt
   have hq3 := (hfr3.blk q (blk_lt HQ.out) (by omega) (by omega) (fun e => by have := l1 _ e; omega) (fun e => by have := l2 _ e; omega) (fun e => by have := l3 _ e; omega)).trans HQ.out
   have hr3 := (hfr3.blk r (blk_lt HR.out) (by omega) (by omega) (fun e => by have := l1 _ e; omega) (fun e => by have := l2 _ e; omega) (fun e => by have := l3 _ e; omega)).trans HR.out
   have HFR : Hid _ := (PFr.below mb mb nv (.slice (some ⟨g, 0, none⟩) n cap) rv HB2.out).trans hfr3
   have HIN : Hid _ := hin3
   have HR3 : Hid _ := hr3
   obtain ⟨a0, a1, a2, a3, a4, a5⟩ := mc_cells hq3
   have hlq := blk_lt hq3
   have hlr := blk_lt hr3
   have HL : Hid (mb < w.heap.size ∧ (∀ k, nv.ownBlock = some k → k < w.heap.size) ∧ (∀ k, (Value.slice (some ⟨g, 0, none⟩) n cap).ownBlock = some k → k < w.heap.size) ∧ (∀ k, rv.ownBlock = some k → k < w.heap.size)) := ⟨l4, l1, l2, l3⟩
   clear hq3 hr3 hfr3 hin3 HQ HR HB2 HST HH l1 l2 l3 l4
   go_upto_region 6 with fail
   go_step
   go_step
   go_step
   go_step
   refine store_cell rfl (.tmp 4) (.tmp 39) rfl rfl r c c0 rfl rfl HR3.out ?_
   have hN := setRow_heap w3 r _ #[.bool c.a.c, .int .i64 c.a.n, .bool c.b.c, .int .i64 c.b.n, .int .i64 c.home, .int .i64 c.ser] 154 (0, 0) HR3.out
   have hBN := below_setRow (Below.refl w.heap.size w3) hrw #[.bool c.a.c, .int .i64 c.a.n, .bool c.b.c, .int .i64 c.b.n, .int .i64 c.home, .int .i64 c.ser]
   generalize w3.setRow r #[.bool c.a.c, .int .i64 c.a.n, .bool c.b.c, .int .i64 c.b.n, .int .i64 c.home, .int .i64 c.ser] = w5 at hN hBN ⊢
   obtain ⟨s0, s1, s2, s3, s4, s5⟩ := mc_cells hN
   have HBN : Hid _ := hBN
   clear hN hBN HR3 a0 a1 a2 a3 a4 a5
   go_wp2
   refine bodyPost_ret (v := .agg #[.bool c.a.c, .int .i64 c.a.n, .bool c.b.c, .int .i64 c.b.n, .int .i64 c.home, .int .i64 c.ser]) (by simp [results, Tryz.results90, go_sem, s0, s1, s2, s3, s4, s5]) rfl ⟨rfl, ?_, ?_⟩
   ·exact HFR.out.upto HBN.out
   ·rw [HM2.out]; exact HIN.out.upto HL.out.1 HL.out.2.1 HL.out.2.2.1 HL.out.2.2.2 HBN.out
set_option maxRecDepth 100000 in
set_option maxHeartbeats 1000000 in
theorem use_no (mb : Nat) (w : World) (tn to_ : Value) (fuel : Nat) (nv cv rv : Value) (m : MM) (v : MV) (hl : m.cells.length ≤ 20000) (hv : v.bd) (hc : v.c = false ∨ v.n < 0 ∨ (m.cells.length : Int) ≤ v.n) (h : MIn mb w tn to_ fuel nv cv rv m) :
  Calls Tryz.prog 90 #[ptr mb, mvV v] w fun e w' => e = .returned (mcV c0) ∧ Below w.heap.size w w' := by
 obtain ⟨_, _, _, _, y6, _⟩ := mm_cells h.y
 have hmb := blk_lt h.y
 obtain ⟨ao, cap, rfl⟩ := slice_any' h.cl
 clear h
 unfold MV.bd at hv
 unfold ptr mvV mcV
 obtain ⟨vc, vn⟩ := v
 simp only at hc hv
 generalize m.cells.length = n at *
 have hcc : vc = false ∨ (vc = true ∧ vn < 0) ∨ (vc = true ∧ decide (vn < 0) = false ∧ (n : Int) ≤ vn) := by
  cases vc
  ·exact Or.inl rfl
  ·rcases hc with hc | hc | hc
   ·cases hc
   ·exact Or.inr (Or.inl ⟨rfl, hc⟩)
   ·exact Or.inr (Or.inr ⟨rfl, decide_eq_false (by omega), hc⟩)
 rcases hcc with rfl | ⟨rfl, h1⟩ | ⟨rfl, h1, h2⟩
 all_goals
  go_enter Tryz.func90, Tryz.ntmps90
  go_wp2
  go_quiet (fail)
  rename_i nq
  first
  | (obtain ⟨W1, hW1⟩ : ∃ W, W = ((w.alloc (.cells #[.bool false, .int .i64 vn] 122)).alloc (.cells #[.bool false, .int .i64 0, .bool false, .int .i64 0, .int .i64 0, .int .i64 0] 154)).drewN nq := ⟨_, rfl⟩; rw [← hW1])
  | (obtain ⟨W1, hW1⟩ : ∃ W, W = ((w.alloc (.cells #[.bool true, .int .i64 vn] 122)).alloc (.cells #[.bool false, .int .i64 0, .bool false, .int .i64 0, .int .i64 0, .int .i64 0] 154)).drewN nq := ⟨_, rfl⟩; rw [← hW1])
  have hb1 : Below w.heap.size w W1 := by
   rw [hW1]
   exact below_dn (below_al (below_al (Below.refl _ _) _) _)
  have hrb : W1.heap[w.heap.size + 1]? = some (.cells #[.bool c0.a.c, .int .i64 c0.a.n, .bool c0.b.c, .int .i64 c0.b.n, .int .i64 c0.home, .int .i64 c0.ser] 154) := by
   rw [hW1]
   exact blk_new2 w _ _ nq
  have HRB : Hid _ := hrb
  have HB1 : Hid _ := hb1
  have hrw : w.heap.size ≤ w.heap.size + 1 := by omega
  clear hW1 hb1 hrb y6
  generalize w.heap.size + 1 = r at *
  go_upto_region 2 with fail
  go_step
  go_step
  go_step
  go_step
  refine store_cell rfl (.tmp 4) (.tmp 24) rfl rfl r c0 c0 rfl rfl HRB.out ?_
  have hN := setRow_heap W1 r _ #[.bool c0.a.c, .int .i64 c0.a.n, .bool c0.b.c, .int .i64 c0.b.n, .int .i64 c0.home, .int .i64 c0.ser] 154 (0, 0) HRB.out
  have hBN := below_setRow HB1.out hrw #[.bool c0.a.c, .int .i64 c0.a.n, .bool c0.b.c, .int .i64 c0.b.n, .int .i64 c0.home, .int .i64 c0.ser]
  generalize W1.setRow r #[.bool c0.a.c, .int .i64 c0.a.n, .bool c0.b.c, .int .i64 c0.b.n, .int .i64 c0.home, .int .i64 c0.ser] = w5 at hN hBN ⊢
  obtain ⟨s0, s1, s2, s3, s4, s5⟩ := mc_cells hN
  have HBN : Hid _ := hBN
  clear hN hBN HRB HB1
  go_wp2
  refine bodyPost_ret (v := .agg #[.bool c0.a.c, .int .i64 c0.a.n, .bool c0.b.c, .int .i64 c0.b.n, .int .i64 c0.home, .int .i64 c0.ser]) (by simp [results, Tryz.results90, go_sem, s0, s1, s2, s3, s4, s5]) rfl ⟨rfl, HBN.out⟩
theorem use_any (mb : Nat) (w : World) (tn to_ : Value) (fuel : Nat) (nv cv rv : Value) (m : MM) (v : MV) (hb : MBd fuel m) (hf : fuel ≤ 20000) (hv : v.bd) (h : MIn mb w tn to_ fuel nv cv rv m) :
  Calls Tryz.prog 90 #[ptr mb, mvV v] w fun e w' => e = .returned (mcV (m.use v).1) ∧ PFr mb mb w w' nv cv rv nv cv rv ∧ MIn mb w' tn to_ fuel nv cv rv (m.use v).2 := by
 have h1 := hb.steps
 have h2 := hb.cells
 unfold MM.use
 by_cases hc : v.c = false ∨ v.n < 0 ∨ (m.cells.length : Int) ≤ v.n
 ·rw [if_pos hc]
  exact (use_no mb w tn to_ fuel nv cv rv m v (by omega) hv hc h).mono (fun _ _ hx => ⟨hx.1, PFr.below mb mb _ _ _ hx.2, h.below hx.2⟩)
 ·rw [if_neg hc]
  have hvc : v.c = true := by cases hq : v.c with
   | true => rfl
   | false => exact absurd (Or.inl hq) hc
  obtain ⟨k, hk⟩ : ∃ k : Nat, v.n = k := ⟨v.n.toNat, by omega⟩
  have hkl : k < m.cells.length := by omega
  obtain ⟨c, hcc⟩ : ∃ c, m.cells[k]? = some c := ⟨_, List.getElem?_eq_getElem hkl⟩
  have e : v = ⟨true, k⟩ := by rw [← hvc, ← hk]
  have e2 : m.cells.getD v.n.toNat c0 = c := by rw [hk, Int.toNat_natCast, List.getD_eq_getElem?_getD, hcc]; rfl
  rw [e2, e]
  exact use_yes mb w tn to_ fuel nv cv rv m k c (by omega) hb.regs (hb.cell c (List.mem_of_getElem? hcc)).2.2.1 hcc h
end Go.Proofs.YtpicaknklgccoabGreatDoor
