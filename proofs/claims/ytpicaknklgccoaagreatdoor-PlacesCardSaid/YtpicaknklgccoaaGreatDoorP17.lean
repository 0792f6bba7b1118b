import Derived.Test.YtpicaknklgccoaaGreatDoorP15
namespace Go.Proofs.YtpicaknklgccoaaGreatDoor
open Go.RowKit
theorem Tryz.infoTP : (Tryz.prog.info? 212).map (fun i => (i.zero, i.size, i.bytes)) = some (some (.agg #[.int .i64 0, .int .i64 0, .int .i64 0, .int .i64 0]), 4, 32) := by kernel_rfl
theorem Tryz.undTPs : Tryz.prog.underlying 152 = some (.slice 212) := by kernel_rfl
def hitP (r a b : Nat) (p : TP) : Bool := p.r == r && p.a == a && p.b == b
def pairF (tb : List TP) (r a b : Nat) : Nat × List TP := match tb.findIdx? (hitP r a b) with
 | some i => (i + 1, tb)
 | none => (tb.length + 1, tb ++ [⟨r, a, b, 1 + (atP tb a).sz + (atP tb b).sz⟩])
structure CFr (cb : Nat) (w w' : World) (pv tv pv' tv' : Value) : Prop where
 os : w'.os = w.os
 tape : w'.tape = w.tape
 output : w'.output = w.output
 size : w.heap.size ≤ w'.heap.size
 blk : ∀ k, k < w.heap.size → k ≠ cb → pv.ownBlock ≠ some k → tv.ownBlock ≠ some k → w'.heap[k]? = w.heap[k]?
 p : ∀ g, pv'.ownBlock = some g → pv.ownBlock = some g ∨ w.heap.size ≤ g
 t : ∀ g, tv'.ownBlock = some g → tv.ownBlock = some g ∨ w.heap.size ≤ g
theorem CFr.trans {cb : Nat} {w w1 w2 : World} {pv tv pv1 tv1 pv2 tv2 : Value} (h : CFr cb w w1 pv tv pv1 tv1) (h' : CFr cb w1 w2 pv1 tv1 pv2 tv2) : CFr cb w w2 pv tv pv2 tv2 := by
 refine ⟨h'.os.trans h.os, h'.tape.trans h.tape, h'.output.trans h.output, Nat.le_trans h.size h'.size, ?_, ?_, ?_⟩
 ·intro k hk hc hp ht
  rw [h'.blk k (Nat.lt_of_lt_of_le hk h.size) hc (fun e => by rcases h.p k e with e | e; exact hp e; omega) (fun e => by rcases h.t k e with e | e; exact ht e; omega)]
  exact h.blk k hk hc hp ht
 ·intro g hg
  rcases h'.p g hg with e | e
  ·exact h.p g e
  ·exact Or.inr (Nat.le_trans h.size e)
 ·intro g hg
  rcases h'.t g hg with e | e
  ·exact h.t g e
  ·exact Or.inr (Nat.le_trans h.size e)
theorem CFr.below {w w' : World} (cb : Nat) (pv tv : Value) (h : Below w.heap.size w w') : CFr cb w w' pv tv pv tv := ⟨h.os, h.tape, h.output, h.size, fun k hk _ _ _ => h.block k hk, fun _ h => Or.inl h, fun _ h => Or.inl h⟩
theorem CIn.lt {cb : Nat} {w : World} {pv tv : Value} {tb : List TP} {K : List Nat} (h : CIn cb w pv tv tb K) : (∀ k, pv.ownBlock = some k → k < w.heap.size) ∧ (∀ k, tv.ownBlock = some k → k < w.heap.size) ∧ cb < w.heap.size :=
 ⟨fun k hk => (h.p.lt k hk).2, fun k hk => (h.t.lt k hk).2, blk_lt h.y⟩
theorem CInO.lt {cb o : Nat} {A : Array Value} {T : TypeId} {w : World} {pv tv : Value} {tb : List TP} {K : List Nat} (h : CInO cb o A T w pv tv tb K) : (∀ k, pv.ownBlock = some k → k < w.heap.size) ∧ (∀ k, tv.ownBlock = some k → k < w.heap.size) ∧ cb < w.heap.size :=
 ⟨fun k hk => (h.p.lt k hk).2, fun k hk => (h.t.lt k hk).2, blk_lt h.y⟩
theorem CInO.addP {cb o : Nat} {A : Array Value} {T : TypeId} {w W0 w' : World} {pv tv : Value} {tb : List TP} {K : List Nat} (h : CInO cb o A T w pv tv tb K) (x : TP) {g cap : Nat} (hW : Below w.heap.size w W0) (hg : W0.grownBy w' pv.ownBlock)
  (hown : w'.ownsRow 0 212 4 (.slice (some ⟨g, 0, none⟩) (tb.length + 1) cap) (tb.length + 1) (tb.flatMap tpL ++ tpL x)) (hor : pv.ownBlock = some g ∨ W0.heap.size ≤ g) :
  CFr cb w (w'.setCell ⟨cb, o, none⟩ (.slice (some ⟨g, 0, none⟩) (tb.length + 1) cap)) pv tv (.slice (some ⟨g, 0, none⟩) (tb.length + 1) cap) tv ∧ CInO cb o (A.setIfInBounds o (.slice (some ⟨g, 0, none⟩) (tb.length + 1) cap)) T (w'.setCell ⟨cb, o, none⟩ (.slice (some ⟨g, 0, none⟩) (tb.length + 1) cap)) (.slice (some ⟨g, 0, none⟩) (tb.length + 1) cap) tv (tb ++ [x]) K := by
 obtain ⟨l1, l2, l3⟩ := h.lt
 have hWs := hW.size
 have hgs := hg.size
 have yW : W0.heap[cb]? = some (.cells A T (0, 0)) := by rw [hW.block cb l3]; exact h.y
 have yw := grown_blk hg yW h.py
 have hgp : g ≠ cb := by
  rcases hor with e | e
  ·intro e'; rw [e'] at e; exact h.py e
  ·omega
 have kp : ∀ k, k < w.heap.size → k ≠ cb → pv.ownBlock ≠ some k → (w'.setCell ⟨cb, o, none⟩ (.slice (some ⟨g, 0, none⟩) (tb.length + 1) cap)).heap[k]? = w.heap[k]? := by
  intro k hk hkp hne
  rw [blk_other _ _ (by simpa using hkp), hg.block k (by omega) (fun e => hne e.symm), hW.block k hk]
 refine ⟨⟨hg.os.trans hW.os, hg.tape.trans hW.tape, hg.output.trans hW.output, by simp only [World.setCell, Array.size_modify]; omega, fun k hk hp hs _ => kp k hk hp hs, fun g' hg' => by simp only [Value.ownBlock, Option.some.injEq] at hg'; subst hg'; rcases hor with e | e; exact Or.inl e; exact Or.inr (by omega), fun _ h => Or.inl h⟩, ?_⟩
 refine ⟨blk_set yw o _, by rw [Array.getElem?_setIfInBounds, if_pos rfl, if_pos (Array.getElem?_eq_some_iff.1 h.a).1], by rw [Array.getElem?_setIfInBounds, if_neg (by omega)]; exact h.b, by have := owns_blk (w' := w'.setCell ⟨cb, o, none⟩ (.slice (some ⟨g, 0, none⟩) (tb.length + 1) cap)) hown (fun k hk => by simp only [Value.ownBlock, Option.some.injEq] at hk; subst hk; exact blk_other _ _ (by simpa using hgp)); simpa using this, owns_blk h.t (fun k hk => kp k (l2 k hk) (fun e => h.ty (by rw [hk, e])) (fun e => h.pt k e hk)), by simp only [Value.ownBlock, ne_eq, Option.some.injEq]; exact hgp, h.ty, fun k hk hk' => by
   simp only [Value.ownBlock, Option.some.injEq] at hk
   rcases hor with e | e
   ·rw [hk] at e; exact h.pt k e hk'
   ·have := l2 k hk'; omega⟩
theorem hit_false {tb : List TP} {r a b : Nat} (h : ∀ (j : Nat) (p : TP), tb[j]? = some p → hitP r a b p = false) : tb.findIdx? (hitP r a b) = none := by
 rw [List.findIdx?_eq_none_iff]
 intro x hx
 obtain ⟨j, hj⟩ := List.mem_iff_getElem?.1 hx
 exact h j x hj
theorem hit_true {tb : List TP} {r a b k : Nat} {p : TP} (hk : tb[k]? = some p) (hp : hitP r a b p = true) (h : ∀ (j : Nat) (q : TP), j < k → tb[j]? = some q → hitP r a b q = false) : tb.findIdx? (hitP r a b) = some k := by
 obtain ⟨hk1, hk2⟩ := List.getElem?_eq_some_iff.1 hk
 rw [List.findIdx?_eq_some_iff_getElem]
 refine ⟨hk1, by rw [hk2]; exact hp, fun j hj => ?_⟩
 have := h j tb[j] hj (List.getElem?_eq_getElem (by omega))
 rw [this]; simp
theorem wrap_small (n : Int) (h : -1000000 ≤ n ∧ n ≤ 1000000) : IntKind.i64.wrap n = n := by
 have e : IntKind.i64.wrap n = (n + 9223372036854775808) % 18446744073709551616 - 9223372036854775808 := by simp [IntKind.wrap, IntKind.bits, IntKind.signed]; omega
 rw [e]; omega
theorem nbeq (a b : Nat) : ((a : Int) == (b : Int)) = (a == b) := by
 rw [Bool.eq_iff_iff]; simp only [beq_iff_eq]; omega
set_option maxRecDepth 100000 in
set_option maxHeartbeats 8000000 in
theorem PairO_any (w : World) (cb o : Nat) (A : Array Value) (T : TypeId) (pv tv : Value) (tb : List TP) (K : List Nat) (r a b : Nat) (h : CInO cb o A T w pv tv tb K) (hl : tb.length ≤ 8999) (ha : a ≤ 9500) (hb : b ≤ 9500) (hsz : (atP tb a).sz ≤ 10000 ∧ (atP tb b).sz ≤ 10000) :
  Calls Tryz.prog 155 #[.pointer (some ⟨cb, o, none⟩), .int .i64 r, .int .i64 a, .int .i64 b] w fun v w' => v = .returned (.int .i64 (pairF tb r a b).1) ∧ ∃ pv', CFr cb w w' pv tv pv' tv ∧ CInO cb o (A.setIfInBounds o pv') T w' pv' tv (pairF tb r a b).2 K := by
 obtain ⟨i0, hi, hz0, hz1, hz2⟩ := info_parts Tryz.infoTP
 have HI : Hid _ := hi
 have HZ0 : Hid _ := hz0
 have HZ1 : Hid _ := hz1
 have HZ2 : Hid _ := hz2
 clear hi hz0 hz1 hz2
 have HH : Hid _ := h
 obtain ⟨m, hm⟩ : ∃ m, m = tb.length := ⟨_, rfl⟩
 obtain ⟨ao, oc, hpv⟩ := slice_any h.p
 rw [← hm] at hpv hl
 have y0 : w.cell? ⟨cb, o, none⟩ = some (.slice ao m oc) := by rw [h.c0, ← hpv]
 have hcb := h.lt.2.2
 have HM : Hid _ := hm
 have HPV : Hid _ := hpv
 have hatA := fun (w' : World) (hb' : Below w.heap.size w w') => AtO_any w' cb o pv tb a (by rw [hb'.cell (p := ⟨cb, o, none⟩) hcb, h.c0]) (owns_below h.p hb') (by omega) (by omega)
 have hatB := fun (w' : World) (hb' : Below w.heap.size w w') => AtO_any w' cb o pv tb b (by rw [hb'.cell (p := ⟨cb, o, none⟩) hcb, h.c0]) (owns_below h.p hb') (by omega) (by omega)
 unfold tpVal at hatA hatB
 have HAA : Hid _ := hatA
 have HAB : Hid _ := hatB
 clear hatA hatB h hm hpv
 obtain ⟨R, hR⟩ : ∃ R, R = pairF tb r a b := ⟨_, rfl⟩
 rw [← hR]
 have HR : Hid _ := hR
 clear hR
 obtain ⟨pa, hpa⟩ : ∃ pa, pa = atP tb a := ⟨_, rfl⟩
 obtain ⟨pb, hpb⟩ : ∃ pb, pb = atP tb b := ⟨_, rfl⟩
 rw [← hpa, ← hpb] at hsz
 rw [← hpa] at HAA
 rw [← hpb] at HAB
 have HPA : Hid _ := hpa
 have HPB : Hid _ := hpb
 clear hpa hpb
 show Calls _ _ #[Value.pointer (some ⟨cb, o, none⟩), _, _, _] w _
 go_enter Tryz.func155, Tryz.ntmps155
 go_wp2
 go_loopw [9, 10] (fun i _ wr => ∃ k : Nat, k ≤ m ∧ i = .int .i64 k ∧ Hid (∀ j q, j < k → tb[j]? = some q → hitP r a b q = false) ∧ Below w.heap.size w wr) (fun i _ _ => m - (intOf i).toNat)
 case atStart => exact ⟨0, by omega, rfl, (fun j q hj => absurd hj (by omega) : ∀ j q, j < 0 → tb[j]? = some q → hitP r a b q = false), Below.refl _ _⟩
 case round =>
  obtain ⟨k, hk, rfl, HNO, hbr⟩ := hrel
  have z0 : wr.cell? ⟨cb, o, none⟩ = some (.slice ao m oc) := by rw [hbr.cell (p := ⟨cb, o, none⟩) hcb]; exact y0
  have hcr : cb < wr.heap.size := by have := hbr.size; omega
  by_cases hlt : k < m
  ·have hkl : k < tb.length := by have := HM.out; omega
   obtain ⟨p, hp⟩ : ∃ p, tb[k]? = some p := ⟨tb[k], List.getElem?_eq_getElem hkl⟩
   have hrow := owns_below HH.out.p hbr
   obtain ⟨g, cap, hsl⟩ := slice_of hrow (by omega)
   rw [hsl] at hrow
   obtain ⟨c0, c1, c2, c3⟩ := tp_cells hrow k p hp
   have hgw : g < wr.heap.size := (hrow.lt g rfl).2
   have eao : ao = some ⟨g, 0, none⟩ := by
    have h1 := HPV.out
    rw [hsl] at h1
    simp only [Value.slice.injEq] at h1; exact h1.1.symm
   subst eao
   have e1 := nbeq p.r r
   have e2 := nbeq p.a a
   have e3 := nbeq p.b b
   have HP : Hid _ := hp
   have HBR : Hid _ := hbr
   clear hp hrow hsl hbr hkl
   cases q1 : (p.r == r) with
   | false =>
    rw [q1] at e1
    have hno : hitP r a b p = false := by unfold hitP; rw [q1]; rfl
    have HNO2 : Hid _ := hno
    clear hno q1 e2 e3
    go_wp2
    go_roundw
    case rel => exact ⟨k + 1, by omega, by go_num, (fun j q hj hq => by
     rcases Nat.lt_succ_iff_lt_or_eq.1 hj with h1 | h1
     ·exact HNO.out j q h1 hq
     ·subst h1; rw [HP.out] at hq; cases hq; exact HNO2.out : ∀ j q, j < k + 1 → tb[j]? = some q → hitP r a b q = false), HBR.out.alloc (by have := HBR.out.size; omega) _⟩
    case measure => simp [intOf]; omega
   | true =>
    rw [q1] at e1
    cases q2 : (p.a == a) with
    | false =>
     rw [q2] at e2
     have hno : hitP r a b p = false := by unfold hitP; rw [q1, q2]; rfl
     have HNO2 : Hid _ := hno
     clear hno q1 q2 e3
     go_wp2
     go_roundw
     case rel => exact ⟨k + 1, by omega, by go_num, (fun j q hj hq => by
      rcases Nat.lt_succ_iff_lt_or_eq.1 hj with h1 | h1
      ·exact HNO.out j q h1 hq
      ·subst h1; rw [HP.out] at hq; cases hq; exact HNO2.out : ∀ j q, j < k + 1 → tb[j]? = some q → hitP r a b q = false), HBR.out.alloc (by have := HBR.out.size; omega) _⟩
     case measure => simp [intOf]; omega
    | true =>
     rw [q2] at e2
     cases q3 : (p.b == b) with
     | false =>
      rw [q3] at e3
      have hno : hitP r a b p = false := by unfold hitP; rw [q1, q2, q3]; rfl
      have HNO2 : Hid _ := hno
      clear hno q1 q2 q3
      go_wp2
      go_roundw
      case rel => exact ⟨k + 1, by omega, by go_num, (fun j q hj hq => by
       rcases Nat.lt_succ_iff_lt_or_eq.1 hj with h1 | h1
       ·exact HNO.out j q h1 hq
       ·subst h1; rw [HP.out] at hq; cases hq; exact HNO2.out : ∀ j q, j < k + 1 → tb[j]? = some q → hitP r a b q = false), HBR.out.alloc (by have := HBR.out.size; omega) _⟩
      case measure => simp [intOf]; omega
     | true =>
      rw [q3] at e3
      have hyes : hitP r a b p = true := by unfold hitP; rw [q1, q2, q3]; rfl
      have HRR : Hid (R = (k + 1, tb)) := by
       rw [HR.out]; unfold pairF; rw [hit_true HP.out hyes HNO.out]; exact rfl
      clear hyes q1 q2 q3
      go_wp2
      go_ret
      rw [HRR.out]
      have hB := HBR.out.alloc (by have := HBR.out.size; omega) (.cells #[.int .i64 p.r, .int .i64 p.a, .int .i64 p.b, .int .i64 p.sz] 212)
      exact ⟨ret_int (by simp), pv, CFr.below cb pv tv hB, (HH.out.below hB).self⟩
  ·have HRR : Hid (R = (tb.length + 1, tb ++ [⟨r, a, b, 1 + pa.sz + pb.sz⟩])) := by
    have hn : tb.findIdx? (hitP r a b) = none := hit_false (fun j p hj => HNO.out j p (by have := (List.getElem?_eq_some_iff.1 hj).1; have := HM.out; omega) hj)
    rw [HR.out]; unfold pairF; rw [hn, HPA.out, HPB.out]; exact rfl
   have hA := HAA.out wr hbr
   have HBR : Hid _ := hbr
   clear hbr
   go_wp2_with fail
   refine hA.mono ?_
   rintro _ w1 ⟨rfl, hb1⟩
   have hbw1 : Below w.heap.size w w1 := HBR.out.trans (hb1.mono HBR.out.size)
   have hbw1' := hbw1.alloc hbw1.size (.cells #[.int .i64 pa.r, .int .i64 pa.a, .int .i64 pa.b, .int .i64 pa.sz] 212)
   have hB := HAB.out _ hbw1'
   have HBW1 : Hid _ := hbw1'
   clear hb1 hbw1 hbw1' hA
   go_wp2_with fail
   refine hB.mono ?_
   rintro _ w2 ⟨rfl, hb2⟩
   have hq : w2.heap[w1.heap.size]? = some (.cells #[.int .i64 pa.r, .int .i64 pa.a, .int .i64 pa.b, .int .i64 pa.sz] 212 (0, 0)) := by
    rw [hb2.block _ (by simp)]; exact blk_new _ _
   have xa : w2.cell? ⟨w1.heap.size, 3, none⟩ = some (.int .i64 pa.sz) := by rw [blk_cell hq]; rfl
   have xl := blk_lt hq
   have xn := Nat.ne_of_lt xl
   have hbw2 : Below w.heap.size w w2 := HBW1.out.trans (hb2.mono HBW1.out.size)
   have z2 : w2.cell? ⟨cb, o, none⟩ = some (.slice ao m oc) := by rw [hbw2.cell (p := ⟨cb, o, none⟩) hcb]; exact y0
   have hc2 : cb < w2.heap.size := by have := hbw2.size; omega
   obtain ⟨Y, hY⟩ : ∃ Y : Obj, Y = .cells #[.int .i64 pb.r, .int .i64 pb.a, .int .i64 pb.b, .int .i64 pb.sz] 212 := ⟨_, rfl⟩
   obtain ⟨Z, hZ⟩ : ∃ Z : Obj, Z = .cells #[.int .i64 r, .int .i64 a, .int .i64 b, .int .i64 (1 + (pa.sz : Int) + (pb.sz : Int))] 212 := ⟨_, rfl⟩
   have hW : Below w.heap.size w ((w2.alloc Y).alloc Z).drew := ((hbw2.alloc hbw2.size Y).alloc (by have := hbw2.size; simp; omega) Z).trans ⟨rfl, rfl, rfl, Nat.le_refl _, fun _ _ => rfl⟩
   have htp : tpL ⟨r, a, b, 1 + pa.sz + pb.sz⟩ = [.int .i64 r, .int .i64 a, .int .i64 b, .int .i64 (1 + (pa.sz : Int) + (pb.sz : Int))] := by
    unfold tpL; simp only [Int.natCast_add]; rfl
   have HW : Hid _ := hW
   have HOWN : Hid (((w2.alloc Y).alloc Z).drew.ownsRow 0 212 4 (.slice ao m oc) m (tb.flatMap tpL)) := by
    have := owns_below HH.out.p hW
    rw [HPV.out, ← HM.out] at this; exact this
   have HC1 : Hid (∀ (j : Nat) (u : Value), ([.int .i64 r, .int .i64 a, .int .i64 b, .int .i64 (1 + (pa.sz : Int) + (pb.sz : Int))] : List Value)[j]? = some u → ((w2.alloc Y).alloc Z).drew.cell? ((⟨w2.heap.size + 1, 0, none⟩ : Addr).add j) = some u) := by
    intro j u hj
    have hq := alloc_cell_at (w2.alloc Y) [.int .i64 r, .int .i64 a, .int .i64 b, .int .i64 (1 + (pa.sz : Int) + (pb.sz : Int))] 212 j
    have e : (w2.alloc Y).heap.size = w2.heap.size + 1 := by simp
    rw [e] at hq
    rw [← hj, ← hq, hZ]; rfl
   have HC2 : Hid (∀ u ∈ ([.int .i64 r, .int .i64 a, .int .i64 b, .int .i64 (1 + (pa.sz : Int) + (pb.sz : Int))] : List Value), u.oneCell' = true) := by
    intro u hu; simp only [List.mem_cons, List.not_mem_nil, or_false] at hu; rcases hu with rfl | rfl | rfl | rfl <;> rfl
   have HYW : Hid (((w2.alloc Y).alloc Z).drew.heap[cb]? = some (.cells A T (0, 0))) := by
    show ((w2.alloc Y).alloc Z).drew.heap[cb]? = _
    rw [hW.block cb hcb]; exact HH.out.y
   have HPY : Hid ((Value.slice ao m oc).ownBlock ≠ some cb) := by have := HH.out.py; rw [HPV.out] at this; exact this
   have HTP : Hid _ := htp
   subst hY
   subst hZ
   have hw1 : IntKind.i64.wrap (1 + (pa.sz : Int)) = 1 + (pa.sz : Int) := wrap_small _ (by omega)
   have hw2 : IntKind.i64.wrap (1 + (pa.sz : Int) + (pb.sz : Int)) = 1 + (pa.sz : Int) + (pb.sz : Int) := wrap_small _ (by omega)
   clear hb2 hq hbw2 hW htp hB HBR HBW1 HAA HAB
   go_wp2
   go_region_law (refine step_own rfl (.tmp 57) (.tmp 68) 152 rfl 212 i0 _ 4 32 Tryz.undTPs HI.out HZ0.out HZ1.out HZ2.out rfl (by decide) (.slice ao m oc) m (tb.flatMap tpL) (by simp [Act.eval]) HOWN.out ⟨w2.heap.size + 1, 0, none⟩ 1 1 _ (by simp [Act.eval]) rfl HC1.out HC2.out (by decide) (by unfold maxLen; omega) (by omega) ?_; intro g cap w' hown hgrow hor; have hcb' := grown_blk hgrow HYW.out HPY.out; have c0 : w'.cell? ⟨cb, o, none⟩ = some pv := (by rw [blk_cell hcb']; exact HH.out.a); have f0 := blk_free hcb' o)
   all_goals
    have hadd := CInO.addP (g := g) (cap := cap) HH.out ⟨r, a, b, 1 + pa.sz + pb.sz⟩ HW.out (by rw [HPV.out]; exact hgrow) (by rw [← HM.out, HTP.out]; exact hown) (by rw [HPV.out]; exact hor)
    rw [← HM.out] at hadd
    have HADD : Hid _ := hadd
    clear hadd hown hgrow hor
    go_wp2
    go_ret
    rw [HRR.out]
    exact ⟨ret_int (by have := HM.out; simp; omega), _, HADD.out⟩
end Go.Proofs.YtpicaknklgccoaaGreatDoor
