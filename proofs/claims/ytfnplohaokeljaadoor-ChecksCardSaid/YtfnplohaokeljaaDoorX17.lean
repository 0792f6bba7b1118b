import Derived.Test.YtfnplohaokeljaaDoorX16
namespace Go.Proofs.YtfnplohaokeljaaDoor
open Go.RowKit

/-- a node's type, by its number, and its fault; the table behind it -/
def typeK (tb : List TP) (K : List Nat) (n : NR) : (Nat × Nat) × List TP :=
  let a := knownK K n.p0
  let b := knownK K n.p1
  let c := knownK K n.p2
  if n.form = 2 then ((if n.source = -1 then (0, 4) else (knownK K n.source, 0)), tb)
  else if n.form = 12 then ((a, 0), tb)
  else if n.form = 3 then ((b, 0), tb)
  else if n.form = 4 then ((if 63 < (atP (pairF tb 0 a b).2 (pairF tb 0 a b).1).sz then (0, 6) else ((pairF tb 0 a b).1, 0)), (pairF tb 0 a b).2)
  else if n.form = 5 then ((if a = 0 then (0, 5) else ((atP tb a).a, 0)), tb)
  else if n.form = 6 then ((if a = 0 then (0, 5) else ((atP tb a).b, 0)), tb)
  else if n.form = 7 ∨ n.form = 11 then ((b, if a = 0 ∧ b = c then 0 else 5), tb)
  else if n.form = 8 ∨ n.form = 9 ∨ n.form = 10 then ((0, if a = 0 ∧ b = 0 then 0 else 5), tb)
  else ((0, 0), tb)

set_option maxHeartbeats 400000 in
theorem unless_any (b : Bool) (w : World) : Calls Tryd.prog 49 #[.bool b] w fun v w' => v = .returned (.int .i64 (if b then 0 else 5)) ∧ w' = w := by
  cases b
  all_goals
    go_enter Tryd.func49, Tryd.ntmps49
    go_wp2
    go_ret
    exact ⟨rfl, rfl⟩

set_option maxRecDepth 100000 in
set_option maxHeartbeats 4000000 in
theorem typeOfName_any (w : World) (cb : Nat) (pv tv : Value) (tb : List TP) (K : List Nat) (n : NR) (h : CIn cb w pv tv tb K) (hl : K.length ≤ 9000) (hi : -10 ≤ n.source ∧ n.source ≤ 10000) :
    Calls Tryd.prog 46 #[ptr cb, nrVal n] w fun v w' => v = .returned (.tuple #[.int .i64 (if n.source = -1 then ((0 : Nat), (4 : Nat)) else (knownK K n.source, 0)).1, .int .i64 (if n.source = -1 then ((0 : Nat), (4 : Nat)) else (knownK K n.source, 0)).2]) ∧ Below w.heap.size w w' := by
  have hkn := fun (w' : World) (hb : Below w.heap.size w w') => known_any w' cb pv tv tb K n.source (h.below hb) hl hi
  unfold ptr at hkn
  unfold nrVal
  show Calls _ _ #[Value.pointer (some ⟨cb, 0, none⟩), _] w _
  have HK : Hid _ := hkn
  clear hkn h
  by_cases hs : n.source = -1
  · have q : (n.source == -1) = true := by rw [hs]; rfl
    simp only [if_pos hs]
    clear hs
    go_enter Tryd.func46, Tryd.ntmps46
    go_wp2
    refine bodyPost_ret (v := .tuple #[.int .i64 0, .int .i64 4]) (by simp [results, Tryd.results46, go_sem]) rfl ⟨rfl, (Below.refl _ _).alloc (Nat.le_refl _) _⟩
  · have q : (n.source == -1) = false := by rw [beq_eq_false_iff_ne]; exact hs
    simp only [if_neg hs]
    clear hs
    generalize knownK K n.source = x at *
    go_enter Tryd.func46, Tryd.ntmps46
    go_wp2_with fail
    refine (HK.out _ ((Below.refl _ _).alloc (Nat.le_refl _) _)).mono ?_
    rintro _ w1 ⟨rfl, rfl⟩
    go_wp2
    refine bodyPost_ret (v := .tuple #[.int .i64 x, .int .i64 0]) (by simp [results, Tryd.results46, go_sem]) rfl ⟨rfl, (Below.refl _ _).alloc (Nat.le_refl _) _⟩

set_option maxRecDepth 100000 in
set_option maxHeartbeats 4000000 in
theorem typeOfPart_any (w : World) (cb : Nat) (pv tv : Value) (tb : List TP) (K : List Nat) (f k : Nat) (h : CIn cb w pv tv tb K) (hl : tb.length ≤ 9000) (hk : k ≤ 10000) :
    Calls Tryd.prog 48 #[ptr cb, .int .i64 f, .int .i64 k] w fun v w' => v = .returned (.tuple #[.int .i64 (if k = 0 then ((0 : Nat), (5 : Nat)) else (if f = 5 then (atP tb k).a else (atP tb k).b, 0)).1, .int .i64 (if k = 0 then ((0 : Nat), (5 : Nat)) else (if f = 5 then (atP tb k).a else (atP tb k).b, 0)).2]) ∧ Below w.heap.size w w' := by
  have hat := fun (w' : World) (hb' : Below w.heap.size w w') => At_any w' cb pv tb k (by rw [blk_cell (h.below hb').y]; rfl) (h.below hb').p hl hk
  unfold ptr tpVal at hat
  show Calls _ _ #[Value.pointer (some ⟨cb, 0, none⟩), _, _] w _
  have HA : Hid _ := hat
  clear hat h
  generalize atP tb k = p at *
  by_cases h0 : k = 0
  · have q : ((k : Int) == 0) = true := ibeq_true (b := 0) h0
    simp only [if_pos h0]
    clear h0
    go_enter Tryd.func48, Tryd.ntmps48
    go_wp2
    refine bodyPost_ret (v := .tuple #[.int .i64 0, .int .i64 5]) (by simp [results, Tryd.results48, go_sem]) rfl ⟨rfl, Below.refl _ _⟩
  · have q : ((k : Int) == 0) = false := ibeq_false (b := 0) h0
    simp only [if_neg h0]
    clear h0
    by_cases h5 : f = 5
    · have q5 : ((f : Int) == 5) = true := ibeq_true (b := 5) h5
      simp only [if_pos h5]
      clear h5
      go_enter Tryd.func48, Tryd.ntmps48
      go_wp2_with fail
      refine (HA.out _ (Below.refl _ _)).mono ?_
      rintro _ w1 ⟨rfl, hb1⟩
      have HB : Hid _ := hb1
      clear hb1
      go_wp2
      refine bodyPost_ret (v := .tuple #[.int .i64 p.a, .int .i64 0]) (by simp [results, Tryd.results48, go_sem]) rfl ⟨rfl, HB.out.alloc HB.out.size _⟩
    · have q5 : ((f : Int) == 5) = false := ibeq_false (b := 5) h5
      simp only [if_neg h5]
      clear h5
      go_enter Tryd.func48, Tryd.ntmps48
      go_wp2_with fail
      refine (HA.out _ (Below.refl _ _)).mono ?_
      rintro _ w1 ⟨rfl, hb1⟩
      have HB : Hid _ := hb1
      clear hb1
      go_wp2
      refine bodyPost_ret (v := .tuple #[.int .i64 p.b, .int .i64 0]) (by simp [results, Tryd.results48, go_sem]) rfl ⟨rfl, HB.out.alloc HB.out.size _⟩

theorem pairF_len (tb : List TP) (r a b : Nat) : (pairF tb r a b).2.length ≤ tb.length + 1 ∧ (pairF tb r a b).1 ≤ tb.length + 1 := by
  unfold pairF
  cases hf : tb.findIdx? (hitP r a b) with
  | none => simp
  | some i =>
    have := (List.findIdx?_eq_some_iff_getElem.1 hf).1
    simp; omega

set_option maxRecDepth 100000 in
set_option maxHeartbeats 4000000 in
theorem typeOfPair_any (w : World) (cb : Nat) (pv tv : Value) (tb : List TP) (K : List Nat) (a b : Nat) (h : CIn cb w pv tv tb K) (hl : tb.length ≤ 8999) (ha : a ≤ 9500) (hb : b ≤ 9500) (hsz : (atP tb a).sz ≤ 10000 ∧ (atP tb b).sz ≤ 10000) :
    Calls Tryd.prog 47 #[ptr cb, .int .i64 a, .int .i64 b] w fun v w' => v = .returned (.tuple #[.int .i64 (if 63 < (atP (pairF tb 0 a b).2 (pairF tb 0 a b).1).sz then ((0 : Nat), (6 : Nat)) else ((pairF tb 0 a b).1, 0)).1, .int .i64 (if 63 < (atP (pairF tb 0 a b).2 (pairF tb 0 a b).1).sz then ((0 : Nat), (6 : Nat)) else ((pairF tb 0 a b).1, 0)).2]) ∧ ∃ pv', CFr cb w w' pv tv pv' tv ∧ CIn cb w' pv' tv (pairF tb 0 a b).2 K := by
  have hpa := Pair_any w cb pv tv tb K 0 a b h hl ha hb hsz
  have hpl := pairF_len tb 0 a b
  have hat := fun (w' : World) (pv : Value) (hc : CIn cb w' pv tv (pairF tb 0 a b).2 K) => At_any w' cb pv (pairF tb 0 a b).2 (pairF tb 0 a b).1 (by rw [blk_cell hc.y]; rfl) hc.p (by omega) (by omega)
  unfold ptr at hpa
  unfold ptr tpVal at hat
  show Calls _ _ #[Value.pointer (some ⟨cb, 0, none⟩), _, _] w _
  have HA : Hid _ := hat
  clear hat h hpl
  generalize pairF tb 0 a b = R at *
  generalize atP R.2 R.1 = p at *
  by_cases h63 : 63 < p.sz
  · simp only [if_pos h63]
    go_enter Tryd.func47, Tryd.ntmps47
    go_wp2_with fail
    refine hpa.mono ?_
    rintro _ w1 ⟨rfl, pv1, hfr, hin⟩
    have hat := HA.out w1 pv1 hin
    have HF : Hid _ := hfr
    have HI : Hid _ := hin
    clear hfr hin hpa
    go_wp2_with fail
    refine hat.mono ?_
    rintro _ w2 ⟨rfl, hb2⟩
    have hB := hb2.alloc hb2.size (.cells #[.int .i64 p.r, .int .i64 p.a, .int .i64 p.b, .int .i64 p.sz] 117)
    have HB : Hid _ := hB
    clear hB hb2 hat
    go_wp2
    refine bodyPost_ret (v := .tuple #[.int .i64 0, .int .i64 6]) (by simp [results, Tryd.results47, go_sem]) rfl ⟨rfl, pv1, HF.out.trans (CFr.below cb pv1 tv HB.out), HI.out.below HB.out⟩
  · simp only [if_neg h63]
    go_enter Tryd.func47, Tryd.ntmps47
    go_wp2_with fail
    refine hpa.mono ?_
    rintro _ w1 ⟨rfl, pv1, hfr, hin⟩
    have hat := HA.out w1 pv1 hin
    have HF : Hid _ := hfr
    have HI : Hid _ := hin
    clear hfr hin hpa
    go_wp2_with fail
    refine hat.mono ?_
    rintro _ w2 ⟨rfl, hb2⟩
    have hB := hb2.alloc hb2.size (.cells #[.int .i64 p.r, .int .i64 p.a, .int .i64 p.b, .int .i64 p.sz] 117)
    have HB : Hid _ := hB
    clear hB hb2 hat
    go_wp2
    refine bodyPost_ret (v := .tuple #[.int .i64 R.1, .int .i64 0]) (by simp [results, Tryd.results47, go_sem]) rfl ⟨rfl, pv1, HF.out.trans (CFr.below cb pv1 tv HB.out), HI.out.below HB.out⟩
end Go.Proofs.YtfnplohaokeljaaDoor
