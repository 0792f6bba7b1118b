import Derived.Test.YtpicaknklgccoaaGreatDoorX8
import Derived.Test.YtpicaknklgccoaaGreatDoorX12
namespace Go.Proofs.YtpicaknklgccoaaGreatDoor
open Go.RowKit
theorem joinF_len (E : List Nat) (x y : Nat) : (joinF E x y).length = E.length := by unfold joinF; split <;> simp
def matchF (tb : List TP) : Nat → List Nat → Nat → Nat → List Nat
 | 0, E, _, _ => E
 | f + 1, E, x, y => if x = y ∨ x = 0 ∨ y = 0 then E else matchF tb f (matchF tb f (joinF E (atP tb x).r (atP tb y).r) (atP tb x).a (atP tb y).a) (atP tb x).b (atP tb y).b
theorem matchF_len (tb : List TP) : ∀ (f : Nat) (E : List Nat) (x y : Nat), (matchF tb f E x y).length = E.length
 | 0, _, _, _ => rfl
 | f + 1, E, x, y => by
  simp only [matchF]
  split
  ·rfl
  ·rw [matchF_len tb f, matchF_len tb f, joinF_len]
structure EFr (g : Nat) (w w' : World) : Prop where
 os : w'.os = w.os
 tape : w'.tape = w.tape
 output : w'.output = w.output
 size : w.heap.size ≤ w'.heap.size
 blk : ∀ k, k < w.heap.size → k ≠ g → w'.heap[k]? = w.heap[k]?
theorem EFr.trans {g : Nat} {w w1 w2 : World} (h : EFr g w w1) (h' : EFr g w1 w2) : EFr g w w2 :=
 ⟨h'.os.trans h.os, h'.tape.trans h.tape, h'.output.trans h.output, Nat.le_trans h.size h'.size, fun k hk hg => (h'.blk k (Nat.lt_of_lt_of_le hk h.size) hg).trans (h.blk k hk hg)⟩
theorem EFr.below {w w' : World} (g : Nat) (h : Below w.heap.size w w') : EFr g w w' := ⟨h.os, h.tape, h.output, h.size, fun k hk _ => h.block k hk⟩
theorem EFr.set (g k : Nat) (w : World) (v : Value) : EFr g w (w.setCell ⟨g, k, none⟩ v) := ⟨rfl, rfl, rfl, by simp [World.setCell], fun j _ hg => blk_other _ _ (by simpa using hg)⟩
theorem EFr.cell {g : Nat} {w w' : World} (h : EFr g w w') {b o : Nat} (hb : b < w.heap.size) (hg : b ≠ g) : w'.cell? ⟨b, o, none⟩ = w.cell? ⟨b, o, none⟩ := by
 unfold World.cell?
 simp only [h.blk b hb hg]
set_option maxRecDepth 100000 in
set_option maxHeartbeats 8000000 in
theorem match_any (sb g cap : Nat) (pv : Value) (tb : List TP) (hl : tb.length ≤ 9000) (hlow : Low tb) (hgs : g ≠ sb) (hpg : pv.ownBlock ≠ some g) : ∀ (f x y : Nat) (E : List Nat) (w : World), x < f → x ≤ 10000 → y ≤ 10000 → E.length ≤ 9000 → (∀ k, (atP tb k).r < E.length) →
  w.cell? ⟨sb, 0, none⟩ = some pv → w.cell? ⟨sb, 2, none⟩ = some (.slice (some ⟨g, 0, none⟩) E.length cap) → w.ownsRow 0 212 4 pv tb.length (tb.flatMap tpL) → w.ownsRow 0 3 1 (.slice (some ⟨g, 0, none⟩) E.length cap) E.length (natVs E) →
  Calls Tryz.prog 135 #[ptr sb, .int .i64 x, .int .i64 y] w fun v w' => v = .returned (.tuple #[]) ∧ EFr g w w' ∧ w'.ownsRow 0 3 1 (.slice (some ⟨g, 0, none⟩) E.length cap) E.length (natVs (matchF tb f E x y)) := by
 intro f
 induction f with
 | zero => intro x y E w hx; omega
 | succ f ih =>
  intro x y E w hxf hx hy hE hr hc0 hc2 hp he
  have hsb := World.block_lt_of_cell? _ _ hc0
  show Calls _ _ #[Value.pointer (some ⟨sb, 0, none⟩), _, _] w _
  obtain ⟨R, hR⟩ : ∃ R, R = matchF tb (f + 1) E x y := ⟨_, rfl⟩
  rw [← hR]
  simp only [matchF] at hR
  by_cases h0 : x = y ∨ x = 0 ∨ y = 0
  ·rw [if_pos h0] at hR
   subst hR
   have HE : Hid _ := he
   clear he ih hp hr
   rcases h0 with h0 | h0 | h0
   ·have q1 : ((x : Int) == (y : Int)) = true := by rw [h0]; simp
    clear h0
    go_enter Tryz.func135, Tryz.ntmps135
    go_wp2
    refine bodyPost_ret (v := .tuple #[]) (by simp [results, Tryz.results135, go_sem]) rfl ⟨rfl, EFr.below g (Below.refl _ _), HE.out⟩
   ·by_cases q : x = y
    ·have q1 : ((x : Int) == (y : Int)) = true := by rw [q]; simp
     clear q h0
     go_enter Tryz.func135, Tryz.ntmps135
     go_wp2
     refine bodyPost_ret (v := .tuple #[]) (by simp [results, Tryz.results135, go_sem]) rfl ⟨rfl, EFr.below g (Below.refl _ _), HE.out⟩
    ·have q1 : ((x : Int) == (y : Int)) = false := by rw [beq_eq_false_iff_ne]; omega
     have q2 : ((x : Int) == 0) = true := by rw [h0]; rfl
     clear q h0
     go_enter Tryz.func135, Tryz.ntmps135
     go_wp2
     refine bodyPost_ret (v := .tuple #[]) (by simp [results, Tryz.results135, go_sem]) rfl ⟨rfl, EFr.below g (Below.refl _ _), HE.out⟩
   ·by_cases q : x = y
    ·have q1 : ((x : Int) == (y : Int)) = true := by rw [q]; simp
     clear q h0
     go_enter Tryz.func135, Tryz.ntmps135
     go_wp2
     refine bodyPost_ret (v := .tuple #[]) (by simp [results, Tryz.results135, go_sem]) rfl ⟨rfl, EFr.below g (Below.refl _ _), HE.out⟩
    ·have q1 : ((x : Int) == (y : Int)) = false := by rw [beq_eq_false_iff_ne]; omega
     have q2 : ((x : Int) == 0) = false := by rw [beq_eq_false_iff_ne]; omega
     have q3 : ((y : Int) == 0) = true := by rw [h0]; rfl
     clear q h0
     go_enter Tryz.func135, Tryz.ntmps135
     go_wp2
     refine bodyPost_ret (v := .tuple #[]) (by simp [results, Tryz.results135, go_sem]) rfl ⟨rfl, EFr.below g (Below.refl _ _), HE.out⟩
  ·rw [if_neg h0] at hR
   have q1 : ((x : Int) == (y : Int)) = false := by rw [beq_eq_false_iff_ne]; omega
   have q2 : ((x : Int) == 0) = false := by rw [beq_eq_false_iff_ne]; omega
   have q3 : ((y : Int) == 0) = false := by rw [beq_eq_false_iff_ne]; omega
   have hx1 : 1 ≤ x := by omega
   have hy1 : 1 ≤ y := by omega
   have hlx := hlow (x - 1)
   have hly := hlow (y - 1)
   rw [show x - 1 + 1 = x by omega] at hlx
   rw [show y - 1 + 1 = y by omega] at hly
   have hrx := hr x
   have hry := hr y
   have hg : g < w.heap.size := (he.lt g rfl).2
   have hA := AtO_any w sb 0 pv tb x hc0 hp hl hx
   have hB := fun (W : World) (hb : Below w.heap.size w W) => AtO_any W sb 0 pv tb y (by rw [hb.cell (p := ⟨sb, 0, none⟩) hsb]; exact hc0) (owns_below hp hb) hl hy
   generalize atP tb x = P at *
   generalize atP tb y = Q at *
   have hJ := fun (W : World) (hb : Below w.heap.size w W) => join_any W sb 0 g cap E P.r Q.r (by rw [hb.cell (p := ⟨sb, 2, none⟩) hsb]; exact hc2) (owns_below he hb) hE hrx hry
   have hjl := joinF_len E P.r Q.r
   generalize joinF E P.r Q.r = E1 at *
   have hml := matchF_len tb f E1 P.a Q.a
   have hM : ∀ (W : World) (E' : List Nat) (x' y' : Nat), E'.length = E.length → x' < x → y' < y → EFr g w W → W.ownsRow 0 3 1 (.slice (some ⟨g, 0, none⟩) E.length cap) E.length (natVs E') → Calls Tryz.prog 135 #[.pointer (some ⟨sb, 0, none⟩), .int .i64 x', .int .i64 y'] W fun v w' => v = .returned (.tuple #[]) ∧ EFr g W w' ∧ w'.ownsRow 0 3 1 (.slice (some ⟨g, 0, none⟩) E.length cap) E.length (natVs (matchF tb f E' x' y')) := fun W E' x' y' hE' hx' hy' hW ho => by
    have := ih x' y' E' W (by omega) (by omega) (by omega) (by omega) (by rw [hE']; exact hr) (by rw [hW.cell hsb (fun e => hgs e.symm)]; exact hc0) (by rw [hW.cell hsb (fun e => hgs e.symm), hE']; exact hc2) (owns_blk hp (fun k hk => hW.blk k (hp.lt k hk).2 (fun e => hpg (by rw [hk, e])))) (by rw [hE']; exact ho)
    rw [hE'] at this
    exact this
   unfold tpVal at hA hB
   unfold ptr at hJ
   have HA : Hid _ := hA
   have HB : Hid _ := hB
   have HJ : Hid _ := hJ
   have HM : Hid _ := hM
   have HR : Hid _ := hR
   clear hA hB hJ hM hR he hp hr ih h0 hc0 hc2
   go_enter Tryz.func135, Tryz.ntmps135
   go_wp2_with fail
   refine Calls.mono HA.out ?_
   rintro _ w1 ⟨rfl, hb1⟩
   have hbA := hb1.alloc hb1.size (.cells #[.int .i64 P.r, .int .i64 P.a, .int .i64 P.b, .int .i64 P.sz] 212)
   have HA1 : Hid _ := blk_new w1 (.cells #[.int .i64 P.r, .int .i64 P.a, .int .i64 P.b, .int .i64 P.sz] 212 (0, 0))
   have HBA : Hid _ := hbA
   have hz1 := hb1.size
   clear hbA hb1 HA
   go_wp2_with fail
   refine Calls.mono (HB.out _ HBA.out) ?_
   rintro _ w2 ⟨rfl, hb2⟩
   have hbB := HBA.out.trans (hb2.mono HBA.out.size)
   have hbB2 := hbB.alloc hbB.size (.cells #[.int .i64 Q.r, .int .i64 Q.a, .int .i64 Q.b, .int .i64 Q.sz] 212)
   have ha2 := (hb2.block _ (blk_lt HA1.out)).trans HA1.out
   have hal : Below w2.heap.size w2 (w2.alloc (.cells #[.int .i64 Q.r, .int .i64 Q.a, .int .i64 Q.b, .int .i64 Q.sz] 212 (0, 0))) := (Below.refl _ w2).alloc (Nat.le_refl _) _
   have ha3 := (hal.block _ (blk_lt ha2)).trans ha2
   have hq3 := blk_new w2 (.cells #[.int .i64 Q.r, .int .i64 Q.a, .int .i64 Q.b, .int .i64 Q.sz] 212 (0, 0))
   have hz2 := hbB.size
   have HBB : Hid _ := hbB2
   have HA3 : Hid _ := ha3
   have HQ3 : Hid _ := hq3
   have e0 : (w2.alloc (.cells #[.int .i64 Q.r, .int .i64 Q.a, .int .i64 Q.b, .int .i64 Q.sz] 212 (0, 0))).cell? ⟨w1.heap.size, 0, none⟩ = some (.int .i64 P.r) := by rw [blk_cell ha3]; rfl
   have el := blk_lt ha3
   clear hbB hbB2 ha2 hal ha3 hq3 hb2 HBA HA1 HB
   generalize w1.heap.size = S1 at *
   go_wp2_with fail
   refine Calls.mono (HJ.out _ HBB.out) ?_
   rintro _ w3 ⟨rfl, ⟨k3, a3, hw3⟩, ho3⟩
   have hf3 := EFr.set g k3 (w2.alloc (.cells #[.int .i64 Q.r, .int .i64 Q.a, .int .i64 Q.b, .int .i64 Q.sz] 212 (0, 0))) (.int .i64 a3)
   rw [← hw3] at hf3
   have hA4 := (hf3.blk _ (blk_lt HA3.out) (by omega)).trans HA3.out
   have hQ4 := (hf3.blk _ (blk_lt HQ3.out) (by omega)).trans HQ3.out
   have HF3 : Hid _ := (EFr.below g HBB.out).trans hf3
   have s1 : w3.cell? ⟨S1, 1, none⟩ = some (.int .i64 P.a) := by rw [blk_cell hA4]; rfl
   have t1 : w3.cell? ⟨w2.heap.size, 1, none⟩ = some (.int .i64 Q.a) := by rw [blk_cell hQ4]; rfl
   have sl := blk_lt hA4
   have tl := blk_lt hQ4
   have HA4 : Hid _ := hA4
   have HQ4 : Hid _ := hQ4
   have HO3 : Hid _ := ho3
   clear hw3 hf3 hA4 hQ4 ho3 HBB HA3 HQ3 HJ e0 el
   generalize w2.heap.size = S2 at *
   go_wp2_with fail
   refine Calls.mono (HM.out w3 E1 P.a Q.a hjl (by omega) (by omega) HF3.out HO3.out) ?_
   rintro _ w4 ⟨rfl, hf4, ho4⟩
   have hA5 := (hf4.blk _ (blk_lt HA4.out) (by omega)).trans HA4.out
   have hQ5 := (hf4.blk _ (blk_lt HQ4.out) (by omega)).trans HQ4.out
   have HF4 : Hid _ := HF3.out.trans hf4
   have HO4 : Hid _ := ho4
   have u1 : w4.cell? ⟨S1, 2, none⟩ = some (.int .i64 P.b) := by rw [blk_cell hA5]; rfl
   have v1 : w4.cell? ⟨S2, 2, none⟩ = some (.int .i64 Q.b) := by rw [blk_cell hQ5]; rfl
   have ul := blk_lt hA5
   have vl := blk_lt hQ5
   clear hf4 ho4 hA5 hQ5 HA4 HQ4 HF3 HO3 s1 t1 sl tl
   go_wp2_with fail
   refine Calls.mono (HM.out w4 _ P.b Q.b (hml.trans hjl) (by omega) (by omega) HF4.out HO4.out) ?_
   rintro _ w5 ⟨rfl, hf5, ho5⟩
   have HF5 : Hid _ := HF4.out.trans hf5
   rw [← HR.out] at ho5
   have HO5 : Hid _ := ho5
   clear hf5 ho5 HF4 HO4 HM u1 v1 ul vl
   go_wp2
   refine bodyPost_end (v := .tuple #[]) (by simp [results, Tryz.results135, go_sem]) rfl ⟨rfl, HF5.out, HO5.out⟩
def Ty.has (T : Ty) (rg : Int) : Bool := T.rgl.any (fun x => (x : Int) == rg)
theorem Rel.pairR {tb : List TP} {D : List Ty} {K : List Nat} {T : List Ty} (h : Rel tb D K T) (r a b : Nat) (ha : a ≤ tb.length) (hb : b ≤ tb.length) (sa : (getK D a).size ≤ 63) (sb : (getK D b).size ≤ 63) :
  ∃ D', Rel (Go.Proofs.YtpicaknklgccoaaGreatDoor.pairF tb r a b).2 D' K T ∧ getK D' (Go.Proofs.YtpicaknklgccoaaGreatDoor.pairF tb r a b).1 = .p r (getK D a) (getK D b) ∧ (Go.Proofs.YtpicaknklgccoaaGreatDoor.pairF tb r a b).1 ≤ (Go.Proofs.YtpicaknklgccoaaGreatDoor.pairF tb r a b).2.length ∧ (∀ k, k ≤ tb.length → getK D' k = getK D k) := by
 unfold Go.Proofs.YtpicaknklgccoaaGreatDoor.pairF
 cases hf : tb.findIdx? (hitP r a b) with
 | some i =>
  obtain ⟨hi, hp, _⟩ := List.findIdx?_eq_some_iff_getElem.1 hf
  simp only
  unfold hitP at hp
  simp only [Bool.and_eq_true, beq_iff_eq] at hp
  obtain ⟨p, p1, p2, _⟩ := h.pair (i + 1) (by omega) (by omega)
  rw [Nat.add_sub_cancel, List.getElem?_eq_getElem hi] at p1
  simp only [Option.some.injEq] at p1
  refine ⟨D, h, ?_, by omega, fun _ _ => rfl⟩
  rw [p2, ← p1, hp.1.1, hp.1.2, hp.2]
 | none =>
  simp only
  rw [List.findIdx?_eq_none_iff] at hf
  have hD := h.len
  refine ⟨D ++ [.p r (getK D a) (getK D b)], ⟨by simp [hD], ?_, ?_, fun x hx => by have := h.k x hx; simp; omega, ?_, h.s⟩, ?_, by simp, fun k hk => getK_app D _ k (by omega)⟩
  ·intro j p hj
   by_cases hjl : j < tb.length
   ·rw [List.getElem?_append_left hjl] at hj
    obtain ⟨h1, h2, h3, h4, h5⟩ := h.at_ j p hj
    rw [getK_app D _ p.a (by omega), getK_app D _ p.b (by omega), List.getElem?_append_left (by omega)]
    exact ⟨h1, h2, h3, h4, h5⟩
   ·have hje : j = tb.length := by
     have := (List.getElem?_eq_some_iff.1 hj).1
     simp at this; omega
    subst hje
    rw [List.getElem?_append_right (Nat.le_refl _)] at hj
    simp only [Nat.sub_self, List.getElem?_cons_zero, Option.some.injEq] at hj
    subst hj
    simp only
    rw [getK_app D _ a (by omega), getK_app D _ b (by omega), List.getElem?_append_right (by omega), hD, Nat.sub_self, h.sz a ha, h.sz b hb]
    refine ⟨ha, hb, rfl, by simp only [Ty.size]; omega, by omega⟩
  ·intro i j p q hi hj e1 e2 e3
   have key : ∀ (i : Nat) (p : TP), tb[i]? = some p → ¬ (p.r = r ∧ p.a = a ∧ p.b = b) := by
    intro i p hi hh
    have := hf p (List.mem_of_getElem? hi)
    unfold hitP at this
    simp [hh.1, hh.2.1, hh.2.2] at this
   have last : ∀ (i : Nat) (p : TP), (tb ++ [⟨r, a, b, 1 + (atP tb a).sz + (atP tb b).sz⟩])[i]? = some p → (tb[i]? = some p ∧ i < tb.length) ∨ (i = tb.length ∧ p.r = r ∧ p.a = a ∧ p.b = b) := by
    intro i p hi
    by_cases hil : i < tb.length
    ·rw [List.getElem?_append_left hil] at hi; exact Or.inl ⟨hi, hil⟩
    ·have hie : i = tb.length := by
      have := (List.getElem?_eq_some_iff.1 hi).1
      simp at this; omega
     subst hie
     rw [List.getElem?_append_right (Nat.le_refl _)] at hi
     simp only [Nat.sub_self, List.getElem?_cons_zero, Option.some.injEq] at hi
     subst hi
     exact Or.inr ⟨rfl, rfl, rfl, rfl⟩
   rcases last i p hi with ⟨h1, _⟩ | ⟨h1, h2⟩
   ·rcases last j q hj with ⟨g1, _⟩ | ⟨g1, g2⟩
    ·exact h.nd i j p q h1 g1 e1 e2 e3
    ·exact absurd ⟨e1.trans g2.1, e2.trans g2.2.1, e3.trans g2.2.2⟩ (key i p h1)
   ·rcases last j q hj with ⟨g1, _⟩ | ⟨g1, g2⟩
    ·exact absurd ⟨e1.symm.trans h2.1, e2.symm.trans h2.2.1, e3.symm.trans h2.2.2⟩ (key j q g1)
    ·omega
  ·rw [← h.t]
   apply List.map_congr_left
   intro x hx
   exact getK_app D _ x (by have := h.k x hx; omega)
  ·unfold getK
   rw [if_neg (by omega), Nat.add_sub_cancel, ← hD, List.getElem?_append_right (Nat.le_refl _)]
   simp
def fstT : Ty → Ty
 | .n => .n
 | .p _ a _ => a
def sndT : Ty → Ty
 | .n => .n
 | .p _ _ b => b
def tyR (T : List Ty) (n : NR) : Ty :=
 if n.form = 2 then knownT T n.source
 else if n.form = 12 then knownT T n.p0
 else if n.form = 3 then knownT T n.p1
 else if n.form = 7 then knownT T n.p1
 else if n.form = 11 then knownT T n.p1
 else if n.form = 4 then .p n.region.toNat (knownT T n.p0) (knownT T n.p1)
 else if n.form = 5 then fstT (knownT T n.p0)
 else if n.form = 6 then sndT (knownT T n.p0)
 else .n
theorem fst_size (t : Ty) : (fstT t).size ≤ t.size := by cases t <;> simp [fstT, Ty.size]; omega
theorem snd_size (t : Ty) : (sndT t).size ≤ t.size := by cases t <;> simp [sndT, Ty.size]; omega
theorem stepR {tb : List TP} {D : List Ty} {K : List Nat} {T : List Ty} (h : Rel tb D K T) (n : NR) (hs : n.form = 4 → (Ty.p 0 (knownT T n.p0) (knownT T n.p1)).size ≤ 63) :
  ∃ D', Rel (tyK tb K n n.region.toNat).2 D' (K ++ [(tyK tb K n n.region.toNat).1]) (T ++ [tyR T n]) := by
 obtain ⟨a1, a2, a3⟩ := h.known n.p0
 obtain ⟨b1, b2, b3⟩ := h.known n.p1
 obtain ⟨s1, s2, s3⟩ := h.known n.source
 have push : ∀ k, k ≤ tb.length → (getK D k).size ≤ 63 → ∃ D', Rel tb D' (K ++ [k]) (T ++ [getK D k]) := fun k hk hs => ⟨D, h.push k hk hs⟩
 have p0 : ∃ D', Rel tb D' (K ++ [0]) (T ++ [Ty.n]) := push 0 (Nat.zero_le _) (by simp [getK, Ty.size])
 have hfs := fst_size (knownT T n.p0)
 have hsn := snd_size (knownT T n.p0)
 have part : fstT (knownT T n.p0) = getK D (atP tb (knownK K n.p0)).a ∧ sndT (knownT T n.p0) = getK D (atP tb (knownK K n.p0)).b ∧ (atP tb (knownK K n.p0)).a ≤ tb.length ∧ (atP tb (knownK K n.p0)).b ≤ tb.length := by
  by_cases hk : knownK K n.p0 = 0
  ·rw [a1, hk]
   refine ⟨rfl, rfl, ?_, ?_⟩ <;> simp [atP]
  ·obtain ⟨p, q1, q2, q3, q4, q5⟩ := h.pair (knownK K n.p0) hk a2
   rw [a1, q2, q5]
   exact ⟨rfl, rfl, by omega, by omega⟩
 unfold tyK tyR
 by_cases k2 : n.form = 2
 ·rw [if_pos k2, if_pos k2, s1]; exact push _ s2 (by rw [← s1]; exact s3)
 rw [if_neg k2, if_neg k2]
 by_cases k12 : n.form = 12
 ·rw [if_pos k12, if_pos k12, a1]; exact push _ a2 (by rw [← a1]; exact a3)
 rw [if_neg k12, if_neg k12]
 by_cases k3 : n.form = 3
 ·rw [if_pos k3, if_pos k3, b1]; exact push _ b2 (by rw [← b1]; exact b3)
 rw [if_neg k3, if_neg k3]
 by_cases k7 : n.form = 7
 ·rw [if_pos k7, if_pos k7, b1]; exact push _ b2 (by rw [← b1]; exact b3)
 rw [if_neg k7, if_neg k7]
 by_cases k11 : n.form = 11
 ·rw [if_pos k11, if_pos k11, b1]; exact push _ b2 (by rw [← b1]; exact b3)
 rw [if_neg k11, if_neg k11]
 by_cases k4 : n.form = 4
 ·rw [if_pos k4, if_pos k4]
  obtain ⟨D', h1, h2, h3, _⟩ := h.pairR n.region.toNat (knownK K n.p0) (knownK K n.p1) a2 b2 (by rw [← a1]; exact a3) (by rw [← b1]; exact b3)
  have hs4 := hs k4
  refine ⟨D', ?_⟩
  have := h1.push _ h3 (by rw [h2, ← a1, ← b1]; simpa [Ty.size] using hs4)
  rw [h2, ← a1, ← b1] at this
  exact this
 rw [if_neg k4, if_neg k4]
 by_cases k5 : n.form = 5
 ·rw [if_pos k5, if_pos k5, part.1]; exact push _ part.2.2.1 (by rw [← part.1]; omega)
 rw [if_neg k5, if_neg k5]
 by_cases k6 : n.form = 6
 ·rw [if_pos k6, if_pos k6, part.2.1]; exact push _ part.2.2.2 (by rw [← part.2.1]; omega)
 rw [if_neg k6, if_neg k6]
 exact p0
theorem has_p (r : Nat) (a b : Ty) (rg : Int) : (Ty.p r a b).has rg = (((r : Int) == rg) || a.has rg || b.has rg) := by
 unfold Ty.has
 simp only [Ty.rgl, List.any_cons, List.any_append, Bool.or_assoc]
theorem ment_eq {tb : List TP} {D : List Ty} {K : List Nat} {T : List Ty} (h : Rel tb D K T) (rg : Int) : ∀ (f k : Nat), k < f → k ≤ tb.length → mentF tb f k rg = (getK D k).has rg
 | 0, k, h1, _ => by omega
 | f + 1, k, h1, h2 => by
  simp only [mentF]
  by_cases hk : k = 0
  ·rw [if_pos (.inl hk), hk]; rfl
  ·rw [if_neg (by omega)]
   obtain ⟨p, q1, q2, q3, q4, q5⟩ := h.pair k hk h2
   rw [q5, q2, has_p, ment_eq h rg f p.a (by omega) (by omega), ment_eq h rg f p.b (by omega) (by omega)]
theorem Rel.low {tb : List TP} {D : List Ty} {K : List Nat} {T : List Ty} (h : Rel tb D K T) : Low tb := by
 intro k
 by_cases hk : k < tb.length
 ·obtain ⟨p, q1, q2, q3, q4, q5⟩ := h.pair (k + 1) (by omega) (by omega)
  rw [q5]; omega
 ·unfold atP
  rw [if_neg (by omega), List.getElem?_eq_none (by omega)]
  exact ⟨Nat.zero_le _, Nat.zero_le _⟩
def SzOk : List Ty → List NR → Prop
 | _, [] => True
 | T, n :: r => (n.form = 4 → (Ty.p 0 (knownT T n.p0) (knownT T n.p1)).size ≤ 63) ∧ SzOk (T ++ [tyR T n]) r
def tyRun : List Ty → List NR → List Ty
 | T, [] => T
 | T, n :: r => tyRun (T ++ [tyR T n]) r
def matchT (E : List Nat) : Ty → Ty → List Nat
 | .p r a b, .p s c d => if Ty.p r a b = Ty.p s c d then E else matchT (matchT (joinF E r s) a c) b d
 | _, _ => E
theorem matchT_len : ∀ (a b : Ty) (E : List Nat), (matchT E a b).length = E.length
 | .n, _, _ => by simp [matchT]
 | .p _ _ _, .n, _ => by simp [matchT]
 | .p r a b, .p s c d, E => by
  simp only [matchT]
  split
  ·rfl
  ·rw [matchT_len b d, matchT_len a c, joinF_len]
theorem matchF_T {tb : List TP} {D : List Ty} {K : List Nat} {T : List Ty} (h : Rel tb D K T) : ∀ (f : Nat) (E : List Nat) (x y : Nat), x < f → x ≤ tb.length → y ≤ tb.length → matchF tb f E x y = matchT E (getK D x) (getK D y)
 | 0, _, _, _, h1, _, _ => by omega
 | f + 1, E, x, y, h1, hx, hy => by
  simp only [matchF]
  by_cases e : x = y
  ·rw [if_pos (Or.inl e), e]
   cases getK D y with
   | n => rfl
   | p r a b => simp [matchT]
  ·by_cases x0 : x = 0
   ·rw [if_pos (Or.inr (Or.inl x0)), (h.num x hx).2 x0]; rfl
   ·by_cases y0 : y = 0
    ·rw [if_pos (Or.inr (Or.inr y0)), (h.num y hy).2 y0]
     cases getK D x <;> rfl
    ·rw [if_neg (by omega)]
     obtain ⟨p, _, p2, p3, p4, p5⟩ := h.pair x x0 hx
     obtain ⟨q, _, q2, q3, q4, q5⟩ := h.pair y y0 hy
     have hne : getK D x ≠ getK D y := fun e' => e ((h.injI hx hy).1 e')
     rw [p5, q5, matchF_T h f _ p.a q.a (by omega) (by omega) (by omega), matchF_T h f _ p.b q.b (by omega) (by omega) (by omega)]
     rw [p2, q2] at hne ⊢
     simp only [matchT]
     rw [if_neg hne]
def mapT (f : Nat → Nat) : Ty → Ty
 | .n => .n
 | .p r a b => .p (f r) (mapT f a) (mapT f b)
theorem mapT_fst (f : Nat → Nat) (t : Ty) : mapT f (fstT t) = fstT (mapT f t) := by cases t <;> rfl
theorem mapT_snd (f : Nat → Nat) (t : Ty) : mapT f (sndT t) = sndT (mapT f t) := by cases t <;> rfl
theorem knownT_map (f : Nat → Nat) (T : List Ty) (i : Int) : knownT (T.map (mapT f)) i = mapT f (knownT T i) := by
 unfold knownT
 split
 ·rw [List.getElem?_map]; cases T[i.toNat]? <;> rfl
 ·rfl
def Coarse (c c' : Nat → Nat) : Prop := ∀ i j, c i = c j → c' i = c' j
theorem Coarse.refl (c : Nat → Nat) : Coarse c c := fun _ _ h => h
theorem Coarse.trans {a b c : Nat → Nat} (h : Coarse a b) (g : Coarse b c) : Coarse a c := fun i j e => g i j (h i j e)
theorem Coarse.map {c c' : Nat → Nat} (h : Coarse c c') : ∀ (a b : Ty), mapT c a = mapT c b → mapT c' a = mapT c' b
 | .n, .n, _ => rfl
 | .n, .p _ _ _, e => by simp [mapT] at e
 | .p _ _ _, .n, e => by simp [mapT] at e
 | .p r a b, .p s x y, e => by
  simp only [mapT, Ty.p.injEq] at e ⊢
  exact ⟨h r s e.1, h.map a x e.2.1, h.map b y e.2.2⟩
def BelT (n : Nat) (t : Ty) : Prop := ∀ r ∈ t.rgl, r < n
theorem BelT.p {n r : Nat} {a b : Ty} (h : BelT n (.p r a b)) : r < n ∧ BelT n a ∧ BelT n b :=
 ⟨h r (by simp [Ty.rgl]), fun x hx => h x (by simp [Ty.rgl, hx]), fun x hx => h x (by simp [Ty.rgl, hx])⟩
theorem join_coarse (E : List Nat) (x y : Nat) (hx : x < E.length) (hy : y < E.length) : Coarse (fst' E) (fst' (joinF E x y)) := fun i j h => by
 rw [fst_join E x y hx hy, fst_join E x y hx hy]; exact mrg_keeps _ x y h
theorem match_coarse : ∀ (a b : Ty) (E : List Nat), BelT E.length a → BelT E.length b → Coarse (fst' E) (fst' (matchT E a b))
 | .n, _, _, _, _ => by simp only [matchT]; exact Coarse.refl _
 | .p _ _ _, .n, _, _, _ => by simp only [matchT]; exact Coarse.refl _
 | .p r a b, .p s c d, E, h1, h2 => by
  simp only [matchT]
  split
  ·exact Coarse.refl _
  ·obtain ⟨r1, r2, r3⟩ := h1.p
   obtain ⟨s1, s2, s3⟩ := h2.p
   refine (join_coarse E r s r1 s1).trans ((match_coarse a c _ ?_ ?_).trans (match_coarse b d _ ?_ ?_))
   ·rw [joinF_len]; exact r2
   ·rw [joinF_len]; exact s2
   ·rw [matchT_len, joinF_len]; exact r3
   ·rw [matchT_len, joinF_len]; exact s3
theorem match_same : ∀ (a b : Ty) (E : List Nat), a.bare = b.bare → BelT E.length a → BelT E.length b → mapT (fst' (matchT E a b)) a = mapT (fst' (matchT E a b)) b
 | .n, .n, _, _, _, _ => rfl
 | .n, .p _ _ _, _, h, _, _ => by simp [Ty.bare] at h
 | .p _ _ _, .n, _, h, _, _ => by simp [Ty.bare] at h
 | .p r a b, .p s c d, E, h, h1, h2 => by
  simp only [Ty.bare, Ty.p.injEq, true_and] at h
  simp only [matchT]
  split
  ·rename_i e; rw [e]
  ·obtain ⟨r1, r2, r3⟩ := h1.p
   obtain ⟨s1, s2, s3⟩ := h2.p
   have l1 := joinF_len E r s
   have l2 := matchT_len a c (joinF E r s)
   have k1 := match_coarse a c (joinF E r s) (by rw [l1]; exact r2) (by rw [l1]; exact s2)
   have k2 := match_coarse b d (matchT (joinF E r s) a c) (by rw [l2, l1]; exact r3) (by rw [l2, l1]; exact s3)
   have m1 := match_same a c (joinF E r s) h.1 (by rw [l1]; exact r2) (by rw [l1]; exact s2)
   have m2 := match_same b d (matchT (joinF E r s) a c) h.2 (by rw [l2, l1]; exact r3) (by rw [l2, l1]; exact s3)
   have hj : fst' (joinF E r s) r = fst' (joinF E r s) s := by rw [fst_join E r s r1 s1, fst_join E r s r1 s1]; exact mrg_both _ r s
   simp only [mapT, Ty.p.injEq]
   exact ⟨k2 r s (k1 r s hj), k2.map a c m1, m2⟩
def atR (n : NR) : NR := { n with region := n.at_ }
def setR (n : NR) (r : Int) : NR := { n with region := r }
def shE : List Ty → List Nat → List NR → List Nat
 | _, E, [] => E
 | T, E, n :: r => shE (T ++ [tyR T (atR n)]) (if n.form = 7 ∨ n.form = 11 then matchT E (knownT (T ++ [tyR T (atR n)]) n.p1) (knownT (T ++ [tyR T (atR n)]) n.p2) else E) r
theorem shE_len : ∀ (ns : List NR) (T : List Ty) (E : List Nat), (shE T E ns).length = E.length
 | [], _, _ => rfl
 | n :: r, T, E => by
  simp only [shE]
  rw [shE_len r]
  split
  ·rw [matchT_len]
  ·rfl
theorem belT_known {n : Nat} {T : List Ty} (h : ∀ t ∈ T, BelT n t) (i : Int) : BelT n (knownT T i) := by
 unfold knownT
 split
 ·cases e : T[i.toNat]? with
  | none => intro r hr; simp [Ty.rgl] at hr
  | some t => exact h t (List.mem_of_getElem? e)
 ·intro r hr; simp [Ty.rgl] at hr
theorem belT_tyR {n : Nat} {T : List Ty} (h : ∀ t ∈ T, BelT n t) (m : NR) (hm : m.region.toNat < n) : BelT n (tyR T m) := by
 have h0 := belT_known h m.p0
 have h1 := belT_known h m.p1
 have h2 := belT_known h m.source
 have hn : BelT n .n := fun r hr => by simp [Ty.rgl] at hr
 unfold tyR
 split
 ·exact h2
 split
 ·exact h0
 split
 ·exact h1
 split
 ·exact h1
 split
 ·exact h1
 split
 ·intro r hr
  simp only [Ty.rgl, List.mem_cons, List.mem_append] at hr
  rcases hr with hr | hr | hr
  ·omega
  ·exact h0 r hr
  ·exact h1 r hr
 split
 ·cases e : knownT T m.p0 with
  | n => exact hn
  | p r a b => rw [e] at h0; exact h0.p.2.1
 split
 ·cases e : knownT T m.p0 with
  | n => exact hn
  | p r a b => rw [e] at h0; exact h0.p.2.2
 ·exact hn
def AlikeT : List Ty → List NR → Prop
 | _, [] => True
 | T, n :: r => (n.form = 7 ∨ n.form = 11 → (knownT (T ++ [tyR T n]) n.p1).bare = (knownT (T ++ [tyR T n]) n.p2).bare) ∧ AlikeT (T ++ [tyR T n]) r
def OneT (c : Nat → Nat) : List Ty → List NR → Prop
 | _, [] => True
 | T, n :: r => (n.form = 7 ∨ n.form = 11 → mapT c (knownT (T ++ [tyR T n]) n.p1) = mapT c (knownT (T ++ [tyR T n]) n.p2)) ∧ OneT c (T ++ [tyR T n]) r
theorem shE_coarse : ∀ (ns : List NR) (T : List Ty) (E : List Nat), (∀ t ∈ T, BelT E.length t) → (∀ n ∈ ns, n.at_ < E.length) → Coarse (fst' E) (fst' (shE T E ns))
 | [], _, _, _, _ => Coarse.refl _
 | n :: r, T, E, h, hn => by
  have hb : ∀ t ∈ T ++ [tyR T (atR n)], BelT E.length t := fun t ht => by
   rcases List.mem_append.1 ht with ht | ht
   ·exact h t ht
   ·simp only [List.mem_singleton] at ht; subst ht; exact belT_tyR h _ (by simpa [atR] using hn n (by simp))
  simp only [shE]
  split
  ·refine (match_coarse _ _ E (belT_known hb _) (belT_known hb _)).trans (shE_coarse r _ _ ?_ ?_)
   ·rw [matchT_len]; exact hb
   ·rw [matchT_len]; exact fun m hm => hn m (by simp [hm])
  ·exact shE_coarse r _ _ hb (fun m hm => hn m (by simp [hm]))
theorem shE_one : ∀ (ns : List NR) (T : List Ty) (E : List Nat), (∀ t ∈ T, BelT E.length t) → (∀ n ∈ ns, n.at_ < E.length) → AlikeT T (ns.map atR) → OneT (fst' (shE T E ns)) T (ns.map atR)
 | [], _, _, _, _, _ => trivial
 | n :: r, T, E, h, hn, ha => by
  have hb : ∀ t ∈ T ++ [tyR T (atR n)], BelT E.length t := fun t ht => by
   rcases List.mem_append.1 ht with ht | ht
   ·exact h t ht
   ·simp only [List.mem_singleton] at ht; subst ht; exact belT_tyR h _ (by simpa [atR] using hn n (by simp))
  simp only [List.map_cons, AlikeT] at ha
  simp only [List.map_cons, OneT, shE]
  have hf : (atR n).form = n.form := rfl
  by_cases hc : n.form = 7 ∨ n.form = 11
  ·rw [if_pos hc]
   have hb2 : ∀ t ∈ T ++ [tyR T (atR n)], BelT (matchT E (knownT (T ++ [tyR T (atR n)]) n.p1) (knownT (T ++ [tyR T (atR n)]) n.p2)).length t := by rw [matchT_len]; exact hb
   have hn2 : ∀ m ∈ r, m.at_ < (matchT E (knownT (T ++ [tyR T (atR n)]) n.p1) (knownT (T ++ [tyR T (atR n)]) n.p2)).length := by rw [matchT_len]; exact fun m hm => hn m (by simp [hm])
   refine ⟨fun _ => ?_, shE_one r _ _ hb2 hn2 ha.2⟩
   exact (shE_coarse r _ _ hb2 hn2).map _ _ (match_same _ _ E (ha.1 hc) (belT_known hb _) (belT_known hb _))
  ·rw [if_neg hc]
   exact ⟨fun h => absurd h hc, shE_one r _ _ hb (fun m hm => hn m (by simp [hm])) ha.2⟩
theorem tyR_map (f : Nat → Nat) (T : List Ty) (n m : NR) (hm : m = { n with region := m.region }) (hf : n.form = 4 → m.region.toNat = f n.region.toNat) : tyR (T.map (mapT f)) m = mapT f (tyR T n) := by
 have e1 : m.form = n.form := by rw [hm]
 have e2 : m.source = n.source := by rw [hm]
 have e3 : m.p0 = n.p0 := by rw [hm]
 have e4 : m.p1 = n.p1 := by rw [hm]
 unfold tyR
 rw [e1, e2, e3, e4, knownT_map, knownT_map, knownT_map, ← mapT_fst, ← mapT_snd]
 by_cases h4 : n.form = 4
 ·rw [hf h4]; simp [h4, mapT]
 ·simp only [h4, if_false]
  repeat' split
  all_goals rfl
set_option maxRecDepth 100000 in
set_option maxHeartbeats 2000000 in
theorem Root_any (w : World) (nv ov : Value) (ns : List NR) (op : List Int) (h : TreeIn w nv ov ns op) (hl : ns.length ≤ 9000) : Calls Tryz.prog 68 #[treeV nv ov] w fun v w' => v = .returned (.int .i64 ((ns.length : Int) - 1)) ∧ Below w.heap.size w w' := by
 obtain ⟨a, cap, rfl⟩ := slice_any h.nd
 obtain ⟨a', cap', rfl⟩ := slice_any h.op
 clear h
 unfold treeV
 go_enter Tryz.func68, Tryz.ntmps68
 go_wp2
 go_ret
 exact ⟨rfl, (Below.refl _ _).alloc (Nat.le_refl _) _⟩
theorem belY_d {W w : World} {b : Nat} (h : Below b W w) : Below b W w.drew := h.trans ⟨rfl, rfl, rfl, Nat.le_refl _, fun _ _ => rfl⟩
theorem belY_dn {W w : World} {n : Nat} {b : Nat} (h : Below b W w) : Below b W (w.drewN n) := h.trans ⟨rfl, rfl, rfl, Nat.le_refl _, fun _ _ => rfl⟩
theorem belY_al {w W : World} (h : Below w.heap.size w W) (o : Obj) : Below w.heap.size w (W.alloc o) := h.alloc h.size o
theorem stepY_call {P : Program} {ops : Array Oper} {o : Oper} {a : Act} {w : World} {K : Act → World → Prop} {Q : Exit → Act → World → Prop} {E : Prop} (hg : o.guard = none)
  (f : FuncId) (args : Array Value) (hrun : (execOp a.eval o).run P w = .ok (.enter f args) w) (h : Calls P f args w fun e w' => ∃ v, e = .returned v ∧ K (a.put o.dst v) w') : if Region.wanted o (yielded ops a.tmps) = true then Oper.wp P o a w K Q else E := by
 have hw : Region.wanted o (yielded ops a.tmps) = true := by simp [Region.wanted, hg]
 rw [if_pos hw]
 unfold Oper.wp
 rw [hrun]
 refine Calls.mono h ?_
 rintro e w' ⟨v, rfl, hk⟩
 exact hk
abbrev nz : Array Value := #[.int .i64 0, .int .i64 0, .int .i64 0, .int .i64 0, .string ⟨#[]⟩, .int .i64 0, .int .i64 0, .int .i64 0, .int .i64 0, .int .i64 0]
theorem nz_cells {w : World} {b : Nat} (h : w.heap[b]? = some (.cells nz 160 (0, 0))) : w.cell? ⟨b, 0, none⟩ = some (.int .i64 0) ∧ w.cell? ⟨b, 1, none⟩ = some (.int .i64 0) ∧ w.cell? ⟨b, 2, none⟩ = some (.int .i64 0) ∧ w.cell? ⟨b, 3, none⟩ = some (.int .i64 0) ∧ w.cell? ⟨b, 4, none⟩ = some (.string ⟨#[]⟩) ∧ w.cell? ⟨b, 5, none⟩ = some (.int .i64 0) ∧ w.cell? ⟨b, 6, none⟩ = some (.int .i64 0) ∧ w.cell? ⟨b, 7, none⟩ = some (.int .i64 0) ∧ w.cell? ⟨b, 8, none⟩ = some (.int .i64 0) ∧ w.cell? ⟨b, 9, none⟩ = some (.int .i64 0) := by
 refine ⟨?_, ?_, ?_, ?_, ?_, ?_, ?_, ?_, ?_, ?_⟩ <;> (rw [blk_cell h]; rfl)
theorem nz_free {w : World} {b : Nat} (h : w.heap[b]? = some (.cells nz 160 (0, 0))) : w.frozen? ⟨b, 0, none⟩ = false ∧ w.frozen? ⟨b, 1, none⟩ = false ∧ w.frozen? ⟨b, 2, none⟩ = false ∧ w.frozen? ⟨b, 3, none⟩ = false ∧ w.frozen? ⟨b, 4, none⟩ = false ∧ w.frozen? ⟨b, 5, none⟩ = false ∧ w.frozen? ⟨b, 6, none⟩ = false ∧ w.frozen? ⟨b, 7, none⟩ = false ∧ w.frozen? ⟨b, 8, none⟩ = false ∧ w.frozen? ⟨b, 9, none⟩ = false :=
 ⟨blk_free h 0, blk_free h 1, blk_free h 2, blk_free h 3, blk_free h 4, blk_free h 5, blk_free h 6, blk_free h 7, blk_free h 8, blk_free h 9⟩
theorem bel_set {B b o : Nat} {w0 w : World} {v : Value} (h : Below B w0 w) (hb : B ≤ b) : Below B w0 (w.setCell ⟨b, o, none⟩ v) :=
 ⟨h.os, h.tape, h.output, by have := h.size; simp only [World.setCell, Array.size_modify]; omega, fun k hk => by rw [blk_other _ _ (by simp only; omega)]; exact h.block k hk⟩
theorem nz_end {B b : Nat} {w0 w : World} (v0 v1 v2 v3 v4 v5 v6 v7 v8 v9 : Value) (hw : Below B w0 w) (hb : B ≤ b) (h : w.heap[b]? = some (.cells nz 160 (0, 0))) :
  ((((((((((w.setCell ⟨b, 0, none⟩ v0).setCell ⟨b, 1, none⟩ v1).setCell ⟨b, 2, none⟩ v2).setCell ⟨b, 3, none⟩ v3).setCell ⟨b, 4, none⟩ v4).setCell ⟨b, 5, none⟩ v5).setCell ⟨b, 6, none⟩ v6).setCell ⟨b, 7, none⟩ v7).setCell ⟨b, 8, none⟩ v8).setCell ⟨b, 9, none⟩ v9).heap[b]? = some (.cells #[v0, v1, v2, v3, v4, v5, v6, v7, v8, v9] 160 (0, 0)) ∧ Below B w0 ((((((((((w.setCell ⟨b, 0, none⟩ v0).setCell ⟨b, 1, none⟩ v1).setCell ⟨b, 2, none⟩ v2).setCell ⟨b, 3, none⟩ v3).setCell ⟨b, 4, none⟩ v4).setCell ⟨b, 5, none⟩ v5).setCell ⟨b, 6, none⟩ v6).setCell ⟨b, 7, none⟩ v7).setCell ⟨b, 8, none⟩ v8).setCell ⟨b, 9, none⟩ v9) := by
 have h0 : (w.setCell ⟨b, 0, none⟩ v0).heap[b]? = some (.cells #[v0, .int .i64 0, .int .i64 0, .int .i64 0, .string ⟨#[]⟩, .int .i64 0, .int .i64 0, .int .i64 0, .int .i64 0, .int .i64 0] 160 (0, 0)) := blk_set h 0 _
 have h1 : ((w.setCell ⟨b, 0, none⟩ v0).setCell ⟨b, 1, none⟩ v1).heap[b]? = some (.cells #[v0, v1, .int .i64 0, .int .i64 0, .string ⟨#[]⟩, .int .i64 0, .int .i64 0, .int .i64 0, .int .i64 0, .int .i64 0] 160 (0, 0)) := blk_set h0 1 _
 have h2 : (((w.setCell ⟨b, 0, none⟩ v0).setCell ⟨b, 1, none⟩ v1).setCell ⟨b, 2, none⟩ v2).heap[b]? = some (.cells #[v0, v1, v2, .int .i64 0, .string ⟨#[]⟩, .int .i64 0, .int .i64 0, .int .i64 0, .int .i64 0, .int .i64 0] 160 (0, 0)) := blk_set h1 2 _
 have h3 : ((((w.setCell ⟨b, 0, none⟩ v0).setCell ⟨b, 1, none⟩ v1).setCell ⟨b, 2, none⟩ v2).setCell ⟨b, 3, none⟩ v3).heap[b]? = some (.cells #[v0, v1, v2, v3, .string ⟨#[]⟩, .int .i64 0, .int .i64 0, .int .i64 0, .int .i64 0, .int .i64 0] 160 (0, 0)) := blk_set h2 3 _
 have h4 : (((((w.setCell ⟨b, 0, none⟩ v0).setCell ⟨b, 1, none⟩ v1).setCell ⟨b, 2, none⟩ v2).setCell ⟨b, 3, none⟩ v3).setCell ⟨b, 4, none⟩ v4).heap[b]? = some (.cells #[v0, v1, v2, v3, v4, .int .i64 0, .int .i64 0, .int .i64 0, .int .i64 0, .int .i64 0] 160 (0, 0)) := blk_set h3 4 _
 have h5 : ((((((w.setCell ⟨b, 0, none⟩ v0).setCell ⟨b, 1, none⟩ v1).setCell ⟨b, 2, none⟩ v2).setCell ⟨b, 3, none⟩ v3).setCell ⟨b, 4, none⟩ v4).setCell ⟨b, 5, none⟩ v5).heap[b]? = some (.cells #[v0, v1, v2, v3, v4, v5, .int .i64 0, .int .i64 0, .int .i64 0, .int .i64 0] 160 (0, 0)) := blk_set h4 5 _
 have h6 : (((((((w.setCell ⟨b, 0, none⟩ v0).setCell ⟨b, 1, none⟩ v1).setCell ⟨b, 2, none⟩ v2).setCell ⟨b, 3, none⟩ v3).setCell ⟨b, 4, none⟩ v4).setCell ⟨b, 5, none⟩ v5).setCell ⟨b, 6, none⟩ v6).heap[b]? = some (.cells #[v0, v1, v2, v3, v4, v5, v6, .int .i64 0, .int .i64 0, .int .i64 0] 160 (0, 0)) := blk_set h5 6 _
 have h7 : ((((((((w.setCell ⟨b, 0, none⟩ v0).setCell ⟨b, 1, none⟩ v1).setCell ⟨b, 2, none⟩ v2).setCell ⟨b, 3, none⟩ v3).setCell ⟨b, 4, none⟩ v4).setCell ⟨b, 5, none⟩ v5).setCell ⟨b, 6, none⟩ v6).setCell ⟨b, 7, none⟩ v7).heap[b]? = some (.cells #[v0, v1, v2, v3, v4, v5, v6, v7, .int .i64 0, .int .i64 0] 160 (0, 0)) := blk_set h6 7 _
 have h8 : (((((((((w.setCell ⟨b, 0, none⟩ v0).setCell ⟨b, 1, none⟩ v1).setCell ⟨b, 2, none⟩ v2).setCell ⟨b, 3, none⟩ v3).setCell ⟨b, 4, none⟩ v4).setCell ⟨b, 5, none⟩ v5).setCell ⟨b, 6, none⟩ v6).setCell ⟨b, 7, none⟩ v7).setCell ⟨b, 8, none⟩ v8).heap[b]? = some (.cells #[v0, v1, v2, v3, v4, v5, v6, v7, v8, .int .i64 0] 160 (0, 0)) := blk_set h7 8 _
 have h9 : ((((((((((w.setCell ⟨b, 0, none⟩ v0).setCell ⟨b, 1, none⟩ v1).setCell ⟨b, 2, none⟩ v2).setCell ⟨b, 3, none⟩ v3).setCell ⟨b, 4, none⟩ v4).setCell ⟨b, 5, none⟩ v5).setCell ⟨b, 6, none⟩ v6).setCell ⟨b, 7, none⟩ v7).setCell ⟨b, 8, none⟩ v8).setCell ⟨b, 9, none⟩ v9).heap[b]? = some (.cells #[v0, v1, v2, v3, v4, v5, v6, v7, v8, v9] 160 (0, 0)) := blk_set h8 9 _
 exact ⟨h9, bel_set (bel_set (bel_set (bel_set (bel_set (bel_set (bel_set (bel_set (bel_set (bel_set hw hb) hb) hb) hb) hb) hb) hb) hb) hb) hb⟩
theorem grow_set {w W0 w' : World} {sb o : Nat} {A : Array Value} {T : TypeId} {ev nv : Value} (hy : w.heap[sb]? = some (.cells A T (0, 0))) (hW : Below w.heap.size w W0) (hg : W0.grownBy w' ev.ownBlock) (hev : ev.ownBlock ≠ some sb) :
  (w'.setCell ⟨sb, o, none⟩ nv).heap[sb]? = some (.cells (A.setIfInBounds o nv) T (0, 0)) ∧ (∀ k, k < w.heap.size → k ≠ sb → ev.ownBlock ≠ some k → (w'.setCell ⟨sb, o, none⟩ nv).heap[k]? = w.heap[k]?) ∧ w.heap.size ≤ (w'.setCell ⟨sb, o, none⟩ nv).heap.size ∧ (w'.setCell ⟨sb, o, none⟩ nv).os = w.os ∧ (w'.setCell ⟨sb, o, none⟩ nv).tape = w.tape ∧ (w'.setCell ⟨sb, o, none⟩ nv).output = w.output := by
 have hl := blk_lt hy
 have yW : W0.heap[sb]? = some (.cells A T (0, 0)) := by rw [hW.block sb hl]; exact hy
 have yw := grown_blk hg yW hev
 refine ⟨blk_set yw o _, fun k hk hks hke => ?_, ?_, hg.os.trans hW.os, hg.tape.trans hW.tape, hg.output.trans hW.output⟩
 ·rw [blk_other _ _ (by simpa using hks), hg.block k (by have := hW.size; omega) (fun e => hke e.symm), hW.block k hk]
 ·have := hW.size; have := hg.size; simp only [World.setCell, Array.size_modify]; omega
structure Sh1 (w0 : World) (sb q : Nat) (n0 : NR) (wr : World) (ev : Value) (k : Nat) : Prop where
 b : Below sb w0 wr
 y : wr.heap[sb]? = some (.cells #[.slice none 0 0, .slice none 0 0, ev] 186 (0, 0))
 n : wr.heap[q]? = some (nrO n0)
 r : wr.ownsRow 0 3 1 ev k (natVs (List.range k))
 e : ∀ g, ev.ownBlock = some g → sb < g ∧ g ≠ q
 sq : sb < q
theorem Sh1.add {w0 wr W0 w' : World} {sb q : Nat} {n0 : NR} {ev : Value} {k g cap : Nat} (h : Sh1 w0 sb q n0 wr ev k) (hW : Below wr.heap.size wr W0) (hg : W0.grownBy w' ev.ownBlock)
  (hown : w'.ownsRow 0 3 1 (.slice (some ⟨g, 0, none⟩) (k + 1) cap) (k + 1) (natVs (List.range k) ++ [.int .i64 k])) (hor : ev.ownBlock = some g ∨ W0.heap.size ≤ g) :
  Sh1 w0 sb q n0 (w'.setCell ⟨sb, 2, none⟩ (.slice (some ⟨g, 0, none⟩) (k + 1) cap)) (.slice (some ⟨g, 0, none⟩) (k + 1) cap) (k + 1) := by
 have hsl := blk_lt h.y
 have hql := blk_lt h.n
 have hws := hW.size
 obtain ⟨h1, h2, h3, h4, h5, h6⟩ := grow_set (o := 2) (nv := .slice (some ⟨g, 0, none⟩) (k + 1) cap) h.y hW hg (fun e => by have := (h.e _ e).1; omega)
 have hgs : sb < g ∧ g ≠ q := by
  rcases hor with e | e
  ·exact h.e g e
  ·exact ⟨by omega, by omega⟩
 have hsq := h.sq
 have hbs := h.b.size
 refine ⟨⟨h4.trans h.b.os, h5.trans h.b.tape, h6.trans h.b.output, by omega, fun j hj => ?_⟩, h1, ?_, ?_, fun j hj => ?_, hsq⟩
 ·rw [h2 j (by omega) (by omega) (fun e => by have := (h.e j e).1; omega)]; exact h.b.block j hj
 ·rw [h2 q hql (by omega) (fun e => (h.e q e).2 rfl)]; exact h.n
 ·rw [List.range_succ]
  unfold natVs at hown ⊢
  rw [List.map_append]
  exact owns_blk hown (fun j hj => blk_other _ _ (by simp only [Value.ownBlock, Option.some.injEq] at hj; subst hj; simp only; omega))
 ·simp only [Value.ownBlock, Option.some.injEq] at hj; subst hj; exact hgs
structure Sh2 (w0 : World) (sb g cap B : Nat) (wr : World) (pv tv : Value) (tb : List TP) (K E : List Nat) : Prop where
 b : Below sb w0 wr
 c : CInO sb 0 #[pv, tv, .slice (some ⟨g, 0, none⟩) B cap] 186 wr pv tv tb K
 r : wr.ownsRow 0 3 1 (.slice (some ⟨g, 0, none⟩) B cap) B (natVs E)
 gs : sb < g
 pg : pv.ownBlock ≠ some g
 tg : tv.ownBlock ≠ some g
 pb : ∀ j, pv.ownBlock = some j → sb < j
 tb' : ∀ j, tv.ownBlock = some j → sb < j
theorem Sh2.below {w0 wr wr' : World} {sb g cap B : Nat} {pv tv : Value} {tb : List TP} {K E : List Nat} (h : Sh2 w0 sb g cap B wr pv tv tb K E) (hb : Below wr.heap.size wr wr') : Sh2 w0 sb g cap B wr' pv tv tb K E :=
 ⟨h.b.trans (hb.mono (Nat.le_of_lt (blk_lt h.c.y))), h.c.below hb, owns_below h.r hb, h.gs, h.pg, h.tg, h.pb, h.tb'⟩
theorem Sh2.add {w0 wr wr' : World} {sb g cap B : Nat} {pv tv pv' tv' : Value} {tb tb2 : List TP} {K K2 E : List Nat} (h : Sh2 w0 sb g cap B wr pv tv tb K E) (hf : CFr sb wr wr' pv tv pv' tv') (hc : CInO sb 0 #[pv', tv', .slice (some ⟨g, 0, none⟩) B cap] 186 wr' pv' tv' tb2 K2) : Sh2 w0 sb g cap B wr' pv' tv' tb2 K2 E := by
 have hgl : g < wr.heap.size := (h.r.lt g rfl).2
 have hgs := h.gs
 have hsl := blk_lt h.c.y
 have hbs := h.b.size
 refine ⟨⟨hf.os.trans h.b.os, hf.tape.trans h.b.tape, hf.output.trans h.b.output, by have := hf.size; omega, fun k hk => ?_⟩, hc, owns_blk h.r (fun k hk => ?_), hgs, fun e => ?_, fun e => ?_, fun j hj => ?_, fun j hj => ?_⟩
 ·rw [hf.blk k (by omega) (by omega) (fun e => by have := h.pb k e; omega) (fun e => by have := h.tb' k e; omega)]; exact h.b.block k hk
 ·simp only [Value.ownBlock, Option.some.injEq] at hk
  subst hk
  exact hf.blk g hgl (by omega) h.pg h.tg
 ·rcases hf.p g e with e | e
  ·exact h.pg e
  ·omega
 ·rcases hf.t g e with e | e
  ·exact h.tg e
  ·omega
 ·rcases hf.p j hj with e | e
  ·exact h.pb j e
  ·omega
 ·rcases hf.t j hj with e | e
  ·exact h.tb' j e
  ·omega
theorem Sh2.mat {w0 wr wr' : World} {sb g cap B : Nat} {pv tv : Value} {tb : List TP} {K E E' : List Nat} (h : Sh2 w0 sb g cap B wr pv tv tb K E) (hf : EFr g wr wr') (hr : wr'.ownsRow 0 3 1 (.slice (some ⟨g, 0, none⟩) B cap) B (natVs E')) : Sh2 w0 sb g cap B wr' pv tv tb K E' := by
 have hgs := h.gs
 have hsl := blk_lt h.c.y
 have hbs := h.b.size
 refine ⟨⟨hf.os.trans h.b.os, hf.tape.trans h.b.tape, hf.output.trans h.b.output, by have := hf.size; omega, fun k hk => ?_⟩, ?_, hr, hgs, h.pg, h.tg, h.pb, h.tb'⟩
 ·rw [hf.blk k (by omega) (by omega)]; exact h.b.block k hk
 ·exact ⟨by rw [hf.blk sb hsl (by omega)]; exact h.c.y, h.c.a, h.c.b, owns_blk h.c.p (fun k hk => hf.blk k (h.c.p.lt k hk).2 (fun e => h.pg (by rw [hk, e]))), owns_blk h.c.t (fun k hk => hf.blk k (h.c.t.lt k hk).2 (fun e => h.tg (by rw [hk, e]))), h.c.py, h.c.ty, h.c.pt⟩
def TbB (B : Nat) (tb : List TP) : Prop := ∀ j, (atP tb j).r < B
theorem atP_app (tb : List TP) (x : TP) (j : Nat) : atP (tb ++ [x]) j = atP tb j ∨ atP (tb ++ [x]) j = x := by
 unfold atP
 split
 ·exact Or.inl rfl
 ·by_cases h : j - 1 < tb.length
  ·rw [List.getElem?_append_left h]; exact Or.inl rfl
  ·rw [List.getElem?_append_right (by omega)]
   by_cases h2 : j - 1 - tb.length = 0
   ·rw [h2]; exact Or.inr rfl
   ·rw [List.getElem?_eq_none (by simp; omega), List.getElem?_eq_none (by omega)]; exact Or.inl rfl
theorem tyK_b {B : Nat} {tb : List TP} (h : TbB B tb) (K : List Nat) (n : NR) (r : Nat) (hr : r < B) : TbB B (tyK tb K n r).2 := by
 have hp : ∀ a b, TbB B (pairF tb r a b).2 := fun a b => by
  unfold pairF
  split
  ·exact h
  ·intro j
   simp only
   rcases atP_app tb ⟨r, a, b, 1 + (atP tb a).sz + (atP tb b).sz⟩ j with e | e
   ·rw [e]; exact h j
   ·rw [e]; exact hr
 unfold tyK
 repeat' split
 all_goals first | exact h | exact hp _ _
structure FdIn (fb : Nat) (w : World) (nv ov pv tv : Value) (tb : List TP) (K : List Nat) (ns : List NR) (op : List Int) : Prop where
 c : CInO fb 2 #[nv, ov, pv, tv] 191 w pv tv tb K
 t : TreeIn w nv ov ns op
theorem FdIn.below {fb : Nat} {w w' : World} {nv ov pv tv : Value} {tb : List TP} {K : List Nat} {ns : List NR} {op : List Int} (h : FdIn fb w nv ov pv tv tb K ns op) (hb : Below w.heap.size w w') : FdIn fb w' nv ov pv tv tb K ns op := ⟨h.c.below hb, h.t.below hb⟩
set_option maxRecDepth 100000 in
set_option maxHeartbeats 4000000 in
theorem fmentions_any (fb : Nat) (w : World) (nv ov pv tv : Value) (tb : List TP) (K : List Nat) (ns : List NR) (op : List Int) (D : List Ty) (T : List Ty) (h : FdIn fb w nv ov pv tv tb K ns op) (hR : Rel tb D K T) (hl : tb.length ≤ 9000) (hK : K.length ≤ 9000) (i rg : Nat) (hi : i ≤ 9000) :
  Calls Tryz.prog 137 #[ptr fb, .int .i64 i, .int .i64 rg] w fun v w' => v = .returned (.bool ((knownT T i).has rg)) ∧ Below w.heap.size w w' := by
 obtain ⟨k1, k2, k3⟩ := hR.known i
 have hof := knownO_any w fb 2 tv K i h.c.c1 h.c.t hK (by omega)
 have hme := MentionsO_any fb 2 pv tb hl hR.low rg (tb.length + 1) (knownK K i) (by omega) (by omega) w h.c.c0 h.c.p
 rw [ment_eq hR rg _ _ (by omega) k2, ← k1] at hme
 have HOF : Hid _ := hof
 have HME : Hid _ := hme
 have hfl := blk_lt h.c.y
 generalize knownK K i = kk at *
 generalize (knownT T i).has rg = mm at *
 clear hof hme h hR k1 k2 k3
 show Calls _ _ #[Value.pointer (some ⟨fb, 0, none⟩), _, _] w _
 go_enter Tryz.func137, Tryz.ntmps137
 go_wp2_with fail
 refine Calls.mono HOF.out ?_
 rintro _ _ ⟨rfl, rfl⟩
 go_wp2_with fail
 refine Calls.mono HME.out ?_
 rintro _ w2 ⟨rfl, hb2⟩
 have HB2 : Hid _ := hb2
 clear hb2
 go_wp2
 go_ret
 exact ⟨rfl, HB2.out⟩
def spanF (T : List Ty) (rg : Nat) : List NR → Nat → Nat → Nat → Nat × Nat
 | [], _, a, b => (a, b)
 | n :: r, i, a, b => if (knownT T i).has rg = true then spanF T rg r (i + 1) (if n.at_ < a then n.at_ else a) (if b < n.beh then n.beh else b) else spanF T rg r (i + 1) a b
def aboutF (T : List Ty) (rg a b : Nat) : List NR → Nat → Int
 | [], _ => -1
 | n :: r, i => if n.at_ ≤ a ∧ b ≤ n.beh ∧ (knownT T i).has rg = false then (i : Int) else aboutF T rg a b r (i + 1)
set_option maxRecDepth 100000 in
set_option maxHeartbeats 8000000 in
theorem span_any (fb : Nat) (w : World) (x1 : Option Addr) (n1 c1 : Nat) (x2 : Option Addr) (n2 c2 : Nat) (pv tv : Value) (tb : List TP) (K : List Nat) (ns : List NR) (op : List Int) (D : List Ty) (T : List Ty) (h : FdIn fb w (.slice x1 n1 c1) (.slice x2 n2 c2) pv tv tb K ns op) (hR : Rel tb D K T) (hl : tb.length ≤ 9000) (hK : K.length ≤ 9000) (hn : ns.length ≤ 9000) (rg : Nat) (n0 : NR) (h0 : ns[ns.length - 1]? = some n0) :
  Calls Tryz.prog 136 #[ptr fb, .int .i64 rg] w fun v w' => v = .returned (.tuple #[.int .i64 (spanF T rg ns 0 n0.beh n0.at_).1, .int .i64 (spanF T rg ns 0 n0.beh n0.at_).2]) ∧ Below w.heap.size w w' := by
 obtain ⟨m, hm⟩ : ∃ m, m = ns.length := ⟨_, rfl⟩
 have hm1 : 1 ≤ m := by have := (List.getElem?_eq_some_iff.1 h0).1; omega
 have hfl := blk_lt h.c.y
 have hCC : ∀ W', Below w.heap.size w W' → W'.cell? ⟨fb, 0, none⟩ = some (.slice x1 n1 c1) ∧ W'.cell? ⟨fb, 1, none⟩ = some (.slice x2 n2 c2) ∧ fb < W'.heap.size := fun W' hb => by
  have := (h.below hb).c.y
  exact ⟨by rw [blk_cell this]; rfl, by rw [blk_cell this]; rfl, blk_lt this⟩
 have hRO : ∀ W', Below w.heap.size w W' → Calls Tryz.prog 68 #[.agg #[.slice x1 n1 c1, .slice x2 n2 c2]] W' fun v w' => v = .returned (.int .i64 ((m - 1 : Nat) : Int)) ∧ Below w.heap.size w w' ∧ Below W'.heap.size W' w' := fun W' hb => by
  refine (Root_any W' _ _ ns op (h.below hb).t hn).mono ?_
  rintro _ w' ⟨rfl, hb'⟩
  exact ⟨by congr 2; omega, hb.trans (hb'.mono hb.size), hb'⟩
 have hNO : ∀ W', Below w.heap.size w W' → ∀ (k : Nat) (n : NR), ns[k]? = some n → Calls Tryz.prog 94 #[.agg #[.slice x1 n1 c1, .slice x2 n2 c2], .int .i64 k] W' fun v w' => v = .returned (nrVal n) ∧ Below w.heap.size w w' ∧ Below W'.heap.size W' w' := fun W' hb k n hk => by
  refine (Node_in' W' _ _ ns op (h.below hb).t k n hk hn).mono ?_
  rintro _ w' ⟨rfl, hb'⟩
  exact ⟨rfl, hb.trans (hb'.mono hb.size), hb'⟩
 have hN0 := fun W' hb => hNO W' hb (m - 1) n0 (by rw [hm]; exact h0)
 have hLE : ∀ W', Below w.heap.size w W' → Calls Tryz.prog 93 #[.agg #[.slice x1 n1 c1, .slice x2 n2 c2]] W' fun v w' => v = .returned (.int .i64 m) ∧ Below w.heap.size w w' := fun W' hb => by
  have := Len_any W' _ _ ns op (h.below hb).t
  rw [← hm] at this
  refine this.mono ?_
  rintro _ w' ⟨rfl, hb'⟩
  exact ⟨rfl, hb.trans (hb'.mono hb.size)⟩
 have hME : ∀ W', Below w.heap.size w W' → ∀ i : Nat, i < m → Calls Tryz.prog 137 #[.pointer (some ⟨fb, 0, none⟩), .int .i64 i, .int .i64 rg] W' fun v w' => v = .returned (.bool ((knownT T i).has rg)) ∧ Below w.heap.size w w' := fun W' hb i hi => by
  refine (fmentions_any fb W' _ _ pv tv tb K ns op D T (h.below hb) hR hl hK i rg (by omega)).mono ?_
  rintro _ w' ⟨rfl, hb'⟩
  exact ⟨rfl, hb.trans (hb'.mono hb.size)⟩
 obtain ⟨R, hRR⟩ : ∃ R, R = spanF T rg ns 0 n0.beh n0.at_ := ⟨_, rfl⟩
 rw [← hRR]
 unfold nrVal at hN0 hNO
 have HCC : Hid _ := hCC
 have HRO : Hid _ := hRO
 have HNO : Hid _ := hNO
 have HN0 : Hid _ := hN0
 have HLE : Hid _ := hLE
 have HME : Hid _ := hME
 have HM : Hid _ := hm
 have HRR : Hid _ := hRR
 obtain ⟨b0, b1, bl⟩ := hCC w (Below.refl _ _)
 rw [← hm] at hn
 clear hCC hRO hNO hN0 hLE hME h hR hm hRR h0
 show Calls _ _ #[Value.pointer (some ⟨fb, 0, none⟩), _] w _
 go_enter Tryz.func136, Tryz.ntmps136
 go_upto_region 1 with fail
 go_cut [6] from 11 to 20 (fun t6 wx => ∃ q, t6 = .pointer (some ⟨q, 0, none⟩) ∧ wx.heap[q]? = some (nrO n0) ∧ w.heap.size ≤ q ∧ Below w.heap.size w wx)
 case first =>
  go_region_law (first
   | (refine stepY_call rfl 68 #[.agg #[.slice x1 n1 c1, .slice x2 n2 c2]] ?_ ?_
      ·go_simp
      refine Calls.mono (HRO.out _ ?_) ?_
      ·repeat (first | with_reducible exact Below.refl _ _ | with_reducible refine belY_al ?_ _ | with_reducible refine belY_d ?_ | with_reducible refine belY_dn ?_)
      rintro e w2 ⟨rfl, hb2, hb2'⟩
      obtain ⟨b0, b1, bl⟩ := HCC.out _ hb2
      have hb2s := hb2.size
      try (have hz : w2.heap[w.heap.size]? = some (.cells nz 160 (0, 0)) := (hb2'.block _ (by simp)).trans (blk_new _ _))
      refine ⟨_, rfl, ?_⟩)
   | (refine stepY_call rfl 94 #[.agg #[.slice x1 n1 c1, .slice x2 n2 c2], .int .i64 ((m - 1 : Nat) : Int)] ?_ ?_
      ·go_simp
      refine Calls.mono (HN0.out _ ?_) ?_
      ·repeat (first | with_reducible exact Below.refl _ _ | with_reducible exact hb2 | with_reducible refine belY_al ?_ _ | with_reducible refine belY_d ?_ | with_reducible refine belY_dn ?_)
      rintro e w3 ⟨rfl, hb3, hb3'⟩
      try (have hz3 : w3.heap[w2.heap.size]? = some (.cells nz 160 (0, 0)) := (hb3'.block _ (by simp)).trans (blk_new _ _))
      try (have hz4 : w3.heap[w.heap.size]? = some (.cells nz 160 (0, 0)) := (hb3'.block _ (blk_lt hz)).trans hz)
      try (obtain ⟨z0, z1, z2, z3, z4, z5, z6, z7, z8, z9⟩ := nz_cells hz3; obtain ⟨f0, f1, f2, f3, f4, f5, f6, f7, f8, f9⟩ := nz_free hz3; have hzl := blk_lt hz3)
      try (obtain ⟨z0, z1, z2, z3, z4, z5, z6, z7, z8, z9⟩ := nz_cells hz4; obtain ⟨f0, f1, f2, f3, f4, f5, f6, f7, f8, f9⟩ := nz_free hz4; have hzl := blk_lt hz4)
      refine ⟨_, rfl, ?_⟩))
  all_goals (go_wp2_with fail; go_meet)
  all_goals first
   | (have hE := nz_end (.int .i64 n0.form) (.int .i64 n0.at_) (.int .i64 n0.beh) (.int .i64 n0.num) (.string (bs n0.word)) (.int .i64 n0.region) (.int .i64 n0.source) (.int .i64 n0.p0) (.int .i64 n0.p1) (.int .i64 n0.p2) hb3 hb2s hz3; exact ⟨_, rfl, hE.1, hb2s, hE.2⟩)
   | (have hE := nz_end (.int .i64 n0.form) (.int .i64 n0.at_) (.int .i64 n0.beh) (.int .i64 n0.num) (.string (bs n0.word)) (.int .i64 n0.region) (.int .i64 n0.source) (.int .i64 n0.p0) (.int .i64 n0.p1) (.int .i64 n0.p2) hb3 (Nat.le_refl _) hz4; exact ⟨_, rfl, hE.1, Nat.le_refl _, hE.2⟩)
   | exact ⟨_, rfl, blk_new _ _, hb3.size, belY_al hb3 _⟩
   | skip
 case rest =>
  obtain ⟨q, rfl, hq, hsq, hbc⟩ := hcut
  obtain ⟨d0, d1, d2, _⟩ := nr_cells10 hq
  have hql := blk_lt hq
  have HBC : Hid _ := hbc
  clear hq hbc b0 b1 HRO HN0
  go_wp2
  go_loopw [7, 8, 9, 10] (fun fa be i _ wr => ∃ (k a b : Nat), k ≤ m ∧ i = .int .i64 k ∧ fa = .int .i64 a ∧ be = .int .i64 b ∧ Hid (spanF T rg ns 0 n0.beh n0.at_ = spanF T rg (ns.drop k) k a b) ∧ Below w.heap.size w wr) (fun _ _ i _ _ => m - (intOf i).toNat)
  case atStart => exact ⟨0, n0.beh, n0.at_, Nat.zero_le _, rfl, rfl, rfl, (rfl : spanF T rg ns 0 n0.beh n0.at_ = spanF T rg (ns.drop 0) 0 n0.beh n0.at_), HBC.out⟩
  case round =>
   obtain ⟨k, a, b, hk, rfl, rfl, rfl, HF, hbr⟩ := hrel
   obtain ⟨b0, b1, bl⟩ := HCC.out _ hbr
   have hln := HLE.out _ hbr
   by_cases hlt : k < m
   ·have hkl : k < ns.length := by have := HM.out; omega
    obtain ⟨n, hn⟩ : ∃ n, ns[k]? = some n := ⟨ns[k], List.getElem?_eq_getElem hkl⟩
    have hdr : ns.drop k = n :: ns.drop (k + 1) := by
     rw [List.drop_eq_getElem_cons hkl]; rw [List.getElem?_eq_getElem hkl] at hn; simp only [Option.some.injEq] at hn; rw [hn]
    have hst := HF.out
    rw [hdr] at hst
    simp only [spanF] at hst
    have HST : Hid _ := hst
    have HN : Hid _ := hn
    clear hst hdr hn HF hbr hkl
    go_wp2_with fail
    refine hln.mono ?_
    rintro _ w1 ⟨rfl, hb1⟩
    have hme := HME.out w1 hb1 k hlt
    clear hln b0 b1 bl
    obtain ⟨b0, b1, bl⟩ := HCC.out _ hb1
    have HB1 : Hid _ := hb1
    clear hb1
    go_wp2_with fail
    refine hme.mono ?_
    rintro _ w2 ⟨rfl, hb2⟩
    clear hme b0 b1 bl
    obtain ⟨b0, b1, bl⟩ := HCC.out _ hb2
    have hno := HNO.out w2 hb2 k n HN.out
    have HB2 : Hid _ := hb2
    clear hb2
    cases hmm : (knownT T (k : Int)).has rg with
    | false =>
     have hst := HST.out
     rw [hmm, if_neg (by decide)] at hst
     have HST2 : Hid _ := hst
     clear hst HST hno hmm
     go_wp2
     go_roundw
     case rel => exact ⟨k + 1, a, b, by omega, by go_num, rfl, rfl, HST2.out, HB2.out⟩
     case measure => simp [intOf]; omega
    | true =>
     have hst := HST.out
     rw [hmm, if_pos rfl] at hst
     have HST2 : Hid _ := hst
     clear hst HST hmm
     go_wp2_with fail
     refine hno.mono ?_
     rintro _ w3 ⟨rfl, hb3, _⟩
     have HB3 : Hid _ := belY_al hb3 (nrO n)
     unfold nrO nrC at HB3
     clear hb3 hno
     by_cases ha : n.at_ < a
     ·have qa : (n.at_ : Int) < (a : Int) := by omega
      by_cases hb : b < n.beh
      ·have qb : (b : Int) < (n.beh : Int) := by omega
       have hst := HST2.out
       rw [if_pos ha, if_pos hb] at hst
       have HST3 : Hid _ := hst
       clear hst HST2 ha hb
       go_wp2
       go_roundw
       case rel => exact ⟨k + 1, n.at_, n.beh, by omega, by go_num, rfl, rfl, HST3.out, HB3.out⟩
       case measure => simp [intOf]; omega
      ·have qb : ¬ (b : Int) < (n.beh : Int) := by omega
       have hst := HST2.out
       rw [if_pos ha, if_neg hb] at hst
       have HST3 : Hid _ := hst
       clear hst HST2 ha hb
       go_wp2
       go_roundw
       case rel => exact ⟨k + 1, n.at_, b, by omega, by go_num, rfl, rfl, HST3.out, HB3.out⟩
       case measure => simp [intOf]; omega
     ·have qa : ¬ (n.at_ : Int) < (a : Int) := by omega
      by_cases hb : b < n.beh
      ·have qb : (b : Int) < (n.beh : Int) := by omega
       have hst := HST2.out
       rw [if_neg ha, if_pos hb] at hst
       have HST3 : Hid _ := hst
       clear hst HST2 ha hb
       go_wp2
       go_roundw
       case rel => exact ⟨k + 1, a, n.beh, by omega, by go_num, rfl, rfl, HST3.out, HB3.out⟩
       case measure => simp [intOf]; omega
      ·have qb : ¬ (b : Int) < (n.beh : Int) := by omega
       have hst := HST2.out
       rw [if_neg ha, if_neg hb] at hst
       have HST3 : Hid _ := hst
       clear hst HST2 ha hb
       go_wp2
       go_roundw
       case rel => exact ⟨k + 1, a, b, by omega, by go_num, rfl, rfl, HST3.out, HB3.out⟩
       case measure => simp [intOf]; omega
   ·have HRA : Hid (R = (a, b)) := by
     have hd : ns.drop k = [] := List.drop_eq_nil_of_le (by have := HM.out; omega)
     have hst := HF.out
     rw [hd] at hst
     rw [HRR.out, hst]; exact rfl
    have HBR : Hid _ := hbr
    clear hbr HF
    go_wp2_with fail
    refine hln.mono ?_
    rintro _ w1 ⟨rfl, hb1⟩
    have HB1 : Hid _ := hb1
    clear hb1 hln
    go_wp2
    refine bodyPost_ret (v := .tuple #[.int .i64 a, .int .i64 b]) (by simp [results, Tryz.results136, go_sem]) rfl ⟨by rw [HRA.out], HB1.out⟩
end Go.Proofs.YtpicaknklgccoaaGreatDoor
