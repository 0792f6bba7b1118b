import Derived.Test.YtpicaknklgccoabGreatDoorX13
import Derived.Test.YtpicaknklgccoabGreatDoorX1
import Derived.Deep.RegionHeld3
namespace Go.Proofs.YtpicaknklgccoabGreatDoor
open Go.RowKit
def mentF (tb : List TP) : Nat → Nat → Int → Bool
 | 0, _, _ => false
 | f + 1, k, rg => if k = 0 ∨ tb.length < k then false else (((atP tb k).r : Int) == rg) || mentF tb f (atP tb k).a rg || mentF tb f (atP tb k).b rg
def Low (tb : List TP) : Prop := ∀ k, (atP tb (k + 1)).a ≤ k ∧ (atP tb (k + 1)).b ≤ k
set_option maxRecDepth 100000 in
set_option maxHeartbeats 4000000 in
theorem Mentions_any (cb : Nat) (pv : Value) (tb : List TP) (hl : tb.length ≤ 9000) (hlow : Low tb) (rg : Int) : ∀ (f k : Nat), k < f → k ≤ 10000 → ∀ (w : World), w.cell? ⟨cb, 0, none⟩ = some pv → w.ownsRow 0 146 4 pv tb.length (tb.flatMap tpL) →
  Calls Tryz.prog 87 #[ptr cb, .int .i64 k, .int .i64 rg] w fun v w' => v = .returned (.bool (mentF tb f k rg)) ∧ Below w.heap.size w w' := by
 intro f
 induction f with
 | zero => intro k hk; omega
 | succ f ih =>
  intro k hkf hk w hc hr
  have hcb := World.block_lt_of_cell? _ _ hc
  show Calls _ _ #[Value.pointer (some ⟨cb, 0, none⟩), _, _] w _
  by_cases h0 : k = 0 ∨ tb.length < k
  ·have e : mentF tb (f + 1) k rg = false := by simp only [mentF]; rw [if_pos h0]
   rw [e]
   obtain ⟨a, cap, rfl⟩ := slice_any hr
   generalize tb.length = m at *
   clear hr e ih hlow
   rcases h0 with h0 | h0
   ·have h0' : k < 1 := by omega
    clear h0
    go_enter Tryz.func87, Tryz.ntmps87
    go_wp2
    go_ret
    exact ⟨rfl, Below.refl _ _⟩
   ·have h1 : 1 ≤ k := by omega
    go_enter Tryz.func87, Tryz.ntmps87
    go_wp2
    go_ret
    exact ⟨rfl, Below.refl _ _⟩
  ·have hrec : ∀ (k' : Nat), k' < k → ∀ w', Below w.heap.size w w' → Calls Tryz.prog 87 #[ptr cb, .int .i64 k', .int .i64 rg] w' fun v w'' => v = .returned (.bool (mentF tb f k' rg)) ∧ Below w'.heap.size w' w'' := by
    intro k' hk' w' hb
    exact ih k' (by omega) (by omega) w' (by rw [hb.cell (p := ⟨cb, 0, none⟩) hcb]; exact hc) (owns_below hr hb)
   have hm : mentF tb (f + 1) k rg = ((((atP tb k).r : Int) == rg) || mentF tb f (atP tb k).a rg || mentF tb f (atP tb k).b rg) := by simp only [mentF]; rw [if_neg h0]
   obtain ⟨g, cap, rfl⟩ := slice_of hr (by omega)
   obtain ⟨j, rfl⟩ : ∃ j, k = j + 1 := ⟨k - 1, by omega⟩
   have hj : j < tb.length := by omega
   obtain ⟨p, hp⟩ : ∃ p, tb[j]? = some p := ⟨tb[j], List.getElem?_eq_getElem hj⟩
   have e : atP tb (j + 1) = p := by unfold atP; rw [if_neg (by omega), Nat.add_sub_cancel, hp]; rfl
   have hlo := hlow j
   rw [e] at hm hlo
   obtain ⟨c0, c1, c2, c3⟩ := tp_cells hr j p hp
   have hg : g < w.heap.size := (hr.lt g rfl).2
   have ej : ((j + 1 : Nat) : Int) = (j : Int) + 1 := by omega
   have ej2 : (j : Int) + 1 - 1 = (j : Int) := by omega
   have hra := hrec p.a (by omega)
   have hrb := hrec p.b (by omega)
   unfold ptr at hra hrb
   have HRA : Hid _ := hra
   have HRB : Hid _ := hrb
   obtain ⟨ma, hma⟩ : ∃ ma, ma = mentF tb f p.a rg := ⟨_, rfl⟩
   obtain ⟨mb, hmb⟩ : ∃ mb, mb = mentF tb f p.b rg := ⟨_, rfl⟩
   rw [← hma] at HRA hm
   rw [← hmb] at HRB hm
   obtain ⟨R, hR⟩ : ∃ R, R = mentF tb (f + 1) (j + 1) rg := ⟨_, rfl⟩
   rw [← hR] at hm ⊢
   generalize tb.length = m at *
   have HBX : Hid (Below w.heap.size w (w.alloc (.cells #[.int .i64 p.r, .int .i64 p.a, .int .i64 p.b, .int .i64 p.sz] 146))) := (Below.refl _ _).alloc (Nat.le_refl _) _
   have HM : Hid _ := hm
   clear hr e hp h0 hrec hra hrb ih hlow hma hmb hR hm hlo
   rw [ej]
   cases hq : ((p.r : Int) == rg) with
   | true =>
    have HR : Hid (R = true) := (show R = true by rw [HM.out, hq]; rfl)
    clear HM
    go_enter Tryz.func87, Tryz.ntmps87
    go_wp2
    go_ret
    exact ⟨by rw [HR.out]; first | done | rfl, HBX.out⟩
   | false =>
    go_enter Tryz.func87, Tryz.ntmps87
    go_wp2_with fail
    refine (HRA.out _ HBX.out).mono ?_
    rintro _ w2 ⟨rfl, hb2⟩
    have hpb : w2.heap[w.heap.size]? = some (.cells #[.int .i64 p.r, .int .i64 p.a, .int .i64 p.b, .int .i64 p.sz] 146 (0, 0)) := by rw [hb2.block _ (by simp)]; exact blk_new _ _
    have d2 : w2.cell? ⟨w.heap.size, 2, none⟩ = some (.int .i64 p.b) := by rw [blk_cell hpb]; rfl
    have hpl := blk_lt hpb
    have hW2 : Below w.heap.size w w2 := HBX.out.trans (hb2.mono HBX.out.size)
    have HW2 : Hid _ := hW2
    clear hb2 hpb hW2
    cases ma with
    | true =>
     have HR : Hid (R = true) := (show R = true by rw [HM.out, hq]; rfl)
     clear HM
     go_wp2
     go_ret
     exact ⟨by rw [HR.out]; first | done | rfl, HW2.out⟩
    | false =>
     have HR : Hid (R = mb) := (show R = mb by rw [HM.out, hq]; rfl)
     clear HM
     go_wp2_with fail
     refine (HRB.out _ HW2.out).mono ?_
     rintro _ w3 ⟨rfl, hb3⟩
     have HB3 : Hid (Below w.heap.size w w3) := HW2.out.trans (hb3.mono HW2.out.size)
     clear hb3
     go_wp2
     go_ret
     exact ⟨by rw [HR.out]; first | done | rfl, HB3.out⟩
def vfK (tb : List TP) (K : List Nat) (n : NR) : Nat :=
 if n.form = 7 ∨ n.form = 11 then (if knownK K n.p1 = knownK K n.p2 then 0 else 9)
 else if n.form = 12 then (if mentF tb (tb.length + 1) (knownK K n.p0) n.region = true then 10 else 0)
 else 0
set_option maxRecDepth 100000 in
set_option maxHeartbeats 8000000 in
theorem vfaultOf_any (w : World) (cb : Nat) (pv tv : Value) (tb : List TP) (K : List Nat) (n : NR) (h : CIn cb w pv tv tb K) (hlow : Low tb) (hl : tb.length ≤ 9000) (hK : K.length ≤ 9000) (hkn : knownK K n.p0 ≤ tb.length) (hp0 : -10 ≤ n.p0 ∧ n.p0 ≤ 10000) (hp1 : -10 ≤ n.p1 ∧ n.p1 ≤ 10000) (hp2 : -10 ≤ n.p2 ∧ n.p2 ≤ 10000) :
  Calls Tryz.prog 66 #[nrVal n, ptr cb] w fun v w' => v = .returned (.int .i64 (vfK tb K n)) ∧ Below w.heap.size w w' := by
 have hbx : Below w.heap.size w (w.alloc (nrO n)) := (Below.refl _ _).alloc (Nat.le_refl _) _
 have hin := h.below hbx
 have hk0 := known_any (w.alloc (nrO n)) cb pv tv tb K n.p0 hin hK hp0
 have hk1 := known_any (w.alloc (nrO n)) cb pv tv tb K n.p1 hin hK hp1
 have hk2 := known_any (w.alloc (nrO n)) cb pv tv tb K n.p2 hin hK hp2
 have hcl := blk_lt hin.y
 have hm := fun (w' : World) (hb : Below (w.alloc (nrO n)).heap.size (w.alloc (nrO n)) w') => Mentions_any cb pv tb hl hlow n.region (tb.length + 1) (knownK K n.p0) (by omega) (by omega) w' (by rw [hb.cell (p := ⟨cb, 0, none⟩) hcl, blk_cell hin.y]; rfl) (owns_below hin.p hb)
 have HBX : Hid _ := hbx
 have HTK : Hid (vfK tb K n = if n.form = 7 ∨ n.form = 11 then (if knownK K n.p1 = knownK K n.p2 then 0 else 9)
  else if n.form = 12 then (if mentF tb (tb.length + 1) (knownK K n.p0) n.region = true then 10 else 0) else 0) := rfl
 obtain ⟨R, hR⟩ : ∃ R, R = vfK tb K n := ⟨_, rfl⟩
 rw [← hR] at HTK ⊢
 obtain ⟨mv, hmv⟩ : ∃ mv, mv = mentF tb (tb.length + 1) (knownK K n.p0) n.region := ⟨_, rfl⟩
 rw [← hmv] at HTK hm
 clear hR h hin hbx hmv
 unfold ptr at hk0 hk1 hk2 hm
 unfold nrVal
 unfold nrO nrC at hk0 hk1 hk2 hm HBX
 have HK0 : Hid _ := hk0
 have HK1 : Hid _ := hk1
 have HK2 : Hid _ := hk2
 have HME : Hid _ := hm
 have hcb0 : cb < w.heap.size + 1 := by simpa using hcl
 clear hk0 hk1 hk2 hm hkn hcl
 generalize knownK K n.p0 = ka at *
 generalize knownK K n.p1 = kb at *
 generalize knownK K n.p2 = kc at *
 show Calls _ _ #[_, Value.pointer (some ⟨cb, 0, none⟩)] w _
 by_cases k7 : n.form = 7 ∨ n.form = 11
 ·have HQ : Hid (R = if kb = kc then 0 else 9) := (show R = _ by rw [HTK.out, if_pos k7])
  have q7 : ((n.form : Int) == 7) = true ∨ (((n.form : Int) == 7) = false ∧ ((n.form : Int) == 11) = true) := by
   rcases k7 with h | h
   ·exact .inl (ibeq_true (b := 7) h)
   ·exact .inr ⟨ibeq_false (b := 7) (by omega), ibeq_true (b := 11) h⟩
  clear HTK k7 HME
  by_cases hc : kb = kc
  ·have e1 : ((kb : Int) == (kc : Int)) = true := by rw [hc]; simp
   have HR : Hid (R = 0) := by rw [HQ.out, if_pos hc]; exact rfl
   clear hc HQ
   rcases q7 with q7 | ⟨q7, q11⟩
   all_goals
    go_enter Tryz.func66, Tryz.ntmps66
    go_wp2_with fail
    refine Calls.mono HK0.out ?_
    rintro _ _ ⟨rfl, rfl⟩
    go_wp2_with fail
    refine Calls.mono HK1.out ?_
    rintro _ _ ⟨rfl, rfl⟩
    go_wp2_with fail
    refine Calls.mono HK2.out ?_
    rintro _ _ ⟨rfl, rfl⟩
    go_wp2
    go_ret
    exact ⟨by rw [HR.out]; first | done | rfl, HBX.out⟩
  ·have e1 : ((kb : Int) == (kc : Int)) = false := by rw [beq_eq_false_iff_ne]; omega
   have HR : Hid (R = 9) := by rw [HQ.out, if_neg hc]; exact rfl
   clear hc HQ
   rcases q7 with q7 | ⟨q7, q11⟩
   all_goals
    go_enter Tryz.func66, Tryz.ntmps66
    go_wp2_with fail
    refine Calls.mono HK0.out ?_
    rintro _ _ ⟨rfl, rfl⟩
    go_wp2_with fail
    refine Calls.mono HK1.out ?_
    rintro _ _ ⟨rfl, rfl⟩
    go_wp2_with fail
    refine Calls.mono HK2.out ?_
    rintro _ _ ⟨rfl, rfl⟩
    go_wp2
    go_ret
    exact ⟨by rw [HR.out]; first | done | rfl, HBX.out⟩
 ·have q7 : ((n.form : Int) == 7) = false := ibeq_false (b := 7) (by omega)
  have q11 : ((n.form : Int) == 11) = false := ibeq_false (b := 11) (by omega)
  by_cases k12 : n.form = 12
  ·have q12 : ((n.form : Int) == 12) = true := ibeq_true (b := 12) k12
   have HQ : Hid (R = if mv = true then 10 else 0) := (show R = _ by rw [HTK.out, if_neg k7, if_pos k12])
   clear HTK k7 k12
   go_enter Tryz.func66, Tryz.ntmps66
   go_wp2_with fail
   refine Calls.mono HK0.out ?_
   rintro _ _ ⟨rfl, rfl⟩
   go_wp2_with fail
   refine Calls.mono HK1.out ?_
   rintro _ _ ⟨rfl, rfl⟩
   go_wp2_with fail
   refine Calls.mono HK2.out ?_
   rintro _ _ ⟨rfl, rfl⟩
   go_wp2
   go_region_with (go_at_call 87; refine (HME.out _ ?_).mono ?_; exact ⟨rfl, rfl, rfl, Nat.le_refl _, fun _ _ => rfl⟩; rintro e w5 ⟨rfl, hb5⟩)
   all_goals
    have HB5 : Hid (Below w.heap.size w w5) := HBX.out.trans (⟨hb5.os, hb5.tape, hb5.output, hb5.size, fun k hk => hb5.block k (by have h2 : k < w.heap.size := hk; simp [World.drew] at *; omega)⟩)
    clear hb5
    cases mv with
    | true =>
     have HR : Hid (R = 10) := (show R = 10 by rw [HQ.out]; rfl)
     go_wp2
     go_ret
     exact ⟨by rw [HR.out]; first | done | rfl, HB5.out⟩
    | false =>
     have HR : Hid (R = 0) := (show R = 0 by rw [HQ.out]; rfl)
     go_wp2
     go_ret
     exact ⟨by rw [HR.out]; first | done | rfl, HB5.out⟩
  ·have q12 : ((n.form : Int) == 12) = false := ibeq_false (b := 12) k12
   have HR : Hid (R = 0) := (show R = 0 by rw [HTK.out, if_neg k7, if_neg k12])
   clear HTK k7 k12 HME
   go_enter Tryz.func66, Tryz.ntmps66
   go_wp2_with fail
   refine Calls.mono HK0.out ?_
   rintro _ _ ⟨rfl, rfl⟩
   go_wp2_with fail
   refine Calls.mono HK1.out ?_
   rintro _ _ ⟨rfl, rfl⟩
   go_wp2_with fail
   refine Calls.mono HK2.out ?_
   rintro _ _ ⟨rfl, rfl⟩
   go_wp2
   go_ret
   exact ⟨by rw [HR.out]; first | done | rfl, HBX.out⟩
theorem Rel.pairR {tb : List TP} {D : List Ty} {K : List Nat} {T : List Ty} (h : Rel tb D K T) (r a b : Nat) (ha : a ≤ tb.length) (hb : b ≤ tb.length) (sa : (getK D a).size ≤ 63) (sb : (getK D b).size ≤ 63) :
  ∃ D', Rel (Go.Proofs.YtpicaknklgccoabGreatDoor.pairF tb r a b).2 D' K T ∧ getK D' (Go.Proofs.YtpicaknklgccoabGreatDoor.pairF tb r a b).1 = .p r (getK D a) (getK D b) ∧ (Go.Proofs.YtpicaknklgccoabGreatDoor.pairF tb r a b).1 ≤ (Go.Proofs.YtpicaknklgccoabGreatDoor.pairF tb r a b).2.length ∧ (∀ k, k ≤ tb.length → getK D' k = getK D k) := by
 unfold Go.Proofs.YtpicaknklgccoabGreatDoor.pairF
 cases hf : tb.findIdx? (hitP r a b) with
 | some i =>
  obtain ⟨hi, hp, _⟩ := List.findIdx?_eq_some_iff_getElem.1 hf
  simp only
  unfold hitP at hp
  simp only [Bool.and_eq_true, beq_iff_eq] at hp
  obtain ⟨p, p1, p2, _⟩ := h.pair (i + 1) (by omega) (by omega)
  rw [Nat.add_sub_cancel, List.getElem?_eq_getElem hi] at p1
  simp only [Option.some.injEq] at p1
  refine ⟨D, h, ?_, by omega, fun _ _ => rfl⟩
  rw [p2, ← p1, hp.1.1, hp.1.2, hp.2]
 | none =>
  simp only
  rw [List.findIdx?_eq_none_iff] at hf
  have hD := h.len
  refine ⟨D ++ [.p r (getK D a) (getK D b)], ⟨by simp [hD], ?_, ?_, fun x hx => by have := h.k x hx; simp; omega, ?_, h.s⟩, ?_, by simp, fun k hk => getK_app D _ k (by omega)⟩
  ·intro j p hj
   by_cases hjl : j < tb.length
   ·rw [List.getElem?_append_left hjl] at hj
    obtain ⟨h1, h2, h3, h4, h5⟩ := h.at_ j p hj
    rw [getK_app D _ p.a (by omega), getK_app D _ p.b (by omega), List.getElem?_append_left (by omega)]
    exact ⟨h1, h2, h3, h4, h5⟩
   ·have hje : j = tb.length := by
     have := (List.getElem?_eq_some_iff.1 hj).1
     simp at this; omega
    subst hje
    rw [List.getElem?_append_right (Nat.le_refl _)] at hj
    simp only [Nat.sub_self, List.getElem?_cons_zero, Option.some.injEq] at hj
    subst hj
    simp only
    rw [getK_app D _ a (by omega), getK_app D _ b (by omega), List.getElem?_append_right (by omega), hD, Nat.sub_self, h.sz a ha, h.sz b hb]
    refine ⟨ha, hb, rfl, by simp only [Ty.size]; omega, by omega⟩
  ·intro i j p q hi hj e1 e2 e3
   have key : ∀ (i : Nat) (p : TP), tb[i]? = some p → ¬ (p.r = r ∧ p.a = a ∧ p.b = b) := by
    intro i p hi hh
    have := hf p (List.mem_of_getElem? hi)
    unfold hitP at this
    simp [hh.1, hh.2.1, hh.2.2] at this
   have last : ∀ (i : Nat) (p : TP), (tb ++ [⟨r, a, b, 1 + (atP tb a).sz + (atP tb b).sz⟩])[i]? = some p → (tb[i]? = some p ∧ i < tb.length) ∨ (i = tb.length ∧ p.r = r ∧ p.a = a ∧ p.b = b) := by
    intro i p hi
    by_cases hil : i < tb.length
    ·rw [List.getElem?_append_left hil] at hi; exact Or.inl ⟨hi, hil⟩
    ·have hie : i = tb.length := by
      have := (List.getElem?_eq_some_iff.1 hi).1
      simp at this; omega
     subst hie
     rw [List.getElem?_append_right (Nat.le_refl _)] at hi
     simp only [Nat.sub_self, List.getElem?_cons_zero, Option.some.injEq] at hi
     subst hi
     exact Or.inr ⟨rfl, rfl, rfl, rfl⟩
   rcases last i p hi with ⟨h1, _⟩ | ⟨h1, h2⟩
   ·rcases last j q hj with ⟨g1, _⟩ | ⟨g1, g2⟩
    ·exact h.nd i j p q h1 g1 e1 e2 e3
    ·exact absurd ⟨e1.trans g2.1, e2.trans g2.2.1, e3.trans g2.2.2⟩ (key i p h1)
   ·rcases last j q hj with ⟨g1, _⟩ | ⟨g1, g2⟩
    ·exact absurd ⟨e1.symm.trans h2.1, e2.symm.trans h2.2.1, e3.symm.trans h2.2.2⟩ (key j q g1)
    ·omega
  ·rw [← h.t]
   apply List.map_congr_left
   intro x hx
   exact getK_app D _ x (by have := h.k x hx; omega)
  ·unfold getK
   rw [if_neg (by omega), Nat.add_sub_cancel, ← hD, List.getElem?_append_right (Nat.le_refl _)]
   simp
def fstT : Ty → Ty
 | .n => .n
 | .p _ a _ => a
def sndT : Ty → Ty
 | .n => .n
 | .p _ _ b => b
def tyR (T : List Ty) (n : NR) : Ty :=
 if n.form = 2 then knownT T n.source
 else if n.form = 12 then knownT T n.p0
 else if n.form = 3 then knownT T n.p1
 else if n.form = 7 then knownT T n.p1
 else if n.form = 11 then knownT T n.p1
 else if n.form = 4 then .p n.region.toNat (knownT T n.p0) (knownT T n.p1)
 else if n.form = 5 then fstT (knownT T n.p0)
 else if n.form = 6 then sndT (knownT T n.p0)
 else .n
theorem fst_size (t : Ty) : (fstT t).size ≤ t.size := by cases t <;> simp [fstT, Ty.size]; omega
theorem snd_size (t : Ty) : (sndT t).size ≤ t.size := by cases t <;> simp [sndT, Ty.size]; omega
theorem stepR {tb : List TP} {D : List Ty} {K : List Nat} {T : List Ty} (h : Rel tb D K T) (n : NR) (hs : n.form = 4 → (Ty.p 0 (knownT T n.p0) (knownT T n.p1)).size ≤ 63) :
  ∃ D', Rel (tyK tb K n n.region.toNat).2 D' (K ++ [(tyK tb K n n.region.toNat).1]) (T ++ [tyR T n]) := by
 obtain ⟨a1, a2, a3⟩ := h.known n.p0
 obtain ⟨b1, b2, b3⟩ := h.known n.p1
 obtain ⟨s1, s2, s3⟩ := h.known n.source
 have push : ∀ k, k ≤ tb.length → (getK D k).size ≤ 63 → ∃ D', Rel tb D' (K ++ [k]) (T ++ [getK D k]) := fun k hk hs => ⟨D, h.push k hk hs⟩
 have p0 : ∃ D', Rel tb D' (K ++ [0]) (T ++ [Ty.n]) := push 0 (Nat.zero_le _) (by simp [getK, Ty.size])
 have hfs := fst_size (knownT T n.p0)
 have hsn := snd_size (knownT T n.p0)
 have part : fstT (knownT T n.p0) = getK D (atP tb (knownK K n.p0)).a ∧ sndT (knownT T n.p0) = getK D (atP tb (knownK K n.p0)).b ∧ (atP tb (knownK K n.p0)).a ≤ tb.length ∧ (atP tb (knownK K n.p0)).b ≤ tb.length := by
  by_cases hk : knownK K n.p0 = 0
  ·rw [a1, hk]
   refine ⟨rfl, rfl, ?_, ?_⟩ <;> simp [atP]
  ·obtain ⟨p, q1, q2, q3, q4, q5⟩ := h.pair (knownK K n.p0) hk a2
   rw [a1, q2, q5]
   exact ⟨rfl, rfl, by omega, by omega⟩
 unfold tyK tyR
 by_cases k2 : n.form = 2
 ·rw [if_pos k2, if_pos k2, s1]; exact push _ s2 (by rw [← s1]; exact s3)
 rw [if_neg k2, if_neg k2]
 by_cases k12 : n.form = 12
 ·rw [if_pos k12, if_pos k12, a1]; exact push _ a2 (by rw [← a1]; exact a3)
 rw [if_neg k12, if_neg k12]
 by_cases k3 : n.form = 3
 ·rw [if_pos k3, if_pos k3, b1]; exact push _ b2 (by rw [← b1]; exact b3)
 rw [if_neg k3, if_neg k3]
 by_cases k7 : n.form = 7
 ·rw [if_pos k7, if_pos k7, b1]; exact push _ b2 (by rw [← b1]; exact b3)
 rw [if_neg k7, if_neg k7]
 by_cases k11 : n.form = 11
 ·rw [if_pos k11, if_pos k11, b1]; exact push _ b2 (by rw [← b1]; exact b3)
 rw [if_neg k11, if_neg k11]
 by_cases k4 : n.form = 4
 ·rw [if_pos k4, if_pos k4]
  obtain ⟨D', h1, h2, h3, _⟩ := h.pairR n.region.toNat (knownK K n.p0) (knownK K n.p1) a2 b2 (by rw [← a1]; exact a3) (by rw [← b1]; exact b3)
  have hs4 := hs k4
  refine ⟨D', ?_⟩
  have := h1.push _ h3 (by rw [h2, ← a1, ← b1]; simpa [Ty.size] using hs4)
  rw [h2, ← a1, ← b1] at this
  exact this
 rw [if_neg k4, if_neg k4]
 by_cases k5 : n.form = 5
 ·rw [if_pos k5, if_pos k5, part.1]; exact push _ part.2.2.1 (by rw [← part.1]; omega)
 rw [if_neg k5, if_neg k5]
 by_cases k6 : n.form = 6
 ·rw [if_pos k6, if_pos k6, part.2.1]; exact push _ part.2.2.2 (by rw [← part.2.1]; omega)
 rw [if_neg k6, if_neg k6]
 exact p0
theorem has_p (r : Nat) (a b : Ty) (rg : Int) : (Ty.p r a b).has rg = (((r : Int) == rg) || a.has rg || b.has rg) := by
 unfold Ty.has
 simp only [Ty.rgl, List.any_cons, List.any_append, Bool.or_assoc]
theorem ment_eq {tb : List TP} {D : List Ty} {K : List Nat} {T : List Ty} (h : Rel tb D K T) (rg : Int) : ∀ (f k : Nat), k < f → k ≤ tb.length → mentF tb f k rg = (getK D k).has rg
 | 0, k, h1, _ => by omega
 | f + 1, k, h1, h2 => by
  simp only [mentF]
  by_cases hk : k = 0
  ·rw [if_pos (.inl hk), hk]; rfl
  ·rw [if_neg (by omega)]
   obtain ⟨p, q1, q2, q3, q4, q5⟩ := h.pair k hk h2
   rw [q5, q2, has_p, ment_eq h rg f p.a (by omega) (by omega), ment_eq h rg f p.b (by omega) (by omega)]
theorem Rel.low {tb : List TP} {D : List Ty} {K : List Nat} {T : List Ty} (h : Rel tb D K T) : Low tb := by
 intro k
 by_cases hk : k < tb.length
 ·obtain ⟨p, q1, q2, q3, q4, q5⟩ := h.pair (k + 1) (by omega) (by omega)
  rw [q5]; omega
 ·unfold atP
  rw [if_neg (by omega), List.getElem?_eq_none (by omega)]
  exact ⟨Nat.zero_le _, Nat.zero_le _⟩
def vfT (T : List Ty) (n : NR) : Nat :=
 if n.form = 7 ∨ n.form = 11 then (if knownT T n.p1 = knownT T n.p2 then 0 else 9)
 else if n.form = 12 then (if (knownT T n.p0).has n.region = true then 10 else 0)
 else 0
theorem vfK_eq {tb : List TP} {D : List Ty} {K : List Nat} {T : List Ty} (h : Rel tb D K T) (n : NR) : vfK tb K n = vfT T n := by
 obtain ⟨a1, a2, a3⟩ := h.known n.p0
 obtain ⟨b1, b2, b3⟩ := h.known n.p1
 obtain ⟨c1, c2, c3⟩ := h.known n.p2
 unfold vfK vfT
 have ebc : knownT T n.p1 = knownT T n.p2 ↔ knownK K n.p1 = knownK K n.p2 := by rw [b1, c1]; exact h.injI b2 c2
 rw [ment_eq h n.region _ _ (by omega) a2, ← a1]
 simp only [ebc]
def plT : List Ty → List NR → Nat × Nat
 | _, [] => (0, 0)
 | T, n :: r => if vfT (T ++ [tyR T n]) n ≠ 0 then (vfT (T ++ [tyR T n]) n, n.at_) else plT (T ++ [tyR T n]) r
def SzOk : List Ty → List NR → Prop
 | _, [] => True
 | T, n :: r => (n.form = 4 → (Ty.p 0 (knownT T n.p0) (knownT T n.p1)).size ≤ 63) ∧ SzOk (T ++ [tyR T n]) r
set_option maxRecDepth 100000 in
set_option maxHeartbeats 16000000 in
theorem placedTypes_any (w : World) (nv ov : Value) (ns : List NR) (op : List Int) (h : TreeIn w nv ov ns op) (ho : OpOk ns op) (hl : ns.length ≤ 9000) (hsm : ∀ n ∈ ns, n.small) (hrg : ∀ n ∈ ns, 0 ≤ n.region) (hsz : SzOk [] ns) :
  Calls Tryz.prog 47 #[treeV nv ov] w fun v w' => v = .returned (.tuple #[.int .i64 (plT [] ns).1, .int .i64 (plT [] ns).2]) ∧ Below w.heap.size w w' := by
 have hlen := fun (w' : World) (hb : Below w.heap.size w w') => Len_any w' nv ov ns op (h.below hb)
 have hnod := fun (w' : World) (hb : Below w.heap.size w w') (k : Nat) (n : NR) (hk : ns[k]? = some n) => Node_in' w' nv ov ns op (h.below hb) k n hk hl
 obtain ⟨a0, cap0, e0⟩ := slice_any h.nd
 obtain ⟨a1, cap1, e1⟩ := slice_any h.op
 rw [ho.1] at e1
 obtain ⟨m, hm⟩ : ∃ m, m = ns.length := ⟨_, rfl⟩
 rw [← hm] at e0 e1 hl
 subst e0
 subst e1
 unfold treeV at hlen hnod
 unfold treeV
 unfold nrVal at hnod
 rw [← hm] at hlen
 have HLEN : Hid _ := hlen
 have HNOD : Hid _ := hnod
 have HM : Hid _ := hm
 have HSM : Hid _ := hsm
 have HRG : Hid _ := hrg
 have HSZ : Hid _ := hsz
 obtain ⟨ans, hans⟩ : ∃ ans, ans = plT [] ns := ⟨_, rfl⟩
 rw [← hans]
 have HA : Hid _ := hans
 clear hlen hnod ho h hm hans hsm hrg hsz
 have hBx : Below w.heap.size w (w.alloc (.cells #[.slice a0 m cap0, .slice a1 m cap1] 62)) := (Below.refl _ w).alloc (Nat.le_refl _) _
 have HBX : Hid _ := hBx
 clear hBx
 obtain ⟨wb, hwb⟩ : ∃ wb, wb = w.alloc (.cells #[.slice a0 m cap0, .slice a1 m cap1] 62) := ⟨_, rfl⟩
 have HBB : Hid (∀ wr, Below wb.heap.size wb wr → wr.cell? ⟨w.heap.size, 0, none⟩ = some (.slice a0 m cap0) ∧ wr.cell? ⟨w.heap.size, 1, none⟩ = some (.slice a1 m cap1) ∧ w.heap.size < wr.heap.size) := by
  intro wr hb
  rw [hwb] at hb
  exact box_cells hb
 have HBW : Hid (Below w.heap.size w wb) := by rw [hwb]; exact HBX.out
 have HC0 : Hid (CIn wb.heap.size (wb.alloc (.cells #[.slice none 0 0, .slice none 0 0] 104)) (.slice none 0 0) (.slice none 0 0) [] []) := ⟨blk_new _ _, World.ownsRow_nil _ _ _ _, World.ownsRow_nil _ _ _ _, by simp [Value.ownBlock], by simp [Value.ownBlock], fun g hg => by simp [Value.ownBlock] at hg⟩
 have hws : w.heap.size ≤ wb.heap.size := HBW.out.size
 have HWB : Hid _ := hwb
 clear hwb HBX
 go_enter Tryz.func47, Tryz.ntmps47
 go_wp2
 rw [← HWB.out]
 have hsz1 : w.heap.size + 1 = wb.heap.size := by rw [HWB.out]; simp
 rw [hsz1]
 clear hsz1 HWB
 go_loopw [5, 6, 7] (fun i _ _ wr => ∃ k : Nat, k ≤ m ∧ i = .int .i64 k ∧ ∃ pv tv tb D K T, CIn wb.heap.size wr pv tv tb K ∧ Rel tb D K T ∧ K.length = k ∧ tb.length ≤ k ∧ plT [] ns = plT T (ns.drop k) ∧ SzOk T (ns.drop k) ∧ Below wb.heap.size wb wr ∧ wb.heap.size < wr.heap.size ∧ (∀ g, pv.ownBlock = some g → wb.heap.size ≤ g) ∧ (∀ g, tv.ownBlock = some g → wb.heap.size ≤ g)) (fun i _ _ _ => m - (intOf i).toNat)
 case atStart => exact ⟨0, by omega, rfl, _, _, [], [], [], [], HC0.out, rel0, rfl, by simp, by simp, HSZ.out, (Below.refl _ wb).alloc (Nat.le_refl _) _, by simp, by simp [Value.ownBlock], by simp [Value.ownBlock]⟩
 case round =>
  obtain ⟨k, hk, rfl, pv, tv, tb, D, K, T, hC, hRel, hKl, htl, hck, hso, hbr, hbs, hpb, htb⟩ := hrel
  have hbw2 : Below w.heap.size w wr := HBW.out.trans (hbr.mono hws)
  obtain ⟨x0, x1, xl⟩ := HBB.out _ hbr
  have hln := HLEN.out wr hbw2
  have hrs := hbr.size
  by_cases hlt : k < m
  ·have hkl : k < ns.length := by have := HM.out; omega
   obtain ⟨n, hn⟩ : ∃ n, ns[k]? = some n := ⟨ns[k], List.getElem?_eq_getElem hkl⟩
   have hnsm := HSM.out n (List.mem_of_getElem? hn)
   have hnrg := HRG.out n (List.mem_of_getElem? hn)
   have hdr : ns.drop k = n :: ns.drop (k + 1) := by
    rw [List.drop_eq_getElem_cons hkl]; rw [List.getElem?_eq_getElem hkl] at hn; simp only [Option.some.injEq] at hn; rw [hn]
   rw [hdr] at hck hso
   simp only [plT] at hck
   simp only [SzOk] at hso
   obtain ⟨r, hr⟩ : ∃ r, r = n.region.toNat := ⟨_, rfl⟩
   obtain ⟨D', hRel'⟩ := stepR hRel n hso.1
   rw [← hr] at hRel'
   have hok : TOk tb K n := ⟨by omega, by omega, fun i => by have := (hRel.known i).2.1; omega, fun j => by have := hRel.sz_le j; omega, ⟨by have := hnsm.1; omega, by have := hnsm.1; omega⟩, ⟨by have := hnsm.2.1; omega, by have := hnsm.2.1; omega⟩, ⟨by have := hnsm.2.2.1; omega, by have := hnsm.2.2.1; omega⟩, ⟨by have := hnsm.2.2.2; omega, by have := hnsm.2.2.2; omega⟩⟩
   have hpl := pairF_len tb r (knownK K n.p0) (knownK K n.p1)
   have htl2 : (tyK tb K n r).2.length ≤ k + 1 := by
    unfold tyK
    repeat' split
    all_goals first | (simp only; omega) | omega
   have hvf := vfK_eq hRel' n
   have hkn := (hRel'.known n.p0).2.1
   have hlow := hRel'.low
   have hty := fun (w' : World) (hb : Below wr.heap.size wr w') => Add_any w' wb.heap.size pv tv tb K n n.region r (fun _ => by omega) (hC.below hb) hok
   have hfa := fun (w' : World) (pv' tv' : Value) (hC' : CIn wb.heap.size w' pv' tv' (tyK tb K n r).2 (K ++ [(tyK tb K n r).1])) => vfaultOf_any w' wb.heap.size pv' tv' (tyK tb K n r).2 (K ++ [(tyK tb K n r).1]) n hC' hlow (by omega) (by simp; omega) hkn hok.p0 hok.p1 hok.p2
   rw [hvf] at hfa
   generalize vfT (T ++ [tyR T n]) n = F at *
   unfold ptr nrVal at hty hfa
   have HTY : Hid _ := hty
   have HFA : Hid _ := hfa
   have HN : Hid _ := hn
   have HCK : Hid _ := hck
   have HSO : Hid _ := hso.2
   have HRL : Hid _ := hRel'
   have HBR : Hid _ := hbr
   have HC : Hid _ := hC
   have HPB : Hid _ := hpb
   have HTB : Hid _ := htb
   have HKL : Hid _ := hKl
   have HTL : Hid _ := htl2
   clear hn hnsm hnrg hdr hck hso hok hty hRel hRel' hC hbr hpb htb hkl hKl htl hfa htl2 hpl hvf hkn hlow hr
   go_wp2_with fail
   refine hln.mono ?_
   rintro _ w1 ⟨rfl, hb1⟩
   obtain ⟨d0, d1, dl⟩ := HBB.out _ (HBR.out.trans (hb1.mono hrs))
   have hno := HNOD.out w1 (HBW.out.trans ((HBR.out.trans (hb1.mono hrs)).mono hws)) k n HN.out
   have HB1 : Hid _ := hb1
   clear hb1 hln x0 x1
   go_wp2_with fail
   refine hno.mono ?_
   rintro _ w2 ⟨rfl, hb2⟩
   have hr2 : Below wr.heap.size wr w2 := HB1.out.trans (hb2.mono HB1.out.size)
   have hr3 := hr2.alloc hr2.size (nrO n)
   have hty := HTY.out _ hr3
   have HR3 : Hid _ := hr3
   have hr2s := hr2.size
   clear hb2 hr2 hno d0 d1 hr3 HTY
   unfold nrO nrC at hty
   go_wp2_with fail
   refine hty.mono ?_
   rintro _ w3 ⟨rfl, pv3, tv3, hfr3, hC3⟩
   have hnb : w3.heap[w2.heap.size]? = some (nrO n) := by
    rw [hfr3.blk w2.heap.size (by simp) (by omega) (fun e => by have := (HC.out.lt.1 _ e); omega) (fun e => by have := (HC.out.lt.2.1 _ e); omega)]
    exact blk_new _ _
   have hB3 : Below wb.heap.size wb (w2.alloc (nrO n)) := HBR.out.trans (HR3.out.mono hrs)
   obtain ⟨g1, g2, g3⟩ := hfr3.toBelow hB3 (Nat.le_refl _) (by simp; omega) HPB.out HTB.out
   have hw3s := hfr3.size
   have hw3b : wb.heap.size < w3.heap.size := by simp at hw3s; omega
   have hfa := HFA.out w3 pv3 tv3 hC3
   obtain ⟨d0, d1, d2, d3, d4, d5, d6, d7, d8, d9⟩ := nr_cells10 hnb
   have hnl := blk_lt hnb
   have HC3 : Hid _ := hC3
   have HG1 : Hid _ := g1
   have HG2 : Hid _ := g2
   have HG3 : Hid _ := g3
   have HNB : Hid _ := hnb
   clear hfr3 hC3 hnb hB3 g1 g2 g3 hty HR3 HFA
   go_wp2_with fail
   refine hfa.mono ?_
   rintro _ w4 ⟨rfl, hb4⟩
   have c1 : w4.cell? ⟨w2.heap.size, 1, none⟩ = some (.int .i64 n.at_) := by rw [hb4.cell (p := ⟨w2.heap.size, 1, none⟩) hnl]; exact d1
   have HB4 : Hid _ := hb4
   have hw4s := hb4.size
   clear hb4 hfa d0 d1 d2 d3 d4 d5 d6 d7 d8 d9
   by_cases hf : F = 0
   ·have q2 : ((F : Int) != 0) = false := by simp; omega
    have hck := HCK.out
    rw [if_neg (by omega)] at hck
    have HC4 : Hid _ := HC3.out.below HB4.out
    have HCK2 : Hid _ := hck
    clear hf hck HC3
    go_wp2
    go_roundw
    case rel => exact ⟨k + 1, by omega, by go_num, pv3, tv3, _, D', _, _, HC4.out, HRL.out, by simp [HKL.out], HTL.out, HCK2.out, HSO.out, HG1.out.trans (HB4.out.mono (by omega)), by omega, HG2.out, HG3.out⟩
    case measure => simp [intOf]; omega
   ·have q2 : ((F : Int) != 0) = true := by simp; omega
    have hck := HCK.out
    rw [if_pos hf] at hck
    have HAA : Hid (ans = (F, n.at_)) := by rw [HA.out]; exact hck
    clear hf hck
    go_wp2
    go_quiet (fail)
    go_wp2
    refine bodyPost_ret (v := .tuple #[.int .i64 F, .int .i64 n.at_]) (by simp [results, Tryz.results47, go_sem]) rfl ⟨by rw [HAA.out], ?_⟩
    exact (HBW.out.trans ((HG1.out.trans (HB4.out.mono (by omega))).mono hws)).trans ⟨rfl, rfl, rfl, Nat.le_refl _, fun _ _ => rfl⟩
  ·have HAA : Hid (ans = (0, 0)) := by
    have hd : ns.drop k = [] := List.drop_eq_nil_of_le (by have := HM.out; omega)
    rw [hd] at hck
    rw [HA.out, hck]; exact rfl
   have HBR : Hid _ := hbr
   clear hbr hC hRel hck hpb htb hso
   go_wp2_with fail
   refine hln.mono ?_
   rintro _ w1 ⟨rfl, hb1⟩
   have HB1 : Hid _ := HBW.out.trans ((HBR.out.trans (hb1.mono hrs)).mono hws)
   clear hb1 hln
   go_wp2
   refine bodyPost_ret (v := .tuple #[.int .i64 0, .int .i64 0]) (by simp [results, Tryz.results47, go_sem]) rfl ⟨by rw [HAA.out]; rfl, HB1.out⟩
def vetAns (ns : List NR) (op : List Int) : Nat × Nat :=
 if (newsK (opNs ns op) []).2.1 ≠ 0 then (newsK (opNs ns op) []).2
 else if (outK (newsK (opNs ns op) []).1 (opNs ns op)).1 ≠ 0 then outK (newsK (opNs ns op) []).1 (opNs ns op)
 else plT [] ns
theorem newsK_len : ∀ (l acc : List NR), (newsK l acc).1.length ≤ acc.length + l.length
 | [], acc => by simp [newsK]
 | n :: r, acc => by
  simp only [newsK, List.length_cons]
  split
  ·split
   ·simp only; omega
   ·have := newsK_len r (acc ++ [n]); simp at this; omega
  ·have := newsK_len r acc; omega
set_option maxRecDepth 100000 in
set_option maxHeartbeats 16000000 in
theorem vetProgram_any (w : World) (nv ov : Value) (ns : List NR) (op : List Int) (h : TreeIn w nv ov ns op) (ho : OpOk ns op) (hl : ns.length ≤ 9000) (hsm : ∀ n ∈ ns, n.small) (hrg : ∀ n ∈ ns, 0 ≤ n.region) (hsz : SzOk [] ns) :
  Calls Tryz.prog 27 #[treeV nv ov] w fun v w' => v = .returned (.tuple #[.int .i64 (vetAns ns op).1, .int .i64 (vetAns ns op).2]) ∧ Below w.heap.size w w' := by
 have hne := fun (w' : World) (hb : Below w.heap.size w w') => newsOf_any w' nv ov ns op (h.below hb) ho hl
 have hol : (newsK (opNs ns op) []).1.length ≤ 9000 := by
  have := newsK_len (opNs ns op) []
  rw [opNs_len, ho.1] at this
  simp at this; omega
 have hou := fun (w' : World) (hb : Below w.heap.size w w') (vv : Value) (base : Nat) (hown : w'.ownsRow base 108 10 vv (newsK (opNs ns op) []).1.length ((newsK (opNs ns op) []).1.flatMap nrL)) => outside_any w' nv ov vv ns op _ base (h.below hb) ho hl hown hol
 have hpl := fun (w' : World) (hb : Below w.heap.size w w') => placedTypes_any w' nv ov ns op (h.below hb) ho hl hsm hrg hsz
 obtain ⟨a0, cap0, e0⟩ := slice_any h.nd
 obtain ⟨a1, cap1, e1⟩ := slice_any h.op
 rw [ho.1] at e1
 obtain ⟨m, hm⟩ : ∃ m, m = ns.length := ⟨_, rfl⟩
 rw [← hm] at e0 e1 hl
 subst e0
 subst e1
 obtain ⟨ans, hans⟩ : ∃ ans, ans = vetAns ns op := ⟨_, rfl⟩
 rw [← hans]
 unfold vetAns at hans
 have HA : Hid _ := hans
 unfold treeV at hne hou hpl
 unfold treeV
 have HNE : Hid _ := hne
 have HOU : Hid _ := hou
 have HPL : Hid _ := hpl
 have HBX : Hid (Below w.heap.size w (w.alloc (.cells #[.slice a0 m cap0, .slice a1 m cap1] 62))) := (Below.refl _ w).alloc (Nat.le_refl _) _
 clear hne hou hpl ho h hm hans hsm hrg hsz hol
 generalize newsK (opNs ns op) [] = N at *
 generalize outK N.1 (opNs ns op) = O at *
 generalize plT [] ns = P at *
 go_enter Tryz.func27, Tryz.ntmps27
 go_wp2_with fail
 refine (HNE.out _ HBX.out).mono ?_
 rintro _ w1 ⟨vv, rfl, hown1, hb1⟩
 obtain ⟨b0, b1, bl⟩ := box_cells hb1
 have hB1 := HBX.out.trans (hb1.mono (by simp))
 have hou := HOU.out w1 hB1 vv _ hown1
 have HB1 : Hid _ := hB1
 have HBB1 : Hid _ := hb1
 clear hb1 hB1 hown1
 by_cases h1 : N.2.1 = 0
 ·have q1 : ((N.2.1 : Int) != 0) = false := by rw [h1]; rfl
  have HA2 : Hid (ans = if O.1 ≠ 0 then O else P) := (show ans = _ by rw [HA.out, if_neg (by omega)])
  clear HA h1
  go_wp2_with fail
  refine hou.mono ?_
  rintro _ w2 ⟨rfl, hb2⟩
  have hbb2 := HBB1.out.trans (hb2.mono HBB1.out.size)
  obtain ⟨c0, c1, cl⟩ := box_cells hbb2
  have hB2 := HB1.out.trans (hb2.mono HB1.out.size)
  have hpl := HPL.out w2 hB2
  have HB2 : Hid _ := hB2
  clear hb2 hbb2 hB2 hou b0 b1
  by_cases h2 : O.1 = 0
  ·have q2 : ((O.1 : Int) != 0) = false := by rw [h2]; rfl
   have HA3 : Hid (ans = P) := (show ans = _ by rw [HA2.out, if_neg (by omega)])
   clear HA2 h2
   go_wp2_with fail
   refine hpl.mono ?_
   rintro _ w3 ⟨rfl, hb3⟩
   have HB3 : Hid _ := HB2.out.trans (hb3.mono HB2.out.size)
   clear hb3 hpl
   go_wp2
   refine bodyPost_ret (v := .tuple #[.int .i64 P.1, .int .i64 P.2]) (by simp [results, Tryz.results27, go_sem]) rfl ⟨by rw [HA3.out], HB3.out⟩
  ·have q2 : ((O.1 : Int) != 0) = true := by simp; omega
   have HA3 : Hid (ans = O) := (show ans = _ by rw [HA2.out, if_pos h2])
   clear HA2 h2 hpl
   go_wp2
   refine bodyPost_ret (v := .tuple #[.int .i64 O.1, .int .i64 O.2]) (by simp [results, Tryz.results27, go_sem]) rfl ⟨by rw [HA3.out], HB2.out⟩
 ·have q1 : ((N.2.1 : Int) != 0) = true := by simp; omega
  have HA2 : Hid (ans = N.2) := (show ans = _ by rw [HA.out, if_pos h1])
  clear HA h1 hou
  go_wp2
  refine bodyPost_ret (v := .tuple #[.int .i64 N.2.1, .int .i64 N.2.2]) (by simp [results, Tryz.results27, go_sem]) rfl ⟨by rw [HA2.out], HB1.out⟩
theorem slice_anyV {w : World} {base : Nat} {e : TypeId} {size : Nat} {v : Value} {n : Nat} {xs : List Value} (h : w.ownsRow base e size v n xs) : ∃ a c, v = .slice a n c := by
 rcases h.2 with ⟨h1, h2⟩ | ⟨g, cap, cur, h1, _⟩
 ·exact ⟨none, 0, by rw [h1, h2]⟩
 ·exact ⟨_, _, h1⟩
theorem own_neV {w : World} {base : Nat} {e : TypeId} {size : Nat} {v : Value} {n : Nat} {xs : List Value} (h : w.ownsRow base e size v n xs) {b : Nat} {arr : Array Value} {t : TypeId} {fr : Nat × Nat} (hb : w.heap[b]? = some (.cells arr t fr)) (ht : t ≠ e) : ∀ k, v.ownBlock = some k → k ≠ b := by
 intro k hk hkb
 rcases h.2 with ⟨h1, _⟩ | ⟨g, cap, cur, h1, _, hh, _⟩
 ·rw [h1] at hk; simp [Value.ownBlock] at hk
 ·rw [h1] at hk
  simp [Value.ownBlock] at hk
  rw [hk, hkb, hb] at hh
  simp only [Option.some.injEq, Obj.cells.injEq] at hh
  exact ht hh.2.1
set_option maxRecDepth 100000 in
set_option maxHeartbeats 4000000 in
theorem parsePlaced_pos (s : ByteArray) (w : World) (hs : s.size ≤ 9000) (e : PT) (hp : PE true (tokens s.data.toList) e []) : Calls Tryz.prog 36 #[.string s] w fun v w' => ∃ x1 n1 c1 x2 n2 c2 ns, v = .returned (.tuple #[treeV (.slice x1 n1 c1) (.slice x2 n2 c2), .int .i64 0, .int .i64 0]) ∧ Below w.heap.size w w' ∧ TreeIn w' (.slice x1 n1 c1) (.slice x2 n2 c2) ns (opn e 0) ∧ NA [] e 0 ns ∧ PosN e ns (posOf s.size (tokens s.data.toList)) s.size := by
 obtain ⟨ns, hna, hpg⟩ := prog_yes (len := s.size) hp
 have hps := prog_pos (placed := true) (len := s.size) hp (tokens_okU s.data.toList)
 rw [hpg] at hps
 have hpp := fun w => ParsePlaced_any s w (by omega)
 have HPG : Hid _ := hpg
 have HNA : Hid _ := And.intro hna hps
 clear hp hna hpg hps
 go_enter Tryz.func36, Tryz.ntmps36
 go_wp2_with fail
 refine (hpp _).mono ?_
 rintro v w1 ⟨hb, hv⟩
 have hr := kept1 hb
 have hlt := blk_lt hr
 have HB : Hid _ := below1 hb
 rcases hv with ⟨q', hq', _⟩ | ⟨_, nv, ov, rfl, hT⟩
 ·rw [HPG.out] at hq'; cases hq'
 ·rw [HPG.out] at hT
  simp only at hT
  obtain ⟨x1, c1, e1⟩ := slice_anyV hT.nd
  obtain ⟨x2, c2, e2⟩ := slice_anyV hT.op
  have HNN : Hid _ := own_neV hT.nd hr (by decide)
  have HNO : Hid _ := own_neV hT.op hr (by decide)
  subst e1
  subst e2
  have r0 : w1.cell? ⟨w.heap.size, 0, none⟩ = some (.slice none 0 0) := by rw [blk_cell hr]; rfl
  have r1 : w1.cell? ⟨w.heap.size, 1, none⟩ = some (.slice none 0 0) := by rw [blk_cell hr]; rfl
  have f0 := blk_free hr 0
  have f1 := blk_free hr 1
  have hW := blk_alloc (.cells #[.slice x1 ns.length c1, .slice x2 (opn e 0).length c2] 62) (blk_set (blk_set hr 0 (.slice x1 ns.length c1)) 1 (.slice x2 (opn e 0).length c2))
  have S0 : Hid ((((w1.setCell ⟨w.heap.size, 0, none⟩ (.slice x1 ns.length c1)).setCell ⟨w.heap.size, 1, none⟩ (.slice x2 (opn e 0).length c2)).alloc (.cells #[.slice x1 ns.length c1, .slice x2 (opn e 0).length c2] 62)).cell? ⟨w.heap.size, 0, none⟩ = some (.slice x1 ns.length c1)) := (blk_cell hW 0).trans rfl
  have S1 : Hid ((((w1.setCell ⟨w.heap.size, 0, none⟩ (.slice x1 ns.length c1)).setCell ⟨w.heap.size, 1, none⟩ (.slice x2 (opn e 0).length c2)).alloc (.cells #[.slice x1 ns.length c1, .slice x2 (opn e 0).length c2] 62)).cell? ⟨w.heap.size, 1, none⟩ = some (.slice x2 (opn e 0).length c2)) := (blk_cell hW 1).trans rfl
  have hTS : TreeIn ((w1.setCell ⟨w.heap.size, 0, none⟩ (.slice x1 ns.length c1)).setCell ⟨w.heap.size, 1, none⟩ (.slice x2 (opn e 0).length c2)) (.slice x1 ns.length c1) (.slice x2 (opn e 0).length c2) ns (opn e 0) := ⟨owns_blk hT.nd (fun k hk => by rw [blk_other _ _ (by simpa using HNN.out k hk), blk_other _ _ (by simpa using HNN.out k hk)]), owns_blk hT.op (fun k hk => by rw [blk_other _ _ (by simpa using HNO.out k hk), blk_other _ _ (by simpa using HNO.out k hk)])⟩
  have HTS : Hid _ := hTS.below ((Below.refl _ _).alloc (Nat.le_refl _) (.cells #[.slice x1 ns.length c1, .slice x2 (opn e 0).length c2] 62))
  have hne : w.heap.size ≠ w1.heap.size := by omega
  unfold treeV
  clear hT hb hr hpp hW hTS
  go_wp2
  refine bodyPost_ret (v := .tuple #[.agg #[.slice x1 ns.length c1, .slice x2 (opn e 0).length c2], .int .i64 0, .int .i64 0]) (by have s0 := S0.out; have s1 := S1.out; simp [results, Tryz.results36, go_sem, s0, s1]) rfl ⟨x1, ns.length, c1, x2, (opn e 0).length, c2, ns, rfl, ?_, HTS.out, HNA.out⟩
  exact ((HB.out.setCell (p := ⟨w.heap.size, 0, none⟩) (Nat.le_refl _) _).setCell (p := ⟨w.heap.size, 1, none⟩) (Nat.le_refl _) _).alloc (by have := HB.out.size; simp [World.setCell]; omega) _
set_option maxRecDepth 100000 in
set_option maxHeartbeats 4000000 in
theorem readPlaced_pos (s : ByteArray) (w : World) (hs : s.size ≤ 9000) (e : PT) (hp : PE true (tokens s.data.toList) e []) : Calls Tryz.prog 26 #[.string s] w fun v w' => ∃ x1 n1 c1 x2 n2 c2 ns, v = .returned (.tuple #[treeV (.slice x1 n1 c1) (.slice x2 n2 c2), .int .i64 (chkAns e).1, .int .i64 (chkAns e).2]) ∧ Below w.heap.size w w' ∧ TreeIn w' (.slice x1 n1 c1) (.slice x2 n2 c2) ns (opn e 0) ∧ NA [] e 0 ns ∧ PosN e ns (posOf s.size (tokens s.data.toList)) s.size := by
 have hcnt := Study_len hp
 have hpp := fun w => parsePlaced_pos s w hs e hp
 have hpr := fun (w : World) (nv ov : Value) (ns : List NR) (hna : NA [] e 0 ns) (h : TreeIn w nv ov ns (opn e 0)) => Program_any w nv ov ns (opn e 0) h (op_ok hna) (by have := hna.len; omega) (hna.small (fun _ h => by simp at h) (by omega)) (fun j n hj => by have := hna.back j n hj; simpa using this)
 unfold treeV at hpp
 have HPR : Hid _ := hpr
 have HPP : Hid _ := hpp
 clear hp hpr hpp
 obtain ⟨ans, hans⟩ : ∃ ans, ans = chkAns e := ⟨_, rfl⟩
 rw [← hans]
 have HANS : Hid _ := hans
 clear hans
 go_enter Tryz.func26, Tryz.ntmps26
 go_wp2_with fail
 refine (HPP.out _).mono ?_
 rintro _ w1 ⟨x1, n1, c1, x2, n2, c2, ns, rfl, hb, hT, hna⟩
 have hr := kept1 hb
 have hlt := blk_lt hr
 have HB : Hid _ := below1 hb
 have HR : Hid _ := hr
 have HNN : Hid _ := own_neV hT.nd hr (by decide)
 have HNO : Hid _ := own_neV hT.op hr (by decide)
 have hT1 := hT.below ((Below.refl _ w1).alloc (Nat.le_refl _) (.cells #[.slice x1 n1 c1, .slice x2 n2 c2] 62))
 have hpr := HPR.out (w1.alloc (.cells #[.slice x1 n1 c1, .slice x2 n2 c2] 62)) _ _ ns hna.1 hT1
 rw [prog_ans hna.1, ← HANS.out] at hpr
 have HNA : Hid _ := hna
 unfold treeV at hpr
 clear hT hb hr HPP HPR hna
 go_wp2_with fail
 refine hpr.mono ?_
 rintro _ w2 ⟨rfl, hb2⟩
 have HT2 : Hid _ := hT1.below hb2
 have hk := kept1 hb2
 have k0 : w2.cell? ⟨w1.heap.size, 0, none⟩ = some (.slice x1 n1 c1) := by rw [blk_cell hk]; rfl
 have k1 : w2.cell? ⟨w1.heap.size, 1, none⟩ = some (.slice x2 n2 c2) := by rw [blk_cell hk]; rfl
 have hr2 : w2.heap[w.heap.size]? = some (.cells #[.slice none 0 0, .slice none 0 0] 62 (0, 0)) := by
  rw [hb2.block _ (by simp; omega)]; exact blk_alloc _ HR.out
 have r0 : w2.cell? ⟨w.heap.size, 0, none⟩ = some (.slice none 0 0) := by rw [blk_cell hr2]; rfl
 have r1 : w2.cell? ⟨w.heap.size, 1, none⟩ = some (.slice none 0 0) := by rw [blk_cell hr2]; rfl
 have f0 := blk_free hr2 0
 have f1 := blk_free hr2 1
 have hB2 : Below w.heap.size w w2 := HB.out.trans ((below1 hb2).mono HB.out.size)
 have HB2 : Hid _ := hB2
 have hne : w.heap.size ≠ w1.heap.size := by omega
 clear hk hr2 hb2 hB2 hpr hT1
 go_wp2
 refine bodyPost_ret (v := .tuple #[.agg #[.slice x1 n1 c1, .slice x2 n2 c2], .int .i64 ans.1, .int .i64 ans.2]) (by simp [results, Tryz.results26, go_sem, r0, r1]) rfl ⟨x1, n1, c1, x2, n2, c2, ns, rfl, ?_, ⟨owns_blk HT2.out.nd (fun k hk => by rw [blk_other _ _ (by simpa using HNN.out k hk), blk_other _ _ (by simpa using HNN.out k hk)]), owns_blk HT2.out.op (fun k hk => by rw [blk_other _ _ (by simpa using HNO.out k hk), blk_other _ _ (by simpa using HNO.out k hk)])⟩, HNA.out⟩
 exact (HB2.out.setCell (p := ⟨w.heap.size, 0, none⟩) (Nat.le_refl _) _).setCell (p := ⟨w.heap.size, 1, none⟩) (Nat.le_refl _) _
set_option maxRecDepth 100000 in
set_option maxHeartbeats 4000000 in
theorem leaseVet_ok (s : ByteArray) (w : World) (e : PT) (y : Nat) (ans : Nat × Nat) (hrd : ∀ w, Calls Tryz.prog 26 #[.string s] w fun v w' => ∃ x1 n1 c1 x2 n2 c2 ns, v = .returned (.tuple #[treeV (.slice x1 n1 c1) (.slice x2 n2 c2), .int .i64 0, .int .i64 y]) ∧ Below w.heap.size w w' ∧ TreeIn w' (.slice x1 n1 c1) (.slice x2 n2 c2) ns (opn e 0) ∧ NA [] e 0 ns ∧ PosN e ns (posOf s.size (tokens s.data.toList)) s.size)
  (hrn : ∀ (w' : World) (x1 : Option Addr) (n1 c1 : Nat) (x2 : Option Addr) (n2 c2 : Nat) (ns : List NR), TreeIn w' (.slice x1 n1 c1) (.slice x2 n2 c2) ns (opn e 0) → NA [] e 0 ns ∧ PosN e ns (posOf s.size (tokens s.data.toList)) s.size → Calls Tryz.prog 27 #[treeV (.slice x1 n1 c1) (.slice x2 n2 c2)] w' fun v w'' => v = .returned (.tuple #[.int .i64 ans.1, .int .i64 ans.2]) ∧ Below w'.heap.size w' w'') :
  Calls Tryz.prog 12 #[.string s] w fun v w' => v = .returned (.tuple #[.int .i64 ans.1, .int .i64 ans.2]) ∧ Below w.heap.size w w' := by
 unfold treeV at hrd hrn
 have HR : Hid _ := hrd
 have HN : Hid _ := hrn
 clear hrd hrn
 go_enter Tryz.func12, Tryz.ntmps12
 go_wp2_with fail
 refine (HR.out _).mono ?_
 rintro _ w1 ⟨x1, n1, c1, x2, n2, c2, ns, rfl, hb, hT, hna⟩
 have hb2 : Below w1.heap.size w1 (w1.alloc (.cells #[.slice x1 n1 c1, .slice x2 n2 c2] 62)) := (Below.refl _ w1).alloc (Nat.le_refl _) _
 have HRN : Hid _ := HN.out _ x1 n1 c1 x2 n2 c2 ns (hT.below hb2) hna
 have HB2 : Hid _ := hb.trans (hb2.mono hb.size)
 clear hb hT hna hb2 HR HN
 go_wp2_with fail
 refine Calls.mono HRN.out ?_
 rintro _ w3 ⟨rfl, hb3⟩
 have HB3 : Hid _ := HB2.out.trans (hb3.mono HB2.out.size)
 clear hb3 HRN HB2
 go_wp2
 refine bodyPost_ret (v := .tuple #[.int .i64 ans.1, .int .i64 ans.2]) (by simp [results, Tryz.results12, go_sem]) rfl ⟨rfl, HB3.out⟩
end Go.Proofs.YtpicaknklgccoabGreatDoor
namespace Go.Proofs.YtpicaknklgccoabGreatDoor
def tyRun : List Ty → List NR → List Ty
 | T, [] => T
 | T, n :: r => tyRun (T ++ [tyR T n]) r
theorem tyRun_app : ∀ (a b : List NR) (T : List Ty), tyRun T (a ++ b) = tyRun (tyRun T a) b
 | [], _, _ => rfl
 | n :: r, b, T => by simp only [List.cons_append, tyRun]; exact tyRun_app r b _
theorem SzOk_app : ∀ (a b : List NR) (T : List Ty), SzOk T a → SzOk (tyRun T a) b → SzOk T (a ++ b)
 | [], _, _, _, h => h
 | n :: r, b, T, h, h' => by
  simp only [List.cons_append, SzOk] at h ⊢
  exact ⟨h.1, SzOk_app r b _ h.2 h'⟩
theorem plT_app : ∀ (a b : List NR) (T : List Ty), plT T (a ++ b) = if (plT T a).1 ≠ 0 then plT T a else plT (tyRun T a) b
 | [], _, _ => by simp [plT, tyRun]
 | n :: r, b, T => by
  have e1 : plT T (n :: (r ++ b)) = if vfT (T ++ [tyR T n]) n ≠ 0 then (vfT (T ++ [tyR T n]) n, n.at_) else plT (T ++ [tyR T n]) (r ++ b) := rfl
  have e2 : plT T (n :: r) = if vfT (T ++ [tyR T n]) n ≠ 0 then (vfT (T ++ [tyR T n]) n, n.at_) else plT (T ++ [tyR T n]) r := rfl
  by_cases h : vfT (T ++ [tyR T n]) n ≠ 0
  ·rw [if_pos h] at e1 e2; rw [List.cons_append, e1, e2, if_pos h]
  ·rw [if_neg h] at e1 e2; rw [List.cons_append, e1, e2, plT_app r b]; rfl
theorem known_more {T : List Ty} {i : Nat} {t : Ty} (U : List Ty) (h : T[i]? = some t) : knownT (T ++ U) (i : Int) = t :=
 known_some (by rw [List.getElem?_append_left (List.getElem?_eq_some_iff.1 h).1]; exact h)
theorem fk_let : formK .let_ = 3 := by decide
theorem fk_pair : formK .pair = 4 := by decide
theorem fk_fst : formK .fst = 5 := by decide
theorem fk_snd : formK .snd = 6 := by decide
theorem fk_if : formK .if_ = 7 := by decide
theorem fk_loop : formK .loop = 11 := by decide
end Go.Proofs.YtpicaknklgccoabGreatDoor
