import Derived.Test.YtpicaknklgccoaaGreatDoorP8
namespace Go.Proofs.YtpicaknklgccoaaGreatDoor
open Go.RowKit
def ptd : List Nat → List Nat → Option (Nat × Nat)
 | a :: l, b :: m => if a = b then ptd l m else some (a, b)
 | _, _ => none
def ptdX (TY : List Ty) : PT × Nat × Nat → Option (Nat × Nat)
 | (.node _ k _ _ [a, b, _], id, _) => if k = .if_ ∨ k = .loop then ptd (tyAt TY (id + 1 + a.cnt)).rgl (tyAt TY (id + 1 + a.cnt + b.cnt)).rgl else none
 | _ => none
def ptdL (TY : List Ty) : List (PT × Nat × Nat) → Option (Nat × Nat)
 | [] => none
 | x :: r => match ptdX TY x with
  | some q => some q
  | none => ptdL TY r
def ptdV : Option (Nat × Nat) → Value
 | some (a, b) => .tuple #[.int .i64 a, .int .i64 b, .bool true]
 | none => .tuple #[.int .i64 0, .int .i64 0, .bool false]
theorem pcase (TY : List Ty) (x : PT × Nat × Nat) (hw : x.1.wf) :
  (((recOf x).op = [105, 102] ∨ (recOf x).op = [108, 111, 111, 112]) ∧ ∃ p k nm rg a b c, x.1 = .node p k nm rg [a, b, c] ∧ ptdX TY x = ptd (tyAt TY (x.2.1 + 1 + a.cnt)).rgl (tyAt TY (x.2.1 + 1 + a.cnt + b.cnt)).rgl)
  ∨ ((recOf x).op ≠ [105, 102] ∧ (recOf x).op ≠ [108, 111, 111, 112] ∧ ptdX TY x = none) := by
 obtain ⟨t, id, site⟩ := x
 cases t with
 | num p s => exact .inr ⟨by simp [recOf, numB], by simp [recOf, numB], rfl⟩
 | name p s => exact .inr ⟨by simp [recOf, nameB], by simp [recOf, nameB], rfl⟩
 | node p k nm rg kids =>
  simp only [PT.wf] at hw
  have hlen := hw.1
  cases k
  case if_ =>
   left
   match kids, hlen with
   | [a, b, c], _ => exact ⟨.inl rfl, p, _, nm, rg, a, b, c, rfl, by simp [ptdX]⟩
  case loop =>
   left
   match kids, hlen with
   | [a, b, c], _ => exact ⟨.inr rfl, p, _, nm, rg, a, b, c, rfl, by simp [ptdX]⟩
  all_goals
   right
   refine ⟨by simp [recOf, Kw.bytes], by simp [recOf, Kw.bytes], ?_⟩
   rcases kids with _ | ⟨a, _ | ⟨b, _ | ⟨c, _ | ⟨d, r⟩⟩⟩⟩ <;> simp [ptdX]
theorem ptd_drop {A B : List Nat} {k : Nat} (ha : k < A.length) (hb : k < B.length) : ptd (A.drop k) (B.drop k) = if A[k] = B[k] then ptd (A.drop (k + 1)) (B.drop (k + 1)) else some (A[k], B[k]) := by
 rw [List.drop_eq_getElem_cons ha, List.drop_eq_getElem_cons hb]; rfl
theorem ptd_end {A B : List Nat} {k : Nat} (h : A.length ≤ k ∨ B.length ≤ k) : ptd (A.drop k) (B.drop k) = none := by
 rcases h with h | h
 ·rw [List.drop_eq_nil_of_le h]; rfl
 ·rw [List.drop_eq_nil_of_le h]; cases A.drop k <;> rfl
theorem rgl_len : ∀ T : Ty, T.rgl.length = T.size := by
 intro T; induction T with
 | n => rfl
 | p r a b iha ihb => simp only [Ty.rgl, Ty.size, List.length_cons, List.length_append, iha, ihb]
theorem row_cells {w : World} {B : Nat} {v : Value} {R : List Nat} (h : w.ownsRow B 3 1 v R.length (R.map fun (x : Nat) => Value.int .i64 x)) : ∃ va vc, v = .slice va R.length vc ∧ ∀ j, (hj : j < R.length) → ∃ g, va = some ⟨g, 0, none⟩ ∧ g < w.heap.size ∧ w.cell? ⟨g, j, none⟩ = some (.int .i64 R[j]) := by
 obtain ⟨va, vc, hv⟩ : ∃ va vc, v = .slice va R.length vc := by
  rcases h.2 with ⟨h1, h2⟩ | ⟨g, cap, cur, h1, _⟩
  ·exact ⟨none, 0, by rw [h1, h2]⟩
  ·exact ⟨_, _, h1⟩
 refine ⟨va, vc, hv, fun j hj => ?_⟩
 rcases h.2 with ⟨h1, h2⟩ | ⟨g, cap, cur, h1, _⟩
 ·omega
 ·rw [hv] at h1
  simp only [Value.slice.injEq] at h1
  have hr := h
  rw [hv, h1.1] at hr
  have hc : w.cell? ⟨g, j, none⟩ = some (.int .i64 R[j]) := by rw [hr.cellAt j (by omega), List.getElem?_map, List.getElem?_eq_getElem hj]; rfl
  exact ⟨g, h1.1, World.block_lt_of_cell? _ _ hc, hc⟩
def OfIn (w : World) (yb : Nat) (TY : List Ty) : Prop := yb < w.heap.size ∧ ∃ go oc, w.cell? ⟨yb, 3, none⟩ = some (.slice (some ⟨go, 0, none⟩) TY.length oc) ∧ go < w.heap.size ∧ ∀ (k : Nat) (T : Ty), TY[k]? = some T → w.cell? ⟨go, k, none⟩ = some (.string (bs T.txt))
set_option maxRecDepth 100000 in
set_option maxHeartbeats 8000000 in
theorem parted_any (w0 w : World) (e : PT) (TY : List Ty) (b yb : Nat) (hfit : ∀ T ∈ TY, T.fit) (hcnt : e.cnt ≤ 9000) (hlen : TY.length = e.cnt) (hwf : e.wf) (hT : IsT w0 (fun k => k < w0.heap.size) e 0 0 b) (hb0 : Below w0.heap.size w0 w) (hO : OfIn w yb TY) :
  Calls Tryz.prog 70 #[.pointer (some ⟨b, 0, none⟩), .pointer (some ⟨yb, 0, none⟩)] w fun v w' => v = .returned (ptdV (ptdL TY (e.subs 0 0))) ∧ Below w.heap.size w w' := by
 have HFIT : Hid _ := hfit
 have HWF : Hid _ := hwf
 have HLEN : Hid _ := hlen
 have HO : Hid _ := hO
 have HB0 : Hid _ := hb0
 obtain ⟨ans, hans⟩ : ∃ ans, ans = ptdL TY (e.subs 0 0) := ⟨_, rfl⟩
 rw [← hans]
 have HANS : Hid _ := hans
 have hall := fun w1 h => allT_any e 0 0 b _ w0 hcnt hT w1 h
 unfold ptr at hall
 clear hfit hwf hans hlen hO hT hb0
 go_enter Tryz.func70, Tryz.ntmps70
 go_wp2_with fail
 refine (hall _ HB0.out).mono ?_
 rintro _ w2 ⟨g, cap, bl, rfl, hb2, hown2, hts⟩
 have hbl : bl.length = e.cnt := by rw [hts.len, subs_len]
 have hsub : ∀ (i : Nat) (x : PT × Nat × Nat), (e.subs 0 0)[i]? = some x → ∃ bi, w2.cell? ⟨g, i, none⟩ = some (.pointer (some ⟨bi, 0, none⟩)) ∧ IsT w0 (fun k => k < w0.heap.size) x.1 x.2.1 x.2.2 bi := by
  intro i x hx
  obtain ⟨bi, h1, h2⟩ := hts.at i x hx
  refine ⟨bi, ?_, h2⟩
  rw [hown2.cellAt i (by have := (List.getElem?_eq_some_iff.1 h1).1; omega), List.getElem?_map, h1]; rfl
 have hgl : g < w2.heap.size := (hown2.lt g rfl).2
 have HSUB : Hid _ := hsub
 have HB2 : Hid _ := hb2
 have HBL : Hid _ := hbl
 have hbll : bl.length ≤ 9000 := by omega
 clear hall hown2 hts hsub hb2 hbl
 go_wp2
 go_loopw [8, 11] (fun i _ wr => ∃ k : Nat, k ≤ bl.length ∧ i = .int .i64 k ∧ Below w2.heap.size w2 wr ∧ ptdL TY (e.subs 0 0) = ptdL TY ((e.subs 0 0).drop k)) (fun i _ _ => bl.length - (intOf i).toNat)
 case atStart => exact ⟨0, Nat.zero_le _, rfl, Below.refl _ _, rfl⟩
 case round =>
  obtain ⟨k, hk, rfl, hbr, hvl⟩ := hrel
  have HV : Hid _ := hvl
  have HBR : Hid _ := hbr
  have hgr : g < wr.heap.size := by have := hbr.size; omega
  have HBW : Hid (Below w.heap.size w wr) := (show Below _ _ _ from HB2.out.trans (hbr.mono HB2.out.size))
  by_cases hlt : k < bl.length
  ·have hkl : k < (e.subs 0 0).length := by rw [subs_len, ← HBL.out]; exact hlt
   obtain ⟨x, hx⟩ : ∃ x, (e.subs 0 0)[k]? = some x := ⟨_, List.getElem?_eq_getElem hkl⟩
   obtain ⟨bi, c1, hT⟩ := HSUB.out k x hx
   have hB1r : Below w0.heap.size w0 wr := HB0.out.trans (HBW.out.mono HB0.out.size)
   have c1r : wr.cell? ⟨g, k, none⟩ = some (.pointer (some ⟨bi, 0, none⟩)) := (hbr.cell (p := ⟨g, k, none⟩) hgl).trans c1
   obtain ⟨a0, a1, a3, a5, _, hbil⟩ := rec_cells (isT_rec hT)
   have a0r : wr.cell? ⟨bi, 0, none⟩ = some (.string (bs (recOf x).op)) := (hB1r.cell (p := ⟨bi, 0, none⟩) hbil).trans a0
   have hbir : bi < wr.heap.size := by have := hB1r.size; omega
   have hxd : (e.subs 0 0).drop k = x :: (e.subs 0 0).drop (k + 1) := by
    rw [List.drop_eq_getElem_cons hkl]
    rw [List.getElem?_eq_getElem hkl] at hx
    rw [Option.some.inj hx]
   have hvs : ptdL TY ((e.subs 0 0).drop k) = match ptdX TY x with | some q => some q | none => ptdL TY ((e.subs 0 0).drop (k + 1)) := by rw [hxd]; rfl
   have hxm := List.mem_of_getElem? hx
   have hxw := subs_wf e 0 0 HWF.out x hxm
   have hxi := subs_ids e 0 0 x hxm
   obtain ⟨hyl, go, oc, o3, hgo, hoa⟩ := HO.out
   have o3r : wr.cell? ⟨yb, 3, none⟩ = some (.slice (some ⟨go, 0, none⟩) TY.length oc) := (HBW.out.cell (p := ⟨yb, 3, none⟩) hyl).trans o3
   have hylr : yb < wr.heap.size := by have := HBW.out.size; omega
   have hgor : go < wr.heap.size := by have := HBW.out.size; omega
   have HOA : Hid (∀ (k : Nat), k < TY.length → wr.cell? ⟨go, k, none⟩ = some (.string (bs (tyAt TY k).txt)) ∧ (tyAt TY k).fit) := by
    intro k hk
    have hg := List.getElem?_eq_getElem hk
    have hat : tyAt TY k = TY[k] := by unfold tyAt; rw [hg]; rfl
    rw [hat]
    exact ⟨(HBW.out.cell (p := ⟨go, k, none⟩) hgo).trans (hoa k _ hg), HFIT.out _ (List.getElem_mem hk)⟩
   have HKID : Hid (∀ p kw nm rg kids, x.1 = .node p kw nm rg kids → ∃ va vc, wr.cell? ⟨bi, 4, none⟩ = some (.slice va kids.length vc) ∧ ∀ i y, kids[i]? = some y → ∃ gk bx, va = some ⟨gk, 0, none⟩ ∧ gk < wr.heap.size ∧ wr.cell? ⟨gk, i, none⟩ = some (.pointer (some ⟨bx, 0, none⟩)) ∧ bx < wr.heap.size ∧ wr.cell? ⟨bx, 5, none⟩ = some (.int .i64 ((x.2.1 + 1 + cntL (kids.take i) : Nat) : Int))) := by
    intro p kw nm rg kids hxe
    rw [hxe] at hT
    obtain ⟨va, vc, h4, hk4⟩ := kid_ids hT
    refine ⟨va, vc, (hB1r.cell (p := ⟨bi, 4, none⟩) hbil).trans h4, ?_⟩
    intro i y hy
    obtain ⟨gk, bx, e1, e2, e3, e4, e5⟩ := hk4 i y hy
    have hsz := hB1r.size
    exact ⟨gk, bx, e1, by omega, (hB1r.cell (p := ⟨gk, i, none⟩) e2).trans e3, by omega, (hB1r.cell (p := ⟨bx, 5, none⟩) e4).trans e5⟩
   have HVS : Hid _ := hvs
   clear hx c1 hT hB1r a0 a1 a3 a5 hxd hvs hbr hvl o3 hgo hoa hbil hyl
   have hif : ((bs (recOf x).op).toList == [105, 102]) = ((recOf x).op == [105, 102]) := bs_beq0 _ _
   have hlo : ((bs (recOf x).op).toList == [108, 111, 111, 112]) = ((recOf x).op == [108, 111, 111, 112]) := bs_beq0 _ _
   have hxi2 : x.2.1 + x.1.cnt ≤ TY.length := by rw [HLEN.out]; omega
   have hTYl : TY.length ≤ 9000 := by rw [HLEN.out]; exact hcnt
   rcases pcase TY x hxw with ⟨hop, p0, k0, nm, rg, ka, kb, kc, hxe, hvx⟩ | ⟨h1, h2, hvx⟩
   ·obtain ⟨va, vc, c4, hkk⟩ := HKID.out _ _ _ _ _ hxe
    obtain ⟨gk, b1, rfl, hgk, d1, hb1, e1⟩ := hkk 1 kb rfl
    obtain ⟨gk', b2, hgk', _, d2, hb2', e2⟩ := hkk 2 kc rfl
    have hgk2 : gk = gk' := by injection hgk' with h; injection h
    subst hgk2
    simp only [List.take, cntL, Nat.add_zero, List.length_cons, List.length_nil, Nat.zero_add] at e1 e2 c4
    have hcx : x.1.cnt = 1 + (ka.cnt + (kb.cnt + (kc.cnt + 0))) := by rw [hxe]; simp only [PT.cnt, cntL]
    have hkcp : 0 < kc.cnt := cnt_pos kc
    obtain ⟨i1, hi1⟩ : ∃ i1, i1 = x.2.1 + 1 + ka.cnt := ⟨_, rfl⟩
    obtain ⟨i2, hi2⟩ : ∃ i2, i2 = i1 + kb.cnt := ⟨_, rfl⟩
    rw [← hi1] at e1
    have hi2' : x.2.1 + 1 + (ka.cnt + kb.cnt) = i2 := by omega
    rw [hi2'] at e2
    rw [← hi1, ← hi2] at hvx
    have hl1 : i1 < TY.length := by omega
    have hl2 : i2 < TY.length := by omega
    obtain ⟨t1, f1⟩ := HOA.out i1 hl1
    obtain ⟨t2, f2⟩ := HOA.out i2 hl2
    have hg : (((bs (recOf x).op).toList == [105, 102]) = true) ∨ (((bs (recOf x).op).toList == [105, 102]) = false ∧ ((bs (recOf x).op).toList == [108, 111, 111, 112]) = true) := by
     rw [hif, hlo]
     rcases hop with h | h <;> rw [h] <;> simp
    have HVX : Hid _ := hvx
    have HR1 : Hid _ := fun w => regions_any (tyAt TY i1) f1 w
    have HR2 : Hid _ := fun w => regions_any (tyAt TY i2) f2 w
    have hz1 : (tyAt TY i1).rgl.length ≤ 127 := by rw [rgl_len]; exact f1.1
    have hz2 : (tyAt TY i2).rgl.length ≤ 127 := by rw [rgl_len]; exact f2.1
    generalize hT1 : tyAt TY i1 = T1 at *
    generalize hT2 : tyAt TY i2 = T2 at *
    clear hif hlo hop hkk hxe hvx hcx hkcp hi1 hi2 hi2' hxi hxi2 hT1 hT2 f1 f2
    have HS : Hid (∀ w', Below wr.heap.size wr w' → w'.cell? ⟨g, k, none⟩ = some (.pointer (some ⟨bi, 0, none⟩)) ∧ w'.cell? ⟨yb, 3, none⟩ = some (.slice (some ⟨go, 0, none⟩) TY.length oc) ∧ w'.cell? ⟨bi, 4, none⟩ = some (.slice (some ⟨gk, 0, none⟩) 3 vc) ∧ w'.cell? ⟨gk, 1, none⟩ = some (.pointer (some ⟨b1, 0, none⟩)) ∧ w'.cell? ⟨gk, 2, none⟩ = some (.pointer (some ⟨b2, 0, none⟩)) ∧ w'.cell? ⟨b1, 5, none⟩ = some (.int .i64 (i1 : Nat)) ∧ w'.cell? ⟨b2, 5, none⟩ = some (.int .i64 (i2 : Nat)) ∧ w'.cell? ⟨go, i1, none⟩ = some (.string (bs T1.txt)) ∧ w'.cell? ⟨go, i2, none⟩ = some (.string (bs T2.txt))) := by
     intro w' hb
     exact ⟨(hb.cell (p := ⟨g, k, none⟩) hgr).trans c1r, (hb.cell (p := ⟨yb, 3, none⟩) hylr).trans o3r, (hb.cell (p := ⟨bi, 4, none⟩) hbir).trans c4, (hb.cell (p := ⟨gk, 1, none⟩) hgk).trans d1, (hb.cell (p := ⟨gk, 2, none⟩) hgk).trans d2, (hb.cell (p := ⟨b1, 5, none⟩) hb1).trans e1, (hb.cell (p := ⟨b2, 5, none⟩) hb2').trans e2, (hb.cell (p := ⟨go, i1, none⟩) hgor).trans t1, (hb.cell (p := ⟨go, i2, none⟩) hgor).trans t2⟩
    clear o3r c4 d1 d2 e1 e2 t1 t2
    rcases hg with hg | ⟨hg, hg'⟩
    all_goals
     go_wp2
     go_region_held3 (fun w' => w'.cell? ⟨g, k, none⟩ = some (.pointer (some ⟨bi, 0, none⟩)) ∧ w'.cell? ⟨yb, 3, none⟩ = some (.slice (some ⟨go, 0, none⟩) TY.length oc) ∧ w'.cell? ⟨bi, 4, none⟩ = some (.slice (some ⟨gk, 0, none⟩) 3 vc) ∧ w'.cell? ⟨gk, 1, none⟩ = some (.pointer (some ⟨b1, 0, none⟩)) ∧ w'.cell? ⟨gk, 2, none⟩ = some (.pointer (some ⟨b2, 0, none⟩)) ∧ w'.cell? ⟨b1, 5, none⟩ = some (.int .i64 (i1 : Nat)) ∧ w'.cell? ⟨b2, 5, none⟩ = some (.int .i64 (i2 : Nat)) ∧ w'.cell? ⟨go, i1, none⟩ = some (.string (bs T1.txt)) ∧ w'.cell? ⟨go, i2, none⟩ = some (.string (bs T2.txt))) (first | exact HS.out _ ⟨rfl, rfl, rfl, Nat.le_refl _, fun _ _ => rfl⟩ | exact HS.out _ ⟨hb7.os, hb7.tape, hb7.output, hb7.size, fun k hk => hb7.block k hk⟩) (first | (go_at_call 112; refine (HR1.out _).mono ?_; rintro e w7 ⟨v7, rfl, ho7, hb7⟩))
     all_goals
      have hB7 : Below wr.heap.size wr w7 := ⟨hb7.os, hb7.tape, hb7.output, hb7.size, fun k hk => hb7.block k hk⟩
      have HB7 : Hid _ := hB7
      obtain ⟨va7, vc7, rfl, hr7⟩ := row_cells ho7
      have HR7 : Hid _ := hr7
      clear hb7 hB7 ho7 hr7
      go_wp2
      go_region_held3 (fun w' => w'.cell? ⟨g, k, none⟩ = some (.pointer (some ⟨bi, 0, none⟩)) ∧ w'.cell? ⟨yb, 3, none⟩ = some (.slice (some ⟨go, 0, none⟩) TY.length oc) ∧ w'.cell? ⟨bi, 4, none⟩ = some (.slice (some ⟨gk, 0, none⟩) 3 vc) ∧ w'.cell? ⟨gk, 1, none⟩ = some (.pointer (some ⟨b1, 0, none⟩)) ∧ w'.cell? ⟨gk, 2, none⟩ = some (.pointer (some ⟨b2, 0, none⟩)) ∧ w'.cell? ⟨b1, 5, none⟩ = some (.int .i64 (i1 : Nat)) ∧ w'.cell? ⟨b2, 5, none⟩ = some (.int .i64 (i2 : Nat)) ∧ w'.cell? ⟨go, i1, none⟩ = some (.string (bs T1.txt)) ∧ w'.cell? ⟨go, i2, none⟩ = some (.string (bs T2.txt))) (first | exact HS.out _ HB7.out | exact HS.out _ (HB7.out.trans ⟨rfl, rfl, rfl, Nat.le_refl _, fun _ _ => rfl⟩) | exact HS.out _ (HB7.out.trans ⟨hb8.os, hb8.tape, hb8.output, hb8.size, fun k hk => hb8.block k (Nat.lt_of_lt_of_le hk HB7.out.size)⟩)) (first | (go_at_call 112; refine (HR2.out _).mono ?_; rintro e w8 ⟨v8, rfl, ho8, hb8⟩))
      all_goals
       have hB8 : Below w7.heap.size w7 w8 := ⟨hb8.os, hb8.tape, hb8.output, hb8.size, fun k hk => hb8.block k hk⟩
       obtain ⟨va8, vc8, rfl, hr8⟩ := row_cells ho8
       have HR8 : Hid _ := hr8
       have HR7' : Hid (∀ j, (hj : j < T1.rgl.length) → ∃ g, va7 = some ⟨g, 0, none⟩ ∧ g < w8.heap.size ∧ w8.cell? ⟨g, j, none⟩ = some (.int .i64 T1.rgl[j])) := by
        intro j hj
        obtain ⟨g, h1, h2, h3⟩ := HR7.out j hj
        exact ⟨g, h1, Nat.lt_of_lt_of_le h2 hB8.size, (hB8.cell (p := ⟨g, j, none⟩) h2).trans h3⟩
       have HB8 : Hid (Below w2.heap.size w2 w8) := (show Below _ _ _ from HBR.out.trans ((HB7.out.trans (hB8.mono HB7.out.size)).mono HBR.out.size))
       have HBW8 : Hid (Below w.heap.size w w8) := (show Below _ _ _ from HB2.out.trans (HB8.out.mono HB2.out.size))
       clear hb8 hB8 ho8 hr8 HR7 HB7 HS HR1 HR2 a0r c1r
       generalize T1.rgl = R1 at *
       generalize T2.rgl = R2 at *
       go_wp2
       go_loopw [11] (fun kk wi => ∃ j : Nat, Below w8.heap.size w8 wi ∧ j ≤ R1.length ∧ j ≤ R2.length ∧ kk = .int .i64 j ∧ ptd R1 R2 = ptd (R1.drop j) (R2.drop j)) (fun kk _ => R1.length - (intOf kk).toNat)
       case atStart => exact ⟨0, Below.refl _ _, Nat.zero_le _, Nat.zero_le _, rfl, rfl⟩
       case round =>
        obtain ⟨j, hbi8, hj1, hj2, rfl, hpt⟩ := hrel
        have HP : Hid _ := hpt
        have HBI : Hid _ := hbi8
        have HBX : Hid (Below w2.heap.size w2 wr) := (show Below _ _ _ from HB8.out.trans (hbi8.mono HB8.out.size))
        clear hpt hbi8
        by_cases hlt1 : j < R1.length
        ·by_cases hlt2 : j < R2.length
         ·obtain ⟨g1, hg1, hgl1, hc1⟩ := HR7'.out j hlt1
          obtain ⟨g2, hg2, hgl2, hc2⟩ := HR8.out j hlt2
          subst hg1 hg2
          have hd1 := (HBI.out.cell (p := ⟨g1, j, none⟩) hgl1).trans hc1
          have hd2 := (HBI.out.cell (p := ⟨g2, j, none⟩) hgl2).trans hc2
          clear hc1 hc2
          have hst := ptd_drop hlt1 hlt2
          have HST : Hid _ := hst
          generalize R1[j] = y1 at *
          generalize R2[j] = y2 at *
          clear hst
          cases hq : ((y1 : Int) != (y2 : Int)) with
          | true =>
           have hne : ¬ y1 = y2 := by intro h; rw [h] at hq; simp at hq
           have HF : Hid (ans = some (y1, y2)) := (show _ = _ by rw [HANS.out, HV.out, HVS.out, HVX.out, HP.out, HST.out, if_neg hne])
           clear hne
           go_wp2
           go_quiet (fail)
           go_wp2
           go_quiet (fail)
           go_wp2
           refine bodyPost_ret (v := .tuple #[.int .i64 y1, .int .i64 y2, .bool true]) (by simp [results, Tryz.results70, go_sem]) rfl ⟨by rw [HF.out]; rfl, Below.trans (HB2.out.trans (HBX.out.mono HB2.out.size)) ⟨rfl, rfl, rfl, Nat.le_refl _, fun _ _ => rfl⟩⟩
          | false =>
           have he : y1 = y2 := by simp at hq; omega
           have HN : Hid (ptd R1 R2 = ptd (R1.drop (j + 1)) (R2.drop (j + 1))) := (show _ = _ by rw [HP.out, HST.out, if_pos he])
           clear he
           go_wp2
           go_quiet (fail)
           go_wp2
           go_roundw
           case rel => exact ⟨j + 1, HBI.out.trans ⟨rfl, rfl, rfl, Nat.le_refl _, fun _ _ => rfl⟩, by omega, by omega, by go_num, HN.out⟩
           case measure => simp [intOf]; omega
         ·have HN : Hid (ptdL TY (e.subs 0 0) = ptdL TY ((e.subs 0 0).drop (k + 1))) := (show _ = _ by rw [HV.out, HVS.out, HVX.out, HP.out, ptd_end (.inr (by omega))])
          go_wp2
          go_roundw
          case rel => exact ⟨k + 1, by omega, by go_num, HBX.out, HN.out⟩
          case measure => simp [intOf]; omega
        ·have HN : Hid (ptdL TY (e.subs 0 0) = ptdL TY ((e.subs 0 0).drop (k + 1))) := (show _ = _ by rw [HV.out, HVS.out, HVX.out, HP.out, ptd_end (.inl (by omega))])
         go_wp2
         go_roundw
         case rel => exact ⟨k + 1, by omega, by go_num, HBX.out, HN.out⟩
         case measure => simp [intOf]; omega
   ·have hg1 : ((bs (recOf x).op).toList == [105, 102]) = false := by rw [hif]; simpa using h1
    have hg2 : ((bs (recOf x).op).toList == [108, 111, 111, 112]) = false := by rw [hlo]; simpa using h2
    have HN : Hid (ptdL TY (e.subs 0 0) = ptdL TY ((e.subs 0 0).drop (k + 1))) := (show _ = _ by rw [HV.out, HVS.out, hvx])
    clear hif hlo h1 h2 hvx hxi hxi2 o3r
    go_wp2
    go_roundw
    case rel => exact ⟨k + 1, by omega, by go_num, HBR.out, HN.out⟩
    case measure => simp [intOf]; omega
  ·have hnil : (e.subs 0 0).drop k = [] := List.drop_eq_nil_of_le (by rw [subs_len, ← HBL.out]; omega)
   have HF : Hid (ans = none) := by rw [HANS.out, HV.out, hnil]; exact rfl
   clear hnil hbr hvl
   go_wp2
   refine bodyPost_ret (v := .tuple #[.int .i64 0, .int .i64 0, .bool false]) (by simp [results, Tryz.results70, go_sem]) rfl ⟨by rw [HF.out]; rfl, HBW.out⟩
def mrg (c : Nat → Nat) (x y : Nat) : Nat → Nat := fun i => if c i = max (c x) (c y) then min (c x) (c y) else c i
inductive Eqv (G : Nat → Nat → Prop) : Nat → Nat → Prop
 | base {x y : Nat} (h : G x y) : Eqv G x y
 | refl (x : Nat) : Eqv G x x
 | symm {x y : Nat} (h : Eqv G x y) : Eqv G y x
 | trans {x y z : Nat} (h : Eqv G x y) (g : Eqv G y z) : Eqv G x z
structure Shr (G : Nat → Nat → Prop) (c : Nat → Nat) : Prop where
 le : ∀ i, c i ≤ i
 snd : ∀ i, Eqv G i (c i)
theorem Shr.mrg {G : Nat → Nat → Prop} {c : Nat → Nat} (h : Shr G c) {x y : Nat} (hxy : Eqv G x y) : Shr G (mrg c x y) := by
 have hc : Eqv G (c x) (c y) := ((h.snd x).symm.trans hxy).trans (h.snd y)
 have hm : Eqv G (max (c x) (c y)) (min (c x) (c y)) := by
  by_cases e : c x ≤ c y
  ·rw [Nat.max_eq_right e, Nat.min_eq_left e]; exact hc.symm
  ·have e' : c y ≤ c x := by omega
   rw [Nat.max_eq_left e', Nat.min_eq_right e']; exact hc
 refine ⟨fun i => ?_, fun i => ?_⟩
 ·have := h.le i
  unfold Go.Proofs.YtpicaknklgccoaaGreatDoor.mrg
  split <;> omega
 ·unfold Go.Proofs.YtpicaknklgccoaaGreatDoor.mrg
  split
  ·rename_i e
   exact (h.snd i).trans (by rw [e]; exact hm)
  ·exact h.snd i
theorem mrg_both (c : Nat → Nat) (x y : Nat) : mrg c x y x = mrg c x y y := by
 unfold mrg
 by_cases e : c x ≤ c y
 ·rw [Nat.max_eq_right e, Nat.min_eq_left e]
  by_cases e2 : c x = c y
  ·rw [if_pos e2, if_pos rfl]
  ·rw [if_neg e2, if_pos rfl]
 ·have e' : c y ≤ c x := by omega
  rw [Nat.max_eq_left e', Nat.min_eq_right e', if_pos rfl, if_neg (by omega)]
theorem mrg_keeps (c : Nat → Nat) (x y : Nat) {i j : Nat} (h : c i = c j) : mrg c x y i = mrg c x y j := by unfold mrg; rw [h]
def firstF (E : List Nat) : Nat → Nat → Nat
 | 0, p => p
 | f + 1, p => match E[p]? with
  | some x => if x < p then firstF E f x else p
  | none => p
def fst' (E : List Nat) (p : Nat) : Nat := firstF E (p + 1) p
theorem firstF_le (E : List Nat) : ∀ f p, firstF E f p ≤ p
 | 0, p => Nat.le_refl p
 | f + 1, p => by
  simp only [firstF]
  split
  ·split
   ·have := firstF_le E f; rename_i x _ h; have := this x; omega
   ·exact Nat.le_refl p
  ·exact Nat.le_refl p
theorem firstF_fuel (E : List Nat) : ∀ f g p, p < f → p < g → firstF E f p = firstF E g p
 | 0, _, _, h, _ => by omega
 | _ + 1, 0, _, _, h => by omega
 | f + 1, g + 1, p, h1, h2 => by
  simp only [firstF]
  split
  ·split
   ·rename_i x _ h; exact firstF_fuel E f g x (by omega) (by omega)
   ·rfl
  ·rfl
theorem fst_step (E : List Nat) (p : Nat) : fst' E p = match E[p]? with
  | some x => if x < p then fst' E x else p
  | none => p := by
 unfold fst'
 conv => lhs; unfold firstF
 split
 ·split
  ·rename_i x _ h; exact firstF_fuel E p (x + 1) x h (by omega)
  ·rfl
 ·rfl
theorem fst_le (E : List Nat) (p : Nat) : fst' E p ≤ p := firstF_le E _ p
theorem fst_end (E : List Nat) : ∀ p, ∀ x, E[fst' E p]? = some x → fst' E p ≤ x := by
 intro p
 induction p using Nat.strongRecOn with
 | _ p ih =>
  intro x hx
  rw [fst_step] at hx ⊢
  cases h : E[p]? with
  | none => rw [h] at hx; simp only at hx; rw [h] at hx; cases hx
  | some y =>
   rw [h] at hx
   simp only at hx ⊢
   by_cases hy : y < p
   ·rw [if_pos hy] at hx ⊢; exact ih y hy x hx
   ·rw [if_neg hy] at hx ⊢; rw [h] at hx; cases hx; omega
theorem fst_set (E : List Nat) (a b : Nat) (hab : a < b) (hb : b < E.length) (ha : fst' E a = a) (hbb : fst' E b = b) : ∀ p, fst' (E.set b a) p = if fst' E p = b then a else fst' E p := by
 intro p
 induction p using Nat.strongRecOn with
 | _ p ih =>
  rw [fst_step (E.set b a) p]
  by_cases hp : p = b
  ·subst hp
   rw [List.getElem?_set_self hb]
   simp only
   rw [if_pos hab, ih a hab, ha, hbb, if_neg (by omega), if_pos rfl]
  ·rw [List.getElem?_set_ne (fun e => hp e.symm), fst_step E p]
   cases h : E[p]? with
   | none => simp only; rw [if_neg hp]
   | some y =>
    simp only
    by_cases hy : y < p
    ·rw [if_pos hy, if_pos hy]; exact ih y hy
    ·rw [if_neg hy, if_neg hy, if_neg hp]
def joinF (E : List Nat) (x y : Nat) : List Nat := if fst' E x < fst' E y then E.set (fst' E y) (fst' E x) else E.set (fst' E x) (fst' E y)
theorem fst_idem (E : List Nat) (p : Nat) : fst' E (fst' E p) = fst' E p := by
 rw [fst_step E (fst' E p)]
 cases h : E[fst' E p]? with
 | none => rfl
 | some x => simp only; rw [if_neg (by have := fst_end E p x h; omega)]
theorem fst_join (E : List Nat) (x y : Nat) (hx : x < E.length) (hy : y < E.length) (p : Nat) : fst' (joinF E x y) p = mrg (fst' E) x y p := by
 have hxl := fst_le E x
 have hyl := fst_le E y
 unfold joinF mrg
 by_cases h : fst' E x < fst' E y
 ·rw [if_pos h, fst_set E _ _ h (by omega) (fst_idem E x) (fst_idem E y), Nat.max_eq_right (by omega), Nat.min_eq_left (by omega)]
 ·rw [if_neg h]
  by_cases e : fst' E x = fst' E y
  ·rw [← e, Nat.max_self, Nat.min_self]
   have hs : ∀ q, fst' (E.set (fst' E x) (fst' E x)) q = fst' E q := by
    intro q
    induction q using Nat.strongRecOn with
    | _ q ih =>
     rw [fst_step (E.set _ _) q, fst_step E q]
     by_cases hq : q = fst' E x
     ·rw [hq, List.getElem?_set_self (by omega)]
      simp only
      rw [if_neg (by omega)]
      cases h2 : E[fst' E x]? with
      | none => rfl
      | some z => simp only; rw [if_neg (by have := fst_end E x z h2; omega)]
     ·rw [List.getElem?_set_ne (fun e => hq e.symm)]
      cases h2 : E[q]? with
      | none => rfl
      | some z =>
       simp only
       by_cases hz : z < q
       ·rw [if_pos hz, if_pos hz]; exact ih z hz
       ·rw [if_neg hz, if_neg hz]
   rw [hs]
   split
   ·rename_i e2; exact e2
   ·rfl
  ·rw [fst_set E _ _ (by omega) (by omega) (fst_idem E y) (fst_idem E x), Nat.max_eq_left (by omega), Nat.min_eq_right (by omega)]
structure TN where
 kind : Nat
 at_ : Nat
 beh : Nat
 word : List UInt8
 num : Int
def kindN : Cl → Nat
 | .bad => 1
 | .opn => 2
 | .cls => 3
 | .nam => 4
 | .num => 5
 | .reg => 6
 | .kw .let_ => 7
 | .kw .pair => 8
 | .kw .fst => 9
 | .kw .snd => 10
 | .kw .if_ => 11
 | .kw .add => 12
 | .kw .sub => 13
 | .kw .less => 14
 | .kw .loop => 15
 | .kw .new => 16
def wordN (t : Tk) : List UInt8 := match t.c with
 | .nam => t.s
 | .kw _ => t.s
 | _ => []
def numN (t : Tk) : Int := match t.c with
 | .num => valueL t.s
 | .reg => valueL t.s
 | _ => 0
def tnOf (t : Tk) : TN := ⟨kindN t.c, t.at_, t.at_ + t.s.length, wordN t, numN t⟩
def tksAt (s : List UInt8) (p : Nat) : List Tk := toks (s.length - p) p (s.drop p)
def tk1 (len : Nat) (l : List Tk) : TN := match l with
 | [] => ⟨0, len, len, [], 0⟩
 | t :: _ => tnOf t
structure NR where
 form : Nat
 at_ : Nat
 beh : Nat
 num : Int
 word : List UInt8
 region : Int
 source : Int
 p0 : Int
 p1 : Int
 p2 : Int
structure PS where
 l : List Tk
 fl : Option Nat
 scope : List (List UInt8 × Int)
 nodes : List NR
 opened : List Int
def PS.fail (at_ : Nat) (st : PS) : PS := match st.fl with
 | some _ => st
 | none => { st with fl := some at_, l := [] }
def PS.tail (st : PS) : PS := { st with l := st.l.tail }
def PS.expect (len kind : Nat) (st : PS) : PS := if (tk1 len st.l).kind ≠ kind then st.tail.fail (tk1 len st.l).at_ else st.tail
def PS.add (n : NR) (st : PS) : PS := { st with nodes := st.nodes ++ [n] }
def findS (scope : List (List UInt8 × Int)) (w : List UInt8) : Int := match scope.reverse.find? (fun x => x.1 == w) with
 | some x => x.2
 | none => -1
def formN : Nat → Nat
 | 7 => 3
 | 8 => 4
 | 9 => 5
 | 10 => 6
 | 11 => 7
 | 12 => 8
 | 13 => 9
 | 14 => 10
 | 15 => 11
 | 16 => 12
 | _ => 0
def pBody (pE : PS → Int × PS) (word : List UInt8) (src : Int) (st : PS) : Int × PS :=
 let x := pE { st with scope := st.scope ++ [(word, src)] }
 (x.1, { x.2 with scope := x.2.scope.dropLast })
def pLet (len : Nat) (pE : PS → Int × PS) (n : NR) (st : PS) : NR × PS :=
 let nm := tk1 len st.l
 let x := pE (st.expect len 4)
 let y := pBody pE nm.word x.1 x.2
 ({ n with word := nm.word, p0 := x.1, p1 := y.1, p2 := -1 }, y.2)
def pLoop (len : Nat) (pE : PS → Int × PS) (n : NR) (st : PS) : NR × PS :=
 let t := pE st
 let nm := tk1 len t.2.l
 let x := pE (t.2.expect len 4)
 let y := pBody pE nm.word x.1 x.2
 ({ n with word := nm.word, p0 := t.1, p1 := x.1, p2 := y.1 }, y.2)
def pRegion (len : Nat) (n : NR) (st : PS) : NR × PS := ({ n with region := (tk1 len st.l).num }, st.expect len 6)
def pRow1 (pE : PS → Int × PS) (n : NR) (st : PS) : NR × PS :=
 let x := pE st
 ({ n with p0 := x.1 }, x.2)
def pRow2 (pE : PS → Int × PS) (n : NR) (st : PS) : NR × PS :=
 let x := pRow1 pE n st
 let y := pE x.2
 ({ x.1 with p1 := y.1 }, y.2)
def pRow3 (pE : PS → Int × PS) (n : NR) (st : PS) : NR × PS :=
 let x := pRow2 pE n st
 let y := pE x.2
 ({ x.1 with p2 := y.1 }, y.2)
def pFill (placed : Bool) (len : Nat) (pE : PS → Int × PS) (n : NR) (st : PS) : NR × PS :=
 if n.form = 3 then pLet len pE n st
 else if n.form = 11 then pLoop len pE n st
 else if n.form = 4 then (if placed then pRow2 pE (pRegion len n st).1 (pRegion len n st).2 else pRow2 pE n st)
 else if n.form = 12 then pRow1 pE (pRegion len n st).1 (pRegion len n st).2
 else if n.form = 5 ∨ n.form = 6 then pRow1 pE n st
 else if n.form = 7 then pRow3 pE n st
 else pRow2 pE n st
def pBracket (placed : Bool) (len : Nat) (pE : PS → Int × PS) (n : NR) (st : PS) : Int × PS :=
 let w := tk1 len st.l
 let f := formN w.kind
 if f = 0 ∨ (f = 12 ∧ placed = false) then (-1, st.tail.fail w.at_)
 else
  let x := pFill placed len pE { n with form := f } st.tail
  let e := tk1 len x.2.l
  (((x.2.expect len 3).nodes.length : Int), (x.2.expect len 3).add { x.1 with beh := e.beh })
def nodeT (t : TN) : NR := ⟨0, t.at_, t.beh, 0, [], 0, -1, -1, -1, -1⟩
def pAny (len : Nat) (pB : NR → PS → Int × PS) (st : PS) : Int × PS :=
 let t := tk1 len st.l
 if t.kind = 5 then ((st.nodes.length : Int), st.tail.add { nodeT t with form := 1, num := t.num })
 else if t.kind = 4 then ((st.nodes.length : Int), st.tail.add { nodeT t with form := 2, word := t.word, source := findS st.scope t.word })
 else if t.kind = 2 then pB (nodeT t) st.tail
 else (-1, st.tail.fail t.at_)
def pSeat (f : PS → Int × PS) (st : PS) : Int × PS :=
 let x := f { st with opened := st.opened ++ [-1] }
 (x.1, { x.2 with opened := x.2.opened.set st.opened.length x.1 })
def pExpr (placed : Bool) (len : Nat) : Nat → PS → Int × PS
 | 0 => pSeat (pAny len fun _ st => (-1, st))
 | m + 1 => pSeat (pAny len (pBracket placed len (pExpr placed len m)))
theorem kindN_num (c : Cl) : kindN c = 5 ↔ c = .num := by
 cases c with
 | kw k => cases k <;> decide
 | _ => decide
theorem kindN_nam (c : Cl) : kindN c = 4 ↔ c = .nam := by
 cases c with
 | kw k => cases k <;> decide
 | _ => decide
theorem kindN_opn (c : Cl) : kindN c = 2 ↔ c = .opn := by
 cases c with
 | kw k => cases k <;> decide
 | _ => decide
theorem kindN_cls (c : Cl) : kindN c = 3 ↔ c = .cls := by
 cases c with
 | kw k => cases k <;> decide
 | _ => decide
theorem kindN_reg (c : Cl) : kindN c = 6 ↔ c = .reg := by
 cases c with
 | kw k => cases k <;> decide
 | _ => decide
theorem kindN_pos (c : Cl) : kindN c ≠ 0 := by
 cases c with
 | kw k => cases k <;> decide
 | _ => decide
def PS.stuck (q : Nat) (st : PS) : Prop := st.fl = some q ∧ st.l = []
theorem stuck_fail {q a : Nat} {st : PS} (h : st.stuck q) : (st.fail a).stuck q := by
 obtain ⟨h1, h2⟩ := h
 unfold PS.fail; rw [h1]; exact ⟨h1, h2⟩
theorem stuck_tail {q : Nat} {st : PS} (h : st.stuck q) : st.tail.stuck q := ⟨h.1, by simp [PS.tail, h.2]⟩
theorem stuck_expect {q len k : Nat} {st : PS} (h : st.stuck q) : (st.expect len k).stuck q := by
 unfold PS.expect; split
 ·exact stuck_fail (stuck_tail h)
 ·exact stuck_tail h
theorem fail_stuck {a : Nat} {st : PS} (h : st.fl = none) : (st.fail a).stuck a := by
 unfold PS.fail; rw [h]; exact ⟨rfl, rfl⟩
def Keeps (pE : PS → Int × PS) : Prop := ∀ (q : Nat) (st : PS), st.stuck q → (pE st).2.stuck q
theorem keeps_any (len : Nat) (pB : NR → PS → Int × PS) : Keeps (pAny len pB) := by
 intro q st h
 unfold pAny
 simp only [h.2, tk1]
 exact stuck_fail (stuck_tail h)
theorem keeps_seat {f : PS → Int × PS} (hf : Keeps f) : Keeps (pSeat f) := by
 intro q st h
 exact hf q { st with opened := st.opened ++ [-1] } h
theorem keeps_expr (placed : Bool) (len n : Nat) : Keeps (pExpr placed len n) := by
 cases n with
 | zero => exact keeps_seat (keeps_any _ _)
 | succ m => exact keeps_seat (keeps_any _ _)
theorem keeps_body {pE : PS → Int × PS} (h : Keeps pE) (w : List UInt8) (src : Int) {q : Nat} {st : PS} (hs : st.stuck q) : (pBody pE w src st).2.stuck q := h q { st with scope := st.scope ++ [(w, src)] } hs
theorem tail_len (st : PS) : st.tail.l.length ≤ st.l.length := by simp [PS.tail]
def bA (s : ByteArray) (a : Nat) : UInt8 := if h : a < s.size then s[a] else 0
theorem bA_in (s : ByteArray) (a : Nat) (h : a < s.size) : bA s a = s[a] := by unfold bA; rw [dif_pos h]
theorem bA_out (s : ByteArray) (a : Nat) (h : s.size ≤ a) : bA s a = 0 := by unfold bA; rw [dif_neg (by omega)]
set_option maxHeartbeats 400000 in
theorem byteAt_any (s : ByteArray) (a : Nat) (w : World) (ha : a ≤ 10000) :
  Calls Tryz.prog 192 #[.string s, .int .i64 a] w fun e w' => e = .returned (.int .u8 ((bA s a).toNat : Int)) ∧ w' = w := by
 by_cases h : a < s.size
 ·rw [bA_in s a h]
  go_enter Tryz.func192, Tryz.ntmps192
  go_wp2
  go_ret
  exact ⟨rfl, rfl⟩
 ·rw [bA_out s a (by omega)]
  go_enter Tryz.func192, Tryz.ntmps192
  go_wp2
  go_ret
  exact ⟨rfl, rfl⟩
set_option maxHeartbeats 400000 in
theorem isLetter_any (c : UInt8) (w : World) :
  Calls Tryz.prog 193 #[.int .u8 (c.toNat : Int)] w fun e w' => e = .returned (.bool (inB 97 122 c)) ∧ w' = w := by
 have hc : c.toNat < 256 := c.toNat_lt
 unfold inB
 go_enter Tryz.func193, Tryz.ntmps193
 go_wp2
 all_goals go_ret
 ·refine ⟨ret_bool ?_, rfl⟩
  have h1 : (97 : Int) ≤ (c.toNat : Int) := by assumption
  simp [h1]
 ·refine ⟨ret_bool ?_, rfl⟩
  have h1 : ¬ (97 : Int) ≤ (c.toNat : Int) := by omega
  simp [h1]
set_option maxHeartbeats 400000 in
theorem isDigit_any (c : UInt8) (w : World) :
  Calls Tryz.prog 195 #[.int .u8 (c.toNat : Int)] w fun e w' => e = .returned (.bool (inB 48 57 c)) ∧ w' = w := by
 have hc : c.toNat < 256 := c.toNat_lt
 unfold inB
 go_enter Tryz.func195, Tryz.ntmps195
 go_wp2
 all_goals go_ret
 ·refine ⟨ret_bool ?_, rfl⟩
  have h1 : (48 : Int) ≤ (c.toNat : Int) := by assumption
  simp [h1]
 ·refine ⟨ret_bool ?_, rfl⟩
  have h1 : ¬ (48 : Int) ≤ (c.toNat : Int) := by omega
  simp [h1]
set_option maxHeartbeats 400000 in
theorem isBlank_any (c : UInt8) (w : World) :
  Calls Tryz.prog 202 #[.int .u8 (c.toNat : Int)] w fun e w' => e = .returned (.bool (blankB c)) ∧ w' = w := by
 have e1 : ((c.toNat : Int) == 32) = (c == 32) := byte_eq c 32
 have e2 : ((c.toNat : Int) == 10) = (c == 10) := byte_eq c 10
 unfold blankB
 rw [← e1, ← e2]
 clear e1 e2
 go_enter Tryz.func202, Tryz.ntmps202
 go_wp2
 all_goals go_ret
 all_goals
  refine ⟨ret_bool ?_, rfl⟩
  simp_all
def nbl : List UInt8 → Nat
 | [] => 0
 | c :: r => if blankB c then nbl r + 1 else 0
theorem nbl_le (l : List UInt8) : nbl l ≤ l.length := by
 induction l with
 | nil => simp [nbl]
 | cons c r ih => simp only [nbl]; split <;> simp <;> omega
set_option maxRecDepth 100000 in
set_option maxHeartbeats 1000000 in
theorem skipBlanks_any (s : ByteArray) (a : Nat) (w : World) (hs : s.size ≤ 9000) (ha : a ≤ s.size) :
  Calls Tryz.prog 191 #[.string s, .int .i64 a] w fun e w' => e = .returned (.int .i64 ((a + nbl (s.data.toList.drop a) : Nat) : Int)) ∧ w' = w := by
 have hby := fun k (h : k ≤ 10000) w => byteAt_any s k w h
 go_enter Tryz.func191, Tryz.ntmps191
 go_wp2
 go_loop [5] (fun i => ∃ k : Nat, k ≤ s.size ∧ i = .int .i64 k ∧ a + nbl (s.data.toList.drop a) = k + nbl (s.data.toList.drop k)) (fun i => s.size - (intOf i).toNat)
 case atStart => exact ⟨a, ha, rfl, rfl⟩
 case round =>
  obtain ⟨k, hk, rfl, hr⟩ := hrel
  have HR : Hid _ := hr
  clear hr
  by_cases hlt : k < s.size
  ·by_cases hb : blankB s[k] = true
   ·have hn : nbl (s.data.toList.drop k) = nbl (s.data.toList.drop (k + 1)) + 1 := by rw [drop_cons s k hlt]; simp [nbl, hb]
    have HN : Hid _ := hn
    have hbl := fun w => isBlank_any s[k] w
    rw [hb] at hbl
    have hbk := hby k (by omega)
    rw [bA_in s k hlt] at hbk
    clear hn hb
    go_wp2_with (first
     | (go_at_call 192; refine (hbk _).mono ?_; rintro e w' ⟨rfl, rfl⟩)
     | (go_at_call 202; refine (hbl _).mono ?_; rintro e w' ⟨rfl, rfl⟩))
    go_round
    case rel => exact ⟨k + 1, by omega, by go_num, by rw [HR.out, HN.out]; omega⟩
    case measure => simp [intOf]; omega
   ·have hb0 : blankB s[k] = false := by simpa using hb
    have hn : nbl (s.data.toList.drop k) = 0 := by rw [drop_cons s k hlt]; simp [nbl, hb0]
    have HN : Hid _ := hn
    have hbl := fun w => isBlank_any s[k] w
    rw [hb0] at hbl
    have hbk := hby k (by omega)
    rw [bA_in s k hlt] at hbk
    clear hn hb hb0
    go_wp2_with (first
     | (go_at_call 192; refine (hbk _).mono ?_; rintro e w' ⟨rfl, rfl⟩)
     | (go_at_call 202; refine (hbl _).mono ?_; rintro e w' ⟨rfl, rfl⟩))
    go_ret
    exact ⟨ret_int (by have h1 := HR.out; have h2 := HN.out; omega), rfl⟩
  ·have hn : nbl (s.data.toList.drop k) = 0 := by rw [drop_end s k (by omega)]; rfl
   have HN : Hid _ := hn
   clear hn
   go_wp2
   go_ret
   exact ⟨ret_int (by have h1 := HR.out; have h2 := HN.out; omega), rfl⟩
set_option maxRecDepth 100000 in
set_option maxHeartbeats 1000000 in
theorem valueOf_any (s : ByteArray) (a n b : Nat) (w : World) (hs : s.size ≤ 9000) (hab : b = a + n) (ha : b ≤ s.size) (hn : n ≤ 5) (hd : ∀ c ∈ (s.data.toList.drop a).take n, c ≠ 35) :
  Calls Tryz.prog 205 #[.string s, .int .i64 a, .int .i64 b] w fun e w' => e = .returned (.int .i64 (valueL ((s.data.toList.drop a).take n))) ∧ w' = w := by
 have hby := fun k (h : k ≤ 10000) w => byteAt_any s k w h
 have HD : Hid _ := hd
 clear hd
 go_enter Tryz.func205, Tryz.ntmps205
 go_wp2
 go_loop [7, 8] (fun v i => ∃ k j : Nat, k ≤ n ∧ j = a + k ∧ i = .int .i64 j ∧ v = .int .i64 (valueL ((s.data.toList.drop a).take k))) (fun _ i => b - (intOf i).toNat)
 case atStart => exact ⟨0, a, by omega, rfl, rfl, rfl⟩
 case round =>
  obtain ⟨k, j, hk, hj, rfl, rfl⟩ := hrel
  have hb := valueL_bd ((s.data.toList.drop a).take k)
  have hp := pow5 ((s.data.toList.drop a).take k).length (by simp; omega)
  obtain ⟨m, hm⟩ : ∃ m, m = valueL ((s.data.toList.drop a).take k) := ⟨_, rfl⟩
  rw [← hm] at hb
  obtain ⟨hb1, hb2⟩ : -3000000 ≤ m ∧ m ≤ 3000000 := by omega
  clear hp hb
  by_cases hlt : k < n
  ·have hin : j < s.size := by omega
   have hsn : valueL ((s.data.toList.drop a).take (k + 1)) = 10 * m + (s[j].toNat : Int) - 48 := by
    have e : (s.data.toList.drop a).take (k + 1) = (s.data.toList.drop a).take k ++ [s[j]] := by
     subst hj; rw [List.take_succ_eq_append_getElem (by simp; omega), List.getElem_drop]; rfl
    have hne : s[j] ≠ 35 := by
     apply HD.out
     have : s[j] ∈ (s.data.toList.drop a).take (k + 1) := by rw [e]; simp
     rw [show (s.data.toList.drop a).take (k + 1) = ((s.data.toList.drop a).take n).take (k + 1) from by rw [List.take_take, Nat.min_eq_left (by omega)]] at this
     exact List.mem_of_mem_take this
    rw [e, valueL_snoc, if_neg hne, hm]
   have HS : Hid _ := hsn
   have hcb : s[j].toNat < 256 := s[j].toNat_lt
   have HC : Hid _ := hcb
   have hbk := hby j (by omega)
   rw [bA_in s j hin] at hbk
   clear hsn hcb
   rw [← hm]
   have HM : Hid _ := hm
   clear hm
   have HJ : Hid (j = a + k) := hj
   have hjb : j < b := by omega
   have HAB : Hid (b = a + n) := hab
   clear hj hab
   go_wp2_with fail
   refine (hbk _).mono ?_
   rintro e w' ⟨rfl, rfl⟩
   go_wp2
   go_round
   case rel =>
    have := HJ.out
    refine ⟨k + 1, j + 1, by omega, by omega, by go_num, ?_⟩
    rw [HS.out]
    have := HC.out
    rw [IntWalk.wrap64_in (s[j].toNat : Int) (by omega), IntWalk.wrap64_in (m * 10 + (s[j].toNat : Int)) (by omega), IntWalk.wrap64_in _ (by omega), Int.mul_comm m 10]
   case measure => simp [intOf]; omega
  ·have hkn : k = n := by omega
   subst hkn
   go_wp2
   go_ret
   exact ⟨rfl, rfl⟩
set_option maxHeartbeats 400000 in
theorem cut_any (s : ByteArray) (a b : Nat) (w : World) (ha : a ≤ b) (hb : b ≤ s.size) :
  Calls Tryz.prog 203 #[.string s, .int .i64 a, .int .i64 b] w fun e w' => e = .returned (.string (s.extract a b)) ∧ w' = w := by
 go_enter Tryz.func203, Tryz.ntmps203
 go_wp2
 go_ret
 exact ⟨rfl, rfl⟩
theorem kw_key (s : ByteArray) (k : Kw) : (s.toList == k.bytes) = decide (kwOf s.data.toList = some k) := by
 rw [Lib.toList_data]
 by_cases h : kwOf s.data.toList = some k
 ·rw [decide_eq_true h, kwOf_some h]; simp
 ·rw [decide_eq_false h, beq_eq_false_iff_ne]
  intro e; rw [e, kwOf_bytes] at h; exact h rfl
set_option maxRecDepth 100000 in
set_option maxHeartbeats 1000000 in
theorem kindOf_any (s : ByteArray) (w : World) :
  Calls Tryz.prog 204 #[.string s] w fun e w' => e = .returned (.int .i64 ((kindN (wordCl s.data.toList 0) : Nat) : Int)) ∧ w' = w := by
 have f1 := kw_key s .let_
 have f2 := kw_key s .pair
 have f3 := kw_key s .fst
 have f4 := kw_key s .snd
 have f5 := kw_key s .if_
 have f6 := kw_key s .add
 have f7 := kw_key s .sub
 have f8 := kw_key s .less
 have f9 := kw_key s .loop
 have f10 := kw_key s .new
 simp only [Kw.bytes] at f1 f2 f3 f4 f5 f6 f7 f8 f9 f10
 unfold wordCl
 cases hk : kwOf s.data.toList with
 | none =>
  rw [hk] at f1 f2 f3 f4 f5 f6 f7 f8 f9 f10
  simp only [reduceCtorEq, decide_false] at f1 f2 f3 f4 f5 f6 f7 f8 f9 f10
  clear hk
  go_enter Tryz.func204, Tryz.ntmps204
  go_wp2
  go_ret
  exact ⟨rfl, rfl⟩
 | some k =>
  rw [hk] at f1 f2 f3 f4 f5 f6 f7 f8 f9 f10
  clear hk
  cases k
  all_goals
   simp only [Option.some.injEq, reduceCtorEq, decide_false, decide_true] at f1 f2 f3 f4 f5 f6 f7 f8 f9 f10
   go_enter Tryz.func204, Tryz.ntmps204
   go_wp2
   go_ret
   exact ⟨rfl, rfl⟩
def tnVal (t : TN) : Value := .agg #[.int .i64 t.kind, .int .i64 t.at_, .int .i64 t.beh, .string (bs t.word), .int .i64 t.num]
theorem bA_let (s : ByteArray) (k : Nat) (lo hi : Int) (hlo : 0 < lo) : (inB lo hi (bA s k) = true ∧ k < s.size ∧ run lo hi (s.data.toList.drop k) = run lo hi (s.data.toList.drop (k + 1)) + 1) ∨ (inB lo hi (bA s k) = false ∧ run lo hi (s.data.toList.drop k) = 0) := by
 by_cases h : k < s.size
 ·rw [bA_in s k h, drop_cons s k h]
  cases hb : inB lo hi s[k] with
  | true => left; exact ⟨rfl, h, by simp [run, hb]⟩
  | false => right; exact ⟨rfl, by simp [run, hb]⟩
 ·right
  rw [bA_out s k (by omega), drop_end s k (by omega)]
  refine ⟨?_, rfl⟩
  unfold inB
  have h0 : ((0 : UInt8).toNat : Int) = 0 := rfl
  rw [h0, decide_eq_false (by omega : ¬ lo ≤ 0)]; rfl
theorem wordCl_small (l : List UInt8) (n : Nat) (h : n ≤ 8) : wordCl l n = wordCl l 0 := by
 unfold wordCl; cases kwOf l <;> simp [h]
theorem wordCl_big (l : List UInt8) (h : 8 < l.length) : wordCl l l.length = .bad := by
 unfold wordCl
 cases hk : kwOf l with
 | none => simp; omega
 | some k =>
  have := kwOf_some hk
  rw [this] at h
  clear this hk
  revert h
  cases k <;> simp [Kw.bytes]
set_option maxRecDepth 100000 in
set_option maxHeartbeats 1000000 in
theorem readWord_any (s : ByteArray) (a n : Nat) (w : World) (hs : s.size ≤ 9000) (hn : n = run 97 122 (s.data.toList.drop a)) (ha : a + n ≤ s.size) :
  Calls Tryz.prog 194 #[.string s, .int .i64 a] w fun e w' => e = .returned (tnVal ⟨kindN (wordCl ((s.data.toList.drop a).take n) n), a, a + n, if n ≤ 8 then (s.data.toList.drop a).take n else [], 0⟩) ∧ Below w.heap.size w w' := by
 have hby := fun k (h : k ≤ 10000) w => byteAt_any s k w h
 have HN : Hid _ := hn
 clear hn
 go_enter Tryz.func194, Tryz.ntmps194
 go_wp2
 go_loop [5] (fun i => ∃ k j : Nat, k ≤ n ∧ Hid (j = a + k) ∧ j ≤ s.size ∧ i = .int .i64 j ∧ Hid (n = k + run 97 122 (s.data.toList.drop j))) (fun i => s.size - (intOf i).toNat)
 case atStart => exact ⟨0, a, by omega, (rfl : a = a + 0), by omega, rfl, (by rw [← HN.out]; omega : n = 0 + run 97 122 (s.data.toList.drop a))⟩
 case round =>
  obtain ⟨k, j, hk, HJ, hjs, rfl, HR⟩ := hrel
  have hbk := hby j (by omega)
  have hil := fun w => isLetter_any (bA s j) w
  rcases bA_let s j 97 122 (by decide) with ⟨h1, h2, h3⟩ | ⟨h1, h2⟩
  ·rw [h1] at hil
   have H3 : Hid _ := h3
   clear h1 h3
   go_wp2_with (first
    | (go_at_call 192; refine (hbk _).mono ?_; rintro e w' ⟨rfl, rfl⟩)
    | (go_at_call 193; refine (hil _).mono ?_; rintro e w' ⟨rfl, rfl⟩))
   go_round
   case rel => exact ⟨k + 1, j + 1, by have h := HR.out; rw [H3.out] at h; omega, (by have h := HJ.out; omega : j + 1 = a + (k + 1)), by omega, by go_num, (by have h := HR.out; rw [H3.out] at h; omega : n = (k + 1) + run 97 122 (s.data.toList.drop (j + 1)))⟩
   case measure => simp [intOf]; omega
  ·rw [h1] at hil
   have hkn : k = n := by have h := HR.out; rw [h2] at h; omega
   have hja : j = a + n := by rw [← hkn]; exact HJ.out
   clear h1 h2 HR
   have hcu := fun w => cut_any s a j w (by omega) hjs
   have hkd := fun w => kindOf_any (s.extract a j) w
   have hex : (s.extract a j).data.toList = (s.data.toList.drop a).take n := by rw [hja, ext_of]
   rw [hex] at hkd
   have HEX : Hid _ := bs_eq hex
   have HJ' : Hid (j = a + n) := hja
   have hjk : (j : Int) - (a : Int) = (n : Int) := by omega
   clear hex hja hkn HJ hk
   by_cases h8 : n ≤ 8
   ·have H8 : Hid (n ≤ 8) := h8
    go_wp2_with (first
     | (go_at_call 192; refine (hbk _).mono ?_; rintro e w' ⟨rfl, rfl⟩)
     | (go_at_call 193; refine (hil _).mono ?_; rintro e w' ⟨rfl, rfl⟩)
     | (go_at_call 203; refine (hcu _).mono ?_; rintro e w' ⟨rfl, rfl⟩)
     | (go_at_call 204; refine (hkd _).mono ?_; rintro e w' ⟨rfl, rfl⟩))
    refine bodyPost_ret (v := .agg #[.int .i64 ((kindN (wordCl ((s.data.toList.drop a).take n) 0) : Nat) : Int), .int .i64 a, .int .i64 j, .string (s.extract a j), .int .i64 0]) (by simp [results, Tryz.results194, go_sem]) rfl ⟨?_, (Below.refl _ _).alloc (Nat.le_refl _) _⟩
    rw [HEX.out, HJ'.out, wordCl_small _ _ H8.out]; first | rfl | (rw [if_pos H8.out]; rfl)
   ·have H8 : Hid (¬ n ≤ 8) := h8
    have hlen : ((s.data.toList.drop a).take n).length = n := by simp; omega
    have HB : Hid (wordCl ((s.data.toList.drop a).take n) n = .bad) := by
     have := wordCl_big ((s.data.toList.drop a).take n) (by omega)
     rw [hlen] at this; exact this
    clear hlen
    go_wp2_with (first
     | (go_at_call 192; refine (hbk _).mono ?_; rintro e w' ⟨rfl, rfl⟩)
     | (go_at_call 193; refine (hil _).mono ?_; rintro e w' ⟨rfl, rfl⟩))
    refine bodyPost_ret (v := .agg #[.int .i64 1, .int .i64 a, .int .i64 j, .string ⟨#[]⟩, .int .i64 0]) (by simp [results, Tryz.results194, go_sem]) rfl ⟨?_, (Below.refl _ _).alloc (Nat.le_refl _) _⟩
    rw [HB.out, HJ'.out]; first | rfl | (rw [if_neg H8.out]; rfl)
theorem run_mem (lo hi : Int) (l : List UInt8) : ∀ c ∈ l.take (run lo hi l), inB lo hi c = true := by
 induction l with
 | nil => simp
 | cons c r ih =>
  simp only [run]
  by_cases h : inB lo hi c = true
  ·rw [if_pos h, List.take_succ_cons]
   intro x hx
   rcases List.mem_cons.1 hx with rfl | hx
   ·exact h
   ·exact ih x hx
  ·rw [if_neg h]; simp
def numTN (l : List UInt8) (most kind a d n : Nat) : TN := if numeralB (l.take n) most then ⟨kind, a, d + n, [], valueL (l.take n)⟩ else ⟨1, a, d + n, [], 0⟩
set_option maxRecDepth 100000 in
set_option maxHeartbeats 2000000 in
theorem readNumber_any (s : ByteArray) (a d n most kind : Nat) (w : World) (hs : s.size ≤ 9000) (hn : n = run 48 57 (s.data.toList.drop d)) (ha : d + n ≤ s.size) (hm : 3 ≤ most ∧ most ≤ 4) :
  Calls Tryz.prog 196 #[.string s, .int .i64 a, .int .i64 d, .int .i64 most, .int .i64 kind] w fun e w' => e = .returned (tnVal (numTN (s.data.toList.drop d) most kind a d n)) ∧ Below w.heap.size w w' := by
 have hby := fun k (h : k ≤ 10000) w => byteAt_any s k w h
 have hdig : ∀ c ∈ (s.data.toList.drop d).take n, c ≠ 35 := by
  rw [hn]; intro c hc e
  have := run_mem 48 57 _ c hc
  rw [e] at this; revert this; decide
 have HDIG : Hid _ := hdig
 have HN : Hid _ := hn
 have hlen : ((s.data.toList.drop d).take n).length = n := by simp; omega
 have hhead : 0 < n → ((s.data.toList.drop d).take n).head? = some (bA s d) := by
  intro h0
  rw [bA_in s d (by omega), drop_cons s d (by omega)]
  obtain ⟨m, rfl⟩ : ∃ m, n = m + 1 := ⟨n - 1, by omega⟩
  simp
 have hnum : numeralB ((s.data.toList.drop d).take n) most = (decide (0 < n) && decide (n ≤ most) && (decide (n = 1) || (((s.data.toList.drop d).take n).head? != some 48))) := by unfold numeralB; rw [hlen]
 have HNUM : Hid _ := hnum
 have HHEAD : Hid _ := hhead
 clear hn hdig hlen hnum hhead
 go_enter Tryz.func196, Tryz.ntmps196
 go_wp2
 go_loop [11] (fun i => ∃ k j : Nat, k ≤ n ∧ Hid (j = d + k) ∧ j ≤ s.size ∧ i = .int .i64 j ∧ Hid (n = k + run 48 57 (s.data.toList.drop j))) (fun i => s.size - (intOf i).toNat)
 case atStart => exact ⟨0, d, by omega, (rfl : d = d + 0), by omega, rfl, (by rw [← HN.out]; omega : n = 0 + run 48 57 (s.data.toList.drop d))⟩
 case round =>
  obtain ⟨k, j, hk, HJ, hjs, rfl, HR⟩ := hrel
  have hbk := hby j (by omega)
  have hil := fun w => isDigit_any (bA s j) w
  rcases bA_let s j 48 57 (by decide) with ⟨h1, h2, h3⟩ | ⟨h1, h2⟩
  ·rw [h1] at hil
   have H3 : Hid _ := h3
   clear h1 h3
   go_wp2_with (first
    | (go_at_call 192; refine (hbk _).mono ?_; rintro e w' ⟨rfl, rfl⟩)
    | (go_at_call 195; refine (hil _).mono ?_; rintro e w' ⟨rfl, rfl⟩))
   go_round
   case rel => exact ⟨k + 1, j + 1, by have h := HR.out; rw [H3.out] at h; omega, (by have h := HJ.out; omega : j + 1 = d + (k + 1)), by omega, by go_num, (by have h := HR.out; rw [H3.out] at h; omega : n = (k + 1) + run 48 57 (s.data.toList.drop (j + 1)))⟩
   case measure => simp [intOf]; omega
  ·rw [h1] at hil
   have hkn : k = n := by have h := HR.out; rw [h2] at h; omega
   have hja : j = d + n := by rw [← hkn]; exact HJ.out
   clear h1 h2 HR
   have HJ' : Hid (j = d + n) := hja
   have hjk : (j : Int) - (d : Int) = (n : Int) := by omega
   have hbd := hby d (by omega)
   have e48 : (((bA s d).toNat : Int) == 48) = (bA s d == 48) := byte_eq (bA s d) 48
   have HE48 : Hid _ := e48
   clear hja hkn HJ hk e48
   by_cases c0 : n = 0
   ·have b0 : ((n : Int) == 0) = true := by rw [c0]; rfl
    have HF : Hid (numTN (s.data.toList.drop d) most kind a d n = ⟨1, a, d + n, [], 0⟩) := by
     have : numeralB ((s.data.toList.drop d).take n) most = false := by rw [HNUM.out]; simp [c0]
     unfold numTN; rw [this]; rfl
    have c0' : n < 1 := by omega
    clear c0
    go_wp2_with (first
     | (go_at_call_of 192 (Value.int IntKind.i64 (j : Int)); refine (hbk _).mono ?_; rintro e w' ⟨rfl, rfl⟩)
     | (go_at_call_of 192 (Value.int IntKind.i64 (d : Int)); refine (hbd _).mono ?_; rintro e w' ⟨rfl, rfl⟩)
     | (go_at_call 195; refine (hil _).mono ?_; rintro e w' ⟨rfl, rfl⟩)
     | (go_at_call 205; refine (hva _).mono ?_; rintro e w' ⟨rfl, rfl⟩))
    refine bodyPost_ret (v := .agg #[.int .i64 1, .int .i64 a, .int .i64 j, .string ⟨#[]⟩, .int .i64 0]) (by simp [results, Tryz.results196, go_sem]) rfl ⟨?_, (Below.refl _ _).alloc (Nat.le_refl _) _⟩
    rw [HF.out, HJ'.out]; rfl
   ·have b0 : ((n : Int) == 0) = false := by rw [beq_eq_false_iff_ne]; omega
    have c1 : 1 ≤ n := by omega
    have hh := HHEAD.out (by omega)
    by_cases cm : n ≤ most
    ·have hva := fun w => valueOf_any s d n j w hs HJ'.out hjs (by omega) HDIG.out
     by_cases c2 : n = 1
     ·have HF : Hid (numTN (s.data.toList.drop d) most kind a d n = ⟨kind, a, d + n, [], valueL ((s.data.toList.drop d).take n)⟩) := by
       have : numeralB ((s.data.toList.drop d).take n) most = true := by rw [HNUM.out]; simp [c2]; omega
       unfold numTN; rw [this]; rfl
      have c2' : n < 2 := by omega
      clear c2 hh c0
      go_wp2_with (first
       | (go_at_call_of 192 (Value.int IntKind.i64 (j : Int)); refine (hbk _).mono ?_; rintro e w' ⟨rfl, rfl⟩)
       | (go_at_call_of 192 (Value.int IntKind.i64 (d : Int)); refine (hbd _).mono ?_; rintro e w' ⟨rfl, rfl⟩)
       | (go_at_call 195; refine (hil _).mono ?_; rintro e w' ⟨rfl, rfl⟩)
       | (go_at_call 205; refine (hva _).mono ?_; rintro e w' ⟨rfl, rfl⟩))
      refine bodyPost_ret (v := .agg #[.int .i64 kind, .int .i64 a, .int .i64 j, .string ⟨#[]⟩, .int .i64 (valueL ((s.data.toList.drop d).take n))]) (by simp [results, Tryz.results196, go_sem]) rfl ⟨?_, (Below.refl _ _).alloc (Nat.le_refl _) _⟩
      rw [HF.out, HJ'.out]; rfl
     ·cases e0 : (bA s d == 48) with
      | true =>
       have b48 : (((bA s d).toNat : Int) == 48) = true := by rw [HE48.out]; exact e0
       have HF : Hid (numTN (s.data.toList.drop d) most kind a d n = ⟨1, a, d + n, [], 0⟩) := by
        have h48 : bA s d = 48 := by simpa using e0
        have : numeralB ((s.data.toList.drop d).take n) most = false := by rw [HNUM.out, hh, h48]; simp [c2]
        unfold numTN; rw [this]; rfl
       have c2' : 1 < n := by omega
       clear c2 hh c0 e0
       go_wp2_with (first
        | (go_at_call_of 192 (Value.int IntKind.i64 (j : Int)); refine (hbk _).mono ?_; rintro e w' ⟨rfl, rfl⟩)
        | (go_at_call_of 192 (Value.int IntKind.i64 (d : Int)); refine (hbd _).mono ?_; rintro e w' ⟨rfl, rfl⟩)
        | (go_at_call 195; refine (hil _).mono ?_; rintro e w' ⟨rfl, rfl⟩)
        | (go_at_call 205; refine (hva _).mono ?_; rintro e w' ⟨rfl, rfl⟩))
       refine bodyPost_ret (v := .agg #[.int .i64 1, .int .i64 a, .int .i64 j, .string ⟨#[]⟩, .int .i64 0]) (by simp [results, Tryz.results196, go_sem]) rfl ⟨?_, (Below.refl _ _).alloc (Nat.le_refl _) _⟩
       rw [HF.out, HJ'.out]; rfl
      | false =>
       have b48 : (((bA s d).toNat : Int) == 48) = false := by rw [HE48.out]; exact e0
       have HF : Hid (numTN (s.data.toList.drop d) most kind a d n = ⟨kind, a, d + n, [], valueL ((s.data.toList.drop d).take n)⟩) := by
        have h48 : bA s d ≠ 48 := by simpa using e0
        have : numeralB ((s.data.toList.drop d).take n) most = true := by rw [HNUM.out, hh]; simp [h48, cm]; omega
        unfold numTN; rw [this]; rfl
       have c2' : 1 < n := by omega
       clear c2 hh c0 e0
       go_wp2_with (first
        | (go_at_call_of 192 (Value.int IntKind.i64 (j : Int)); refine (hbk _).mono ?_; rintro e w' ⟨rfl, rfl⟩)
        | (go_at_call_of 192 (Value.int IntKind.i64 (d : Int)); refine (hbd _).mono ?_; rintro e w' ⟨rfl, rfl⟩)
        | (go_at_call 195; refine (hil _).mono ?_; rintro e w' ⟨rfl, rfl⟩)
        | (go_at_call 205; refine (hva _).mono ?_; rintro e w' ⟨rfl, rfl⟩))
       refine bodyPost_ret (v := .agg #[.int .i64 kind, .int .i64 a, .int .i64 j, .string ⟨#[]⟩, .int .i64 (valueL ((s.data.toList.drop d).take n))]) (by simp [results, Tryz.results196, go_sem]) rfl ⟨?_, (Below.refl _ _).alloc (Nat.le_refl _) _⟩
       rw [HF.out, HJ'.out]; rfl
    ·have HF : Hid (numTN (s.data.toList.drop d) most kind a d n = ⟨1, a, d + n, [], 0⟩) := by
      have : numeralB ((s.data.toList.drop d).take n) most = false := by rw [HNUM.out]; simp [cm]
      unfold numTN; rw [this]; rfl
     have c2' : 1 < n := by omega
     clear hh c0
     go_wp2_with (first
      | (go_at_call_of 192 (Value.int IntKind.i64 (j : Int)); refine (hbk _).mono ?_; rintro e w' ⟨rfl, rfl⟩)
      | (go_at_call_of 192 (Value.int IntKind.i64 (d : Int)); refine (hbd _).mono ?_; rintro e w' ⟨rfl, rfl⟩)
      | (go_at_call 195; refine (hil _).mono ?_; rintro e w' ⟨rfl, rfl⟩)
      | (go_at_call 205; refine (hva _).mono ?_; rintro e w' ⟨rfl, rfl⟩))
     refine bodyPost_ret (v := .agg #[.int .i64 1, .int .i64 a, .int .i64 j, .string ⟨#[]⟩, .int .i64 0]) (by simp [results, Tryz.results196, go_sem]) rfl ⟨?_, (Below.refl _ _).alloc (Nat.le_refl _) _⟩
     rw [HF.out, HJ'.out]; rfl
end Go.Proofs.YtpicaknklgccoaaGreatDoor
