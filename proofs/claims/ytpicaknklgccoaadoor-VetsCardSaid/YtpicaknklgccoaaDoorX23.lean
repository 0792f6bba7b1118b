import Derived.Test.YtpicaknklgccoaaDoorX22
import Derived.Test.YtpicaknklgccoaaDoorX4
import Derived.Deep.RegionHeld3
import Derived.Test.YtpicaknklgccoaaDoorX15
import Derived.Test.YtpicaknklgccoaaDoorX10
import Derived.Test.YtpicaknklgccoaaDoorX16
namespace Go.Proofs.YtpicaknklgccoaaDoor
open Go.RowKit
open Go.Lib (decDigits)
theorem txt_app : ∀ (T U : Ty) (x y : List UInt8), T.txt ++ x = U.txt ++ y → T = U ∧ x = y
 | .n, .n, x, y, h => by simp [Ty.txt] at h; exact ⟨rfl, h⟩
 | .n, .p _ _ _, x, y, h => by simp [Ty.txt] at h
 | .p _ _ _, .n, x, y, h => by simp [Ty.txt] at h
 | .p r a b, .p r' a' b', x, y, h => by
  simp only [Ty.txt, List.cons_append, List.append_assoc, List.cons.injEq, true_and] at h
  have h1 := congrArg (fun l => l.takeWhile (fun c => c != 58)) h
  simp only [take_dec] at h1
  have hr : r = r' := by
   have := congrArg numL h1
   rw [numL_dec, numL_dec] at this
   omega
  subst hr
  have h2 := List.append_cancel_left h
  simp only [List.cons.injEq, true_and] at h2
  obtain ⟨e1, h3⟩ := txt_app a a' _ _ h2
  obtain ⟨e2, h4⟩ := txt_app b b' _ _ h3
  simp only [List.nil_append, List.cons.injEq, true_and] at h4
  exact ⟨by rw [e1, e2], h4⟩
theorem txt_inj {T U : Ty} (h : T.txt = U.txt) : T = U := (txt_app T U [] [] (by rw [h])).1
def tyAt (TY : List Ty) (k : Nat) : Ty := (TY[k]?).getD .n
def vStep (TY : List Ty) : PT × Nat × Nat → Nat
 | (.node _ k _ _ [a, b, _], id, _) => if (k = .if_ ∨ k = .loop) ∧ tyAt TY (id + 1 + a.cnt) ≠ tyAt TY (id + 1 + a.cnt + b.cnt) then 9 else 0
 | (.node _ k _ rg [_], id, _) => if k = .new ∧ (tyAt TY (id + 1)).has (valueL rg) = true then 10 else 0
 | _ => 0
def PT.at0 : PT → Nat
 | .num p _ => p
 | .name p _ => p
 | .node p _ _ _ _ => p
def vetL (TY : List Ty) : List (PT × Nat × Nat) → Nat × Nat
 | [] => (0, 0)
 | x :: r => if vStep TY x ≠ 0 then (vStep TY x, x.1.at0) else vetL TY r
def vetAnsR (e : PT) (TY : List Ty) : Nat × Nat := if (scopesAns (e.recs 0 0)).1 ≠ 0 then scopesAns (e.recs 0 0) else vetL TY (e.subs 0 0)
mutual
theorem subs_wf : ∀ (t : PT) (id site : Nat), t.wf → ∀ x ∈ t.subs id site, x.1.wf
 | .num _ _, id, site, h, x, hx => by simp only [PT.subs, List.mem_singleton] at hx; subst hx; exact h
 | .name _ _, id, site, h, x, hx => by simp only [PT.subs, List.mem_singleton] at hx; subst hx; exact h
 | .node p k nm rg kids, id, site, h, x, hx => by
  simp only [PT.subs, List.mem_append, List.mem_singleton] at hx
  rcases hx with hx | hx
  ·simp only [PT.wf] at h; exact subsL_wf kids _ _ h.2 x hx
  ·subst hx; exact h
theorem subsL_wf : ∀ (ts : List PT) (id site : Nat), wfL ts → ∀ x ∈ subsL ts id site, x.1.wf
 | [], _, _, _, x, hx => by simp [subsL] at hx
 | t :: r, id, site, h, x, hx => by
  simp only [wfL] at h
  simp only [subsL, List.mem_append] at hx
  rcases hx with hx | hx
  ·exact subs_wf t _ _ h.1 x hx
  ·exact subsL_wf r _ _ h.2 x hx
end
mutual
theorem subs_ids : ∀ (t : PT) (id site : Nat), ∀ x ∈ t.subs id site, id ≤ x.2.1 ∧ x.2.1 + x.1.cnt ≤ id + t.cnt
 | .num _ _, id, site, x, hx => by simp only [PT.subs, List.mem_singleton] at hx; subst hx; simp [PT.cnt]
 | .name _ _, id, site, x, hx => by simp only [PT.subs, List.mem_singleton] at hx; subst hx; simp [PT.cnt]
 | .node p k nm rg kids, id, site, x, hx => by
  simp only [PT.subs, List.mem_append, List.mem_singleton] at hx
  rcases hx with hx | hx
  ·have := subsL_ids kids _ _ x hx; simp only [PT.cnt]; omega
  ·subst hx; simp
theorem subsL_ids : ∀ (ts : List PT) (id site : Nat), ∀ x ∈ subsL ts id site, id ≤ x.2.1 ∧ x.2.1 + x.1.cnt ≤ id + cntL ts
 | [], _, _, x, hx => by simp [subsL] at hx
 | t :: r, id, site, x, hx => by
  simp only [subsL, List.mem_append] at hx
  rcases hx with hx | hx
  ·have := subs_ids t _ _ x hx; simp only [cntL]; omega
  ·have := subsL_ids r _ _ x hx; simp only [cntL]; omega
end
theorem kid_ids {w : World} {F : Nat → Prop} {p : Nat} {k : Kw} {nm rg : List UInt8} {kids : List PT} {id site b : Nat} (hT : IsT w F (.node p k nm rg kids) id site b) :
  ∃ va vc, w.cell? ⟨b, 4, none⟩ = some (.slice va kids.length vc) ∧ ∀ i x, kids[i]? = some x → ∃ gk bx, va = some ⟨gk, 0, none⟩ ∧ gk < w.heap.size ∧ w.cell? ⟨gk, i, none⟩ = some (.pointer (some ⟨bx, 0, none⟩)) ∧ bx < w.heap.size ∧ w.cell? ⟨bx, 5, none⟩ = some (.int .i64 ((id + 1 + cntL (kids.take i) : Nat) : Int)) := by
 simp only [IsT] at hT
 obtain ⟨hFb, kv, bl, hb, hF, hkv, hts⟩ := hT
 obtain ⟨va, vc, hvk⟩ : ∃ va vc, kv = .slice va kids.length vc := by
  rcases hkv.2 with ⟨h, h'⟩ | ⟨g, cap, cur, h, _⟩
  ·exact ⟨none, 0, by rw [h, h']⟩
  ·exact ⟨_, _, h⟩
 refine ⟨va, vc, by rw [blk_cell hb, ← hvk]; rfl, ?_⟩
 intro i x hx
 obtain ⟨bx, hbx, hTx⟩ := IsTs.at _ _ _ _ hts i x hx
 have hlt : i < kids.length := (List.getElem?_eq_some_iff.1 hx).1
 obtain ⟨gk, hgk⟩ : ∃ gk, va = some ⟨gk, 0, none⟩ := by
  have h := hkv.2
  rw [hvk] at h
  rcases h with ⟨h, h'⟩ | ⟨g, cap, cur, h, _⟩
  ·omega
  ·simp only [Value.slice.injEq] at h; exact ⟨_, h.1⟩
 have hkc : w.cell? ⟨gk, i, none⟩ = some (ptr bx) := by
  have h : w.ownsRow 0 39 1 (.slice (some ⟨gk, 0, none⟩) kids.length vc) kids.length (bl.map ptr) := by rw [← hgk, ← hvk]; exact hkv
  rw [h.cellAt i (by omega)]; simp [hbx]
 obtain ⟨_, _, _, c5, _, hl⟩ := rec_cells (isT_rec hTx)
 refine ⟨gk, bx, hgk, World.block_lt_of_cell? _ _ hkc, hkc, hl, ?_⟩
 rw [c5]
 cases x <;> rfl
theorem vcase (TY : List Ty) (x : PT × Nat × Nat) (hw : x.1.wf) :
  (((recOf x).op = [105, 102] ∨ (recOf x).op = [108, 111, 111, 112]) ∧ ∃ p k nm rg a b c, x.1 = .node p k nm rg [a, b, c] ∧ vStep TY x = if tyAt TY (x.2.1 + 1 + a.cnt) ≠ tyAt TY (x.2.1 + 1 + a.cnt + b.cnt) then 9 else 0)
  ∨ ((recOf x).op = [110, 101, 119] ∧ ∃ p nm rg a, x.1 = .node p .new nm rg [a] ∧ vStep TY x = if (tyAt TY (x.2.1 + 1)).has (recOf x).n = true then 10 else 0)
  ∨ ((recOf x).op ≠ [105, 102] ∧ (recOf x).op ≠ [108, 111, 111, 112] ∧ (recOf x).op ≠ [110, 101, 119] ∧ vStep TY x = 0) := by
 obtain ⟨t, id, site⟩ := x
 cases t with
 | num p s => exact .inr (.inr ⟨by simp [recOf, numB], by simp [recOf, numB], by simp [recOf, numB], rfl⟩)
 | name p s => exact .inr (.inr ⟨by simp [recOf, nameB], by simp [recOf, nameB], by simp [recOf, nameB], rfl⟩)
 | node p k nm rg kids =>
  simp only [PT.wf] at hw
  have hlen := hw.1
  cases k
  case if_ =>
   left
   match kids, hlen with
   | [a, b, c], _ => exact ⟨.inl rfl, p, _, nm, rg, a, b, c, rfl, by simp [vStep]⟩
  case loop =>
   left
   match kids, hlen with
   | [a, b, c], _ => exact ⟨.inr rfl, p, _, nm, rg, a, b, c, rfl, by simp [vStep]⟩
  case new =>
   right; left
   match kids, hlen with
   | [a], _ => exact ⟨rfl, p, nm, rg, a, rfl, by by_cases h : (tyAt TY (id + 1)).has (valueL rg) = true <;> simp [vStep, recOf, h]⟩
  all_goals
   right; right
   refine ⟨by simp [recOf, Kw.bytes], by simp [recOf, Kw.bytes], by simp [recOf, Kw.bytes], ?_⟩
   rcases kids with _ | ⟨a, _ | ⟨b, _ | ⟨c, _ | ⟨d, r⟩⟩⟩⟩ <;> simp [vStep]
structure StOut (w1 w' : World) (e : PT) (TY : List Ty) (b yb : Nat) : Prop where
 bl : Below w1.heap.size w1 w'
 t : IsT w' (fun k => k < w'.heap.size) e 0 0 b
 yl : yb < w'.heap.size
 o : ∃ go oc, w'.cell? ⟨yb, 3, none⟩ = some (.slice (some ⟨go, 0, none⟩) TY.length oc) ∧ go < w'.heap.size ∧ ∀ (k : Nat) (T : Ty), TY[k]? = some T → w'.cell? ⟨go, k, none⟩ = some (.string (bs T.txt))
set_option maxRecDepth 100000 in
set_option maxHeartbeats 8000000 in
theorem refVet_ok (s : ByteArray) (w : World) (e : PT) (TY : List Ty) (hfit : ∀ T ∈ TY, T.fit) (hcnt : e.cnt ≤ 9000) (hlen : TY.length = e.cnt) (hwf : e.wf) (hpos : ∀ r ∈ e.recs 0 0, r.p ≤ 9000)
  (hst : ∀ w1, Below w.heap.size w w1 → Calls Tryd.prog 14 #[.string s, .bool true] w1 fun v w' => ∃ b yb y, v = .returned (.tuple #[.pointer (some ⟨b, 0, none⟩), .pointer (some ⟨yb, 0, none⟩), .int .i64 0, .int .i64 y]) ∧ StOut w1 w' e TY b yb) :
  Calls Tryd.prog 12 #[.string s] w fun v w' => v = .returned (.tuple #[.int .i64 (vetAnsR e TY).1, .int .i64 (vetAnsR e TY).2]) ∧ Below w.heap.size w w' := by
 have HFIT : Hid _ := hfit
 have HST : Hid _ := hst
 have HWF : Hid _ := hwf
 have HPOS : Hid _ := hpos
 have HLEN : Hid _ := hlen
 obtain ⟨ans, hans⟩ : ∃ ans, ans = vetAnsR e TY := ⟨_, rfl⟩
 rw [← hans]
 have HANS : Hid _ := hans
 clear hfit hst hwf hpos hans hlen
 go_enter Tryd.func12, Tryd.ntmps12
 go_wp2_with fail
 refine (HST.out _ (Below.refl _ _)).mono ?_
 rintro _ w1 ⟨b, yb, y, rfl, ho⟩
 have HO : Hid _ := ho
 have hall := allT_any e 0 0 b _ w1 hcnt ho.t w1 (Below.refl _ _)
 unfold ptr at hall
 clear ho HST
 go_wp2_with fail
 refine hall.mono ?_
 rintro _ w2 ⟨g, cap, bl, rfl, hb2, hown2, hts⟩
 have hbl : bl.length = e.cnt := by rw [hts.len, subs_len]
 have hsub : ∀ (i : Nat) (x : PT × Nat × Nat), (e.subs 0 0)[i]? = some x → ∃ bi, w2.cell? ⟨g, i, none⟩ = some (.pointer (some ⟨bi, 0, none⟩)) ∧ IsT w1 (fun k => k < w1.heap.size) x.1 x.2.1 x.2.2 bi := by
  intro i x hx
  obtain ⟨bi, h1, h2⟩ := hts.at i x hx
  refine ⟨bi, ?_, h2⟩
  rw [hown2.cellAt i (by have := (List.getElem?_eq_some_iff.1 h1).1; omega), List.getElem?_map, h1]; rfl
 have hgl : g < w2.heap.size := (hown2.lt g rfl).2
 have hLI : LIn w2 g (e.recs 0 0) := by
  refine ⟨hgl, ?_, ?_⟩
  ·intro i r hr
   rw [recs_subs, List.getElem?_map] at hr
   cases hx : (e.subs 0 0)[i]? with
   | none => rw [hx] at hr; simp at hr
   | some x =>
    rw [hx] at hr
    simp only [Option.map_some, Option.some.injEq] at hr
    obtain ⟨bi, h1, h2⟩ := hsub i x hx
    obtain ⟨kv, h3⟩ := isT_rec h2
    refine ⟨bi, h1, kv, ?_⟩
    rw [← hr, hb2.block bi (blk_lt h3)]; exact h3
  ·intro r hr
   have hp := HPOS.out r hr
   rw [recs_subs, List.mem_map] at hr
   obtain ⟨x, hx, rfl⟩ := hr
   have := subs_ids e 0 0 x hx
   obtain ⟨t, id, site⟩ := x
   cases t with
   | num p s => simp only [recOf, PT.cnt] at *; omega
   | name p s => simp only [recOf, PT.cnt] at *; omega
   | node p k nm rg kids => simp only [recOf, PT.cnt] at *; omega
 have hrl : (e.recs 0 0).length = bl.length := by rw [recs_len, hbl]
 have hsc := scopes_any w2 g cap (e.recs 0 0) hLI (by rw [recs_len]; omega)
 rw [hrl] at hsc
 have HSUB : Hid _ := hsub
 have HB2 : Hid _ := hb2
 have HBL : Hid _ := hbl
 have hbll : bl.length ≤ 9000 := by omega
 clear hall hown2 hts hsub hLI hb2 hrl hbl
 go_wp2_with fail
 refine hsc.mono ?_
 rintro _ w3 ⟨m3, rfl, rfl⟩
 clear hsc
 by_cases hs0 : (scopesAns (e.recs 0 0)).1 = 0
 ·have q0 : (((scopesAns (e.recs 0 0)).1 : Int) != 0) = false := by rw [hs0]; rfl
  have HA : Hid (ans = vetL TY (e.subs 0 0)) := by rw [HANS.out]; unfold vetAnsR; rw [if_neg (by simpa using hs0)]; exact rfl
  generalize scopesAns (e.recs 0 0) = sa at *
  clear hs0 HANS
  go_wp2
  have hB3 : Below w1.heap.size w1 (w2.drewN m3) := HB2.out.trans ((below_dU w2 m3).mono HB2.out.size)
  obtain ⟨w5, hw5⟩ : ∃ w5, w5 = w2.drewN m3 := ⟨_, rfl⟩
  rw [← hw5] at hB3 ⊢
  have HSUB5 : Hid (∀ (i : Nat) (x : PT × Nat × Nat), (e.subs 0 0)[i]? = some x → ∃ bi, w5.cell? ⟨g, i, none⟩ = some (.pointer (some ⟨bi, 0, none⟩)) ∧ IsT w1 (fun k => k < w1.heap.size) x.1 x.2.1 x.2.2 bi) := by rw [hw5]; exact HSUB.out
  have hgl5 : g < w5.heap.size := by rw [hw5]; exact hgl
  have HB5 : Hid _ := hB3
  clear hw5 hB3 HSUB HB2 hgl
  go_loopw [9] (fun i wr => ∃ k : Nat, k ≤ bl.length ∧ i = .int .i64 k ∧ Below w5.heap.size w5 wr ∧ vetL TY (e.subs 0 0) = vetL TY ((e.subs 0 0).drop k)) (fun i _ => bl.length - (intOf i).toNat)
  case atStart => exact ⟨0, Nat.zero_le _, rfl, Below.refl _ _, rfl⟩
  case round =>
   obtain ⟨k, hk, rfl, hbr, hvl⟩ := hrel
   have HV : Hid _ := hvl
   have HBR : Hid _ := hbr
   have hgr : g < wr.heap.size := by have := hbr.size; omega
   by_cases hlt : k < bl.length
   ·have hkl : k < (e.subs 0 0).length := by rw [subs_len, ← HBL.out]; exact hlt
    obtain ⟨x, hx⟩ : ∃ x, (e.subs 0 0)[k]? = some x := ⟨_, List.getElem?_eq_getElem hkl⟩
    obtain ⟨bi, c1, hT⟩ := HSUB5.out k x hx
    have hB1r : Below w1.heap.size w1 wr := HB5.out.trans (hbr.mono HB5.out.size)
    have c1r : wr.cell? ⟨g, k, none⟩ = some (.pointer (some ⟨bi, 0, none⟩)) := (hbr.cell (p := ⟨g, k, none⟩) hgl5).trans c1
    obtain ⟨a0, a1, a3, a5, _, hbil⟩ := rec_cells (isT_rec hT)
    have a0r : wr.cell? ⟨bi, 0, none⟩ = some (.string (bs (recOf x).op)) := (hB1r.cell (p := ⟨bi, 0, none⟩) hbil).trans a0
    have a1r : wr.cell? ⟨bi, 1, none⟩ = some (.int .i64 (recOf x).p) := (hB1r.cell (p := ⟨bi, 1, none⟩) hbil).trans a1
    have a3r : wr.cell? ⟨bi, 3, none⟩ = some (.int .i64 (recOf x).n) := (hB1r.cell (p := ⟨bi, 3, none⟩) hbil).trans a3
    have hbir : bi < wr.heap.size := by have := hB1r.size; omega
    have hxd : (e.subs 0 0).drop k = x :: (e.subs 0 0).drop (k + 1) := by
     rw [List.drop_eq_getElem_cons hkl]
     rw [List.getElem?_eq_getElem hkl] at hx
     rw [Option.some.inj hx]
    have hvs : vetL TY ((e.subs 0 0).drop k) = if vStep TY x ≠ 0 then (vStep TY x, x.1.at0) else vetL TY ((e.subs 0 0).drop (k + 1)) := by rw [hxd]; rfl
    have hxm := List.mem_of_getElem? hx
    have hxw := subs_wf e 0 0 HWF.out x hxm
    have hxi := subs_ids e 0 0 x hxm
    obtain ⟨go, oc, o3, hgo, hoa⟩ := HO.out.o
    have o3r : wr.cell? ⟨yb, 3, none⟩ = some (.slice (some ⟨go, 0, none⟩) TY.length oc) := (hB1r.cell (p := ⟨yb, 3, none⟩) HO.out.yl).trans o3
    have hylr : yb < wr.heap.size := by have := hB1r.size; have := HO.out.yl; omega
    have hgor : go < wr.heap.size := by have := hB1r.size; omega
    have HOA : Hid (∀ (k : Nat), k < TY.length → wr.cell? ⟨go, k, none⟩ = some (.string (bs (tyAt TY k).txt)) ∧ (tyAt TY k).fit) := by
     intro k hk
     have hg := List.getElem?_eq_getElem hk
     have hat : tyAt TY k = TY[k] := by unfold tyAt; rw [hg]; rfl
     rw [hat]
     exact ⟨(hB1r.cell (p := ⟨go, k, none⟩) hgo).trans (hoa k _ hg), HFIT.out _ (List.getElem_mem hk)⟩
    have HKID : Hid (∀ p kw nm rg kids, x.1 = .node p kw nm rg kids → ∃ va vc, wr.cell? ⟨bi, 4, none⟩ = some (.slice va kids.length vc) ∧ ∀ i y, kids[i]? = some y → ∃ gk bx, va = some ⟨gk, 0, none⟩ ∧ gk < wr.heap.size ∧ wr.cell? ⟨gk, i, none⟩ = some (.pointer (some ⟨bx, 0, none⟩)) ∧ bx < wr.heap.size ∧ wr.cell? ⟨bx, 5, none⟩ = some (.int .i64 ((x.2.1 + 1 + cntL (kids.take i) : Nat) : Int))) := by
     intro p kw nm rg kids hxe
     rw [hxe] at hT
     obtain ⟨va, vc, h4, hk4⟩ := kid_ids hT
     refine ⟨va, vc, (hB1r.cell (p := ⟨bi, 4, none⟩) hbil).trans h4, ?_⟩
     intro i y hy
     obtain ⟨gk, bx, e1, e2, e3, e4, e5⟩ := hk4 i y hy
     have hsz := hB1r.size
     exact ⟨gk, bx, e1, by omega, (hB1r.cell (p := ⟨gk, i, none⟩) e2).trans e3, by omega, (hB1r.cell (p := ⟨bx, 5, none⟩) e4).trans e5⟩
    have HVS : Hid _ := hvs
    have HBW : Hid (Below w.heap.size w wr) := (HO.out.bl).trans (hB1r.mono HO.out.bl.size)
    have hat0 : (recOf x).p = x.1.at0 := by obtain ⟨t, i1, i2⟩ := x; cases t <;> rfl
    clear hx c1 hT hB1r a0 a1 a3 a5 hxd hvs hbr hvl o3 hgo hoa hbil
    have hif : ((bs (recOf x).op).toList == [105, 102]) = ((recOf x).op == [105, 102]) := bs_beq0 _ _
    have hlo : ((bs (recOf x).op).toList == [108, 111, 111, 112]) = ((recOf x).op == [108, 111, 111, 112]) := bs_beq0 _ _
    have hne : ((bs (recOf x).op).toList == [110, 101, 119]) = ((recOf x).op == [110, 101, 119]) := bs_beq0 _ _
    have hxi2 : x.2.1 + x.1.cnt ≤ TY.length := by rw [HLEN.out]; omega
    have hTYl : TY.length ≤ 9000 := by rw [HLEN.out]; exact hcnt
    rcases vcase TY x hxw with ⟨hop, p0, k0, nm, rg, ka, kb, kc, hxe, hvx⟩ | ⟨hop, p0, nm, rg, ka, hxe, hvx⟩ | ⟨h1, h2, h3, hvx⟩
    ·obtain ⟨va, vc, c4, hkk⟩ := HKID.out _ _ _ _ _ hxe
     obtain ⟨gk, b1, rfl, hgk, d1, hb1, e1⟩ := hkk 1 kb rfl
     obtain ⟨gk', b2, hgk', _, d2, hb2', e2⟩ := hkk 2 kc rfl
     have hgk2 : gk = gk' := by injection hgk' with h; injection h
     subst hgk2
     simp only [List.take, cntL, Nat.add_zero, List.length_cons, List.length_nil, Nat.zero_add] at e1 e2 c4
     have hcx : x.1.cnt = 1 + (ka.cnt + (kb.cnt + (kc.cnt + 0))) := by rw [hxe]; simp only [PT.cnt, cntL]
     have hkcp : 0 < kc.cnt := cnt_pos kc
     obtain ⟨i1, hi1⟩ : ∃ i1, i1 = x.2.1 + 1 + ka.cnt := ⟨_, rfl⟩
     obtain ⟨i2, hi2⟩ : ∃ i2, i2 = i1 + kb.cnt := ⟨_, rfl⟩
     rw [← hi1] at e1
     have hi2' : x.2.1 + 1 + (ka.cnt + kb.cnt) = i2 := by omega
     rw [hi2'] at e2
     rw [← hi1, ← hi2] at hvx
     have hl1 : i1 < TY.length := by omega
     have hl2 : i2 < TY.length := by omega
     obtain ⟨t1, _⟩ := HOA.out i1 hl1
     obtain ⟨t2, _⟩ := HOA.out i2 hl2
     have hcmp : ((bs (tyAt TY i1).txt).toList == (bs (tyAt TY i2).txt).toList) = decide (tyAt TY i1 = tyAt TY i2) := by
      rw [bs_beq0, Lib.toList_data]
      by_cases h : tyAt TY i1 = tyAt TY i2
      ·rw [h]; simp [bs]
      ·have : (tyAt TY i1).txt ≠ (tyAt TY i2).txt := fun e => h (txt_inj e)
       simp [bs, h, this]
     have hg : (((bs (recOf x).op).toList == [105, 102]) = true) ∨ (((bs (recOf x).op).toList == [105, 102]) = false ∧ ((bs (recOf x).op).toList == [108, 111, 111, 112]) = true) := by
      rw [hif, hlo]
      rcases hop with h | h <;> rw [h] <;> simp
     have hgn : ((bs (recOf x).op).toList == [110, 101, 119]) = false := by
      rw [hne]
      rcases hop with h | h <;> rw [h] <;> rfl
     have HVX : Hid _ := hvx
     have HXE : Hid _ := hxe
     generalize hT1 : tyAt TY i1 = T1 at *
     generalize hT2 : tyAt TY i2 = T2 at *
     clear hif hlo hne hop hkk hxe hvx hcx hkcp hi1 hi2 hi2' hxi hxi2 hT1 hT2
     by_cases hT : T1 = T2
     ·have hc : ((bs T1.txt).toList == (bs T2.txt).toList) = true := by rw [hcmp]; simpa using hT
      have HN : Hid (vetL TY (e.subs 0 0) = vetL TY ((e.subs 0 0).drop (k + 1))) := (show _ = _ by rw [HV.out, HVS.out, HVX.out]; simp [hT])
      clear hcmp hT
      rcases hg with hg | ⟨hg, hg'⟩
      all_goals
       go_wp2
       go_quiet (fail)
       go_wp2
       go_quiet (fail)
       go_wp2
       go_roundw
       case rel => exact ⟨k + 1, by omega, by go_num, (HBR.out).trans ((below_dU wr _).mono HBR.out.size), HN.out⟩
       case measure => simp [intOf]; omega
     ·have hc : ((bs T1.txt).toList == (bs T2.txt).toList) = false := by rw [hcmp]; simpa using hT
      have HN : Hid (ans = (9, x.1.at0)) := (show _ = _ by rw [HA.out, HV.out, HVS.out, HVX.out]; simp [hT])
      clear hcmp hT
      rcases hg with hg | ⟨hg, hg'⟩
      all_goals
       go_wp2
       go_quiet (fail)
       go_wp2
       go_quiet (fail)
       go_wp2
       refine bodyPost_ret (v := .tuple #[.int .i64 9, .int .i64 x.1.at0]) (by simp [results, Tryd.results12, go_sem]) rfl ⟨by rw [HN.out]; rfl, HBW.out.trans ⟨rfl, rfl, rfl, Nat.le_refl _, fun _ _ => rfl⟩⟩
    ·obtain ⟨va, vc, c4, hkk⟩ := HKID.out _ _ _ _ _ hxe
     obtain ⟨gk, b1, rfl, hgk, d1, hb1, e1⟩ := hkk 0 ka rfl
     simp only [List.take, cntL, Nat.add_zero, List.length_cons, List.length_nil, Nat.zero_add] at e1 c4
     have hcx : x.1.cnt = 1 + (ka.cnt + 0) := by rw [hxe]; simp only [PT.cnt, cntL]
     have hkcp : 0 < ka.cnt := cnt_pos ka
     obtain ⟨i1, hi1⟩ : ∃ i1, i1 = x.2.1 + 1 := ⟨_, rfl⟩
     rw [← hi1] at e1 hvx
     have hl1 : i1 < TY.length := by omega
     obtain ⟨t1, hf1⟩ := HOA.out i1 hl1
     have hg1 : ((bs (recOf x).op).toList == [105, 102]) = false := by rw [hif, hop]; rfl
     have hg2 : ((bs (recOf x).op).toList == [108, 111, 111, 112]) = false := by rw [hlo, hop]; rfl
     have hgn : ((bs (recOf x).op).toList == [110, 101, 119]) = true := by rw [hne, hop]; rfl
     have hme := fun w => mentions_any (tyAt TY i1) hf1 (recOf x).n w
     generalize hT1 : tyAt TY i1 = T1 at *
     have HVX : Hid _ := hvx
     have HXE : Hid _ := hxe
     have HME : Hid _ := hme
     clear hif hlo hne hop hkk hxe hvx hcx hkcp hi1 hxi hxi2 hT1 hf1 hme
     obtain ⟨hv, hhv⟩ : ∃ hv, hv = T1.has (recOf x).n := ⟨_, rfl⟩
     rw [← hhv] at HME HVX
     have HS : Hid (∀ w', Below wr.heap.size wr w' → w'.cell? ⟨bi, 0, none⟩ = some (.string (bs (recOf x).op)) ∧ w'.cell? ⟨bi, 3, none⟩ = some (.int .i64 (recOf x).n) ∧ w'.cell? ⟨yb, 3, none⟩ = some (.slice (some ⟨go, 0, none⟩) TY.length oc) ∧ w'.cell? ⟨bi, 4, none⟩ = some (.slice (some ⟨gk, 0, none⟩) 1 vc) ∧ w'.cell? ⟨gk, 0, none⟩ = some (.pointer (some ⟨b1, 0, none⟩)) ∧ w'.cell? ⟨b1, 5, none⟩ = some (.int .i64 (i1 : Nat)) ∧ w'.cell? ⟨go, i1, none⟩ = some (.string (bs T1.txt))) := by
      intro w' hb
      exact ⟨(hb.cell (p := ⟨bi, 0, none⟩) hbir).trans a0r, (hb.cell (p := ⟨bi, 3, none⟩) hbir).trans a3r, (hb.cell (p := ⟨yb, 3, none⟩) hylr).trans o3r, (hb.cell (p := ⟨bi, 4, none⟩) hbir).trans c4, (hb.cell (p := ⟨gk, 0, none⟩) hgk).trans d1, (hb.cell (p := ⟨b1, 5, none⟩) hb1).trans e1, (hb.cell (p := ⟨go, i1, none⟩) hgor).trans t1⟩
     clear hhv
     go_wp2
     go_quiet (fail)
     go_wp2
     clear a3r o3r c4 d1 e1 t1
     go_region_held3 (fun w' => w'.cell? ⟨bi, 0, none⟩ = some (.string (bs (recOf x).op)) ∧ w'.cell? ⟨bi, 3, none⟩ = some (.int .i64 (recOf x).n) ∧ w'.cell? ⟨yb, 3, none⟩ = some (.slice (some ⟨go, 0, none⟩) TY.length oc) ∧ w'.cell? ⟨bi, 4, none⟩ = some (.slice (some ⟨gk, 0, none⟩) 1 vc) ∧ w'.cell? ⟨gk, 0, none⟩ = some (.pointer (some ⟨b1, 0, none⟩)) ∧ w'.cell? ⟨b1, 5, none⟩ = some (.int .i64 (i1 : Nat)) ∧ w'.cell? ⟨go, i1, none⟩ = some (.string (bs T1.txt))) (first | exact HS.out _ ⟨rfl, rfl, rfl, Nat.le_refl _, fun _ _ => rfl⟩ | exact HS.out _ ⟨hb7.os, hb7.tape, hb7.output, hb7.size, fun k hk => hb7.block k hk⟩) (first | (go_at_call 24; refine (HME.out _).mono ?_; rintro e w7 ⟨rfl, hb7⟩))
     all_goals
      have hB7 : Below wr.heap.size wr w7 := ⟨hb7.os, hb7.tape, hb7.output, hb7.size, fun k hk => hb7.block k hk⟩
      have HB7 : Hid _ := hB7
      have a1s : w7.cell? ⟨bi, 1, none⟩ = some (.int .i64 (recOf x).p) := (hB7.cell (p := ⟨bi, 1, none⟩) hbir).trans a1r
      have hbis : bi < w7.heap.size := by have := hB7.size; omega
      clear hb7 hB7
      cases hv with
      | true =>
       have HN : Hid (ans = (10, x.1.at0)) := (show _ = _ by rw [HA.out, HV.out, HVS.out, HVX.out]; simp)
       go_wp2
       go_quiet (fail)
       go_wp2
       refine bodyPost_ret (v := .tuple #[.int .i64 10, .int .i64 x.1.at0]) (by simp [results, Tryd.results12, go_sem]) rfl ⟨by rw [HN.out]; rfl, HBW.out.trans ((HB7.out.trans ((below_dU w7 _).mono HB7.out.size)).mono HBW.out.size)⟩
      | false =>
       have HN : Hid (vetL TY (e.subs 0 0) = vetL TY ((e.subs 0 0).drop (k + 1))) := (show _ = _ by rw [HV.out, HVS.out, HVX.out]; simp)
       go_wp2
       go_roundw
       case rel => exact ⟨k + 1, by omega, by go_num, HBR.out.trans (HB7.out.mono HBR.out.size), HN.out⟩
       case measure => simp [intOf]; omega
    ·have hg1 : ((bs (recOf x).op).toList == [105, 102]) = false := by rw [hif]; simpa using h1
     have hg2 : ((bs (recOf x).op).toList == [108, 111, 111, 112]) = false := by rw [hlo]; simpa using h2
     have hgn : ((bs (recOf x).op).toList == [110, 101, 119]) = false := by rw [hne]; simpa using h3
     have HN : Hid (vetL TY (e.subs 0 0) = vetL TY ((e.subs 0 0).drop (k + 1))) := (show _ = _ by rw [HV.out, HVS.out, hvx]; simp)
     clear hif hlo hne h1 h2 h3 hvx hxi hxi2
     go_wp2
     go_quiet (fail)
     go_wp2
     go_quiet (fail)
     go_wp2
     go_roundw
     case rel => exact ⟨k + 1, by omega, by go_num, (HBR.out).trans ((below_dU wr _).mono HBR.out.size), HN.out⟩
     case measure => simp [intOf]; omega
   ·have hnil : (e.subs 0 0).drop k = [] := List.drop_eq_nil_of_le (by rw [subs_len, ← HBL.out]; omega)
    have HF : Hid (ans = (0, 0)) := by rw [HA.out, HV.out, hnil]; exact rfl
    have HBF : Hid (Below w.heap.size w wr) := HO.out.bl.trans ((HB5.out.trans (hbr.mono HB5.out.size)).mono HO.out.bl.size)
    clear hnil hbr hvl
    go_wp2
    refine bodyPost_ret (v := .tuple #[.int .i64 0, .int .i64 0]) (by simp [results, Tryd.results12, go_sem]) rfl ⟨by rw [HF.out]; rfl, HBF.out⟩
 ·have q0 : (((scopesAns (e.recs 0 0)).1 : Int) != 0) = true := by simp; omega
  have HA : Hid (ans = scopesAns (e.recs 0 0)) := by rw [HANS.out]; unfold vetAnsR; rw [if_pos hs0]; exact rfl
  have HB3 : Hid (Below w.heap.size w (w2.drewN m3)) := HO.out.bl.trans ((HB2.out.trans ((below_dU w2 m3).mono HB2.out.size)).mono HO.out.bl.size)
  generalize scopesAns (e.recs 0 0) = sa at *
  clear hs0 HANS
  go_wp2
  refine bodyPost_ret (v := .tuple #[.int .i64 sa.1, .int .i64 sa.2]) (by simp [results, Tryd.results12, go_sem]) rfl ⟨by rw [HA.out], HB3.out⟩
end Go.Proofs.YtpicaknklgccoaaDoor
namespace Go.Proofs.YtpicaknklgccoaaDoor
def posOf (len : Nat) : List Tk → Nat
 | [] => len
 | t :: _ => t.at_
theorem posOf_cons (len : Nat) (t : Tk) (r : List Tk) : posOf len (t :: r) = t.at_ := rfl
theorem posOf_nil (len : Nat) : posOf len [] = len := rfl
def TkOk (len : Nat) : List Tk → Prop
 | [] => True
 | t :: r => 0 < t.s.length ∧ t.at_ + t.s.length ≤ posOf len r ∧ TkOk len r
theorem toks_okU (len : Nat) : ∀ (f p : Nat) (l : List UInt8), p + l.length = len → TkOk len (toks f p l) ∧ p ≤ posOf len (toks f p l)
 | 0, p, l, h => by simp only [toks, TkOk, posOf_nil, true_and]; omega
 | f + 1, p, [], h => by simp only [toks, TkOk, posOf_nil, true_and]; simp at h; omega
 | f + 1, p, c :: r, h => by
  simp only [List.length_cons] at h
  simp only [toks]
  split
  ·have := toks_okU len f (p + 1) r (by omega)
   exact ⟨this.1, by omega⟩
  ·have hp := tokenOf_pos (c :: r)
   have hl := tokenOf_le (c :: r) (by simp)
   simp only [List.length_cons] at hl
   have := toks_okU len f (p + (tokenOf (c :: r)).1) ((c :: r).drop (tokenOf (c :: r)).1) (by simp only [List.length_drop, List.length_cons]; omega)
   simp only [TkOk, posOf_cons, List.length_take, List.length_cons]
   exact ⟨⟨by omega, by omega, this.1⟩, Nat.le_refl _⟩
theorem tokens_okU (l : List UInt8) : TkOk l.length (tokens l) := (toks_okU l.length l.length 0 l (by omega)).1
mutual
def PosN : PT → List NR → Nat → Nat → Prop
 | .num p _, ns, lo, hi => ∃ n, ns = [n] ∧ n.at_ = p ∧ lo ≤ p ∧ p < n.beh ∧ n.beh ≤ hi
 | .name p _, ns, lo, hi => ∃ n, ns = [n] ∧ n.at_ = p ∧ lo ≤ p ∧ p < n.beh ∧ n.beh ≤ hi
 | .node p _ _ _ kids, ns, lo, hi => ∃ ks n, ns = ks ++ [n] ∧ n.at_ = p ∧ lo ≤ p ∧ PosNs kids ks (p + 1) n.beh ∧ p < n.beh ∧ n.beh ≤ hi
def PosNs : List PT → List NR → Nat → Nat → Prop
 | [], ns, lo, hi => ns = [] ∧ lo ≤ hi
 | t :: r, ns, lo, hi => ∃ a c mid, ns = a ++ c ∧ PosN t a lo mid ∧ PosNs r c mid hi
end
theorem PosN.lo {t : PT} {ns : List NR} {lo lo' hi : Nat} (h : PosN t ns lo hi) (hl : lo' ≤ lo) : PosN t ns lo' hi := by
 cases t with
 | num p s => simp only [PosN] at h ⊢; obtain ⟨n, h1, h2, h3, h4⟩ := h; exact ⟨n, h1, h2, by omega, h4⟩
 | name p s => simp only [PosN] at h ⊢; obtain ⟨n, h1, h2, h3, h4⟩ := h; exact ⟨n, h1, h2, by omega, h4⟩
 | node p k nm rg kids => simp only [PosN] at h ⊢; obtain ⟨ks, n, h1, h2, h3, h4⟩ := h; exact ⟨ks, n, h1, h2, by omega, h4⟩
theorem PosNs.lo {ts : List PT} {ns : List NR} {lo lo' hi : Nat} (h : PosNs ts ns lo hi) (hl : lo' ≤ lo) : PosNs ts ns lo' hi := by
 cases ts with
 | nil => simp only [PosNs] at h ⊢; exact ⟨h.1, by omega⟩
 | cons t r => simp only [PosNs] at h ⊢; obtain ⟨a, c, mid, h1, h2, h3⟩ := h; exact ⟨a, c, mid, h1, h2.lo hl, h3⟩
theorem PosNs.hi : ∀ {ts : List PT} {ns : List NR} {lo hi hi' : Nat}, PosNs ts ns lo hi → hi ≤ hi' → PosNs ts ns lo hi'
 | [], _, _, _, _, h, hl => by simp only [PosNs] at h ⊢; exact ⟨h.1, by omega⟩
 | t :: r, _, _, _, _, h, hl => by simp only [PosNs] at h ⊢; obtain ⟨a, c, mid, h1, h2, h3⟩ := h; exact ⟨a, c, mid, h1, h2, h3.hi hl⟩
theorem PosN.lt {t : PT} {ns : List NR} {lo hi : Nat} (h : PosN t ns lo hi) : lo < hi := by
 cases t with
 | num p s => simp only [PosN] at h; obtain ⟨n, h1, h2, h3, h4⟩ := h; omega
 | name p s => simp only [PosN] at h; obtain ⟨n, h1, h2, h3, h4⟩ := h; omega
 | node p k nm rg kids => simp only [PosN] at h; obtain ⟨ks, n, h1, h2, h3, h4⟩ := h; omega
theorem PosNs.le : ∀ {ts : List PT} {ns : List NR} {lo hi : Nat}, PosNs ts ns lo hi → lo ≤ hi
 | [], _, _, _, h => by simp only [PosNs] at h; exact h.2
 | t :: r, _, _, _, h => by simp only [PosNs] at h; obtain ⟨a, c, mid, h1, h2, h3⟩ := h; have := h2.lt; have := h3.le; omega
def YesP (placed : Bool) (len : Nat) (pE : PS → Int × PS) (m : Nat) : Prop := ∀ (l : List Tk) (e : PT) (r : List Tk), PE placed l e r → l.length ≤ m → TkOk len l → ∀ st : PS, st.l = l → st.fl = none →
 ∃ ns, (pE st).2.nodes = st.nodes ++ ns ∧ PosN e ns (posOf len l) (posOf len r)
theorem body_pos {placed : Bool} {len : Nat} {pE : PS → Int × PS} {m : Nat} (hY : YesP placed len pE m) (w : List UInt8) (src : Int) {l : List Tk} {e : PT} {r : List Tk} (h : PE placed l e r) (hm : l.length ≤ m) (ht : TkOk len l) (st : PS) (hl : st.l = l) (hf : st.fl = none) :
  ∃ ns, (pBody pE w src st).2.nodes = st.nodes ++ ns ∧ PosN e ns (posOf len l) (posOf len r) := hY l e r h hm ht { st with scope := st.scope ++ [(w, src)] } hl hf
mutual
theorem PE.tkok {placed : Bool} {len : Nat} : ∀ {l : List Tk} {e : PT} {r : List Tk}, PE placed l e r → TkOk len l → TkOk len r ∧ posOf len l ≤ posOf len r
 | _, _, _, .num _, h => by simp only [TkOk] at h; exact ⟨h.2.2, by simp only [posOf_cons]; omega⟩
 | _, _, _, .name _, h => by simp only [TkOk] at h; exact ⟨h.2.2, by simp only [posOf_cons]; omega⟩
 | _, _, _, .node _ _ _ h4, h => by
  simp only [TkOk] at h
  have := PW.tkok h4 h.2.2.2.2
  have h1 := h.2.1
  simp only [posOf_cons] at h1 ⊢
  exact ⟨this.1, by omega⟩
theorem PW.tkok {placed : Bool} {len : Nat} : ∀ {ws : List Wt} {l : List Tk} {nm rg : List UInt8} {kids : List PT} {r : List Tk}, PW placed ws l nm rg kids r → TkOk len l → TkOk len r ∧ posOf len l ≤ posOf len r
 | _, _, _, _, _, _, .nil, h => ⟨h, Nat.le_refl _⟩
 | _, _, _, _, _, _, .close _ h1, h => by simp only [TkOk] at h; have := PW.tkok h1 h.2.2; simp only [posOf_cons]; exact ⟨this.1, by omega⟩
 | _, _, _, _, _, _, .name _ h1, h => by simp only [TkOk] at h; have := PW.tkok h1 h.2.2; simp only [posOf_cons]; exact ⟨this.1, by omega⟩
 | _, _, _, _, _, _, .region _ h1, h => by simp only [TkOk] at h; have := PW.tkok h1 h.2.2; simp only [posOf_cons]; exact ⟨this.1, by omega⟩
 | _, _, _, _, _, _, .e h0 h1, h => by have a := PE.tkok h0 h; have b := PW.tkok h1 a.1; exact ⟨b.1, by omega⟩
end
theorem ins_pos {placed : Bool} (len : Nat) {pE : PS → Int × PS} {m : Nat} (hY : YesE placed pE m) (hP : YesP placed len pE m) : ∀ (is : List Ins) (l : List Tk) (nm rg : List UInt8) (kids : List PT) (r : List Tk), PW placed (is.map Ins.wt ++ [.close]) l nm rg kids r →
  l.length ≤ m → TkOk len l → ∀ (st : PS) (fs : FS), st.l = l → st.fl = none →
  ∃ t ns, (pIns len pE is fs st).2.l = t :: r ∧ (pIns len pE is fs st).2.nodes = st.nodes ++ ns ∧ PosNs kids ns (posOf len l) t.at_ ∧ 0 < t.s.length ∧ t.at_ + t.s.length ≤ posOf len r := by
 intro is
 induction is with
 | nil =>
  intro l nm rg kids r h hm ht st fs hl hf
  simp only [List.map_nil, List.nil_append] at h
  cases h with
  | close hc h1 =>
   cases h1
   simp only [TkOk] at ht
   refine ⟨_, [], by simp only [pIns]; exact hl, by simp only [pIns, List.append_nil], ?_, ht.1, ht.2.1⟩
   simp only [PosNs, posOf_cons, true_and]; exact Nat.le_refl _
 | cons i is ih =>
  intro l nm rg kids r h hm ht st fs hl hf
  cases i with
  | name =>
   simp only [List.map_cons, Ins.wt, List.cons_append] at h
   cases h with
   | name hc h1 =>
    rename_i t r1 nm1
    simp only [List.length_cons] at hm
    simp only [TkOk] at ht
    have hk : (tk1 len st.l).kind = 4 := by rw [hl]; exact (kindN_nam _).2 hc
    have hex : st.expect len 4 = { st with l := r1 } := by
     unfold PS.expect; rw [if_neg (by simp [hk])]; simp [PS.tail, hl]
    obtain ⟨t', ns, h2, h3, h4, h5⟩ := ih r1 nm1 rg kids r h1 (by omega) ht.2.2 { st with l := r1 } { fs with word := (tk1 len st.l).word } rfl hf
    refine ⟨t', ns, ?_, ?_, h4.lo (by simp only [posOf_cons]; omega), h5⟩
    ·simp only [pIns]; rw [hex]; exact h2
    ·simp only [pIns]; rw [hex]; exact h3
  | region =>
   simp only [List.map_cons, Ins.wt, List.cons_append] at h
   cases h with
   | region hc h1 =>
    rename_i t r1 rg1
    simp only [List.length_cons] at hm
    simp only [TkOk] at ht
    have hk : (tk1 len st.l).kind = 6 := by rw [hl]; exact (kindN_reg _).2 hc
    have hex : st.expect len 6 = { st with l := r1 } := by
     unfold PS.expect; rw [if_neg (by simp [hk])]; simp [PS.tail, hl]
    obtain ⟨t', ns, h2, h3, h4, h5⟩ := ih r1 nm rg1 kids r h1 (by omega) ht.2.2 { st with l := r1 } { fs with region := (tk1 len st.l).num } rfl hf
    refine ⟨t', ns, ?_, ?_, h4.lo (by simp only [posOf_cons]; omega), h5⟩
    ·simp only [pIns]; rw [hex]; exact h2
    ·simp only [pIns]; rw [hex]; exact h3
  | e =>
   simp only [List.map_cons, Ins.wt, List.cons_append] at h
   cases h with
   | e he h1 =>
    rename_i e r1 kids1
    have hlt := he.len
    have htk := he.tkok ht
    obtain ⟨ns1, hn1, hp1⟩ := hY l e r1 he hm st hl hf
    obtain ⟨ns0, hq0, hpos⟩ := hP l e r1 he hm ht st hl hf
    obtain ⟨t', ns, h2, h3, h4, h5⟩ := ih r1 nm rg kids1 r h1 (by omega) htk.1 (pE st).2 { fs with parts := fs.parts ++ [(pE st).1] } (by rw [hp1]) (by rw [hp1]; exact hf)
    refine ⟨t', ns0 ++ ns, ?_, ?_, ?_, h5⟩
    ·simp only [pIns]; exact h2
    ·simp only [pIns]; rw [h3, hq0, List.append_assoc]
    ·simp only [PosNs]; exact ⟨ns0, ns, _, rfl, hpos, h4⟩
  | body =>
   simp only [List.map_cons, Ins.wt, List.cons_append] at h
   cases h with
   | e he h1 =>
    rename_i e r1 kids1
    have hlt := he.len
    have htk := he.tkok ht
    obtain ⟨ns1, hn1, hp1⟩ := body_yes hY fs.word (fs.parts.getLastD (-1)) he hm st hl hf
    obtain ⟨ns0, hq0, hpos⟩ := body_pos hP fs.word (fs.parts.getLastD (-1)) he hm ht st hl hf
    obtain ⟨t', ns, h2, h3, h4, h5⟩ := ih r1 nm rg kids1 r h1 (by omega) htk.1 (pBody pE fs.word (fs.parts.getLastD (-1)) st).2 { fs with parts := fs.parts ++ [(pBody pE fs.word (fs.parts.getLastD (-1)) st).1] } (by rw [hp1]) (by rw [hp1]; exact hf)
    refine ⟨t', ns0 ++ ns, ?_, ?_, ?_, h5⟩
    ·simp only [pIns]; exact h2
    ·simp only [pIns]; rw [h3, hq0, List.append_assoc]
    ·simp only [PosNs]; exact ⟨ns0, ns, _, rfl, hpos, h4⟩
theorem expr_pos (placed : Bool) (len : Nat) : ∀ n : Nat, YesP placed len (pExpr placed len n) n := by
 intro n
 induction n with
 | zero =>
  intro l e r h hm
  obtain ⟨t, r', he, _⟩ := h.suffix
  rw [he] at hm; simp at hm
 | succ m ih =>
  intro l e r h hm ht st hl hf
  cases h with
  | num hc =>
   rename_i t
   simp only [TkOk] at ht
   obtain ⟨ns, hn, hp⟩ := (expr_all placed len (m + 1)).1 _ _ _ (PE.num hc) hm st hl hf
   simp only [NA] at hn
   subst hn
   refine ⟨_, by rw [hp], ⟨_, rfl, rfl, Nat.le_refl _, ?_⟩⟩
   simp only; exact ⟨by omega, ht.2.1⟩
  | name hc =>
   rename_i t
   simp only [TkOk] at ht
   obtain ⟨ns, hn, hp⟩ := (expr_all placed len (m + 1)).1 _ _ _ (PE.name hc) hm st hl hf
   simp only [NA] at hn
   subst hn
   refine ⟨_, by rw [hp], ⟨_, rfl, rfl, Nat.le_refl _, ?_⟩⟩
   simp only; exact ⟨by omega, ht.2.1⟩
  | node hc hk hw h4 =>
   rename_i t u k r0 nm rg kids
   have hkf : ¬ (formN (kindN u.c) = 0 ∨ (formN (kindN u.c) = 12 ∧ placed = false)) := by
    rw [form_wants, hk]; exact hw
   rw [insK_wants k placed hw] at h4
   simp only [List.length_cons] at hm
   simp only [TkOk] at ht
   obtain ⟨c, ns, h1, h2, h3, h5, h6⟩ := ins_pos len (expr_all placed len m).1 ih (insK k placed) r0 nm rg kids r h4 (by omega) ht.2.2.2.2 { st with opened := st.opened ++ [-1], l := r0 } ⟨[], [], 0⟩ rfl hf
   obtain ⟨c', ns', h1', _, h3'⟩ := ins_yes len (expr_all placed len m).1 (insK k placed) r0 nm rg kids r h4 (insK_wf k placed) (by omega)
     { st with opened := st.opened ++ [-1], l := r0 } ⟨[], [], 0⟩ nm rfl hf (fun e => absurd e (insK_head k placed)) (by
      split
      ·rfl
      ·rename_i hn
       have : Wt.name ∉ (insK k placed).map Ins.wt ++ [.close] := by
        intro hh
        rcases List.mem_append.1 hh with hh | hh
        ·obtain ⟨i, hi, e⟩ := List.mem_map.1 hh
         cases i with
         | name => exact hn (by simpa using hi)
         | _ => cases e
        ·simp at hh
       exact (PW.noname h4 this).symm)
   have hcc : c = c' := by rw [h3'] at h1; simp only at h1; cases h1; rfl
   subst hcc
   have h21 := ht.2.1
   simp only [posOf_cons] at h21
   have h22 := ht.2.2.2.1
   refine ⟨ns ++ [{ NR.filled ⟨formK k, t.at_, t.at_ + t.s.length, 0, [], 0, -1, -1, -1, -1⟩ (pIns len (pExpr placed len m) (insK k placed) ⟨[], [], 0⟩ { st with opened := st.opened ++ [-1], l := r0 }).1 with beh := c.at_ + c.s.length }], ?_, ⟨ns, _, rfl, rfl, Nat.le_refl _, ?_, ?_, h6⟩⟩
   ·show (pSeat (pAny len (pBracket placed len (pExpr placed len m))) st).2.nodes = _
    unfold pSeat
    rw [any_open len _ { st with opened := st.opened ++ [-1] } hl hc]
    unfold pBracket
    have htk : tk1 len (u :: r0) = tnOf u := rfl
    simp only [htk]
    rw [if_neg (by simpa [tnOf] using hkf)]
    have hform : formN (tnOf u).kind = formK k := by simp [tnOf, hk, formK]
    rw [hform, pFill_ins placed len _ k hw]
    simp only [PS.tail, List.tail_cons]
    have hkc : (tk1 len (c :: r)).kind = 3 := (kindN_cls _).2 h1'
    simp only [PS.expect, h1, hkc]
    rw [if_neg (by simp)]
    simp only [PS.tail, PS.add, h2, List.append_assoc]
    rfl
   ·exact (h3.lo (by omega)).hi (by show c.at_ ≤ c.at_ + c.s.length; omega)
   ·have hlo : posOf len r0 ≤ c.at_ := h3.le
    show t.at_ < c.at_ + c.s.length
    omega
theorem fail_nodes (a : Nat) (st : PS) : (st.fail a).nodes = st.nodes := by unfold PS.fail; split <;> rfl
theorem expect_nodes (len k : Nat) (st : PS) : (st.expect len k).nodes = st.nodes := by
 unfold PS.expect
 split
 ·rw [fail_nodes]; rfl
 ·rfl
theorem prog_pos {placed : Bool} {len : Nat} {l : List Tk} {e : PT} (h : PE placed l e []) (ht : TkOk len l) : PosN e (pProg placed len l).nodes (posOf len l) len := by
 obtain ⟨ns, h1, h2⟩ := expr_pos placed len l.length l e [] h (Nat.le_refl _) ht (ps0 l) rfl rfl
 unfold pProg
 rw [expect_nodes, h1]
 exact h2
structure GoodL (X : List (Rec × NR)) (id c lo hi : Nat) : Prop where
 a : ∀ x ∈ X, id ≤ x.1.id ∧ x.1.id ≤ x.1.last ∧ x.1.last < id + c ∧ lo ≤ x.2.at_ ∧ x.2.at_ < x.2.beh ∧ x.2.beh ≤ hi
 b : ∀ x ∈ X, ∀ y ∈ X, (x.1.id < y.1.id ↔ x.2.at_ < y.2.at_) ∧ (y.1.id ≤ x.1.last ↔ y.2.at_ < x.2.beh)
theorem GoodL.app {X Y : List (Rec × NR)} {id c d lo mid hi : Nat} (hx : GoodL X id c lo mid) (hy : GoodL Y (id + c) d mid hi) (h1 : lo ≤ mid) (h2 : mid ≤ hi) : GoodL (X ++ Y) id (c + d) lo hi := by
 refine ⟨fun x hm => ?_, fun x hm y hn => ?_⟩
 ·rcases List.mem_append.1 hm with hm | hm
  ·have := hx.a x hm; omega
  ·have := hy.a x hm; omega
 ·rcases List.mem_append.1 hm with hm | hm
  ·rcases List.mem_append.1 hn with hn | hn
   ·exact hx.b x hm y hn
   ·have a1 := hx.a x hm
    have a2 := hy.a y hn
    exact ⟨⟨fun _ => by omega, fun _ => by omega⟩, ⟨fun _ => by omega, fun _ => by omega⟩⟩
  ·rcases List.mem_append.1 hn with hn | hn
   ·have a1 := hy.a x hm
    have a2 := hx.a y hn
    exact ⟨⟨fun _ => by omega, fun _ => by omega⟩, ⟨fun _ => by omega, fun _ => by omega⟩⟩
   ·exact hy.b x hm y hn
theorem GoodL.root {K : List (Rec × NR)} {id c lo hi : Nat} {r : Rec} {n : NR} (hk : GoodL K (id + 1) c (n.at_ + 1) n.beh) (h1 : r.id = id) (h2 : r.last = id + c) (h3 : lo ≤ n.at_) (h4 : n.at_ < n.beh) (h5 : n.beh ≤ hi) : GoodL (K ++ [(r, n)]) id (1 + c) lo hi := by
 refine ⟨fun x hm => ?_, fun x hm y hn => ?_⟩
 ·rcases List.mem_append.1 hm with hm | hm
  ·have := hk.a x hm; omega
  ·rw [List.mem_singleton] at hm; subst hm; simp only; omega
 ·rcases List.mem_append.1 hm with hm | hm
  ·rcases List.mem_append.1 hn with hn | hn
   ·exact hk.b x hm y hn
   ·rw [List.mem_singleton] at hn; subst hn
    have a1 := hk.a x hm
    simp only
    exact ⟨⟨fun _ => by omega, fun _ => by omega⟩, ⟨fun _ => by omega, fun _ => by omega⟩⟩
  ·rw [List.mem_singleton] at hm; subst hm
   rcases List.mem_append.1 hn with hn | hn
   ·have a1 := hk.a y hn
    simp only
    exact ⟨⟨fun _ => by omega, fun _ => by omega⟩, ⟨fun _ => by omega, fun _ => by omega⟩⟩
   ·rw [List.mem_singleton] at hn; subst hn
    simp only
    exact ⟨⟨fun _ => by omega, fun _ => by omega⟩, ⟨fun _ => by omega, fun _ => by omega⟩⟩
mutual
theorem PosN.good : ∀ {t : PT} {ns : List NR} {lo hi : Nat}, PosN t ns lo hi → ∀ (id site : Nat), ns.length = t.cnt ∧ GoodL ((t.recs id site).zip ns) id t.cnt lo hi
 | .num p s, ns, lo, hi, h, id, site => by
  simp only [PosN] at h
  obtain ⟨n, rfl, h1, h2, h3, h4⟩ := h
  refine ⟨rfl, ?_⟩
  simp only [PT.recs, List.zip_cons_cons, List.zip_nil_left, PT.cnt]
  exact GoodL.root (K := []) (c := 0) ⟨by simp, by simp⟩ rfl rfl (by omega) (by omega) h4
 | .name p s, ns, lo, hi, h, id, site => by
  simp only [PosN] at h
  obtain ⟨n, rfl, h1, h2, h3, h4⟩ := h
  refine ⟨rfl, ?_⟩
  simp only [PT.recs, List.zip_cons_cons, List.zip_nil_left, PT.cnt]
  exact GoodL.root (K := []) (c := 0) ⟨by simp, by simp⟩ rfl rfl (by omega) (by omega) h4
 | .node p k nm rg kids, ns, lo, hi, h, id, site => by
  simp only [PosN] at h
  obtain ⟨ks, n, rfl, h1, h2, h3, h4, h5⟩ := h
  have hk := PosNs.good h3 (id + 1) (site + if k = .pair then 1 else 0)
  refine ⟨by simp only [List.length_append, List.length_singleton, PT.cnt, hk.1]; omega, ?_⟩
  simp only [PT.recs, PT.cnt]
  rw [List.zip_append (by rw [recsL_len, hk.1])]
  simp only [List.zip_cons_cons, List.zip_nil_left]
  subst h1
  exact GoodL.root hk.2 rfl rfl h2 h4 h5
theorem PosNs.good : ∀ {ts : List PT} {ns : List NR} {lo hi : Nat}, PosNs ts ns lo hi → ∀ (id site : Nat), ns.length = cntL ts ∧ GoodL ((recsL ts id site).zip ns) id (cntL ts) lo hi
 | [], ns, lo, hi, h, id, site => by
  simp only [PosNs] at h
  rw [h.1]
  exact ⟨rfl, ⟨by simp [recsL], by simp [recsL]⟩⟩
 | t :: r, ns, lo, hi, h, id, site => by
  simp only [PosNs] at h
  obtain ⟨a, c, mid, rfl, h1, h2⟩ := h
  have ha := PosN.good h1 id site
  have hc := PosNs.good h2 (id + t.cnt) (site + t.prs)
  refine ⟨by simp only [List.length_append, cntL, ha.1, hc.1], ?_⟩
  simp only [recsL, cntL]
  rw [List.zip_append (by rw [recs_len, ha.1])]
  have l1 := h1.lt
  have l2 := h2.le
  exact GoodL.app ha.2 hc.2 (by omega) l2
end
structure Bri (r : Rec) (n : NR) : Prop where
 p : r.p = n.at_
 nw : n.form = 12 ↔ r.op = Kw.new.bytes
 pr : n.form = 4 ↔ r.op = Kw.pair.bytes
 rg : n.form = 12 ∨ n.form = 4 → n.region = r.n
 il : (n.form = 7 ∨ n.form = 11) ↔ (r.op = Kw.if_.bytes ∨ r.op = Kw.loop.bytes)
theorem bri_k (k : Kw) : (formK k = 12 ↔ k.bytes = Kw.new.bytes) ∧ (formK k = 4 ↔ k.bytes = Kw.pair.bytes) ∧ ((formK k = 7 ∨ formK k = 11) ↔ (k.bytes = Kw.if_.bytes ∨ k.bytes = Kw.loop.bytes)) := by cases k <;> decide
theorem Bri.node (k : Kw) (p : Nat) (nm rg : List UInt8) (a b c beh : Nat) (src p0 p1 p2 num : Int) : Bri ⟨k.bytes, p, nm, valueL rg, a, b, c⟩ ⟨formK k, p, beh, num, nm, valueL rg, src, p0, p1, p2⟩ :=
 ⟨rfl, (bri_k k).1, (bri_k k).2.1, fun _ => rfl, (bri_k k).2.2⟩
mutual
theorem NA.bri : ∀ {scope : Sc} {t : PT} {base : Nat} {ns : List NR}, NA scope t base ns → ∀ (id site : Nat), ∀ x ∈ (t.recs id site).zip ns, Bri x.1 x.2
 | _, .num p s, _, _, h, id, site, x, hx => by
  simp only [NA] at h; subst h
  simp only [PT.recs, List.zip_cons_cons, List.zip_nil_left, List.mem_singleton] at hx
  subst hx
  exact ⟨rfl, by simp only; decide, by simp only; decide, fun h => by simp at h, by simp only; decide⟩
 | _, .name p s, _, _, h, id, site, x, hx => by
  simp only [NA] at h; subst h
  simp only [PT.recs, List.zip_cons_cons, List.zip_nil_left, List.mem_singleton] at hx
  subst hx
  exact ⟨rfl, by simp only; decide, by simp only; decide, fun h => by simp at h, by simp only; decide⟩
 | _, .node p k nm rg kids, base, _, h, id, site, x, hx => by
  simp only [NA] at h
  obtain ⟨ks, beh, h1, rfl⟩ := h
  have hl := h1.len
  simp only [PT.recs] at hx
  rw [List.zip_append (by rw [recsL_len, hl])] at hx
  rcases List.mem_append.1 hx with hx | hx
  ·exact NAs.bri h1 _ _ x hx
  ·simp only [List.zip_cons_cons, List.zip_nil_left, List.mem_singleton] at hx
   subst hx
   exact Bri.node k p nm rg _ _ _ _ _ _ _ _ _
theorem NAs.bri : ∀ {scope : Sc} {nm : List UInt8} {ts : List PT} {bs : List Bool} {base : Nat} {ns : List NR}, NAs scope nm ts bs base ns → ∀ (id site : Nat), ∀ x ∈ (recsL ts id site).zip ns, Bri x.1 x.2
 | _, _, [], _, _, _, h, id, site, x, hx => by simp [recsL] at hx
 | _, _, _ :: _, [], _, _, h, _, _, _, _ => by simp [NAs] at h
 | _, _, t :: r, b :: bs, _, _, h, id, site, x, hx => by
  simp only [NAs] at h
  obtain ⟨a, c, h1, h2, rfl⟩ := h
  have hl := h1.len
  simp only [recsL] at hx
  rw [List.zip_append (by rw [recs_len, hl])] at hx
  rcases List.mem_append.1 hx with hx | hx
  ·exact NA.bri h1 _ _ x hx
  ·exact NAs.bri h2 _ _ x hx
end
mutual
theorem opn_ids : ∀ (t : PT) (base id site k : Nat), k < t.cnt → ∃ (j : Nat) (r : Rec), (opn t base)[k]? = some ((base + j : Nat) : Int) ∧ (t.recs id site)[j]? = some r ∧ r.id = id + k
 | .num p s, base, id, site, k, h => by
  simp only [PT.cnt] at h
  have : k = 0 := by omega
  subst this
  exact ⟨0, _, rfl, rfl, rfl⟩
 | .name p s, base, id, site, k, h => by
  simp only [PT.cnt] at h
  have : k = 0 := by omega
  subst this
  exact ⟨0, _, rfl, rfl, rfl⟩
 | .node p kw nm rg kids, base, id, site, k, h => by
  simp only [PT.cnt] at h
  cases k with
  | zero =>
   refine ⟨cntL kids, ⟨kw.bytes, p, nm, valueL rg, id, id + cntL kids, site⟩, rfl, ?_, rfl⟩
   simp only [PT.recs]
   rw [List.getElem?_append_right (by rw [recsL_len]; exact Nat.le_refl _), recsL_len, Nat.sub_self]; rfl
  | succ k =>
   obtain ⟨j, r, h1, h2, h3⟩ := opnL_ids kids base (id + 1) (site + if kw = .pair then 1 else 0) k (by omega)
   refine ⟨j, r, ?_, ?_, by omega⟩
   ·simp only [opn, List.getElem?_cons_succ]; exact h1
   ·simp only [PT.recs]
    rw [List.getElem?_append_left (List.getElem?_eq_some_iff.1 h2).1]; exact h2
theorem opnL_ids : ∀ (ts : List PT) (base id site k : Nat), k < cntL ts → ∃ (j : Nat) (r : Rec), (opnL ts base)[k]? = some ((base + j : Nat) : Int) ∧ (recsL ts id site)[j]? = some r ∧ r.id = id + k
 | [], _, _, _, k, h => by simp [cntL] at h
 | t :: r, base, id, site, k, h => by
  simp only [cntL] at h
  simp only [opnL, recsL]
  by_cases hk : k < t.cnt
  ·obtain ⟨j, x, h1, h2, h3⟩ := opn_ids t base id site k hk
   refine ⟨j, x, ?_, ?_, h3⟩
   ·rw [List.getElem?_append_left (by rw [opn_len]; exact hk)]; exact h1
   ·rw [List.getElem?_append_left (List.getElem?_eq_some_iff.1 h2).1]; exact h2
  ·obtain ⟨j, x, h1, h2, h3⟩ := opnL_ids r (base + t.cnt) (id + t.cnt) (site + t.prs) (k - t.cnt) (by omega)
   refine ⟨t.cnt + j, x, ?_, ?_, by omega⟩
   ·rw [List.getElem?_append_right (by rw [opn_len]; omega), opn_len, h1]
    congr 2; omega
   ·rw [List.getElem?_append_right (by rw [recs_len]; omega), recs_len]
    rw [show t.cnt + j - t.cnt = j by omega]; exact h2
end
end Go.Proofs.YtpicaknklgccoaaDoor
