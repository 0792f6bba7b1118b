import Derived.Test.YtpicaknklgccoaaGreatDoorP21
import Derived.Shelf.Lay
import Derived.Shelf.LaysM
import Derived.Shelf.Strconv.Itoa3
import Derived.Lib.AppendIntMem
namespace Go.Proofs.YtpicaknklgccoaaGreatDoor
open Go.RowKit
theorem Tryz.undBools : Tryz.prog.underlying 128 = some (.slice 4) := by kernel_rfl
theorem Tryz.infoBoolA : (Tryz.prog.info? 4).map (fun i => (i.zero, i.size, i.bytes)) = some (some (.bool false), 1, 1) := by kernel_rfl
def boolVs (L : List Bool) : List Value := L.map Value.bool
theorem own_set {w : World} {base g cap n : Nat} {t : TypeId} {xs : List Value} (h : w.ownsRow base t 1 (.slice (some ⟨g, 0, none⟩) n cap) n xs) (k : Nat) (x : Value) :
  (w.setCell ⟨g, k, none⟩ x).ownsRow base t 1 (.slice (some ⟨g, 0, none⟩) n cap) n (xs.set k x) := by
 obtain ⟨h1, h2⟩ := h
 refine ⟨by rw [List.length_set]; exact h1, Or.inr ?_⟩
 rcases h2 with ⟨h2, _⟩ | ⟨g', cap', cur, hv, hg, hh, hn, hm, hs, ht⟩
 ·cases h2
 ·cases hv
  refine ⟨g, cap, cur.setIfInBounds k x, rfl, hg, ?_, hn, hm, by simpa using hs, ?_⟩
  ·rw [blk_set hh k _]
  ·rw [← ht, Array.toList_setIfInBounds, List.take_set]
theorem made1 (v : Value) (n : Nat) : (madeCells #[v] n).toList = List.replicate n v := by
 apply List.ext_getElem
 ·simp [madeCells]
 ·intro j h1 h2
  simp [madeCells, Nat.mod_one]
def cb (w : World) (g k : Nat) : Bool := match w.cell? ⟨g, k, none⟩ with
 | some (.bool b) => b
 | _ => false
theorem bool_at {w : World} {base g cap n : Nat} {L : List Bool} (h : w.ownsRow base 4 1 (.slice (some ⟨g, 0, none⟩) n cap) n (boolVs L)) (k : Nat) (hk : k < n) (hl : L.length = n) : w.cell? ⟨g, k, none⟩ = some (.bool (L.getD k false)) := by
 rw [h.cellAt k (by omega)]; unfold boolVs; rw [List.getElem?_map, List.getElem?_eq_getElem (by omega)]; simp [List.getD, List.getElem?_eq_getElem (show k < L.length by omega)]
theorem bool_cb {w : World} {base g cap n : Nat} {L : List Bool} (h : w.ownsRow base 4 1 (.slice (some ⟨g, 0, none⟩) n cap) n (boolVs L)) (k : Nat) (hk : k < n) (hl : L.length = n) : w.cell? ⟨g, k, none⟩ = some (.bool (cb w g k)) := by
 unfold cb; rw [bool_at h k hk hl]
def hmSaid (TY : List Ty) (rg : Nat) (rl : List Rec) : List Bool := rl.map fun r => (tyAt TY r.id).has rg
def hmIn (rl : List Rec) (S : List Bool) (r : Rec) : Nat → Bool
 | 0 => true
 | k + 1 => hmIn rl S r k && match rl[k]? with
  | some q => !(S.getD k false && (decide (q.id < r.id) || decide (r.last < q.id)))
  | none => true
def hmB (rl : List Rec) (best : Option Nat) (r : Rec) : Bool := match best with
 | none => true
 | some b => match rl[b]? with
  | some rb => decide (r.last - r.id < rb.last - rb.id)
  | none => true
def hmS (rl : List Rec) (S : List Bool) (best : Option Nat) (i : Nat) : Option Nat := match rl[i]? with
 | some r => if !(S.getD i false) && hmIn rl S r rl.length && hmB rl best r then some i else best
 | none => best
def hmF (rl : List Rec) (S : List Bool) : Nat → Option Nat
 | 0 => none
 | k + 1 => hmS rl S (hmF rl S k) k
theorem hmF_lt (rl : List Rec) (S : List Bool) : ∀ k b, k ≤ rl.length → hmF rl S k = some b → b < k
 | 0, b, _, h => by simp [hmF] at h
 | k + 1, b, hk, h => by
  simp only [hmF, hmS] at h
  rw [List.getElem?_eq_getElem (by omega)] at h
  simp only at h
  split at h
  ·cases h; omega
  ·have := hmF_lt rl S k b (by omega) h; omega
def hmP (w0 : World) (rl : List Rec) (p : Option Addr) : Option Nat → Prop
 | none => p = none
 | some i => ∃ bi r, p = some ⟨bi, 0, none⟩ ∧ rl[i]? = some r ∧ isRec w0 bi r
set_option maxRecDepth 100000 in
set_option maxHeartbeats 8000000 in
theorem home_any (w0 w : World) (e : PT) (TY : List Ty) (b yb rg : Nat) (hfit : ∀ T ∈ TY, T.fit) (hcnt : e.cnt ≤ 9000) (hlen : TY.length = e.cnt) (hT : IsT w0 (fun k => k < w0.heap.size) e 0 0 b) (hb0 : Below w0.heap.size w0 w) (hO : OfIn w yb TY) :
  Calls Tryz.prog 40 #[.pointer (some ⟨b, 0, none⟩), .pointer (some ⟨yb, 0, none⟩), .int .i64 rg] w fun v w' => ∃ p, v = .returned (.pointer p) ∧ Below w.heap.size w w' ∧ hmP w0 (e.recs 0 0) p (hmF (e.recs 0 0) (hmSaid TY rg (e.recs 0 0)) e.cnt) := by
 obtain ⟨i0, hi, hz0, hz1, hz2⟩ := info_parts Tryz.infoBoolA
 have HI : Hid _ := hi
 have HZ0 : Hid _ := hz0
 have HZ1 : Hid _ := hz1
 have HZ2 : Hid _ := hz2
 have HFIT : Hid _ := hfit
 have HO : Hid _ := hO
 have HB0 : Hid _ := hb0
 have hall := allT_any e 0 0 b _ w0 hcnt hT w hb0
 unfold ptr at hall
 have hsm : ∀ r ∈ e.recs 0 0, r.id < e.cnt ∧ r.last < e.cnt ∧ r.id ≤ r.last := by
  intro r hr
  rw [recs_subs, List.mem_map] at hr
  obtain ⟨x, hx, rfl⟩ := hr
  have := subs_ids e 0 0 x hx
  obtain ⟨t, id, site⟩ := x
  cases t with
  | num p s => simp only [recOf, PT.cnt] at *; omega
  | name p s => simp only [recOf, PT.cnt] at *; omega
  | node p k nm rg kids => simp only [recOf, PT.cnt] at *; omega
 have hrl : (e.recs 0 0).length = e.cnt := recs_len e 0 0
 have hrs : ∀ (i : Nat) (r : Rec), (e.recs 0 0)[i]? = some r → ∃ x, (e.subs 0 0)[i]? = some x ∧ recOf x = r := by
  intro i r hr
  rw [recs_subs, List.getElem?_map] at hr
  cases hx : (e.subs 0 0)[i]? with
  | none => rw [hx] at hr; simp at hr
  | some x => rw [hx] at hr; exact ⟨x, rfl, by simpa using hr⟩
 have hsl := subs_len e 0 0
 generalize e.recs 0 0 = rl at *
 generalize e.subs 0 0 = sl at *
 generalize e.cnt = n at *
 have HRS : Hid _ := hrs
 have HSM : Hid _ := hsm
 have HLEN : Hid _ := hlen
 have HSL : Hid _ := hsl
 obtain ⟨S, hS⟩ : ∃ S, S = hmSaid TY rg rl := ⟨_, rfl⟩
 have hSl : S.length = n := by rw [hS, ← hrl]; simp [hmSaid]
 have HSD : Hid (∀ (i : Nat) (r : Rec), rl[i]? = some r → S.getD i false = (tyAt TY r.id).has rg) := by
  intro i r hr; rw [hS]; unfold hmSaid; simp [List.getD, hr]
 rw [← hS]
 obtain ⟨ans, hans⟩ : ∃ ans, ans = hmF rl S n := ⟨_, rfl⟩
 rw [← hans]
 have HANS : Hid _ := hans
 clear hfit hlen hO hT hb0 hi hz0 hz1 hz2 hrs hsm hS hans hsl
 go_enter Tryz.func40, Tryz.ntmps40
 go_wp2_with fail
 refine hall.mono ?_
 rintro _ w2 ⟨g, cap, bl, rfl, hb2, hown2, hts⟩
 have hbl : bl.length = n := by rw [hts.len, HSL.out]
 have HSUB : Hid (∀ (i : Nat) (r : Rec), rl[i]? = some r → ∃ bi, w2.cell? ⟨g, i, none⟩ = some (.pointer (some ⟨bi, 0, none⟩)) ∧ isRec w0 bi r) := by
  intro i r hr
  obtain ⟨x, hx, he⟩ := HRS.out i r hr
  obtain ⟨bi, h1, h2⟩ := hts.at i x hx
  refine ⟨bi, ?_, he ▸ isT_rec h2⟩
  rw [hown2.cellAt i (by have := (List.getElem?_eq_some_iff.1 h1).1; omega), List.getElem?_map, h1]; rfl
 have hgl : g < w2.heap.size := (hown2.lt g rfl).2
 have HB2 : Hid _ := hb2
 rw [hbl]
 clear hall hown2 hts hb2 hbl HRS HSL
 clear bl
 go_wp2_with (first | (at_make; go_must (refine wpList_make_full _ rfl (.tmp 17) (.tmp 17) 128 rfl w2.heap.size 4 i0 _ 1 Tryz.undBools HI.out HZ0.out HZ1.out .i64 .i64 _ _ n rfl rfl rfl rfl ?m1 ?m2 ?m3 ?_)))
 case m1 => rw [HZ2.out]; omega
 case m2 => unfold maxLen; omega
 case m3 => omega
 intro w3 ho3 hg3
 have hb3 : Below w2.heap.size w2 w3 := ⟨hg3.os, hg3.tape, hg3.output, hg3.size, fun k hk => hg3.block k hk (by simp)⟩
 obtain ⟨gs, hgs⟩ : ∃ gs, gs = w2.heap.size := ⟨_, rfl⟩
 have HO3 : Hid (w3.ownsRow w2.heap.size 4 1 (.slice (some ⟨gs, 0, none⟩) n n) n (boolVs (List.replicate n false))) := by
  rw [hgs, show boolVs (List.replicate n false) = (madeCells #[Value.bool false] n).toList from by rw [made1]; simp [boolVs]]; exact ho3
 have hgs0 : w2.heap.size ≤ gs := by omega
 rw [← hgs]
 have HB3 : Hid _ := hb3
 clear ho3 hg3 hb3 hgs
 go_wp2
 go_loopw [9] (fun i wr => ∃ (j : Nat) (L : List Bool), j ≤ n ∧ i = .int .i64 j ∧ L.length = n ∧ Below w2.heap.size w2 wr ∧ wr.ownsRow w2.heap.size 4 1 (.slice (some ⟨gs, 0, none⟩) n n) n (boolVs L) ∧ ∀ k, k < j → L[k]? = S[k]?) (fun i _ => n - (intOf i).toNat)
 case atStart => exact ⟨0, List.replicate n false, Nat.zero_le _, rfl, by simp, HB3.out, HO3.out, fun k hk => absurd hk (Nat.not_lt_zero k)⟩
 case round =>
  obtain ⟨j, L, hj, rfl, hL, hbr, hor, hLS⟩ := hrel
  have HBR : Hid _ := hbr
  have HOR : Hid _ := hor
  have HLS : Hid _ := hLS
  have HLL : Hid _ := hL
  have HBK : Hid (∀ k, (Value.slice (some ⟨gs, 0, none⟩) n n).ownBlock = some k → k < wr.heap.size) := fun k hk => (hor.lt k hk).2
  have hgsl : gs < wr.heap.size := (hor.lt gs rfl).2
  by_cases hjn : j < n
  ·have hjr : j < rl.length := by omega
   obtain ⟨r, hr⟩ : ∃ r, rl[j]? = some r := ⟨_, List.getElem?_eq_getElem hjr⟩
   obtain ⟨bi, c1, hrec⟩ := HSUB.out j r hr
   obtain ⟨_, _, _, a5, _, hbil⟩ := rec_cells hrec
   have hsmr := HSM.out r (List.mem_of_getElem? hr)
   have hBw : Below w.heap.size w wr := HB2.out.trans (hbr.mono HB2.out.size)
   have hB0r : Below w0.heap.size w0 wr := HB0.out.trans (hBw.mono HB0.out.size)
   have hsd := HSD.out j r hr
   obtain ⟨hyl, go, oc, o3, hgo, hoa⟩ := HO.out
   obtain ⟨t, ht⟩ : ∃ t, t = tyAt TY r.id := ⟨_, rfl⟩
   have hrt : r.id < TY.length := by rw [HLEN.out]; exact hsmr.1
   have htg : TY[r.id]? = some t := by rw [ht]; unfold tyAt; rw [List.getElem?_eq_getElem hrt]; rfl
   have hme := fun w => mentions_any t (HFIT.out t (List.mem_of_getElem? htg)) rg w
   rw [← ht] at hsd
   obtain ⟨hv, hhv⟩ : ∃ hv, hv = t.has rg := ⟨_, rfl⟩
   rw [← hhv] at hme hsd
   have HME : Hid _ := hme
   have HSD1 : Hid _ := hsd
   have hsz := HB2.out.size
   have hsz0 := HB0.out.size
   have HS : Hid (∀ (w' : World) (L : List Bool), L.length = n → Below w2.heap.size w2 w' → w'.ownsRow w2.heap.size 4 1 (.slice (some ⟨gs, 0, none⟩) n n) n (boolVs L) → w'.cell? ⟨g, j, none⟩ = some (.pointer (some ⟨bi, 0, none⟩)) ∧ w'.cell? ⟨bi, 5, none⟩ = some (.int .i64 r.id) ∧ w'.cell? ⟨yb, 3, none⟩ = some (.slice (some ⟨go, 0, none⟩) TY.length oc) ∧ w'.cell? ⟨go, r.id, none⟩ = some (.string (bs t.txt)) ∧ w'.cell? ⟨gs, j, none⟩ = some (.bool (cb w' gs j)) ∧ w'.frozen? ⟨gs, j, none⟩ = false) := by
    intro w' L hl hb ho
    have hbw : Below w.heap.size w w' := HB2.out.trans (hb.mono HB2.out.size)
    have hb0 : Below w0.heap.size w0 w' := HB0.out.trans (hbw.mono HB0.out.size)
    exact ⟨(hb.cell (p := ⟨g, j, none⟩) hgl).trans c1, (hb0.cell (p := ⟨bi, 5, none⟩) hbil).trans a5, (hbw.cell (p := ⟨yb, 3, none⟩) hyl).trans o3, (hbw.cell (p := ⟨go, r.id, none⟩) hgo).trans (hoa _ _ htg), bool_cb ho j hjn hl, own_free ho j⟩
   have hTYl : TY.length ≤ 9000 := by rw [HLEN.out]; exact hcnt
   clear hr c1 hrec a5 hbil hsmr hBw hB0r hsd hyl o3 hgo hoa ht htg hhv hme hsz hsz0 hbr hor hLS hL
   go_wp2
   go_region_held3 (fun w' => w'.cell? ⟨g, j, none⟩ = some (.pointer (some ⟨bi, 0, none⟩)) ∧ w'.cell? ⟨bi, 5, none⟩ = some (.int .i64 r.id) ∧ w'.cell? ⟨yb, 3, none⟩ = some (.slice (some ⟨go, 0, none⟩) TY.length oc) ∧ w'.cell? ⟨go, r.id, none⟩ = some (.string (bs t.txt)) ∧ w'.cell? ⟨gs, j, none⟩ = some (.bool (cb w' gs j)) ∧ w'.frozen? ⟨gs, j, none⟩ = false) (first | exact HS.out _ L HLL.out HBR.out HOR.out | exact HS.out _ L HLL.out (HBR.out.trans ⟨rfl, rfl, rfl, Nat.le_refl _, fun _ _ => rfl⟩) HOR.out | exact HS.out _ L HLL.out (HBR.out.trans ⟨hb7.os, hb7.tape, hb7.output, hb7.size, fun k hk => hb7.block k (Nat.lt_of_lt_of_le hk HBR.out.size)⟩) (owns_blk HOR.out (fun k hk => hb7.block k (HBK.out k hk))) | exact HS.out _ (L.set j hv) (by rw [List.length_set]; exact HLL.out) (bel_set (HBR.out.trans ⟨hb7.os, hb7.tape, hb7.output, hb7.size, fun k hk => hb7.block k (Nat.lt_of_lt_of_le hk HBR.out.size)⟩) hgs0) (by unfold boolVs; rw [List.map_set]; exact own_set (owns_blk HOR.out (fun k hk => hb7.block k (HBK.out k hk))) j _)) (first | (go_at_call 72; refine (HME.out _).mono ?_; rintro e w7 ⟨rfl, hb7⟩))
   all_goals
    have HB7 : Hid (Below w2.heap.size w2 w7) := (show Below _ _ _ from HBR.out.trans ⟨hb7.os, hb7.tape, hb7.output, hb7.size, fun k hk => hb7.block k (Nat.lt_of_lt_of_le hk HBR.out.size)⟩)
    have HO7 : Hid ((w7.setCell ⟨gs, j, none⟩ (.bool hv)).ownsRow w2.heap.size 4 1 (.slice (some ⟨gs, 0, none⟩) n n) n (boolVs (L.set j hv))) := by
     unfold boolVs; rw [List.map_set]; exact own_set (owns_blk HOR.out (fun k hk => hb7.block k (HBK.out k hk))) j _
    clear hb7
    go_wp2
    go_roundw
    case rel =>
     refine ⟨j + 1, L.set j hv, by omega, by go_num, by rw [List.length_set]; exact HLL.out, bel_set HB7.out hgs0, HO7.out, fun k hk => ?_⟩
     rw [List.getElem?_set]
     by_cases hkj : j = k
     ·subst hkj
      rw [if_pos rfl, if_pos (by rw [HLL.out]; exact hjn)]
      have := HSD1.out
      rw [List.getD, List.getElem?_eq_getElem (by omega)] at this
      rw [List.getElem?_eq_getElem (by omega)]
      simp only [Option.getD_some] at this
      rw [this]
     ·rw [if_neg hkj]; exact HLS.out k (by omega)
    case measure => simp [intOf]; omega
  ·have hLe : L = S := by
    apply List.ext_getElem?
    intro k
    by_cases hk : k < n
    ·exact hLS k (by omega)
    ·rw [List.getElem?_eq_none (by omega), List.getElem?_eq_none (by omega)]
   subst hLe
   obtain ⟨wA, hwA⟩ : ∃ wA, wA = wr := ⟨_, rfl⟩
   rw [← hwA] at hbr hor hgsl ⊢
   have HBA : Hid (Below w.heap.size w wA) := (show Below _ _ _ from HB2.out.trans (hbr.mono HB2.out.size))
   have HLA : Hid (∀ (i : Nat) (r : Rec), rl[i]? = some r → ∃ bi, wA.cell? ⟨g, i, none⟩ = some (.pointer (some ⟨bi, 0, none⟩)) ∧ isRec w0 bi r ∧ wA.cell? ⟨bi, 5, none⟩ = some (.int .i64 r.id) ∧ wA.cell? ⟨bi, 6, none⟩ = some (.int .i64 r.last) ∧ bi < wA.heap.size) := by
    intro i r hr
    obtain ⟨bi, c1, hrec⟩ := HSUB.out i r hr
    obtain ⟨_, _, _, a5, a6, hbil⟩ := rec_cells hrec
    have hb0 : Below w0.heap.size w0 wA := HB0.out.trans (HBA.out.mono HB0.out.size)
    exact ⟨bi, (hbr.cell (p := ⟨g, i, none⟩) hgl).trans c1, hrec, (hb0.cell (p := ⟨bi, 5, none⟩) hbil).trans a5, (hb0.cell (p := ⟨bi, 6, none⟩) hbil).trans a6, by have := hb0.size; omega⟩
   have HRC : Hid (∀ (bi : Nat) (r : Rec), isRec w0 bi r → wA.cell? ⟨bi, 5, none⟩ = some (.int .i64 r.id) ∧ wA.cell? ⟨bi, 6, none⟩ = some (.int .i64 r.last) ∧ bi < wA.heap.size) := by
    intro bi r hrec
    obtain ⟨_, _, _, a5, a6, hbil⟩ := rec_cells hrec
    have hb0 : Below w0.heap.size w0 wA := HB0.out.trans (HBA.out.mono HB0.out.size)
    exact ⟨(hb0.cell (p := ⟨bi, 5, none⟩) hbil).trans a5, (hb0.cell (p := ⟨bi, 6, none⟩) hbil).trans a6, by have := hb0.size; omega⟩
   have HBS : Hid (∀ k, k < n → wA.cell? ⟨gs, k, none⟩ = some (.bool (L.getD k false))) := fun k hk => bool_at hor k hk hL
   have hglA : g < wA.heap.size := by have := hbr.size; omega
   clear hbr hor hLS hL hwA HBR HOR HLS HBK HLL HSD HFIT HLEN HO HB3 HO3 HSUB
   go_wp2
   go_loopw [10, 11, 12, 13] (fun best i _ _ wr => ∃ (k m : Nat) (p : Option Addr), wr = wA.drewN m ∧ k ≤ n ∧ i = .int .i64 k ∧ best = .pointer p ∧ hmP w0 rl p (hmF rl L k)) (fun _ i _ _ _ => n - (intOf i).toNat)
   case atStart => exact ⟨0, 0, none, rfl, Nat.zero_le _, rfl, rfl, rfl⟩
   case round =>
    obtain ⟨k, m, p, rfl, hk, rfl, rfl, hp⟩ := hrel
    have HP : Hid _ := hp
    clear hp
    by_cases hlt : k < n
    ·have hkr : k < rl.length := by omega
     obtain ⟨r, hr⟩ : ∃ r, rl[k]? = some r := ⟨_, List.getElem?_eq_getElem hkr⟩
     obtain ⟨bi, c1, hrec, a5, a6, hbil⟩ := HLA.out k r hr
     have cs := HBS.out k hlt
     have hsr := HSM.out r (List.mem_of_getElem? hr)
     have hst : hmF rl L (k + 1) = if !(L.getD k false) && hmIn rl L r n && hmB rl (hmF rl L k) r then some k else hmF rl L k := by
      simp only [hmF, hmS]; rw [hr, hrl]
     have HST : Hid _ := hst
     have HR : Hid _ := hr
     have HREC : Hid _ := hrec
     obtain ⟨sk, hsk⟩ : ∃ sk, sk = L.getD k false := ⟨_, rfl⟩
     rw [← hsk] at cs HST
     clear hr hrec hst hsk
     go_wp2
     go_loopw [12, 13] (fun vin kk wr => ∃ (q m2 : Nat), wr = wA.drewN m2 ∧ q ≤ n ∧ kk = .int .i64 q ∧ vin = .bool (!sk && hmIn rl L r q)) (fun _ kk _ => n - (intOf kk).toNat)
     case atStart => exact ⟨0, _, rfl, Nat.zero_le _, rfl, by simp [hmIn]⟩
     case round =>
      obtain ⟨q, m2, rfl, hq, rfl, rfl⟩ := hrel
      by_cases hqn : q < n
      ·have hqr : q < rl.length := by omega
       obtain ⟨rq, hrq⟩ : ∃ rq, rl[q]? = some rq := ⟨_, List.getElem?_eq_getElem hqr⟩
       obtain ⟨bq, d1, _, d5, _, hbql⟩ := HLA.out q rq hrq
       have ds := HBS.out q hqn
       have hsq := HSM.out rq (List.mem_of_getElem? hrq)
       have hstep : hmIn rl L r (q + 1) = (hmIn rl L r q && !(L.getD q false && (decide (rq.id < r.id) || decide (r.last < rq.id)))) := by simp only [hmIn]; rw [hrq]
       have HSTEP : Hid _ := hstep
       obtain ⟨sq, hsq'⟩ : ∃ sq, sq = L.getD q false := ⟨_, rfl⟩
       rw [← hsq'] at ds HSTEP
       generalize hvin : (!sk && hmIn rl L r q) = vin
       have HVIN : Hid _ := hvin
       clear hrq hstep hsq' hvin
       cases sq with
       | false =>
        have HN : Hid ((!sk && hmIn rl L r (q + 1)) = vin) := (show _ = _ by rw [HSTEP.out]; simpa using HVIN.out)
        go_wp2
        go_quiet (fail)
        go_wp2
        go_roundw
        case rel => exact ⟨q + 1, _, rfl, by omega, by go_num, by rw [HN.out]⟩
        case measure => simp [intOf]; omega
       | true =>
        by_cases h1 : rq.id < r.id
        ·have HN : Hid ((!sk && hmIn rl L r (q + 1)) = false) := (show _ = _ by rw [HSTEP.out]; simp [h1])
         go_wp2
         go_quiet (fail)
         go_wp2
         go_roundw
         case rel => exact ⟨q + 1, _, rfl, by omega, by go_num, by rw [HN.out]⟩
         case measure => simp [intOf]; omega
        ·by_cases h2 : r.last < rq.id
         ·have HN : Hid ((!sk && hmIn rl L r (q + 1)) = false) := (show _ = _ by rw [HSTEP.out]; simp [h2])
          go_wp2
          go_quiet (fail)
          go_wp2
          go_roundw
          case rel => exact ⟨q + 1, _, rfl, by omega, by go_num, by rw [HN.out]⟩
          case measure => simp [intOf]; omega
         ·have HN : Hid ((!sk && hmIn rl L r (q + 1)) = vin) := (show _ = _ by rw [HSTEP.out]; simpa [h1, h2] using HVIN.out)
          go_wp2
          go_quiet (fail)
          go_wp2
          go_roundw
          case rel => exact ⟨q + 1, _, rfl, by omega, by go_num, by rw [HN.out]⟩
          case measure => simp [intOf]; omega
      ·have hqn' : q = n := by omega
       subst hqn'
       generalize hvin : (!sk && hmIn rl L r q) = vin at *
       have HST2 : Hid _ := HST.out
       clear HST hvin
       cases vin with
       | false =>
        have HN : Hid (hmP w0 rl p (hmF rl L (k + 1))) := (show hmP _ _ _ _ by rw [HST2.out, Bool.false_and, if_neg (by decide)]; exact HP.out)
        go_wp2
        go_quiet (fail)
        go_wp2
        go_roundw
        case rel => exact ⟨k + 1, _, p, rfl, by omega, by go_num, rfl, HN.out⟩
        case measure => simp [intOf]; omega
       | true =>
        obtain ⟨bst, hbst⟩ : ∃ bst, bst = hmF rl L k := ⟨_, rfl⟩
        rw [← hbst] at HP HST2
        clear hbst
        have HNEW : Hid (hmP w0 rl (some ⟨bi, 0, none⟩) (some k)) := ⟨bi, r, rfl, HR.out, HREC.out⟩
        cases bst with
        | none =>
         have hp0 : p = none := HP.out
         subst hp0
         have HN : Hid (hmF rl L (k + 1) = some k) := (show _ = _ by rw [HST2.out]; simp [hmB])
         go_wp2
         go_quiet (fail)
         go_wp2
         go_roundw
         case rel => exact ⟨k + 1, _, some ⟨bi, 0, none⟩, rfl, by omega, by go_num, rfl, by rw [HN.out]; exact HNEW.out⟩
         case measure => simp [intOf]; omega
        | some ib =>
         obtain ⟨bb, rb, hpb, hrb, hrecb⟩ : ∃ bi r, p = some ⟨bi, 0, none⟩ ∧ rl[ib]? = some r ∧ isRec w0 bi r := HP.out
         obtain ⟨b5, b6, hbbl⟩ := HRC.out bb rb hrecb
         have hsb := HSM.out rb (List.mem_of_getElem? hrb)
         have HN : Hid (hmF rl L (k + 1) = if r.last - r.id < rb.last - rb.id then some k else some ib) := (show _ = _ by rw [HST2.out]; simp [hmB, hrb])
         subst hpb
         clear hrb hrecb
         by_cases hd : r.last - r.id < rb.last - rb.id
         ·have HN2 : Hid (hmF rl L (k + 1) = some k) := (show _ = _ by rw [HN.out, if_pos hd])
          have hdi : (r.last : Int) - (r.id : Int) < (rb.last : Int) - (rb.id : Int) := by omega
          go_wp2
          go_quiet (fail)
          go_wp2
          go_roundw
          case rel => exact ⟨k + 1, _, some ⟨bi, 0, none⟩, rfl, by omega, by go_num, rfl, by rw [HN2.out]; exact HNEW.out⟩
          case measure => simp [intOf]; omega
         ·have HN2 : Hid (hmF rl L (k + 1) = some ib) := (show _ = _ by rw [HN.out, if_neg hd])
          have hdi : ¬ (r.last : Int) - (r.id : Int) < (rb.last : Int) - (rb.id : Int) := by omega
          go_wp2
          go_quiet (fail)
          go_wp2
          go_roundw
          case rel => exact ⟨k + 1, _, some ⟨bb, 0, none⟩, rfl, by omega, by go_num, rfl, by rw [HN2.out]; exact HP.out⟩
          case measure => simp [intOf]; omega
    ·have hkn : k = n := by omega
     subst hkn
     have HF : Hid (hmP w0 rl p ans) := (show hmP w0 rl p ans by rw [HANS.out]; exact HP.out)
     go_wp2
     go_ret
     exact ⟨p, by first | rfl | trivial, HBA.out.trans ⟨rfl, rfl, rfl, Nat.le_refl _, fun _ _ => rfl⟩, HF.out⟩
open Go.Lib (decDigits)
def pieceT (k : Kw) (nm : List UInt8) (i : Nat) (x : List UInt8) : List UInt8 := (if (k = .let_ ∧ i = 0) ∨ (k = .loop ∧ i = 1) then 32 :: nm else []) ++ (32 :: x)
def joinT (k : Kw) (nm : List UInt8) : Nat → List (List UInt8) → List UInt8
 | _, [] => []
 | i, x :: r => pieceT k nm i x ++ joinT k nm (i + 1) r
theorem joinT_snoc (k : Kw) (nm : List UInt8) (x : List UInt8) : ∀ (l : List (List UInt8)) (i : Nat), joinT k nm i (l ++ [x]) = joinT k nm i l ++ pieceT k nm (i + l.length) x
 | [], i => by simp [joinT]
 | y :: r, i => by
  simp only [List.cons_append, joinT, joinT_snoc k nm x r (i + 1), List.append_assoc, List.length_cons]
  rw [show i + 1 + r.length = i + (r.length + 1) from by omega]
mutual
def PT.ptx : PT → List UInt8
 | .num _ s => decDigits (valueL s).toNat
 | .name _ s => s
 | .node _ k nm _ kids => if k = .new then (ptxL kids).headD [] else 40 :: (k.bytes ++ (joinT k nm 0 (ptxL kids) ++ [41]))
def ptxL : List PT → List (List UInt8)
 | [] => []
 | t :: r => t.ptx :: ptxL r
end
theorem ptxL_len : ∀ ts : List PT, (ptxL ts).length = ts.length
 | [] => rfl
 | _ :: r => by simp [ptxL, ptxL_len r]
mutual
def PT.tame : PT → Prop
 | .num _ s => 0 ≤ valueL s ∧ valueL s ≤ 9999
 | .name _ s => s.length ≤ 9000
 | .node _ _ nm _ kids => nm.length ≤ 9000 ∧ tameL kids
def tameL : List PT → Prop
 | [] => True
 | t :: r => t.tame ∧ tameL r
end
theorem dec_len4 (u : Nat) (h : u ≤ 9999) : (decDigits u).length ≤ 4 := by
 rw [Go.Lib.decDigits]; split
 ·simp
 ·rw [Go.Lib.decDigits]; split
  ·simp
  ·rw [Go.Lib.decDigits]; split
   ·simp
   ·rw [Go.Lib.decDigits]; split
    ·simp
    ·omega
theorem pieceT_len (k : Kw) (nm : List UInt8) (i : Nat) (x : List UInt8) (h : nm.length ≤ 9000) : (pieceT k nm i x).length ≤ 9002 + x.length := by
 unfold pieceT; split <;> simp <;> omega
mutual
theorem ptx_len : ∀ t : PT, t.tame → t.ptx.length + 9002 ≤ 20000 * t.cnt
 | .num _ s, h => by
  simp only [PT.tame] at h
  simp only [PT.ptx, PT.cnt]
  have := dec_len4 (valueL s).toNat (by omega)
  omega
 | .name _ s, h => by simp only [PT.tame] at h; simp only [PT.ptx, PT.cnt]; omega
 | .node _ k nm _ kids, h => by
  simp only [PT.tame] at h
  have h1 := joinT_len k nm kids 0 h.1 h.2
  have h2 := ptxL_head kids h.2
  have h3 : k.bytes.length ≤ 4 := by cases k <;> decide
  simp only [PT.ptx, PT.cnt]
  split
  ·omega
  ·simp only [List.length_cons, List.length_append, List.length_nil]; omega
theorem joinT_len (k : Kw) (nm : List UInt8) : ∀ (ts : List PT) (i : Nat), nm.length ≤ 9000 → tameL ts → (joinT k nm i (ptxL ts)).length ≤ 20000 * cntL ts
 | [], _, _, _ => by simp [ptxL, joinT]
 | t :: r, i, h, ht => by
  simp only [tameL] at ht
  have h1 := ptx_len t ht.1
  have h2 := joinT_len k nm r (i + 1) h ht.2
  have h3 := pieceT_len k nm i t.ptx h
  simp only [ptxL, joinT, List.length_append, cntL]
  omega
theorem ptxL_head : ∀ ts : List PT, tameL ts → ((ptxL ts).headD []).length ≤ 20000 * cntL ts
 | [], _ => by simp [ptxL]
 | t :: r, ht => by
  simp only [tameL] at ht
  have h1 := ptx_len t ht.1
  simp only [ptxL, List.headD_cons, cntL]; omega
end
open Go.RowKit Go.Shelf Go.Sort
def ItoaOk (w0 : World) : Prop := ∀ (n : Nat) (w : World), n ≤ 9999 → Below w0.heap.size w0 w → Calls Tryz.prog 49 #[.int .i64 n] w fun e w' => e = .returned (.string (bs (decDigits n))) ∧ Below w.heap.size w w'
shelf_lay LaysM.n171 Nm 171 at Tryz as Tryz.laysM171
theorem itoa_ok (w0 : World) (htab : Lib.TabIs Tryz.prog w0 "internal/strconv.uint64pow10" .u64 Lib.pow10Tab) : ItoaOk w0 := by
 intro n w hn hb
 refine (Any.strconv_Itoa Tryz.laysM171 (n : Int) (by omega) (by omega) w (Lib.tabBelow_of_tabIs htab w hb)).mono ?_
 rintro e w' ⟨rfl, k, os, rfl⟩
 refine ⟨?_, Lib.below_grow _ _ (Nat.le_refl _) k os⟩
 have e1 : Lib.itoa (n : Int) = decDigits n := by
  unfold Lib.itoa; rw [if_neg (by omega)]; rfl
 rw [e1]; rfl
theorem node_kid {w0 : World} {F : Nat → Prop} {p : Nat} {k : Kw} {nm rg : List UInt8} {kids : List PT} {id site b : Nat} (hT : IsT w0 F (.node p k nm rg kids) id site b) :
  ∃ va vc, (w0.cell? ⟨b, 0, none⟩ = some (.string (bs k.bytes)) ∧ w0.cell? ⟨b, 2, none⟩ = some (.string (bs nm)) ∧ w0.cell? ⟨b, 4, none⟩ = some (.slice va kids.length vc)) ∧ b < w0.heap.size ∧
   ∀ j x, kids[j]? = some x → ∃ gk bx id' site', va = some ⟨gk, 0, none⟩ ∧ gk < w0.heap.size ∧ w0.cell? ⟨gk, j, none⟩ = some (ptr bx) ∧ IsT w0 F x id' site' bx := by
 simp only [IsT] at hT
 obtain ⟨hFb, kv, bl, hb, hF, hkv, hts⟩ := hT
 obtain ⟨va, vc, hvk⟩ : ∃ va vc, kv = .slice va kids.length vc := by
  rcases hkv.2 with ⟨h, h'⟩ | ⟨g, cap, cur, h, _⟩
  ·exact ⟨none, 0, by rw [h, h']⟩
  ·exact ⟨_, _, h⟩
 have hbw := blk_lt hb
 refine ⟨va, vc, ⟨by rw [blk_cell hb]; rfl, by rw [blk_cell hb]; rfl, by rw [blk_cell hb, ← hvk]; rfl⟩, hbw, ?_⟩
 intro j x hx
 obtain ⟨bx, hbx, hTx⟩ := IsTs.at _ _ _ _ hts j x hx
 have hlt : j < kids.length := (List.getElem?_eq_some_iff.1 hx).1
 obtain ⟨gk, hgk⟩ : ∃ gk, va = some ⟨gk, 0, none⟩ := by
  have h := hkv.2
  rw [hvk] at h
  rcases h with ⟨h, h'⟩ | ⟨g, cap, cur, h, _⟩
  ·omega
  ·simp only [Value.slice.injEq] at h; exact ⟨_, h.1⟩
 have hkc : w0.cell? ⟨gk, j, none⟩ = some (ptr bx) := by
  have h : w0.ownsRow 0 63 1 (.slice (some ⟨gk, 0, none⟩) kids.length vc) kids.length (bl.map ptr) := by rw [← hgk, ← hvk]; exact hkv
  rw [h.cellAt j (by omega)]; simp [hbx]
 exact ⟨gk, bx, _, _, hgk, World.block_lt_of_cell? _ _ hkc, hkc, hTx⟩
end Go.Proofs.YtpicaknklgccoaaGreatDoor
