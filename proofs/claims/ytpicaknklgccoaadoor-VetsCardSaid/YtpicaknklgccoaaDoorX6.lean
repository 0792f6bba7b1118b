import Derived.Test.YtpicaknklgccoaaDoorX5
namespace Go.Proofs.YtpicaknklgccoaaDoor
open Go.RowKit
def kidsF (cls : List Nat) (k : Kw) (p : Nat) (kids : List PT) (id site : Nat) (env : TEnv) (st : TSt) : Ty × TSt :=
 if (tyKids cls kids (id + 1) (site + if k = .pair then 1 else 0) env st).2.e ≠ 0 then (.n, (tyKids cls kids (id + 1) (site + if k = .pair then 1 else 0) env st).2)
 else madeT cls k p site (tyKids cls kids (id + 1) (site + if k = .pair then 1 else 0) env st).1 (tyKids cls kids (id + 1) (site + if k = .pair then 1 else 0) env st).2
def kArr (ks : List Ty) : Array Value := #[.string (bs (kt ks 0)), .string (bs (kt ks 1)), .string (bs (kt ks 2))]
theorem prsL_take (ts : List PT) (i : Nat) : prsL (ts.take i) ≤ prsL ts := by
 induction ts generalizing i with
 | nil => simp
 | cons a r ih => cases i with
  | zero => simp [prsL]
  | succ i => have := ih i; simp [prsL]; omega
theorem errS_of (st : TSt) (e p : Nat) : (errS st e p).of = st.of := by unfold errS; split <;> rfl
theorem madeT_of (cls : List Nat) (k : Kw) (p site : Nat) (ks : List Ty) (st : TSt) : (madeT cls k p site ks st).2.of = st.of := by
 unfold madeT
 split <;> first | rfl | (split <;> first | rfl | exact errS_of _ _ _) | exact errS_of _ _ _
theorem kt_snoc (ks : List Ty) (t : Ty) (i : Nat) : kt (ks ++ [t]) i = if i = ks.length then t.txt else kt ks i := by
 unfold kt
 by_cases h : i = ks.length
 ·subst h; simp
 ·rw [if_neg h]
  rcases Nat.lt_or_ge i ks.length with h1 | h1
  ·rw [List.getElem?_append_left h1]
  ·rw [List.getElem?_eq_none (by simp; omega), List.getElem?_eq_none h1]
theorem kArr_snoc (ks : List Ty) (t : Ty) : (kArr ks).setIfInBounds ks.length (.string (bs t.txt)) = kArr (ks ++ [t]) := by
 unfold kArr
 rw [kt_snoc, kt_snoc, kt_snoc]
 match h : ks.length with
 | 0 => simp
 | 1 => simp
 | 2 => simp
 | n + 3 => simp
theorem TyIn.other {w0 w W : World} {yb g o : Nat} {x : Value} {cls : List Nat} {cv nv tv ov : Value} {env : TEnv} {st : TSt} (h : TyIn w0 w yb cls cv nv tv ov env st) (hg : w0.heap.size ≤ g) (hy : g ≠ yb) (hc : cv.ownBlock ≠ some g) (hn : nv.ownBlock ≠ some g) (ht : tv.ownBlock ≠ some g) (ho : ov.ownBlock ≠ some g)
  (hW : W = w.setCell ⟨g, o, none⟩ x) : TyIn w0 W yb cls cv nv tv ov env st := by
 subst hW
 have oth : ∀ b, b ≠ g → (w.setCell ⟨g, o, none⟩ x).heap[b]? = w.heap[b]? := fun b hb => blk_other _ _ (by simpa using hb)
 have keep : ∀ (v : Value) (base : Nat) (ty : TypeId) (n : Nat) (xs : List Value), w.ownsRow base ty 1 v n xs → v.ownBlock ≠ some g → (w.setCell ⟨g, o, none⟩ x).ownsRow base ty 1 v n xs :=
  fun v base ty n xs hv h1 => owns_blk hv (fun k hk => oth k (fun e => h1 (by rw [← e]; exact hk)))
 exact ⟨h.b0.setCell (p := ⟨g, o, none⟩) hg _, h.hyb, by rw [oth yb (fun e => hy e.symm)]; exact h.y, keep _ _ _ _ _ h.c hc, keep _ _ _ _ _ h.n hn, keep _ _ _ _ _ h.t ht, keep _ _ _ _ _ h.o ho, h.cy, h.ny, h.ty, h.oy, h.cn, h.ct, h.co, h.nt, h.no, h.tov⟩
set_option maxRecDepth 100000 in
set_option maxHeartbeats 4000000 in
theorem form_kids {w0 : World} {yb : Nat} {cls : List Nat} (p : Nat) (k : Kw) (nm rg : List UInt8) (kids : List PT) (hit : ItFor w0 cls) (hcl : cls.length ≤ 9000) (hk1 : k ≠ .let_) (hk2 : k ≠ .loop) (har : kids.length = arity k)
  (hf : ∀ x ∈ kids, FindOk w0 yb cls x) : FormOk w0 yb cls (.node p k nm rg kids) (fun id site env st => kidsF cls k p kids id site env st) := by
 intro id site b F env st cv nv tv ov w hT hin hid hsite hs1 hs2 henv
 simp only [IsT] at hT
 obtain ⟨hFb, kv, bl, hblk, hF, hkv, hts⟩ := hT
 have hb := blk_lt hblk
 have hw0 := hin.b0.size
 have hbw : b < w.heap.size := by omega
 have hne : b ≠ yb := by have := hin.hyb; omega
 have hka : kids.length ≤ 3 := by rw [har]; cases k <;> decide
 have hkp : 0 < kids.length := by rw [har]; cases k <;> decide
 obtain ⟨gk, kc, hvk⟩ : ∃ gk kc, kv = .slice (some ⟨gk, 0, none⟩) kids.length kc := by
  rcases hkv.2 with ⟨_, h'⟩ | ⟨g, cap, cur, h, _⟩
  ·omega
  ·exact ⟨_, _, h⟩
 subst hvk
 have hbx : w.heap[b]? = some (.cells (exCells k.bytes p nm (valueL rg) (.slice (some ⟨gk, 0, none⟩) kids.length kc) id (id + cntL kids) site) 52 (0, 0)) := by rw [hin.b0.block b hb]; exact hblk
 have x0 : w.cell? ⟨b, 0, none⟩ = some (.string (bs k.bytes)) := by rw [blk_cell hbx]; rfl
 have q0 : ((bs k.bytes).toList == [110, 117, 109, 98, 101, 114]) = false := by rw [bs_beq0]; cases k <;> decide
 have q1 : ((bs k.bytes).toList == [110, 97, 109, 101]) = false := by rw [bs_beq0]; cases k <;> decide
 have q2 : ((bs k.bytes).toList == [108, 101, 116]) = false := by rw [bs_beq0]; cases k <;> first | decide | exact absurd rfl hk1
 have q3 : ((bs k.bytes).toList == [108, 111, 111, 112]) = false := by rw [bs_beq0]; cases k <;> first | decide | exact absurd rfl hk2
 have HBLK : Hid _ := hblk
 have HIN : Hid _ := hin
 have HKV : Hid (w0.ownsRow 0 39 1 (.slice (some ⟨gk, 0, none⟩) kids.length kc) kids.length (bl.map ptr)) := hkv
 have HTS : Hid _ := hts
 have hyb := hin.hyb
 simp only [PT.cnt, PT.prs] at hid hsite henv
 have HEN : Hid (envOk env st) := ⟨hs1, hs2⟩
 clear hblk hin hkv hts hbx hFb hF hs1 hs2
 show Calls _ _ #[Value.pointer (some ⟨yb, 0, none⟩), Value.pointer (some ⟨b, 0, none⟩)] w _
 obtain ⟨s1, hs1⟩ : ∃ s1, s1 = site + if k = .pair then 1 else 0 := ⟨_, rfl⟩
 have hs1c : s1 + prsL kids ≤ cls.length := by rw [hs1]; omega
 have hsp : k = .pair → site < cls.length := by intro h; rw [if_pos h] at hsite; omega
 have hkf : kidsF cls k p kids id site env st = if (tyKids cls kids (id + 1) s1 env st).2.e ≠ 0 then (.n, (tyKids cls kids (id + 1) s1 env st).2) else madeT cls k p site (tyKids cls kids (id + 1) s1 env st).1 (tyKids cls kids (id + 1) s1 env st).2 := by rw [hs1]; rfl
 have HTS1 : Hid (IsTs w0 F kids (id + 1) s1 bl) := by rw [hs1]; exact HTS.out
 have HKF : Hid _ := hkf
 have HSP : Hid _ := hsp
 have HLT : Hid ((∀ g, nv.ownBlock = some g → g < w.heap.size) ∧ (∀ g, tv.ownBlock = some g → g < w.heap.size) ∧ (∀ g, ov.ownBlock = some g → g < w.heap.size) ∧ (∀ g, cv.ownBlock = some g → g < w.heap.size) ∧ yb < w.heap.size) :=
  ⟨fun g hg => (HIN.out.n.lt g hg).2, fun g hg => (HIN.out.t.lt g hg).2, fun g hg => (HIN.out.o.lt g hg).2, fun g hg => (HIN.out.c.lt g hg).2, blk_lt HIN.out.y⟩
 have hyw : yb < w.heap.size := HLT.out.2.2.2.2
 clear hs1 hkf hsp hsite
 go_enter Tryd.func63, Tryd.ntmps63
 go_wp2
 go_loopw [7] (fun i wr => ∃ (j : Nat) (nv' tv' : Value) (ks : List Ty) (st' : TSt), j ≤ kids.length ∧ i = .int .i64 j ∧ tyKids cls (kids.take j) (id + 1) s1 env st = (ks, st') ∧
   TyIn w0 wr yb cls cv nv' tv' ov env st' ∧ Fr w wr yb nv tv ov nv' tv' ∧ nv'.ownBlock ≠ some w.heap.size ∧ tv'.ownBlock ≠ some w.heap.size ∧
   wr.heap[w.heap.size]? = some (.cells (kArr ks) 128 (0, 0))) (fun i _ => kids.length - (intOf i).toNat)
 case atStart =>
  refine ⟨0, nv, tv, [], st, by omega, rfl, by simp [tyKids], ?_, ?_, ?_, ?_, ?_⟩
  ·exact HIN.out.grow ((Below.refl _ _).alloc (Nat.le_refl _) _)
  ·exact Fr.below ((Below.refl _ _).alloc (Nat.le_refl _) _) _ _ _ _
  ·intro e; have := HLT.out.1 _ e; omega
  ·intro e; have := HLT.out.2.1 _ e; omega
  ·exact blk_new _ _
 case round =>
  obtain ⟨j, nv', tv', ks, st', hj, rfl, hty, hin', hfr, hnab, htab, hka'⟩ := hrel
  have hbr : wr.heap[b]? = some (.cells (exCells k.bytes p nm (valueL rg) (.slice (some ⟨gk, 0, none⟩) kids.length kc) id (id + cntL kids) site) 52 (0, 0)) := by rw [hin'.b0.block b hb]; exact HBLK.out
  have x4 : wr.cell? ⟨b, 4, none⟩ = some (.slice (some ⟨gk, 0, none⟩) kids.length kc) := by rw [blk_cell hbr]; rfl
  have y4 : wr.cell? ⟨yb, 4, none⟩ = some (.int .i64 (st'.e : Nat)) := by rw [blk_cell hin'.y]; rfl
  have hok := tyKids_ok cls hit.1 (kids.take j) (id + 1) s1 env st HEN.out
  rw [hty] at hok
  have hlk : ks.length = j := by have := tyKids_len cls (kids.take j) (id + 1) s1 env st; rw [hty] at this; simp only at this; rw [this]; simp; omega
  have HTY : Hid _ := hty
  have HINr : Hid (TyIn w0 wr yb cls cv nv' tv' ov env st') := hin'
  have HFR : Hid (Fr w wr yb nv tv ov nv' tv') := hfr
  have HOK : Hid _ := hok
  have HKA : Hid _ := hka'
  have hab := blk_lt hka'
  have HNT : Hid (nv'.ownBlock ≠ some w.heap.size ∧ tv'.ownBlock ≠ some w.heap.size) := ⟨hnab, htab⟩
  have HBR : Hid _ := hbr
  by_cases hlt : j < kids.length
  ·obtain ⟨x, hx⟩ : ∃ x, kids[j]? = some x := ⟨kids[j], List.getElem?_eq_getElem hlt⟩
   obtain ⟨bx, hbx, hTx⟩ := IsTs.at _ _ _ _ HTS1.out j x hx
   have hkc : w0.cell? ⟨gk, j, none⟩ = some (ptr bx) := by rw [HKV.out.cellAt j (by omega)]; simp [hbx]
   have hgkw : gk < w0.heap.size := World.block_lt_of_cell? _ _ hkc
   have hkcr : wr.cell? ⟨gk, j, none⟩ = some (.pointer (some ⟨bx, 0, none⟩)) := (hin'.b0.cell (p := ⟨gk, j, none⟩) hgkw).trans hkc
   have htk : kids.take (j + 1) = kids.take j ++ [x] := by rw [List.take_add_one, hx]; rfl
   have hct : cntL (kids.take j) + x.cnt ≤ cntL kids := by have h := cntL_take kids (j + 1); rw [htk, cntL_snoc] at h; exact h
   have hpt : prsL (kids.take j) + x.prs ≤ prsL kids := by have h := prsL_take kids (j + 1); rw [htk, prsL_snoc] at h; exact h
   have hsn := tyKids_snoc cls (kids.take j) x (id + 1) s1 env st
   rw [← htk, hty] at hsn
   have HSN : Hid _ := hsn
   have hofl : st'.of.length = st.of.length := hok.2.2
   have heo : envOk env st' := HEN.out.on (fun h0 => (hok.2.1 h0).1)
   have hfo := hf x (List.mem_of_getElem? hx) (id + 1 + cntL (kids.take j)) (s1 + prsL (kids.take j)) bx F env st' cv nv' tv' ov wr hTx hin' (by omega) (by omega) heo.1 heo.2 (by omega)
   unfold ptr at hfo
   obtain ⟨R, hR⟩ : ∃ R, R = tyFind cls x (id + 1 + cntL (kids.take j)) (s1 + prsL (kids.take j)) env st' := ⟨_, rfl⟩
   rw [← hR] at hfo
   have hsn2 := HSN.out
   simp only at hsn2
   rw [← hR] at hsn2
   have HSN2 : Hid (tyKids cls (kids.take (j + 1)) (id + 1) s1 env st = (ks ++ [R.1], R.2)) := hsn2
   clear hsn hsn2 HSN hR hin' hfr hka' hty hok hofl heo hbr hbx hTx hkc htk hct hpt hx y4 hnab htab
   go_wp2_with fail
   refine hfo.mono ?_
   rintro e w2 ⟨rfl, nv2, tv2, hfr2, hin2⟩
   have hsz2 := hfr2.size
   have hn2 : nv2.ownBlock ≠ some w.heap.size := by
    intro e
    rcases hfr2.n _ e with e | e
    ·exact HNT.out.1 e
    ·omega
   have ht2 : tv2.ownBlock ≠ some w.heap.size := by
    intro e
    rcases hfr2.t _ e with e | e
    ·exact HNT.out.2 e
    ·omega
   have ho2 : ov.ownBlock ≠ some w.heap.size := fun e => by have := HLT.out.2.2.1 _ e; omega
   have hc2 : cv.ownBlock ≠ some w.heap.size := fun e => by have := HLT.out.2.2.2.1 _ e; omega
   have hka2 : w2.heap[w.heap.size]? = some (.cells (kArr ks) 128 (0, 0)) := by
    rw [hfr2.blk _ hab (by omega) HNT.out.1 HNT.out.2 ho2]; exact HKA.out
   obtain ⟨ov0, hov0⟩ : ∃ ov0, w2.cell? ⟨w.heap.size, j, none⟩ = some ov0 := by
    rw [blk_cell hka2]
    match j, (by omega : j < 3) with
    | 0, _ => exact ⟨_, rfl⟩
    | 1, _ => exact ⟨_, rfl⟩
    | 2, _ => exact ⟨_, rfl⟩
   have hfz : w2.frozen? ⟨w.heap.size, j, none⟩ = false := blk_free hka2 j
   have hWin := TyIn.other (W := w2.setCell ⟨w.heap.size, j, none⟩ (.string (bs R.1.txt))) hin2 hw0 (by omega) hc2 hn2 ht2 ho2 rfl
   have hWfr : Fr w (w2.setCell ⟨w.heap.size, j, none⟩ (.string (bs R.1.txt))) yb nv tv ov nv2 tv2 := by
    have h := HFR.out.trans hfr2
    refine ⟨by have := h.size; simp [World.setCell]; exact this, ?_, h.n, h.t⟩
    intro q hq hy hn ht ho
    rw [blk_other _ _ (by simp only; omega)]
    exact h.blk q hq hy hn ht ho
   have hWka : (w2.setCell ⟨w.heap.size, j, none⟩ (.string (bs R.1.txt))).heap[w.heap.size]? = some (.cells (kArr (ks ++ [R.1])) 128 (0, 0)) := by
    have h := blk_set hka2 j (.string (bs R.1.txt))
    rw [← kArr_snoc, hlk]; exact h
   have HW : Hid _ := And.intro hWin (And.intro hWfr hWka)
   have HN2 : Hid (nv2.ownBlock ≠ some w.heap.size ∧ tv2.ownBlock ≠ some w.heap.size) := ⟨hn2, ht2⟩
   clear hWin hWfr hWka hka2 hin2 hfr2 hn2 ht2 ho2 hc2 hfo
   go_wp2
   go_roundw
   case rel => exact ⟨j + 1, nv2, tv2, ks ++ [R.1], R.2, by omega, by go_num, HSN2.out, HW.out.1, HW.out.2.1, HN2.out.1, HN2.out.2, HW.out.2.2⟩
   case measure => simp [intOf]; omega
  ·have hjl : kids.take j = kids := by rw [List.take_of_length_le (by omega)]
   rw [hjl] at hty
   have hkf := HKF.out
   rw [hty] at hkf
   simp only at hkf
   have HKF2 : Hid (kidsF cls k p kids id site env st = if st'.e ≠ 0 then (.n, st') else madeT cls k p site ks st') := hkf
   have a0 : wr.cell? ⟨w.heap.size, 0, none⟩ = some (.string (bs (kt ks 0))) := by rw [blk_cell hka']; rfl
   have a1 : wr.cell? ⟨w.heap.size, 1, none⟩ = some (.string (bs (kt ks 1))) := by rw [blk_cell hka']; rfl
   have a2 : wr.cell? ⟨w.heap.size, 2, none⟩ = some (.string (bs (kt ks 2))) := by rw [blk_cell hka']; rfl
   by_cases h0 : st'.e = 0
   ·have hmd := made_any wr yb b cls cv nv' tv' ov _ st' nm p (valueL rg) id (id + cntL kids) site w0.heap.size k ks hne h0 hin'.y hbr hin'.c hcl hit.1 (fun x hx w' hb => hit.2 x hx w' (hin'.b0.trans (hb.mono hin'.b0.size))) HSP.out hk1 (by omega) hok.1
    unfold ptr at hmd
    have y40 : wr.cell? ⟨yb, 4, none⟩ = some (.int .i64 0) := by rw [y4, h0]; rfl
    have HFIN : Hid (kidsF cls k p kids id site env st = madeT cls k p site ks st') := by rw [HKF2.out, if_neg (by simpa using h0)]; rfl
    clear y4 h0 hin' hfr hka' hty hok hbr hkf hnab htab hjl
    go_wp2_with (go_at_call 78; refine hmd.mono ?_; rintro e w2 ⟨rfl, hg2, hy2⟩)
    go_ret
    rw [HFIN.out]
    refine ⟨rfl, nv', tv', HFR.out.trans (Fr.grown hg2 _ _ _), ?_⟩
    have h := HINr.out.err hg2 hy2
    have hof : (madeT cls k p site ks st').2.of = st'.of := madeT_of _ _ _ _ _ _
    rw [← hof] at h
    exact h
   ·have h0' : ((st'.e : Int) != 0) = true := by rw [bne_iff_ne]; omega
    have HFIN : Hid (kidsF cls k p kids id site env st = (.n, st')) := by rw [HKF2.out, if_pos h0]; rfl
    clear h0 hin' hfr hka' hty hok hbr hkf hnab htab hjl
    go_wp2
    go_ret
    rw [HFIN.out]
    exact ⟨rfl, nv', tv', HFR.out, HINr.out⟩
end Go.Proofs.YtpicaknklgccoaaDoor
