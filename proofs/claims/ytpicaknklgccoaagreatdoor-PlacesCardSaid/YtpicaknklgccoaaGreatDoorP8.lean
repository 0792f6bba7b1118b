import Derived.Test.YtpicaknklgccoaaGreatDoorP7
namespace Go.Proofs.YtpicaknklgccoaaGreatDoor
open Go.RowKit
def Rec.isPair (r : Rec) : Bool := r.op == Kw.pair.bytes
mutual
def PT.prl : PT → List (Nat × List UInt8)
 | .num _ _ => []
 | .name _ _ => []
 | .node p k _ rg kids => (if k = .pair then [(p, rg)] else []) ++ prlL kids
def prlL : List PT → List (Nat × List UInt8)
 | [] => []
 | t :: r => t.prl ++ prlL r
end
mutual
theorem prl_len : ∀ t : PT, t.prl.length = t.prs
 | .num _ _ => rfl
 | .name _ _ => rfl
 | .node _ k _ _ kids => by simp only [PT.prl, PT.prs, List.length_append, prlL_len kids]; split <;> rfl
theorem prlL_len : ∀ ts : List PT, (prlL ts).length = prsL ts
 | [] => rfl
 | t :: r => by simp only [prlL, prsL, List.length_append, prl_len t, prlL_len r]
end
mutual
theorem prs_cnt : ∀ t : PT, t.prs ≤ t.cnt
 | .num _ _ => by simp [PT.prs]
 | .name _ _ => by simp [PT.prs]
 | .node _ k _ _ kids => by have := prsL_cnt kids; simp only [PT.prs, PT.cnt]; split <;> omega
theorem prsL_cnt : ∀ ts : List PT, prsL ts ≤ cntL ts
 | [] => by simp [prsL]
 | t :: r => by have := prs_cnt t; have := prsL_cnt r; simp only [prsL, cntL]; omega
end
def cntP (rl : List Rec) : Nat := (rl.filter Rec.isPair).length
theorem cntP_append (a b : List Rec) : cntP (a ++ b) = cntP a + cntP b := by simp [cntP]
theorem kw_pair (k : Kw) : (k.bytes == Kw.pair.bytes) = decide (k = .pair) := by cases k <;> decide
mutual
theorem recs_pairs : ∀ (t : PT) (id site : Nat), cntP (t.recs id site) = t.prs ∧ (∀ r ∈ t.recs id site, r.isPair = true → site ≤ r.site ∧ r.site < site + t.prs ∧ ∃ rg, t.prl[r.site - site]? = some (r.p, rg) ∧ r.n = valueL rg) ∧ (∀ s, site ≤ s → s < site + t.prs → ∃ r ∈ t.recs id site, r.isPair = true ∧ r.site = s)
 | .num p s, id, site => by
  refine ⟨rfl, ?_, ?_⟩
  ·intro r hr hp; simp only [PT.recs, List.mem_singleton] at hr; subst hr; simp [Rec.isPair, numB, Kw.bytes] at hp
  ·intro s h1 h2; simp [PT.prs] at h2; omega
 | .name p s, id, site => by
  refine ⟨rfl, ?_, ?_⟩
  ·intro r hr hp; simp only [PT.recs, List.mem_singleton] at hr; subst hr; simp [Rec.isPair, nameB, Kw.bytes] at hp
  ·intro s h1 h2; simp [PT.prs] at h2; omega
 | .node p k nm rg kids, id, site => by
  obtain ⟨h1, h2, h3⟩ := recsL_pairs kids (id + 1) (site + if k = .pair then 1 else 0)
  have hself : (Rec.isPair ⟨k.bytes, p, nm, valueL rg, id, id + cntL kids, site⟩) = decide (k = .pair) := kw_pair k
  refine ⟨?_, ?_, ?_⟩
  ·simp only [PT.recs, PT.prs, cntP_append, h1]
   have : cntP [⟨k.bytes, p, nm, valueL rg, id, id + cntL kids, site⟩] = if k = .pair then 1 else 0 := by
    unfold cntP; rw [List.filter_cons, hself]; by_cases hk : k = .pair <;> simp [hk]
   omega
  ·intro r hr hp
   simp only [PT.recs, List.mem_append, List.mem_singleton] at hr
   rcases hr with hr | hr
   ·obtain ⟨a, b, rg', c, d⟩ := h2 r hr hp
    simp only [PT.prl, PT.prs]
    by_cases hk : k = .pair
    ·rw [if_pos hk] at a b c ⊢
     rw [if_pos hk]
     refine ⟨by omega, by omega, rg', ?_, d⟩
     rw [show r.site - site = (r.site - (site + 1)) + 1 from by omega]
     simpa using c
    ·rw [if_neg hk] at a b c ⊢
     rw [if_neg hk]
     exact ⟨by omega, by omega, rg', by simpa using c, d⟩
   ·subst hr
    rw [hself] at hp
    have hk : k = .pair := by simpa using hp
    simp only [PT.prl, PT.prs, if_pos hk]
    exact ⟨by omega, by omega, rg, by simp, rfl⟩
  ·intro s hs1 hs2
   simp only [PT.prs] at hs2
   by_cases hk : k = .pair
   ·rw [if_pos hk] at h3 hs2
    by_cases hs : s = site
    ·refine ⟨⟨k.bytes, p, nm, valueL rg, id, id + cntL kids, site⟩, by simp [PT.recs], ?_, hs.symm⟩
     rw [hself]; simpa using hk
    ·obtain ⟨r, hr, hp, he⟩ := h3 s (by omega) (by omega)
     exact ⟨r, by simp only [PT.recs, if_pos hk, List.mem_append]; exact Or.inl hr, hp, he⟩
   ·rw [if_neg hk] at h3 hs2
    obtain ⟨r, hr, hp, he⟩ := h3 s (by omega) (by omega)
    exact ⟨r, by simp only [PT.recs, if_neg hk, List.mem_append]; exact Or.inl hr, hp, he⟩
theorem recsL_pairs : ∀ (ts : List PT) (id site : Nat), cntP (recsL ts id site) = prsL ts ∧ (∀ r ∈ recsL ts id site, r.isPair = true → site ≤ r.site ∧ r.site < site + prsL ts ∧ ∃ rg, (prlL ts)[r.site - site]? = some (r.p, rg) ∧ r.n = valueL rg) ∧ (∀ s, site ≤ s → s < site + prsL ts → ∃ r ∈ recsL ts id site, r.isPair = true ∧ r.site = s)
 | [], _, _ => by
  refine ⟨rfl, ?_, ?_⟩
  ·intro r hr; simp [recsL] at hr
  ·intro s h1 h2; simp [prsL] at h2; omega
 | t :: ts, id, site => by
  obtain ⟨h1, h2, h3⟩ := recs_pairs t id site
  obtain ⟨k1, k2, k3⟩ := recsL_pairs ts (id + t.cnt) (site + t.prs)
  have hl := prl_len t
  refine ⟨by simp only [recsL, prsL, cntP_append, h1, k1], ?_, ?_⟩
  ·intro r hr hp
   simp only [recsL, List.mem_append] at hr
   simp only [prlL, prsL]
   rcases hr with hr | hr
   ·obtain ⟨a, b, rg', c, d⟩ := h2 r hr hp
    exact ⟨a, by omega, rg', by rw [List.getElem?_append_left (by omega)]; exact c, d⟩
   ·obtain ⟨a, b, rg', c, d⟩ := k2 r hr hp
    refine ⟨by omega, by omega, rg', ?_, d⟩
    rw [List.getElem?_append_right (by omega), hl, show r.site - site - t.prs = r.site - (site + t.prs) from by omega]; exact c
  ·intro s hs1 hs2
   simp only [prsL] at hs2
   by_cases hs : s < site + t.prs
   ·obtain ⟨r, hr, hp, he⟩ := h3 s hs1 hs
    exact ⟨r, by simp only [recsL, List.mem_append]; exact Or.inl hr, hp, he⟩
   ·obtain ⟨r, hr, hp, he⟩ := k3 s (by omega) (by omega)
    exact ⟨r, by simp only [recsL, List.mem_append]; exact Or.inr hr, hp, he⟩
end
def fillP : List Nat → List Rec → List Value → List Value
 | b :: bl, r :: rl, out => fillP bl rl (if r.isPair then out.set r.site (ptr b) else out)
 | _, _, out => out
theorem fillP_at {w : World} {P : Rec → Prop} : ∀ (bl : List Nat) (rl : List Rec) (out : List Value) (s : Nat), areRecs w bl rl → (∀ r ∈ rl, P r) → s < out.length →
  ((∃ r ∈ rl, r.isPair = true ∧ r.site = s) ∨ (∃ b r, out[s]? = some (ptr b) ∧ isRec w b r ∧ r.isPair = true ∧ r.site = s ∧ P r)) → ∃ b r, (fillP bl rl out)[s]? = some (ptr b) ∧ isRec w b r ∧ r.isPair = true ∧ r.site = s ∧ P r
 | [], [], out, s, _, _, hs, h => by
  rcases h with ⟨r, hr, _⟩ | h
  ·simp at hr
  ·simpa [fillP] using h
 | b :: bl, r :: rl, out, s, ha, hP, hs, h => by
  simp only [fillP]
  refine fillP_at bl rl _ s ha.2 (fun r hr => hP r (List.mem_cons_of_mem _ hr)) (by split <;> simpa using hs) ?_
  by_cases hp : r.isPair = true
  ·rw [if_pos hp]
   by_cases he : r.site = s
   ·exact Or.inr ⟨b, r, by rw [he, List.getElem?_set_self hs], ha.1, hp, he, hP r List.mem_cons_self⟩
   ·rcases h with ⟨r', hr', hp', hs'⟩ | ⟨b', r', h1, h2⟩
    ·rcases List.mem_cons.1 hr' with rfl | hr'
     ·exact absurd hs' he
     ·exact Or.inl ⟨r', hr', hp', hs'⟩
    ·exact Or.inr ⟨b', r', by rw [List.getElem?_set_ne he]; exact h1, h2⟩
  ·rw [if_neg hp]
   rcases h with ⟨r', hr', hp', hs'⟩ | h
   ·rcases List.mem_cons.1 hr' with rfl | hr'
    ·exact absurd hp' hp
    ·exact Or.inl ⟨r', hr', hp', hs'⟩
   ·exact Or.inr h
 | [], _ :: _, _, _, h, _, _, _ => by simp [areRecs] at h
 | _ :: _, [], _, _, h, _, _, _ => by simp [areRecs] at h
theorem areRecs.at {w : World} : ∀ {bl : List Nat} {rl : List Rec}, areRecs w bl rl → ∀ i, i < bl.length → ∃ b r, bl[i]? = some b ∧ rl[i]? = some r ∧ isRec w b r
 | [], [], _, i, hi => by simp at hi
 | b :: bl, r :: rl, h, 0, _ => ⟨b, r, rfl, rfl, h.1⟩
 | b :: bl, r :: rl, h, i + 1, hi => by
  obtain ⟨b', r', h1, h2, h3⟩ := areRecs.at h.2 i (by simpa using hi)
  exact ⟨b', r', by simpa using h1, by simpa using h2, h3⟩
 | [], _ :: _, h, _, _ => by simp [areRecs] at h
 | _ :: _, [], h, _, _ => by simp [areRecs] at h
set_option maxRecDepth 100000 in
set_option maxHeartbeats 2000000 in
theorem pairs_any (t : PT) (b : Nat) (F : Nat → Prop) (w : World) (hcnt : t.cnt ≤ 9000) (hT : IsT w F t 0 0 b) : Calls Tryz.prog 37 #[ptr b] w fun e w' =>
  ∃ g cap vs, e = .returned (.slice (some ⟨g, 0, none⟩) t.prs cap) ∧ Below w.heap.size w w' ∧ w'.ownsRow 0 63 1 (.slice (some ⟨g, 0, none⟩) t.prs cap) t.prs vs ∧
   ∀ s, s < t.prs → ∃ b r, vs[s]? = some (ptr b) ∧ isRec w b r ∧ r.isPair = true ∧ r.site = s ∧ r ∈ t.recs 0 0 := by
 obtain ⟨i0, hi, hz0, hz1, hz2⟩ := info_parts Tryz.infoPtr
 have HI : Hid _ := hi
 have HZ0 : Hid _ := hz0
 have HZ1 : Hid _ := hz1
 have HZ2 : Hid _ := hz2
 clear hi hz1 
 have hal := all_any t 0 0 b F w hcnt hT w (Below.refl _ _)
 unfold ptr at hal
 show Calls _ _ #[Value.pointer (some ⟨b, 0, none⟩)] w _
 clear hz0 hz2
 go_enter Tryz.func37, Tryz.ntmps37
 go_wp2_with (first
  | (go_at_call 69; refine hal.mono ?_; rintro e w1 ⟨g1, cap1, bl, rfl, hb1, ho1, hr1⟩)
  | (at_make; go_must (refine wpList_make_full _ rfl (.tmp 10) (.tmp 10) 76 rfl w1.heap.size 63 i0 _ 1 Tryz.undPtrs HI.out HZ0.out HZ1.out .i64 .i64 _ _ bl.length rfl rfl rfl rfl ?m1 ?m2 ?m3 ?_)))
 case m1 => rw [HZ2.out]; have := hr1.len; rw [recs_len] at this; omega
 case m2 => have := hr1.len; rw [recs_len] at this; unfold maxLen; omega
 case m3 => omega
 intro w2 ho2 hg2
 have hL : bl.length = t.cnt := by have := hr1.len; rw [recs_len] at this; exact this
 obtain ⟨out0, hout0⟩ : ∃ out0, out0 = (madeCells #[Value.pointer none] bl.length).toList := ⟨_, rfl⟩
 have ho2l := ho2.1
 have HO2 : Hid (w2.ownsRow w1.heap.size 63 1 (.slice (some ⟨w1.heap.size, 0, none⟩) bl.length bl.length) bl.length out0) := by rw [hout0]; exact ho2
 have hol0 : out0.length = bl.length := by have := HO2.out.1; simpa using this
 have HOL : Hid (out0.length = bl.length) := hol0
 clear hol0
 have hb2 : Below w1.heap.size w1 w2 := ⟨hg2.os, hg2.tape, hg2.output, hg2.size, fun k hk => hg2.block k hk (by simp)⟩
 have HR1 : Hid _ := hr1
 have HO1 : Hid (w1.ownsRow w.heap.size 63 1 (.slice (some ⟨g1, 0, none⟩) bl.length cap1) bl.length (bl.map ptr)) := ho1
 have hs1 := hb1.size
 have hs2 := hb2.size
 have hlen : bl.length ≤ 9000 := by omega
 have hps := (recs_pairs t 0 0)
 have HPS : Hid _ := hps
 have hg1w := (ho1.lt g1 rfl).2
 have hw12 : w1.heap.size < w2.heap.size := (HO2.out.lt _ rfl).2
 clear ho2 hg2 hr1 ho1 hout0 ho2l hps
 go_wp2
 go_loopw [5, 6] (fun n i wr => ∃ (j m : Nat) (out : List Value), j ≤ bl.length ∧ i = .int .i64 j ∧ n = .int .i64 m ∧ m ≤ j ∧ wr.ownsRow w1.heap.size 63 1 (.slice (some ⟨w1.heap.size, 0, none⟩) bl.length bl.length) bl.length out ∧ Below w1.heap.size w1 wr ∧ out.length = bl.length ∧
   fillP (bl.drop j) ((t.recs 0 0).drop j) out = fillP bl (t.recs 0 0) out0 ∧ m + cntP ((t.recs 0 0).drop j) = t.prs) (fun _ i _ => bl.length - (intOf i).toNat)
 case atStart => exact ⟨0, 0, out0, by omega, rfl, rfl, by omega, HO2.out, hb2, HOL.out, by simp, by simp; exact HPS.out.1⟩
 case round =>
  obtain ⟨j, m, out, hj, rfl, rfl, hmj, hown, hbel, hol, hfill, hcp⟩ := hrel
  have HOWN : Hid (wr.ownsRow w1.heap.size 63 1 (.slice (some ⟨w1.heap.size, 0, none⟩) bl.length bl.length) bl.length out) := hown
  have HOLr : Hid _ := hol
  have HF : Hid _ := hfill
  have HCP : Hid _ := hcp
  have hbs := hbel.size
  have hwr : w1.heap.size < wr.heap.size := (HOWN.out.lt _ rfl).2
  clear hown hol hfill hcp
  by_cases hlt : j < bl.length
  ·obtain ⟨b', r, hbl, hrl, hrec⟩ := HR1.out.at j hlt
   obtain ⟨kv, hblk⟩ := hrec
   have hbw := blk_lt hblk
   have hblr : wr.heap[b']? = some (.cells (exCells r.op r.p r.nm r.n kv r.id r.last r.site) 82 (0, 0)) := by
    rw [hbel.block b' (by omega), hb1.block b' hbw]; exact hblk
   have y0 : wr.cell? ⟨b', 0, none⟩ = some (.string (bs r.op)) := by rw [blk_cell hblr]; rfl
   have y7 : wr.cell? ⟨b', 7, none⟩ = some (.int .i64 r.site) := by rw [blk_cell hblr]; rfl
   have hlc : wr.cell? ⟨g1, j, none⟩ = some (.pointer (some ⟨b', 0, none⟩)) := by
    rw [hbel.cell (p := ⟨g1, j, none⟩) hg1w, HO1.out.cellAt j (by omega)]; simp [hbl, ptr]
   have hop : ((bs r.op).toList == [112, 97, 105, 114]) = r.isPair := by rw [bs_beq]; rfl
   have hdb : bl.drop j = b' :: bl.drop (j + 1) := by
    rw [List.drop_eq_getElem_cons hlt]; rw [List.getElem?_eq_getElem hlt] at hbl; simp only [Option.some.injEq] at hbl; rw [hbl]
   have hrlt : j < (t.recs 0 0).length := by rw [recs_len]; omega
   have hdr : (t.recs 0 0).drop j = r :: (t.recs 0 0).drop (j + 1) := by
    rw [List.drop_eq_getElem_cons hrlt]; rw [List.getElem?_eq_getElem hrlt] at hrl; simp only [Option.some.injEq] at hrl; rw [hrl]
   have HF2 : Hid _ := HF.out
   have hf2 := HF.out
   rw [hdb, hdr] at hf2
   simp only [fillP] at hf2
   have hc2 := HCP.out
   rw [hdr] at hc2
   have HC2 : Hid (m + cntP (r :: (t.recs 0 0).drop (j + 1)) = t.prs) := hc2
   have HFF : Hid (fillP (bl.drop (j + 1)) ((t.recs 0 0).drop (j + 1)) (if r.isPair then out.set r.site (ptr b') else out) = fillP bl (t.recs 0 0) out0) := hf2
   have hsite : r.isPair = true → r.site < bl.length := by
    intro hp
    have h := HPS.out.2.1 r (List.mem_of_getElem? hrl) hp
    have h2 := prs_cnt t
    omega
   clear hblk hblr hbl hrl hdb hdr hf2 hc2 HF2 HF HCP
   by_cases hp : r.isPair = true
   ·have hsl := hsite hp
    rw [hp] at hop
    have hst := HOWN.out.stored r.site (ptr b')
    have HST : Hid ((wr.setCell ⟨w1.heap.size, r.site, none⟩ (ptr b')).ownsRow w1.heap.size 63 1 (.slice (some ⟨w1.heap.size, 0, none⟩) bl.length bl.length) bl.length (out.set r.site (ptr b'))) := hst.1
    have hoc : wr.cell? ⟨w1.heap.size, r.site, none⟩ = out[r.site]? := HOWN.out.cellAt r.site (by omega)
    obtain ⟨ov, hov⟩ : ∃ ov, out[r.site]? = some ov := ⟨out[r.site]'(by rw [HOLr.out]; exact hsl), List.getElem?_eq_getElem _⟩
    rw [hov] at hoc
    have hfz : wr.frozen? ⟨w1.heap.size, r.site, none⟩ = false := HOWN.out.frozenAt r.site
    have hfl := HFF.out
    rw [if_pos hp] at hfl
    have HFL : Hid _ := hfl
    have hcc := HC2.out
    have hcc2 : cntP (r :: (t.recs 0 0).drop (j + 1)) = 1 + cntP ((t.recs 0 0).drop (j + 1)) := by unfold cntP; rw [List.filter_cons, if_pos hp]; simp; omega
    rw [hcc2] at hcc
    have HCC : Hid _ := hcc
    have HPP : Hid (r.isPair = true) := hp
    clear hst hp hsite hov hfl hcc hcc2 HFF HC2
    go_wp2
    go_region
    go_wp2
    go_roundw
    case rel =>
     refine ⟨j + 1, m + 1, out.set r.site (ptr b'), by omega, by go_num, by go_num, by omega, ?_, ?_, by simp [HOLr.out], HFL.out, by have := HCC.out; omega⟩
     ·exact HST.out
     ·exact (hbel.setCell (p := ⟨w1.heap.size, r.site, none⟩) (Nat.le_refl _) _).trans ⟨rfl, rfl, rfl, Nat.le_refl _, fun _ _ => rfl⟩
    case measure => simp [intOf]; omega
   ·have hp' : r.isPair = false := by simpa using hp
    rw [hp'] at hop
    have hfl := HFF.out
    rw [if_neg hp] at hfl
    have HFL : Hid _ := hfl
    have hcc := HC2.out
    have hcc2 : cntP (r :: (t.recs 0 0).drop (j + 1)) = cntP ((t.recs 0 0).drop (j + 1)) := by unfold cntP; rw [List.filter_cons, if_neg hp]
    rw [hcc2] at hcc
    have HCC : Hid _ := hcc
    clear hp hp' hsite hfl hcc hcc2 HFF HC2
    go_wp2
    go_roundw
    case rel => exact ⟨j + 1, m, out, by omega, by go_num, rfl, by omega, HOWN.out, hbel, HOLr.out, HFL.out, HCC.out⟩
    case measure => simp [intOf]; omega
  ·have hjl : j = bl.length := by omega
   have hm : m = t.prs := by
    have := HCP.out
    rw [List.drop_eq_nil_of_le (by rw [recs_len]; omega)] at this
    simpa [cntP] using this
   have hpl := prs_cnt t
   have hmb : m ≤ bl.length := by omega
   have HM : Hid _ := hm
   have HJ : Hid _ := hjl
   clear hjl hm
   go_wp2
   go_ret
   refine ⟨w1.heap.size, bl.length, out.take t.prs, by rw [← HM.out, hL]; rfl, (hb1.trans (hbel.mono hs1)), ?_, ?_⟩
   ·have h := HOWN.out
    obtain ⟨h1, h2⟩ := h
    rcases h2 with ⟨h2, _⟩ | ⟨g, cap, cur, hv, hg, hh, hn, hcm, hcs, htake⟩
    ·cases h2
    ·refine ⟨by rw [List.length_take, HOLr.out]; omega, Or.inr ⟨w1.heap.size, bl.length, cur, rfl, Nat.zero_le _, ?_, by omega, ?_, ?_, ?_⟩⟩
     ·simp only [Value.slice.injEq, Option.some.injEq, Addr.mk.injEq] at hv
      rw [hv.1.1]; exact hh
     ·simp only [Value.slice.injEq] at hv; omega
     ·simp only [Value.slice.injEq] at hv; omega
     ·have h3 : (cur.toList.take (bl.length * 1)).take (t.prs * 1) = out.take (t.prs * 1) := by rw [htake]
      rw [List.take_take, Nat.min_eq_left (by omega)] at h3
      simpa using h3
   ·intro s hs
    have hf := HF.out
    rw [HJ.out, List.drop_length] at hf
    simp only [fillP] at hf
    obtain ⟨r0, hr0, hp0, hs0⟩ := HPS.out.2.2 s (by omega) (by omega)
    obtain ⟨b', r, h1, h2, h3, h4, h5⟩ := fillP_at (P := fun r => r ∈ t.recs 0 0) bl (t.recs 0 0) out0 s HR1.out (fun _ h => h) (by rw [HOL.out]; omega) (Or.inl ⟨r0, hr0, hp0, hs0⟩)
    rw [← hf] at h1
    exact ⟨b', r, by rw [List.getElem?_take_of_lt hs]; exact h1, h2, h3, h4, h5⟩
def Ty.has (T : Ty) (rg : Int) : Bool := T.rgl.any (fun x => (x : Int) == rg)
theorem any_step {l : List Nat} {p : Nat → Bool} {j : Nat} (hj : j < l.length) : (l.drop j).any p = (p l[j] || (l.drop (j + 1)).any p) := by
 rw [List.drop_eq_getElem_cons hj, List.any_cons]
set_option maxRecDepth 100000 in
set_option maxHeartbeats 1000000 in
theorem mentions_any (T : Ty) (hT : T.fit) (rg : Int) (w : World) : Calls Tryz.prog 72 #[.string (bs T.txt), .int .i64 rg] w fun e w' => e = .returned (.bool (T.has rg)) ∧ Below w.heap.size w w' := by
 have hre := fun w => regions_any T hT w
 have hrl : T.rgl.length ≤ 127 := by
  have h1 : ∀ T : Ty, T.rgl.length = T.size := by
   intro T; induction T with
   | n => rfl
   | p r a b iha ihb => simp only [Ty.rgl, Ty.size, List.length_cons, List.length_append, iha, ihb]
  rw [h1]; exact hT.1
 obtain ⟨ans, hans⟩ : ∃ ans, ans = T.has rg := ⟨_, rfl⟩
 rw [← hans]
 have HANS : Hid _ := hans
 clear hans hT
 unfold Ty.has at HANS
 generalize T.rgl = R at *
 go_enter Tryz.func72, Tryz.ntmps72
 go_wp2_with fail
 refine (hre _).mono ?_
 rintro _ w1 ⟨v, rfl, hown, hb⟩
 have HB : Hid _ := hb
 obtain ⟨va, vc, hv⟩ : ∃ va vc, v = .slice va R.length vc := by
  rcases hown.2 with ⟨h1, h2⟩ | ⟨g, cap, cur, h1, _⟩
  ·exact ⟨none, 0, by rw [h1, h2]⟩
  ·exact ⟨_, _, h1⟩
 have HAT : Hid (∀ j, (hj : j < R.length) → ∃ g, va = some ⟨g, 0, none⟩ ∧ g < w1.heap.size ∧ w1.cell? ⟨g, j, none⟩ = some (.int .i64 R[j])) := by
  intro j hj
  rcases hown.2 with ⟨h1, h2⟩ | ⟨g, cap, cur, h1, _⟩
  ·omega
  ·rw [hv] at h1
   simp only [Value.slice.injEq] at h1
   have hr := hown
   rw [hv, h1.1] at hr
   have hc : w1.cell? ⟨g, j, none⟩ = some (.int .i64 R[j]) := by rw [hr.cellAt j (by omega), List.getElem?_map, List.getElem?_eq_getElem hj]; rfl
   exact ⟨g, h1.1, World.block_lt_of_cell? _ _ hc, hc⟩
 subst hv
 clear hown hb hre
 go_wp2
 go_loopw [6] (fun i wr => ∃ j : Nat, w1 = wr ∧ j ≤ R.length ∧ i = .int .i64 j ∧ R.any (fun x => (x : Int) == rg) = (R.drop j).any (fun x => (x : Int) == rg)) (fun i _ => R.length - (intOf i).toNat)
 case atStart => exact ⟨0, rfl, Nat.zero_le _, rfl, rfl⟩
 case round =>
  obtain ⟨j, rfl, hj, rfl, hany⟩ := hrel
  have HA : Hid _ := hany
  clear hany
  by_cases hlt : j < R.length
  ·obtain ⟨g, hg, hgl, hc⟩ := HAT.out j hlt
   subst hg
   have hst := any_step (p := fun x => (x : Int) == rg) hlt
   obtain ⟨x, hx⟩ : ∃ x, x = R[j] := ⟨_, rfl⟩
   rw [← hx] at hc hst
   clear hx
   cases hq : ((x : Int) == rg) with
   | true =>
    have HF : Hid (ans = true) := by rw [HANS.out, HA.out, hst, hq]; exact rfl
    clear hst
    go_wp2
    go_ret
    exact ⟨by rw [HF.out]; rfl, HB.out⟩
   | false =>
    have HS : Hid ((R.drop j).any (fun x => (x : Int) == rg) = (R.drop (j + 1)).any (fun x => (x : Int) == rg)) := by rw [hst, hq]; exact rfl
    clear hst
    go_wp2
    go_roundw
    case rel => exact ⟨j + 1, by first | rfl | trivial, by omega, by go_num, by rw [HA.out, HS.out]⟩
    case measure => simp [intOf]; omega
  ·have HF : Hid (ans = false) := by rw [HANS.out, HA.out, List.drop_eq_nil_of_le (by omega)]; exact rfl
   go_wp2
   go_ret
   exact ⟨by rw [HF.out]; rfl, HB.out⟩
theorem rec_cells {w : World} {b : Nat} {r : Rec} (h : isRec w b r) : w.cell? ⟨b, 0, none⟩ = some (.string (bs r.op)) ∧ w.cell? ⟨b, 1, none⟩ = some (.int .i64 r.p) ∧ w.cell? ⟨b, 3, none⟩ = some (.int .i64 r.n) ∧ w.cell? ⟨b, 5, none⟩ = some (.int .i64 r.id) ∧ w.cell? ⟨b, 6, none⟩ = some (.int .i64 r.last) ∧ b < w.heap.size := by
 obtain ⟨kv, hb⟩ := h
 exact ⟨by rw [blk_cell hb]; rfl, by rw [blk_cell hb]; rfl, by rw [blk_cell hb]; rfl, by rw [blk_cell hb]; rfl, by rw [blk_cell hb]; rfl, blk_lt hb⟩
mutual
def PT.subs : PT → Nat → Nat → List (PT × Nat × Nat)
 | .num p s, id, site => [(.num p s, id, site)]
 | .name p s, id, site => [(.name p s, id, site)]
 | .node p k nm rg kids, id, site => subsL kids (id + 1) (site + if k = .pair then 1 else 0) ++ [(.node p k nm rg kids, id, site)]
def subsL : List PT → Nat → Nat → List (PT × Nat × Nat)
 | [], _, _ => []
 | t :: r, id, site => t.subs id site ++ subsL r (id + t.cnt) (site + t.prs)
end
def recOf : PT × Nat × Nat → Rec
 | (.num p s, id, site) => ⟨numB, p, [], valueL s, id, id, site⟩
 | (.name p s, id, site) => ⟨nameB, p, s, 0, id, id, site⟩
 | (.node p k nm rg kids, id, site) => ⟨k.bytes, p, nm, valueL rg, id, id + cntL kids, site⟩
mutual
theorem recs_subs : ∀ (t : PT) (id site : Nat), t.recs id site = (t.subs id site).map recOf
 | .num _ _, _, _ => rfl
 | .name _ _, _, _ => rfl
 | .node _ _ _ _ kids, id, site => by simp only [PT.recs, PT.subs, List.map_append, recsL_subs kids]; rfl
theorem recsL_subs : ∀ (ts : List PT) (id site : Nat), recsL ts id site = (subsL ts id site).map recOf
 | [], _, _ => rfl
 | t :: r, id, site => by simp only [recsL, subsL, List.map_append, recs_subs t, recsL_subs r]
end
theorem subs_len (t : PT) (id site : Nat) : (t.subs id site).length = t.cnt := by rw [← recs_len t id site, recs_subs, List.length_map]
theorem subsL_len (ts : List PT) (id site : Nat) : (subsL ts id site).length = cntL ts := by rw [← recsL_len ts id site, recsL_subs, List.length_map]
theorem subsL_snoc (ts : List PT) (t : PT) : ∀ (id site : Nat), subsL (ts ++ [t]) id site = subsL ts id site ++ t.subs (id + cntL ts) (site + prsL ts) := by
 induction ts with
 | nil => intro id site; simp [subsL, cntL, prsL]
 | cons a r ih => intro id site; simp only [List.cons_append, subsL, ih, cntL, prsL, List.append_assoc]; rw [Nat.add_assoc, Nat.add_assoc]
def areTs (w : World) (F : Nat → Prop) : List Nat → List (PT × Nat × Nat) → Prop
 | [], [] => True
 | b :: bl, x :: xl => IsT w F x.1 x.2.1 x.2.2 b ∧ areTs w F bl xl
 | _, _ => False
theorem areTs.append {w : World} {F : Nat → Prop} : ∀ {bl bl' : List Nat} {xl xl' : List (PT × Nat × Nat)}, areTs w F bl xl → areTs w F bl' xl' → areTs w F (bl ++ bl') (xl ++ xl')
 | [], _, [], _, _, h => h
 | b :: bl, _, r :: rl, _, h, h' => ⟨h.1, areTs.append h.2 h'⟩
 | [], _, _ :: _, _, h, _ => by simp [areTs] at h
 | _ :: _, _, [], _, h, _ => by simp [areTs] at h
theorem areTs.len {w : World} {F : Nat → Prop} : ∀ {bl : List Nat} {xl : List (PT × Nat × Nat)}, areTs w F bl xl → bl.length = xl.length
 | [], [], _ => rfl
 | b :: bl, r :: rl, h => by simp [areTs.len h.2]
 | [], _ :: _, h => by simp [areTs] at h
 | _ :: _, [], h => by simp [areTs] at h
theorem areTs.at {w : World} {F : Nat → Prop} : ∀ {bl : List Nat} {xl : List (PT × Nat × Nat)}, areTs w F bl xl → ∀ (i : Nat) (x : PT × Nat × Nat), xl[i]? = some x → ∃ b, bl[i]? = some b ∧ IsT w F x.1 x.2.1 x.2.2 b
 | [], [], _, i, x, hx => by simp at hx
 | b :: bl, r :: rl, h, i, x, hx => by
  cases i with
  | zero => simp only [List.getElem?_cons_zero, Option.some.injEq] at hx; subst hx; exact ⟨b, rfl, h.1⟩
  | succ i => simp only [List.getElem?_cons_succ] at hx ⊢; exact areTs.at h.2 i x hx
 | [], _ :: _, h, _, _, _ => by simp [areTs] at h
 | _ :: _, [], h, _, _, _ => by simp [areTs] at h
theorem isT_rec {w : World} {F : Nat → Prop} {t : PT} {id site b : Nat} (h : IsT w F t id site b) : isRec w b (recOf (t, id, site)) := by
 cases t with
 | num p s => simp only [IsT] at h; exact ⟨_, h.2⟩
 | name p s => simp only [IsT] at h; exact ⟨_, h.2⟩
 | node p k nm rg kids => simp only [IsT] at h; obtain ⟨_, kv, bl, hb, _⟩ := h; exact ⟨kv, hb⟩
set_option maxRecDepth 100000 in
set_option maxHeartbeats 1000000 in
theorem allT_leaf (b : Nat) (F : Nat → Prop) (t : PT) (w0 w : World) (op : List UInt8) (p : Nat) (nm : List UInt8) (n : Int) (id site : Nat) (hb : w0.heap[b]? = some (.cells (exCells op p nm n (.slice none 0 0) id id site) 82 (0, 0))) (hw0 : Below w0.heap.size w0 w) (hT : IsT w0 F t id site b) :
  Calls Tryz.prog 69 #[ptr b] w fun e w' => ∃ g cap bl, e = .returned (.slice (some ⟨g, 0, none⟩) bl.length cap) ∧ Below w.heap.size w w' ∧ w'.ownsRow w.heap.size 63 1 (.slice (some ⟨g, 0, none⟩) bl.length cap) bl.length (bl.map ptr) ∧ areTs w0 F bl [(t, id, site)] := by
 obtain ⟨i0, hi, hz0, hz1, hz2⟩ := info_parts Tryz.infoPtr
 have HI : Hid _ := hi
 have HZ0 : Hid _ := hz0
 have HZ1 : Hid _ := hz1
 have HZ2 : Hid _ := hz2
 clear hi hz0 hz1 hz2
 have hbw := blk_lt hb
 have x4 : w.cell? ⟨b, 4, none⟩ = some (.slice none 0 0) := (hw0.cell (p := ⟨b, 4, none⟩) hbw).trans (by rw [blk_cell hb]; rfl)
 have HB : Hid _ := hT
 clear hb hT
 show Calls _ _ #[Value.pointer (some ⟨b, 0, none⟩)] w _
 go_enter Tryz.func69, Tryz.ntmps69
 go_wp2
 refine wp_loop_rounds 1 ?_
 rw [rounds_succ]
 go_wp2_with (at_builtin; refine wpList_append_own _ rfl (.tmp 26) (.tmp 28) 76 rfl w.heap.size 63 i0 _ 1 8 Tryz.undPtrs HI.out HZ0.out HZ1.out HZ2.out rfl (by decide) _ 0 [] rfl (World.ownsRow_nil _ _ _ _) ⟨w.heap.size, 0, none⟩ 1 1 [ptr b] rfl rfl ?d1 ?d2 ?d3 ?d4 ?d5 ?_)
 case d1 =>
  intro j' u hj'
  match j', hj' with
  | 0, hj' => simp at hj'; subst hj'; simp [Addr.add, ptr]
  | j' + 1, hj' => simp at hj'
 case d2 => intro u hu; simp at hu; subst hu; rfl
 case d3 => unfold maxLen; omega
 case d4 => omega
 case d5 => simp
 intro v' w2 hown' hgrow hnil
 have HB2 : Hid (Below w.heap.size w w2) := ((Below.refl w.heap.size w).alloc (Nat.le_refl _) _).grown hgrow (by simp) (fun b hb => by simp [Value.ownBlock] at hb)
 obtain ⟨g2, cap2, hv2⟩ : ∃ g2 cap2, v' = .slice (some ⟨g2, 0, none⟩) 1 cap2 := by
  rcases hown'.2 with ⟨h, h'⟩ | ⟨g', cap', cur, h, _⟩
  ·omega
  ·exact ⟨_, _, h⟩
 rw [hv2] at hown' ⊢
 have HO3 : Hid (w2.ownsRow w.heap.size 63 1 (.slice (some ⟨g2, 0, none⟩) 1 cap2) 1 [ptr b]) := hown'
 clear hown' hgrow hnil hv2
 go_wp2
 go_ret
 exact ⟨g2, cap2, [b], rfl, HB2.out, HO3.out, HB.out, True.intro⟩
set_option maxRecDepth 100000 in
set_option maxHeartbeats 1000000 in
theorem allT_any (t : PT) : ∀ (id site b : Nat) (F : Nat → Prop) (w0 : World), t.cnt ≤ 9000 → IsT w0 F t id site b → ∀ w : World, Below w0.heap.size w0 w → Calls Tryz.prog 69 #[ptr b] w fun e w' =>
  ∃ g cap bl, e = .returned (.slice (some ⟨g, 0, none⟩) bl.length cap) ∧ Below w.heap.size w w' ∧ w'.ownsRow w.heap.size 63 1 (.slice (some ⟨g, 0, none⟩) bl.length cap) bl.length (bl.map ptr) ∧ areTs w0 F bl (t.subs id site) := by
 induction t using PT.ind with
 | h1 p s =>
  intro id site b F w0 hcnt hT w hw0
  have hT0 := hT
  simp only [IsT] at hT
  exact allT_leaf b F _ w0 w _ _ _ _ _ _ hT.2 hw0 hT0
 | h2 p s =>
  intro id site b F w0 hcnt hT w hw0
  have hT0 := hT
  simp only [IsT] at hT
  exact allT_leaf b F _ w0 w _ _ _ _ _ _ hT.2 hw0 hT0
 | h3 p k nm rg kids ih =>
  intro id site b F w0 hcnt hT w hw0
  obtain ⟨i0, hi, hz0, hz1, hz2⟩ := info_parts Tryz.infoPtr
  have HI : Hid _ := hi
  have HZ0 : Hid _ := hz0
  have HZ1 : Hid _ := hz1
  have HZ2 : Hid _ := hz2
  clear hi hz0 hz1 hz2
  have HT0 : Hid _ := hT
  simp only [IsT] at hT
  obtain ⟨hFb, kv, bl, hb, hF, hkv, hts⟩ := hT
  have hbw := blk_lt hb
  have hw0s := hw0.size
  have x4 : w.cell? ⟨b, 4, none⟩ = some kv := (hw0.cell (p := ⟨b, 4, none⟩) hbw).trans (by rw [blk_cell hb]; rfl)
  have hkl : kids.length ≤ 9000 := by have := len_cntL kids; simp only [PT.cnt] at hcnt; omega
  have hlen := IsTs.len _ _ _ _ hts
  have hcl : cntL kids ≤ 9000 := by simp only [PT.cnt] at hcnt; omega
  obtain ⟨va, vc, hvk⟩ : ∃ va vc, kv = .slice va kids.length vc := by
   rcases hkv.2 with ⟨h, h'⟩ | ⟨g, cap, cur, h, _⟩
   ·exact ⟨none, 0, by rw [h, h']⟩
   ·exact ⟨_, _, h⟩
  have HB : Hid _ := hb
  have HKV : Hid (w0.ownsRow 0 63 1 kv kids.length (bl.map ptr)) := hkv
  have HTS : Hid _ := hts
  have HV : Hid _ := hvk
  rw [hvk] at x4
  clear hb hkv hts hvk
  show Calls _ _ #[Value.pointer (some ⟨b, 0, none⟩)] w _
  go_enter Tryz.func69, Tryz.ntmps69
  go_wp2
  go_loopw [3, 4] (fun v i wr => ∃ (j : Nat) (cl : List Nat), j ≤ kids.length ∧ i = .int .i64 j ∧ Below w.heap.size w wr ∧ wr.ownsRow w.heap.size 63 1 v cl.length (cl.map ptr) ∧ areTs w0 F cl (subsL (kids.take j) (id + 1) (site + if k = .pair then 1 else 0))) (fun _ i _ => kids.length - (intOf i).toNat)
  case atStart => exact ⟨0, [], by omega, rfl, Below.refl _ _, World.ownsRow_nil _ _ _ _, by simp [subsL, areTs]⟩
  case round =>
   obtain ⟨j, cl, hj, rfl, hbel, hown, hrec⟩ := hrel
   have x4r : wr.cell? ⟨b, 4, none⟩ = some (.slice va kids.length vc) := (hbel.cell (p := ⟨b, 4, none⟩) (by simp only; omega)).trans x4
   by_cases hlt : j < kids.length
   ·obtain ⟨x, hx⟩ : ∃ x, kids[j]? = some x := ⟨kids[j], List.getElem?_eq_getElem hlt⟩
    obtain ⟨bx, hbx, hTx⟩ := IsTs.at _ _ _ _ HTS.out j x hx
    have hcx : x.cnt ≤ 9000 := by
     have h1 := cntL_take kids (j + 1)
     rw [List.take_add_one, hx] at h1
     simp only [Option.toList_some] at h1
     rw [cntL_snoc] at h1
     omega
    have hcj : cl.length ≤ 9000 := by
     rw [hrec.len, subsL_len]
     have h1 := cntL_take kids j
     omega
    obtain ⟨gk, hgk⟩ : ∃ gk, va = some ⟨gk, 0, none⟩ := by
     have h := HKV.out.2
     rw [HV.out] at h
     rcases h with ⟨h, h'⟩ | ⟨g, cap, cur, h, _⟩
     ·omega
     ·simp only [Value.slice.injEq] at h; exact ⟨_, h.1⟩
    have hkc : w0.cell? ⟨gk, j, none⟩ = some (ptr bx) := by
     have h : w0.ownsRow 0 63 1 (.slice (some ⟨gk, 0, none⟩) kids.length vc) kids.length (bl.map ptr) := by rw [← hgk, ← HV.out]; exact HKV.out
     rw [h.cellAt j (by omega)]; simp [hbx]
    have hgkw : gk < w0.heap.size := World.block_lt_of_cell? _ _ hkc
    have hkcr : wr.cell? ⟨gk, j, none⟩ = some (ptr bx) := ((hw0.trans (hbel.mono hw0s)).cell (p := ⟨gk, j, none⟩) hgkw).trans hkc
    subst hgk
    unfold ptr at hkcr
    have hca := ih x (List.mem_of_getElem? hx) _ _ bx F w0 hcx hTx wr (hw0.trans (hbel.mono hw0s))
    unfold ptr at hca
    have HX : Hid _ := hx
    have HREC : Hid _ := hrec
    have HOWN : Hid (wr.ownsRow w.heap.size 63 1 _ cl.length (cl.map ptr)) := hown
    have HTX : Hid _ := hTx
    have hsz := hbel.size
    clear hx hbx hTx hkc hrec hown
    have hcs : cl.length + x.cnt ≤ 9000 := by
     have h0 := hcl
     have h1 := cntL_take kids (j + 1)
     rw [List.take_add_one, HX.out] at h1
     simp only [Option.toList_some] at h1
     rw [cntL_snoc] at h1
     have h2 := HREC.out.len
     rw [subsL_len] at h2
     omega
    go_wp2_with (first
     | (go_at_call 69; refine hca.mono ?_; rintro e w1 ⟨g1, cap1, bl1, rfl, hb1, ho1, hr1⟩)
     | (at_builtin; go_must (refine wpList_append_own _ rfl (.tmp 23) (.tmp 24) 76 rfl w.heap.size 63 i0 _ 1 8 Tryz.undPtrs HI.out HZ0.out HZ1.out HZ2.out rfl (by decide) _ cl.length (cl.map ptr) rfl (owns_below HOWN.out hb1) ⟨g1, 0, none⟩ bl1.length cap1 (bl1.map ptr) rfl ?d0 ?d1 ?d2 ?d3 ?d4 ?d5 ?_)))
    case d0 => simp
    case d1 => intro j' u hj'; exact ho1.cells rfl j' u hj'
    case d2 => intro u hu; simp at hu; obtain ⟨_, _, rfl⟩ := hu; rfl
    case d3 => have := hr1.len; rw [subs_len] at this; unfold maxLen; omega
    case d4 => have := hr1.len; rw [subs_len] at this; omega
    case d5 => have := hb1.size; omega
    intro v' w2 hown' hgrow hnil
    have hsz1 := hb1.size
    have HB2 : Hid (Below w.heap.size w w2) := (hbel.trans (hb1.mono hsz)).grown hgrow (by omega) (fun b hb => (World.ownsRow.lt HOWN.out b hb).1)
    have HO3 : Hid (w2.ownsRow w.heap.size 63 1 v' (cl.length + bl1.length) (cl.map ptr ++ bl1.map ptr)) := hown'
    have HR3 : Hid (areTs w0 F (cl ++ bl1) (subsL (kids.take j) (id + 1) (site + if k = .pair then 1 else 0) ++ x.subs (id + 1 + cntL (kids.take j)) (site + (if k = .pair then 1 else 0) + prsL (kids.take j)))) := by
     exact areTs.append HREC.out hr1
    clear hown' hgrow hnil ho1 hr1 hb1
    go_wp2
    go_roundw
    case rel =>
     refine ⟨j + 1, cl ++ bl1, by omega, by go_num, HB2.out, ?_, ?_⟩
     ·have := HO3.out; simpa using this
     ·have := HR3.out
      rw [List.take_add_one, HX.out]
      simp only [Option.toList_some]
      rw [subsL_snoc]; exact this
    case measure => simp [intOf]; omega
   ·have hcj : cl.length ≤ 9000 := by
     rw [hrec.len, subsL_len]
     have h1 := cntL_take kids j
     omega
    have HREC : Hid _ := hrec
    have HOWN : Hid (wr.ownsRow w.heap.size 63 1 _ cl.length (cl.map ptr)) := hown
    have hsz := hbel.size
    clear hrec hown
    go_wp2_with (at_builtin; refine wpList_append_own _ rfl (.tmp 26) (.tmp 28) 76 rfl w.heap.size 63 i0 _ 1 8 Tryz.undPtrs HI.out HZ0.out HZ1.out HZ2.out rfl (by decide) _ cl.length (cl.map ptr) rfl (HOWN.out.alloc _) ⟨wr.heap.size, 0, none⟩ 1 1 [ptr b] rfl rfl ?d1 ?d2 ?d3 ?d4 ?d5 ?_)
    case d1 =>
     intro j' u hj'
     match j', hj' with
     | 0, hj' => simp at hj'; subst hj'; simp [Addr.add, ptr]
     | j' + 1, hj' => simp at hj'
    case d2 => intro u hu; simp at hu; subst hu; rfl
    case d3 => unfold maxLen; omega
    case d4 => omega
    case d5 => simp; omega
    intro v' w2 hown' hgrow hnil
    have HB2 : Hid (Below w.heap.size w w2) := (hbel.alloc hsz _).grown hgrow (by simp; omega) (fun b hb => (World.ownsRow.lt HOWN.out b hb).1)
    obtain ⟨g2, cap2, hv2⟩ : ∃ g2 cap2, v' = .slice (some ⟨g2, 0, none⟩) (cl.length + 1) cap2 := by
     rcases hown'.2 with ⟨h, h'⟩ | ⟨g', cap', cur, h, _⟩
     ·omega
     ·exact ⟨_, _, h⟩
    rw [hv2] at hown' ⊢
    have HO3 : Hid (w2.ownsRow w.heap.size 63 1 (.slice (some ⟨g2, 0, none⟩) (cl.length + 1) cap2) (cl.length + 1) (cl.map ptr ++ [ptr b])) := hown'
    clear hown' hgrow hnil hv2
    go_wp2
    go_ret
    refine ⟨g2, cap2, cl ++ [b], by simp, HB2.out, ?_, ?_⟩
    ·have := HO3.out; simpa using this
    ·have hj' : j = kids.length := by omega
     have hr := HREC.out
     rw [hj', List.take_length] at hr
     simp only [PT.subs]
     exact areTs.append hr ⟨HT0.out, True.intro⟩
open Go.Lib (decDigits)
def tyAt (TY : List Ty) (k : Nat) : Ty := (TY[k]?).getD .n
mutual
theorem subs_wf : ∀ (t : PT) (id site : Nat), t.wf → ∀ x ∈ t.subs id site, x.1.wf
 | .num _ _, id, site, h, x, hx => by simp only [PT.subs, List.mem_singleton] at hx; subst hx; exact h
 | .name _ _, id, site, h, x, hx => by simp only [PT.subs, List.mem_singleton] at hx; subst hx; exact h
 | .node p k nm rg kids, id, site, h, x, hx => by
  simp only [PT.subs, List.mem_append, List.mem_singleton] at hx
  rcases hx with hx | hx
  ·simp only [PT.wf] at h; exact subsL_wf kids _ _ h.2 x hx
  ·subst hx; exact h
theorem subsL_wf : ∀ (ts : List PT) (id site : Nat), wfL ts → ∀ x ∈ subsL ts id site, x.1.wf
 | [], _, _, _, x, hx => by simp [subsL] at hx
 | t :: r, id, site, h, x, hx => by
  simp only [wfL] at h
  simp only [subsL, List.mem_append] at hx
  rcases hx with hx | hx
  ·exact subs_wf t _ _ h.1 x hx
  ·exact subsL_wf r _ _ h.2 x hx
end
mutual
theorem subs_ids : ∀ (t : PT) (id site : Nat), ∀ x ∈ t.subs id site, id ≤ x.2.1 ∧ x.2.1 + x.1.cnt ≤ id + t.cnt
 | .num _ _, id, site, x, hx => by simp only [PT.subs, List.mem_singleton] at hx; subst hx; simp [PT.cnt]
 | .name _ _, id, site, x, hx => by simp only [PT.subs, List.mem_singleton] at hx; subst hx; simp [PT.cnt]
 | .node p k nm rg kids, id, site, x, hx => by
  simp only [PT.subs, List.mem_append, List.mem_singleton] at hx
  rcases hx with hx | hx
  ·have := subsL_ids kids _ _ x hx; simp only [PT.cnt]; omega
  ·subst hx; simp
theorem subsL_ids : ∀ (ts : List PT) (id site : Nat), ∀ x ∈ subsL ts id site, id ≤ x.2.1 ∧ x.2.1 + x.1.cnt ≤ id + cntL ts
 | [], _, _, x, hx => by simp [subsL] at hx
 | t :: r, id, site, x, hx => by
  simp only [subsL, List.mem_append] at hx
  rcases hx with hx | hx
  ·have := subs_ids t _ _ x hx; simp only [cntL]; omega
  ·have := subsL_ids r _ _ x hx; simp only [cntL]; omega
end
theorem kid_ids {w : World} {F : Nat → Prop} {p : Nat} {k : Kw} {nm rg : List UInt8} {kids : List PT} {id site b : Nat} (hT : IsT w F (.node p k nm rg kids) id site b) :
  ∃ va vc, w.cell? ⟨b, 4, none⟩ = some (.slice va kids.length vc) ∧ ∀ i x, kids[i]? = some x → ∃ gk bx, va = some ⟨gk, 0, none⟩ ∧ gk < w.heap.size ∧ w.cell? ⟨gk, i, none⟩ = some (.pointer (some ⟨bx, 0, none⟩)) ∧ bx < w.heap.size ∧ w.cell? ⟨bx, 5, none⟩ = some (.int .i64 ((id + 1 + cntL (kids.take i) : Nat) : Int)) := by
 simp only [IsT] at hT
 obtain ⟨hFb, kv, bl, hb, hF, hkv, hts⟩ := hT
 obtain ⟨va, vc, hvk⟩ : ∃ va vc, kv = .slice va kids.length vc := by
  rcases hkv.2 with ⟨h, h'⟩ | ⟨g, cap, cur, h, _⟩
  ·exact ⟨none, 0, by rw [h, h']⟩
  ·exact ⟨_, _, h⟩
 refine ⟨va, vc, by rw [blk_cell hb, ← hvk]; rfl, ?_⟩
 intro i x hx
 obtain ⟨bx, hbx, hTx⟩ := IsTs.at _ _ _ _ hts i x hx
 have hlt : i < kids.length := (List.getElem?_eq_some_iff.1 hx).1
 obtain ⟨gk, hgk⟩ : ∃ gk, va = some ⟨gk, 0, none⟩ := by
  have h := hkv.2
  rw [hvk] at h
  rcases h with ⟨h, h'⟩ | ⟨g, cap, cur, h, _⟩
  ·omega
  ·simp only [Value.slice.injEq] at h; exact ⟨_, h.1⟩
 have hkc : w.cell? ⟨gk, i, none⟩ = some (ptr bx) := by
  have h : w.ownsRow 0 63 1 (.slice (some ⟨gk, 0, none⟩) kids.length vc) kids.length (bl.map ptr) := by rw [← hgk, ← hvk]; exact hkv
  rw [h.cellAt i (by omega)]; simp [hbx]
 obtain ⟨_, _, _, c5, _, hl⟩ := rec_cells (isT_rec hTx)
 refine ⟨gk, bx, hgk, World.block_lt_of_cell? _ _ hkc, hkc, hl, ?_⟩
 rw [c5]
 cases x <;> rfl
end Go.Proofs.YtpicaknklgccoaaGreatDoor
