import Derived.Test.YtpicaknklgccoaaDoorX4
import Derived.BigRegion
import Derived.Test.YtpicaknklgccoaaDoorX8
import Derived.Test.YtpicaknklgccoaaDoorX9
import Derived.Test.YtpicaknklgccoaaDoorX1
import Derived.Test.YtpicaknklgccoaaDoorProg
import Derived.WalkKit
import Derived.Test.YtpicaknklgccoaaDoorX2
namespace Go.Proofs.YtpicaknklgccoaaDoor
open Go.RowKit
def Rec.isPair (r : Rec) : Bool := r.op == Kw.pair.bytes
mutual
def PT.prl : PT → List (Nat × List UInt8)
 | .num _ _ => []
 | .name _ _ => []
 | .node p k _ rg kids => (if k = .pair then [(p, rg)] else []) ++ prlL kids
def prlL : List PT → List (Nat × List UInt8)
 | [] => []
 | t :: r => t.prl ++ prlL r
end
mutual
theorem prl_len : ∀ t : PT, t.prl.length = t.prs
 | .num _ _ => rfl
 | .name _ _ => rfl
 | .node _ k _ _ kids => by simp only [PT.prl, PT.prs, List.length_append, prlL_len kids]; split <;> rfl
theorem prlL_len : ∀ ts : List PT, (prlL ts).length = prsL ts
 | [] => rfl
 | t :: r => by simp only [prlL, prsL, List.length_append, prl_len t, prlL_len r]
end
mutual
theorem prs_cnt : ∀ t : PT, t.prs ≤ t.cnt
 | .num _ _ => by simp [PT.prs]
 | .name _ _ => by simp [PT.prs]
 | .node _ k _ _ kids => by have := prsL_cnt kids; simp only [PT.prs, PT.cnt]; split <;> omega
theorem prsL_cnt : ∀ ts : List PT, prsL ts ≤ cntL ts
 | [] => by simp [prsL]
 | t :: r => by have := prs_cnt t; have := prsL_cnt r; simp only [prsL, cntL]; omega
end
def cntP (rl : List Rec) : Nat := (rl.filter Rec.isPair).length
theorem cntP_append (a b : List Rec) : cntP (a ++ b) = cntP a + cntP b := by simp [cntP]
theorem kw_pair (k : Kw) : (k.bytes == Kw.pair.bytes) = decide (k = .pair) := by cases k <;> decide
mutual
theorem recs_pairs : ∀ (t : PT) (id site : Nat), cntP (t.recs id site) = t.prs ∧ (∀ r ∈ t.recs id site, r.isPair = true → site ≤ r.site ∧ r.site < site + t.prs ∧ ∃ rg, t.prl[r.site - site]? = some (r.p, rg) ∧ r.n = valueL rg) ∧ (∀ s, site ≤ s → s < site + t.prs → ∃ r ∈ t.recs id site, r.isPair = true ∧ r.site = s)
 | .num p s, id, site => by
  refine ⟨rfl, ?_, ?_⟩
  ·intro r hr hp; simp only [PT.recs, List.mem_singleton] at hr; subst hr; simp [Rec.isPair, numB, Kw.bytes] at hp
  ·intro s h1 h2; simp [PT.prs] at h2; omega
 | .name p s, id, site => by
  refine ⟨rfl, ?_, ?_⟩
  ·intro r hr hp; simp only [PT.recs, List.mem_singleton] at hr; subst hr; simp [Rec.isPair, nameB, Kw.bytes] at hp
  ·intro s h1 h2; simp [PT.prs] at h2; omega
 | .node p k nm rg kids, id, site => by
  obtain ⟨h1, h2, h3⟩ := recsL_pairs kids (id + 1) (site + if k = .pair then 1 else 0)
  have hself : (Rec.isPair ⟨k.bytes, p, nm, valueL rg, id, id + cntL kids, site⟩) = decide (k = .pair) := kw_pair k
  refine ⟨?_, ?_, ?_⟩
  ·simp only [PT.recs, PT.prs, cntP_append, h1]
   have : cntP [⟨k.bytes, p, nm, valueL rg, id, id + cntL kids, site⟩] = if k = .pair then 1 else 0 := by
    unfold cntP; rw [List.filter_cons, hself]; by_cases hk : k = .pair <;> simp [hk]
   omega
  ·intro r hr hp
   simp only [PT.recs, List.mem_append, List.mem_singleton] at hr
   rcases hr with hr | hr
   ·obtain ⟨a, b, rg', c, d⟩ := h2 r hr hp
    simp only [PT.prl, PT.prs]
    by_cases hk : k = .pair
    ·rw [if_pos hk] at a b c ⊢
     rw [if_pos hk]
     refine ⟨by omega, by omega, rg', ?_, d⟩
     rw [show r.site - site = (r.site - (site + 1)) + 1 from by omega]
     simpa using c
    ·rw [if_neg hk] at a b c ⊢
     rw [if_neg hk]
     exact ⟨by omega, by omega, rg', by simpa using c, d⟩
   ·subst hr
    rw [hself] at hp
    have hk : k = .pair := by simpa using hp
    simp only [PT.prl, PT.prs, if_pos hk]
    exact ⟨by omega, by omega, rg, by simp, rfl⟩
  ·intro s hs1 hs2
   simp only [PT.prs] at hs2
   by_cases hk : k = .pair
   ·rw [if_pos hk] at h3 hs2
    by_cases hs : s = site
    ·refine ⟨⟨k.bytes, p, nm, valueL rg, id, id + cntL kids, site⟩, by simp [PT.recs], ?_, hs.symm⟩
     rw [hself]; simpa using hk
    ·obtain ⟨r, hr, hp, he⟩ := h3 s (by omega) (by omega)
     exact ⟨r, by simp only [PT.recs, if_pos hk, List.mem_append]; exact Or.inl hr, hp, he⟩
   ·rw [if_neg hk] at h3 hs2
    obtain ⟨r, hr, hp, he⟩ := h3 s (by omega) (by omega)
    exact ⟨r, by simp only [PT.recs, if_neg hk, List.mem_append]; exact Or.inl hr, hp, he⟩
theorem recsL_pairs : ∀ (ts : List PT) (id site : Nat), cntP (recsL ts id site) = prsL ts ∧ (∀ r ∈ recsL ts id site, r.isPair = true → site ≤ r.site ∧ r.site < site + prsL ts ∧ ∃ rg, (prlL ts)[r.site - site]? = some (r.p, rg) ∧ r.n = valueL rg) ∧ (∀ s, site ≤ s → s < site + prsL ts → ∃ r ∈ recsL ts id site, r.isPair = true ∧ r.site = s)
 | [], _, _ => by
  refine ⟨rfl, ?_, ?_⟩
  ·intro r hr; simp [recsL] at hr
  ·intro s h1 h2; simp [prsL] at h2; omega
 | t :: ts, id, site => by
  obtain ⟨h1, h2, h3⟩ := recs_pairs t id site
  obtain ⟨k1, k2, k3⟩ := recsL_pairs ts (id + t.cnt) (site + t.prs)
  have hl := prl_len t
  refine ⟨by simp only [recsL, prsL, cntP_append, h1, k1], ?_, ?_⟩
  ·intro r hr hp
   simp only [recsL, List.mem_append] at hr
   simp only [prlL, prsL]
   rcases hr with hr | hr
   ·obtain ⟨a, b, rg', c, d⟩ := h2 r hr hp
    exact ⟨a, by omega, rg', by rw [List.getElem?_append_left (by omega)]; exact c, d⟩
   ·obtain ⟨a, b, rg', c, d⟩ := k2 r hr hp
    refine ⟨by omega, by omega, rg', ?_, d⟩
    rw [List.getElem?_append_right (by omega), hl, show r.site - site - t.prs = r.site - (site + t.prs) from by omega]; exact c
  ·intro s hs1 hs2
   simp only [prsL] at hs2
   by_cases hs : s < site + t.prs
   ·obtain ⟨r, hr, hp, he⟩ := h3 s hs1 hs
    exact ⟨r, by simp only [recsL, List.mem_append]; exact Or.inl hr, hp, he⟩
   ·obtain ⟨r, hr, hp, he⟩ := k3 s (by omega) (by omega)
    exact ⟨r, by simp only [recsL, List.mem_append]; exact Or.inr hr, hp, he⟩
end
def fillP : List Nat → List Rec → List Value → List Value
 | b :: bl, r :: rl, out => fillP bl rl (if r.isPair then out.set r.site (ptr b) else out)
 | _, _, out => out
theorem fillP_at {w : World} {P : Rec → Prop} : ∀ (bl : List Nat) (rl : List Rec) (out : List Value) (s : Nat), areRecs w bl rl → (∀ r ∈ rl, P r) → s < out.length →
  ((∃ r ∈ rl, r.isPair = true ∧ r.site = s) ∨ (∃ b r, out[s]? = some (ptr b) ∧ isRec w b r ∧ r.isPair = true ∧ r.site = s ∧ P r)) → ∃ b r, (fillP bl rl out)[s]? = some (ptr b) ∧ isRec w b r ∧ r.isPair = true ∧ r.site = s ∧ P r
 | [], [], out, s, _, _, hs, h => by
  rcases h with ⟨r, hr, _⟩ | h
  ·simp at hr
  ·simpa [fillP] using h
 | b :: bl, r :: rl, out, s, ha, hP, hs, h => by
  simp only [fillP]
  refine fillP_at bl rl _ s ha.2 (fun r hr => hP r (List.mem_cons_of_mem _ hr)) (by split <;> simpa using hs) ?_
  by_cases hp : r.isPair = true
  ·rw [if_pos hp]
   by_cases he : r.site = s
   ·exact Or.inr ⟨b, r, by rw [he, List.getElem?_set_self hs], ha.1, hp, he, hP r List.mem_cons_self⟩
   ·rcases h with ⟨r', hr', hp', hs'⟩ | ⟨b', r', h1, h2⟩
    ·rcases List.mem_cons.1 hr' with rfl | hr'
     ·exact absurd hs' he
     ·exact Or.inl ⟨r', hr', hp', hs'⟩
    ·exact Or.inr ⟨b', r', by rw [List.getElem?_set_ne he]; exact h1, h2⟩
  ·rw [if_neg hp]
   rcases h with ⟨r', hr', hp', hs'⟩ | h
   ·rcases List.mem_cons.1 hr' with rfl | hr'
    ·exact absurd hp' hp
    ·exact Or.inl ⟨r', hr', hp', hs'⟩
   ·exact Or.inr h
 | [], _ :: _, _, _, h, _, _, _ => by simp [areRecs] at h
 | _ :: _, [], _, _, h, _, _, _ => by simp [areRecs] at h
theorem areRecs.at {w : World} : ∀ {bl : List Nat} {rl : List Rec}, areRecs w bl rl → ∀ i, i < bl.length → ∃ b r, bl[i]? = some b ∧ rl[i]? = some r ∧ isRec w b r
 | [], [], _, i, hi => by simp at hi
 | b :: bl, r :: rl, h, 0, _ => ⟨b, r, rfl, rfl, h.1⟩
 | b :: bl, r :: rl, h, i + 1, hi => by
  obtain ⟨b', r', h1, h2, h3⟩ := areRecs.at h.2 i (by simpa using hi)
  exact ⟨b', r', by simpa using h1, by simpa using h2, h3⟩
 | [], _ :: _, h, _, _ => by simp [areRecs] at h
 | _ :: _, [], h, _, _ => by simp [areRecs] at h
set_option maxRecDepth 100000 in
set_option maxHeartbeats 2000000 in
theorem pairs_any (t : PT) (b : Nat) (F : Nat → Prop) (w : World) (hcnt : t.cnt ≤ 9000) (hT : IsT w F t 0 0 b) : Calls Tryd.prog 27 #[ptr b] w fun e w' =>
  ∃ g cap vs, e = .returned (.slice (some ⟨g, 0, none⟩) t.prs cap) ∧ Below w.heap.size w w' ∧ w'.ownsRow 0 39 1 (.slice (some ⟨g, 0, none⟩) t.prs cap) t.prs vs ∧
   ∀ s, s < t.prs → ∃ b r, vs[s]? = some (ptr b) ∧ isRec w b r ∧ r.isPair = true ∧ r.site = s ∧ r ∈ t.recs 0 0 := by
 obtain ⟨i0, hi, hz0, hz1, hz2⟩ := info_parts Tryd.infoPtr
 have HI : Hid _ := hi
 have HZ0 : Hid _ := hz0
 have HZ1 : Hid _ := hz1
 have HZ2 : Hid _ := hz2
 clear hi hz1 
 have hal := all_any t 0 0 b F w hcnt hT w (Below.refl _ _)
 unfold ptr at hal
 show Calls _ _ #[Value.pointer (some ⟨b, 0, none⟩)] w _
 clear hz0 hz2
 go_enter Tryd.func27, Tryd.ntmps27
 go_wp2_with (first
  | (go_at_call 22; refine hal.mono ?_; rintro e w1 ⟨g1, cap1, bl, rfl, hb1, ho1, hr1⟩)
  | (at_make; go_must (refine wpList_make_full _ rfl (.tmp 10) (.tmp 10) 48 rfl w1.heap.size 39 i0 _ 1 Tryd.undPtrs HI.out HZ0.out HZ1.out .i64 .i64 _ _ bl.length rfl rfl rfl rfl ?m1 ?m2 ?m3 ?_)))
 case m1 => rw [HZ2.out]; have := hr1.len; rw [recs_len] at this; omega
 case m2 => have := hr1.len; rw [recs_len] at this; unfold maxLen; omega
 case m3 => omega
 intro w2 ho2 hg2
 have hL : bl.length = t.cnt := by have := hr1.len; rw [recs_len] at this; exact this
 obtain ⟨out0, hout0⟩ : ∃ out0, out0 = (madeCells #[Value.pointer none] bl.length).toList := ⟨_, rfl⟩
 have ho2l := ho2.1
 have HO2 : Hid (w2.ownsRow w1.heap.size 39 1 (.slice (some ⟨w1.heap.size, 0, none⟩) bl.length bl.length) bl.length out0) := by rw [hout0]; exact ho2
 have hol0 : out0.length = bl.length := by have := HO2.out.1; simpa using this
 have HOL : Hid (out0.length = bl.length) := hol0
 clear hol0
 have hb2 : Below w1.heap.size w1 w2 := ⟨hg2.os, hg2.tape, hg2.output, hg2.size, fun k hk => hg2.block k hk (by simp)⟩
 have HR1 : Hid _ := hr1
 have HO1 : Hid (w1.ownsRow w.heap.size 39 1 (.slice (some ⟨g1, 0, none⟩) bl.length cap1) bl.length (bl.map ptr)) := ho1
 have hs1 := hb1.size
 have hs2 := hb2.size
 have hlen : bl.length ≤ 9000 := by omega
 have hps := (recs_pairs t 0 0)
 have HPS : Hid _ := hps
 have hg1w := (ho1.lt g1 rfl).2
 have hw12 : w1.heap.size < w2.heap.size := (HO2.out.lt _ rfl).2
 clear ho2 hg2 hr1 ho1 hout0 ho2l hps
 go_wp2
 go_loopw [5, 6] (fun n i wr => ∃ (j m : Nat) (out : List Value), j ≤ bl.length ∧ i = .int .i64 j ∧ n = .int .i64 m ∧ m ≤ j ∧ wr.ownsRow w1.heap.size 39 1 (.slice (some ⟨w1.heap.size, 0, none⟩) bl.length bl.length) bl.length out ∧ Below w1.heap.size w1 wr ∧ out.length = bl.length ∧
   fillP (bl.drop j) ((t.recs 0 0).drop j) out = fillP bl (t.recs 0 0) out0 ∧ m + cntP ((t.recs 0 0).drop j) = t.prs) (fun _ i _ => bl.length - (intOf i).toNat)
 case atStart => exact ⟨0, 0, out0, by omega, rfl, rfl, by omega, HO2.out, hb2, HOL.out, by simp, by simp; exact HPS.out.1⟩
 case round =>
  obtain ⟨j, m, out, hj, rfl, rfl, hmj, hown, hbel, hol, hfill, hcp⟩ := hrel
  have HOWN : Hid (wr.ownsRow w1.heap.size 39 1 (.slice (some ⟨w1.heap.size, 0, none⟩) bl.length bl.length) bl.length out) := hown
  have HOLr : Hid _ := hol
  have HF : Hid _ := hfill
  have HCP : Hid _ := hcp
  have hbs := hbel.size
  have hwr : w1.heap.size < wr.heap.size := (HOWN.out.lt _ rfl).2
  clear hown hol hfill hcp
  by_cases hlt : j < bl.length
  ·obtain ⟨b', r, hbl, hrl, hrec⟩ := HR1.out.at j hlt
   obtain ⟨kv, hblk⟩ := hrec
   have hbw := blk_lt hblk
   have hblr : wr.heap[b']? = some (.cells (exCells r.op r.p r.nm r.n kv r.id r.last r.site) 52 (0, 0)) := by
    rw [hbel.block b' (by omega), hb1.block b' hbw]; exact hblk
   have y0 : wr.cell? ⟨b', 0, none⟩ = some (.string (bs r.op)) := by rw [blk_cell hblr]; rfl
   have y7 : wr.cell? ⟨b', 7, none⟩ = some (.int .i64 r.site) := by rw [blk_cell hblr]; rfl
   have hlc : wr.cell? ⟨g1, j, none⟩ = some (.pointer (some ⟨b', 0, none⟩)) := by
    rw [hbel.cell (p := ⟨g1, j, none⟩) hg1w, HO1.out.cellAt j (by omega)]; simp [hbl, ptr]
   have hop : ((bs r.op).toList == [112, 97, 105, 114]) = r.isPair := by rw [bs_beq]; rfl
   have hdb : bl.drop j = b' :: bl.drop (j + 1) := by
    rw [List.drop_eq_getElem_cons hlt]; rw [List.getElem?_eq_getElem hlt] at hbl; simp only [Option.some.injEq] at hbl; rw [hbl]
   have hrlt : j < (t.recs 0 0).length := by rw [recs_len]; omega
   have hdr : (t.recs 0 0).drop j = r :: (t.recs 0 0).drop (j + 1) := by
    rw [List.drop_eq_getElem_cons hrlt]; rw [List.getElem?_eq_getElem hrlt] at hrl; simp only [Option.some.injEq] at hrl; rw [hrl]
   have HF2 : Hid _ := HF.out
   have hf2 := HF.out
   rw [hdb, hdr] at hf2
   simp only [fillP] at hf2
   have hc2 := HCP.out
   rw [hdr] at hc2
   have HC2 : Hid (m + cntP (r :: (t.recs 0 0).drop (j + 1)) = t.prs) := hc2
   have HFF : Hid (fillP (bl.drop (j + 1)) ((t.recs 0 0).drop (j + 1)) (if r.isPair then out.set r.site (ptr b') else out) = fillP bl (t.recs 0 0) out0) := hf2
   have hsite : r.isPair = true → r.site < bl.length := by
    intro hp
    have h := HPS.out.2.1 r (List.mem_of_getElem? hrl) hp
    have h2 := prs_cnt t
    omega
   clear hblk hblr hbl hrl hdb hdr hf2 hc2 HF2 HF HCP
   by_cases hp : r.isPair = true
   ·have hsl := hsite hp
    rw [hp] at hop
    have hst := HOWN.out.stored r.site (ptr b')
    have HST : Hid ((wr.setCell ⟨w1.heap.size, r.site, none⟩ (ptr b')).ownsRow w1.heap.size 39 1 (.slice (some ⟨w1.heap.size, 0, none⟩) bl.length bl.length) bl.length (out.set r.site (ptr b'))) := hst.1
    have hoc : wr.cell? ⟨w1.heap.size, r.site, none⟩ = out[r.site]? := HOWN.out.cellAt r.site (by omega)
    obtain ⟨ov, hov⟩ : ∃ ov, out[r.site]? = some ov := ⟨out[r.site]'(by rw [HOLr.out]; exact hsl), List.getElem?_eq_getElem _⟩
    rw [hov] at hoc
    have hfz : wr.frozen? ⟨w1.heap.size, r.site, none⟩ = false := HOWN.out.frozenAt r.site
    have hfl := HFF.out
    rw [if_pos hp] at hfl
    have HFL : Hid _ := hfl
    have hcc := HC2.out
    have hcc2 : cntP (r :: (t.recs 0 0).drop (j + 1)) = 1 + cntP ((t.recs 0 0).drop (j + 1)) := by unfold cntP; rw [List.filter_cons, if_pos hp]; simp; omega
    rw [hcc2] at hcc
    have HCC : Hid _ := hcc
    have HPP : Hid (r.isPair = true) := hp
    clear hst hp hsite hov hfl hcc hcc2 HFF HC2
    go_wp2
    go_region
    go_wp2
    go_roundw
    case rel =>
     refine ⟨j + 1, m + 1, out.set r.site (ptr b'), by omega, by go_num, by go_num, by omega, ?_, ?_, by simp [HOLr.out], HFL.out, by have := HCC.out; omega⟩
     ·exact HST.out
     ·exact (hbel.setCell (p := ⟨w1.heap.size, r.site, none⟩) (Nat.le_refl _) _).trans ⟨rfl, rfl, rfl, Nat.le_refl _, fun _ _ => rfl⟩
    case measure => simp [intOf]; omega
   ·have hp' : r.isPair = false := by simpa using hp
    rw [hp'] at hop
    have hfl := HFF.out
    rw [if_neg hp] at hfl
    have HFL : Hid _ := hfl
    have hcc := HC2.out
    have hcc2 : cntP (r :: (t.recs 0 0).drop (j + 1)) = cntP ((t.recs 0 0).drop (j + 1)) := by unfold cntP; rw [List.filter_cons, if_neg hp]
    rw [hcc2] at hcc
    have HCC : Hid _ := hcc
    clear hp hp' hsite hfl hcc hcc2 HFF HC2
    go_wp2
    go_roundw
    case rel => exact ⟨j + 1, m, out, by omega, by go_num, rfl, by omega, HOWN.out, hbel, HOLr.out, HFL.out, HCC.out⟩
    case measure => simp [intOf]; omega
  ·have hjl : j = bl.length := by omega
   have hm : m = t.prs := by
    have := HCP.out
    rw [List.drop_eq_nil_of_le (by rw [recs_len]; omega)] at this
    simpa [cntP] using this
   have hpl := prs_cnt t
   have hmb : m ≤ bl.length := by omega
   have HM : Hid _ := hm
   have HJ : Hid _ := hjl
   clear hjl hm
   go_wp2
   go_ret
   refine ⟨w1.heap.size, bl.length, out.take t.prs, by rw [← HM.out, hL]; rfl, (hb1.trans (hbel.mono hs1)), ?_, ?_⟩
   ·have h := HOWN.out
    obtain ⟨h1, h2⟩ := h
    rcases h2 with ⟨h2, _⟩ | ⟨g, cap, cur, hv, hg, hh, hn, hcm, hcs, htake⟩
    ·cases h2
    ·refine ⟨by rw [List.length_take, HOLr.out]; omega, Or.inr ⟨w1.heap.size, bl.length, cur, rfl, Nat.zero_le _, ?_, by omega, ?_, ?_, ?_⟩⟩
     ·simp only [Value.slice.injEq, Option.some.injEq, Addr.mk.injEq] at hv
      rw [hv.1.1]; exact hh
     ·simp only [Value.slice.injEq] at hv; omega
     ·simp only [Value.slice.injEq] at hv; omega
     ·have h3 : (cur.toList.take (bl.length * 1)).take (t.prs * 1) = out.take (t.prs * 1) := by rw [htake]
      rw [List.take_take, Nat.min_eq_left (by omega)] at h3
      simpa using h3
   ·intro s hs
    have hf := HF.out
    rw [HJ.out, List.drop_length] at hf
    simp only [fillP] at hf
    obtain ⟨r0, hr0, hp0, hs0⟩ := HPS.out.2.2 s (by omega) (by omega)
    obtain ⟨b', r, h1, h2, h3, h4, h5⟩ := fillP_at (P := fun r => r ∈ t.recs 0 0) bl (t.recs 0 0) out0 s HR1.out (fun _ h => h) (by rw [HOL.out]; omega) (Or.inl ⟨r0, hr0, hp0, hs0⟩)
    rw [← hf] at h1
    exact ⟨b', r, by rw [List.getElem?_take_of_lt hs]; exact h1, h2, h3, h4, h5⟩
theorem isT_last {w : World} {F : Nat → Prop} {t : PT} {id site b : Nat} (h : IsT w F t id site b) : ∃ op nm n kv, w.heap[b]? = some (.cells (exCells op t.pl nm n kv id (id + (t.cnt - 1)) site) 52 (0, 0)) := by
 cases t with
 | num p s => simp only [IsT] at h; exact ⟨_, _, _, _, h.2⟩
 | name p s => simp only [IsT] at h; exact ⟨_, _, _, _, h.2⟩
 | node p k nm rg kids =>
  simp only [IsT] at h
  obtain ⟨_, kv, bl, h1, _⟩ := h
  have e : id + ((PT.node p k nm rg kids).cnt - 1) = id + cntL kids := by simp only [PT.cnt]; omega
  rw [e]; exact ⟨_, _, _, _, h1⟩
theorem made_strs (n : Nat) : (madeCells #[Value.string ⟨#[]⟩] n).toList = (List.replicate n ([] : List UInt8)).map strV := by
 apply List.ext_getElem
 ·simp [madeCells]
 ·intro i h1 h2
  simp [madeCells, Nat.mod_one, strV, bs]
def st0 (t : PT) : TSt := ⟨0, 0, List.replicate t.cnt []⟩
set_option maxRecDepth 100000 in
set_option maxHeartbeats 2000000 in
theorem Types_any {w0 : World} {cls : List Nat} (hit : ItFor w0 cls) (hcl : cls.length ≤ 9000) (t : PT) (hwf : t.wf) (b : Nat) (F : Nat → Prop) (cv : Value) (w : World) (hT : IsT w0 F t 0 0 b) (hcnt : t.cnt ≤ 9000) (hb0 : Below w0.heap.size w0 w)
  (hc : w.ownsRow w0.heap.size 3 1 cv cls.length (cls.map fun (k : Nat) => Value.int .i64 k)) (hprs : t.prs ≤ cls.length) (hcs : ∃ a n c, cv = .slice a n c) :
  Calls Tryd.prog 28 #[ptr b, cv] w fun v w' => ∃ yb nv tv ov, v = .returned (ptr yb) ∧ w.heap.size ≤ w'.heap.size ∧ Below w.heap.size w w' ∧ TyIn w0 w' yb cls cv nv tv ov [] (tyFind cls t 0 0 [] (st0 t)).2 := by
 obtain ⟨i0, hi, hz0, hz1, hz2⟩ := info_parts Tryd.infoStr
 have HI : Hid _ := hi
 have HZ0 : Hid _ := hz0
 have HZ1 : Hid _ := hz1
 have HZ2 : Hid _ := hz2
 clear hi hz0 hz1 hz2
 obtain ⟨ca, cn, cc, rfl⟩ := hcs
 obtain ⟨op, nm, n, kv, hblk⟩ := isT_last hT
 have hcp := cnt_pos t
 have hb := blk_lt hblk
 have hw0 := hb0.size
 have hbw : b < w.heap.size := by omega
 have x6 : w.cell? ⟨b, 6, none⟩ = some (.int .i64 (t.cnt - 1 : Nat)) := by rw [hb0.cell (p := ⟨b, 6, none⟩) hb, blk_cell hblk, Nat.zero_add]; rfl
 have hcg : ∀ g, (Value.slice ca cn cc).ownBlock = some g → w0.heap.size ≤ g ∧ g < w.heap.size := fun g hg => hc.lt g hg
 have HC : Hid (w.ownsRow w0.heap.size 3 1 (.slice ca cn cc) cls.length (cls.map fun (k : Nat) => Value.int .i64 k)) := hc
 have HT : Hid _ := hT
 have HB0 : Hid _ := hb0
 clear hblk hc hT hb0
 show Calls _ _ #[Value.pointer (some ⟨b, 0, none⟩), _] w _
 go_enter Tryd.func28, Tryd.ntmps28
 go_wp2_with (at_make; go_must (refine wpList_make_full _ rfl (.tmp 11) (.tmp 11) 53 rfl w.heap.size 9 i0 _ 1 Tryd.undStrs HI.out HZ0.out HZ1.out .i64 .i64 _ _ t.cnt rfl rfl ?l1 ?l2 ?m1 ?m2 ?m3 ?_))
 case l1 => omega
 case l2 => omega
 case m1 => rw [HZ2.out]; omega
 case m2 => unfold maxLen; omega
 case m3 => omega
 intro w2 ho2 hg2
 rw [made_strs] at ho2
 have hb2 : Below w.heap.size w w2 := ⟨hg2.os, hg2.tape, hg2.output, hg2.size, fun k hk => hg2.block k hk (by simp)⟩
 have hl2 : w.heap.size < w2.heap.size := (ho2.lt w.heap.size rfl).2
 have hin : TyIn w0 (w2.alloc (.cells (tyCells (.slice ca cn cc) (.slice none 0 0) (.slice none 0 0) (.slice (some ⟨w.heap.size, 0, none⟩) t.cnt t.cnt) 0 0) 55)) w2.heap.size cls (.slice ca cn cc) (.slice none 0 0) (.slice none 0 0) (.slice (some ⟨w.heap.size, 0, none⟩) t.cnt t.cnt) [] (st0 t) := by
  have hbA : Below w2.heap.size w2 (w2.alloc (.cells (tyCells (.slice ca cn cc) (.slice none 0 0) (.slice none 0 0) (.slice (some ⟨w.heap.size, 0, none⟩) t.cnt t.cnt) 0 0) 55)) := (Below.refl _ _).alloc (Nat.le_refl _) _
  refine ⟨(HB0.out.trans (hb2.mono hw0)).trans (hbA.mono (by omega)), by omega, blk_new _ _, owns_below (owns_below HC.out hb2) hbA, World.ownsRow_nil _ _ _ _, World.ownsRow_nil _ _ _ _, ?_, ?_, by simp [Value.ownBlock], by simp [Value.ownBlock], ?_, fun g hg h => by simp [Value.ownBlock] at h, fun g hg h => by simp [Value.ownBlock] at h, ?_, fun g hg => by simp [Value.ownBlock] at hg, fun g hg => by simp [Value.ownBlock] at hg, fun g hg => by simp [Value.ownBlock] at hg⟩
  ·have h := owns_base (base' := w0.heap.size) (owns_below ho2 hbA) (fun k hk => by simp only [Value.ownBlock, Option.some.injEq] at hk; omega)
   simp only [st0, List.length_replicate]; exact h
  ·intro e; have := (hcg _ e).2; omega
  ·simp only [Value.ownBlock, ne_eq, Option.some.injEq]; omega
  ·intro g hg h
   simp only [Value.ownBlock, Option.some.injEq] at h
   have := (hcg g hg).2; omega
 have hfo := find_all (w0 := w0) (yb := w2.heap.size) hit hcl t hwf 0 0 b F [] (st0 t) _ _ _ _ _ HT.out hin (by simp [st0]) (by omega) (by simp) (by simp) (by simp; omega)
 unfold ptr at hfo
 have HB2 : Hid _ := hb2
 clear ho2 hg2 hin hb2
 go_wp2_with fail
 refine hfo.mono ?_
 rintro e w3 ⟨rfl, nv, tv, hfr, hin3⟩
 have hs3 : w.heap.size ≤ w3.heap.size := by have := hfr.size; simp at this; omega
 have hbel : Below w.heap.size w w3 := by
  refine ⟨hin3.b0.os.trans HB0.out.os.symm, hin3.b0.tape.trans HB0.out.tape.symm, hin3.b0.output.trans HB0.out.output.symm, hs3, fun k hk => ?_⟩
  rw [hfr.blk k (by simp; omega) (by omega) (by simp [Value.ownBlock]) (by simp [Value.ownBlock]) (by simp only [Value.ownBlock, ne_eq, Option.some.injEq]; omega), Below.heap_alloc _ _ _ (by omega), HB2.out.block k hk]
 have HIN3 : Hid _ := hin3
 have HBEL : Hid _ := hbel
 clear hfr hin3 hbel hfo
 go_wp2
 go_ret
 exact ⟨w2.heap.size, nv, tv, _, rfl, hs3, HBEL.out, HIN3.out⟩
mutual
theorem PE.good {placed : Bool} {ts : List Tk} (hok : TokOk ts) (hkw : ∀ t ∈ ts, ∀ k, t.c = .kw k → t.s = k.bytes) (hl : ts.length ≤ 9000) : ∀ {l : List Tk} {e : PT} {r : List Tk}, PE placed l e r → GoodE ts l e r
 | _, _, _, .num (t := t) (r := r) h => by
  refine ⟨(PE.used (.num (placed := placed) h)).1, (PE.used (.num (placed := placed) h)).2, ⟨t, r, rfl, Or.inl h⟩, ⟨1, rfl, by simp⟩, ?_⟩
  intro gt tc cb p ids sites w hd hi hs hin
  obtain ⟨h1, h2, _⟩ := drop_at hd
  have e : (t :: r).length - r.length = 1 := by simp
  rw [e]
  exact build_num ts hok hl gt tc cb p ids sites t w hin h1 h2 (by omega) h
 | _, _, _, .name (t := t) (r := r) h => by
  refine ⟨(PE.used (.name (placed := placed) h)).1, (PE.used (.name (placed := placed) h)).2, ⟨t, r, rfl, Or.inr (Or.inl h)⟩, ⟨1, rfl, by simp⟩, ?_⟩
  intro gt tc cb p ids sites w hd hi hs hin
  obtain ⟨h1, h2, _⟩ := drop_at hd
  have e : (t :: r).length - r.length = 1 := by simp
  rw [e]
  exact build_name ts hl gt tc cb p ids sites t w hin h1 h2 (by omega) h
 | _, _, _, .node (t := t) (u := u) (k := k) (r := r0) (r' := r') (nm := nm) (rg := rg) (kids := kids) h1 h2 h3 h4 => by
  have hp := PW.good hok hkw hl h4
  have hpe : PE placed (t :: u :: r0) (.node t.at_ k nm rg kids) r' := .node h1 h2 h3 h4
  refine ⟨hpe.used.1, hpe.used.2, ⟨t, _, rfl, Or.inr (Or.inr h1)⟩, hpe.drop, ?_⟩
  intro gt tc cb p ids sites w hd hi hs hin
  obtain ⟨a1, a2, a3⟩ := drop_at hd
  obtain ⟨b1, b2, b3⟩ := drop_at a3.symm
  have hn := build_node ts hok hl placed gt tc cb p ids sites t u k w hin a1 b1 b2 hi hs h3 h1 (hkw u (List.mem_of_getElem? b1) k h2) nm rg kids r' (by rw [← b3]; exact hp)
  rw [hd] at hn
  exact hn
theorem PW.good {placed : Bool} {ts : List Tk} (hok : TokOk ts) (hkw : ∀ t ∈ ts, ∀ k, t.c = .kw k → t.s = k.bytes) (hl : ts.length ≤ 9000) : ∀ {ws : List Wt} {l : List Tk} {nm rg : List UInt8} {kids : List PT} {r : List Tk}, PW placed ws l nm rg kids r → PWx (GoodE ts) ws l nm rg kids r
 | _, _, _, _, _, _, .nil => .nil
 | _, _, _, _, _, _, .close h h1 => .close h (PW.good hok hkw hl h1)
 | _, _, _, _, _, _, .name h h1 => .name h (PW.good hok hkw hl h1)
 | _, _, _, _, _, _, .region h h1 => .region h (PW.good hok hkw hl h1)
 | _, _, _, _, _, _, .e h h1 => .e (PE.good hok hkw hl h) (PW.good hok hkw hl h1)
end
theorem tokens_ok (l : List UInt8) : TokOk (tokens l) := ⟨fun _ h hc => toks_num h hc, fun _ h hc => toks_reg h hc, fun _ h _ => toks_ne h⟩
theorem tokens_kw (l : List UInt8) : ∀ t ∈ tokens l, ∀ k, t.c = .kw k → t.s = k.bytes := fun _ h _ hc => toks_kw h hc
mutual
theorem PE.wf {placed : Bool} : ∀ {l : List Tk} {e : PT} {r : List Tk}, PE placed l e r → e.wf
 | _, _, _, .num _ => by simp [PT.wf]
 | _, _, _, .name _ => by simp [PT.wf]
 | _, _, _, .node (k := k) _ _ h3 h4 => by
  simp only [PT.wf]
  refine ⟨?_, PW.wfl h4⟩
  rw [PW.kids_len h4]
  cases k <;> cases placed <;> first | decide | exact absurd rfl h3
theorem PW.wfl {placed : Bool} : ∀ {ws : List Wt} {l : List Tk} {nm rg : List UInt8} {kids : List PT} {r : List Tk}, PW placed ws l nm rg kids r → wfL kids
 | _, _, _, _, _, _, .nil => by simp [wfL]
 | _, _, _, _, _, _, .close _ h1 => PW.wfl h1
 | _, _, _, _, _, _, .name _ h1 => PW.wfl h1
 | _, _, _, _, _, _, .region _ h1 => PW.wfl h1
 | _, _, _, _, _, _, .e h h1 => by simp only [wfL]; exact ⟨PE.wf h, PW.wfl h1⟩
end
set_option maxRecDepth 100000 in
set_option maxHeartbeats 1000000 in
theorem Build_any (s : ByteArray) (placed : Bool) (e : PT) (w : World) (hs : s.size ≤ 9000) (hp : PE placed (tokens s.data.toList) e []) :
  Calls Tryd.prog 18 #[.string s] w fun v w' => ∃ b, v = .returned (ptr b) ∧ Below w.heap.size w w' ∧ IsT w' (fun k => k < w'.heap.size) e 0 0 b := by
 have htl : (tokens s.data.toList).length ≤ 9000 := by
  have := toks_len s.data.toList.length 0 s.data.toList
  rw [size_list] at this
  unfold tokens; rw [size_list]; omega
 have hg := (PE.good (tokens_ok _) (tokens_kw _) htl hp).2.2.2.2
 have htk := Tokens_any s
 obtain ⟨ts, hts⟩ : ∃ ts, ts = tokens s.data.toList := ⟨_, rfl⟩
 rw [← hts] at hg htk
 have hne : 0 < ts.length := by
  obtain ⟨t, r', h, _⟩ := hp.suffix
  rw [hts, h]; simp
 clear hts hp htl
 go_enter Tryd.func18, Tryd.ntmps18
 go_wp2_with fail
 refine (htk _ hs).mono ?_
 rintro e' w1 ⟨tv, rfl, htown, htb⟩
 obtain ⟨gt, tc, htv⟩ : ∃ gt tc, tv = .slice (some ⟨gt, 0, none⟩) ts.length tc := by
  rcases htown.2 with ⟨_, h⟩ | ⟨g, cap, cur, h, _⟩
  ·omega
  ·exact ⟨_, _, h⟩
 subst htv
 have hgt := htown.lt gt rfl
 have hin : BIn ts gt tc w1.heap.size 0 0 0 (w1.alloc (.cells (cntCells (.slice (some ⟨gt, 0, none⟩) ts.length tc) 0 0 0) 70)) :=
  ⟨by omega, blk_new _ _, (owns_base htown (fun _ _ => Nat.zero_le _)).alloc _⟩
 have hca := hg gt tc w1.heap.size 0 0 0 _ (by simp) (Nat.le_refl _) (Nat.le_refl _) hin
 have HTB : Hid (Below w.heap.size w w1) := htb
 have hw1 := htb.size
 unfold ptr at hca
 clear htown hin htb hg htk
 go_wp2_with fail
 refine hca.mono ?_
 rintro e' w2 ⟨b, rfl, hc2, hg2, hT2⟩
 unfold ptr
 go_wp2
 go_ret
 have hsz := hg2.size
 refine ⟨b, rfl, ?_, ?_⟩
 ·refine HTB.out.trans ⟨hg2.os, hg2.tape, hg2.output, by simp at hsz; omega, fun k hk => ?_⟩
  rw [hg2.block k (by simp; omega) (fun e => by cases e; omega), Below.heap_alloc _ _ _ (by omega)]
 ·exact IsT.keep (fun k hk => hk.2) (fun _ _ => rfl) _ _ _ _ hT2
theorem Tryd.infoInt : (Tryd.prog.info? 3).map (fun i => (i.zero, i.size, i.bytes)) = some (some (.int .i64 0), 1, 8) := by kernel_rfl
theorem Tryd.undInts : Tryd.prog.underlying 34 = some (.slice 3) := by kernel_rfl
theorem isRec_cells {w : World} {b : Nat} {r : Rec} (h : isRec w b r) : w.cell? ⟨b, 1, none⟩ = some (.int .i64 r.p) := by
 obtain ⟨kv, h⟩ := h
 rw [blk_cell h]; rfl
theorem prl_at (e : PT) (r : Rec) (j : Nat) (hr : r ∈ e.recs 0 0) (hp : r.isPair = true) (hs : r.site = j) : (e.prl[j]?).map (·.1) = some r.p := by
 obtain ⟨_, _, rg, h, _⟩ := (recs_pairs e 0 0).2.1 r hr hp
 rw [hs, Nat.sub_zero] at h
 rw [h]; rfl
theorem Study_len {s : ByteArray} {placed : Bool} {e : PT} (hp : PE placed (tokens s.data.toList) e []) : e.cnt ≤ s.size := by
 have h1 := hp.used.1
 have h2 := toks_len s.data.toList.length 0 s.data.toList
 rw [size_list] at h2
 unfold tokens at h1
 rw [size_list] at h1
 simp at h1
 omega
theorem isT_drew {w : World} {n : Nat} {t : PT} {id site b : Nat} (h : IsT w (fun k => k < w.heap.size) t id site b) : IsT (w.drewN n) (fun k => k < (w.drewN n).heap.size) t id site b :=
 IsT.keep (w := w) (w' := w.drewN n) (F := fun k => k < w.heap.size) (F' := fun k => k < (w.drewN n).heap.size) (fun _ h => h) (fun _ _ => rfl) _ _ _ _ h
def chkAns (e : PT) : Nat × Nat :=
 if 100 < e.prs then (3, ((e.prl[100]?).map (·.1)).getD 0)
 else ((tyFind (List.range e.prs) e 0 0 [] (st0 e)).2.e, (tyFind (List.range e.prs) e 0 0 [] (st0 e)).2.at_)
end Go.Proofs.YtpicaknklgccoaaDoor
namespace Go.Proofs.YtpicaknklgccoaaDoor
structure TN where
 kind : Nat
 at_ : Nat
 beh : Nat
 word : List UInt8
 num : Int
def kindN : Cl → Nat
 | .bad => 1
 | .opn => 2
 | .cls => 3
 | .nam => 4
 | .num => 5
 | .reg => 6
 | .kw .let_ => 7
 | .kw .pair => 8
 | .kw .fst => 9
 | .kw .snd => 10
 | .kw .if_ => 11
 | .kw .add => 12
 | .kw .sub => 13
 | .kw .less => 14
 | .kw .loop => 15
 | .kw .new => 16
def wordN (t : Tk) : List UInt8 := match t.c with
 | .nam => t.s
 | .kw _ => t.s
 | _ => []
def numN (t : Tk) : Int := match t.c with
 | .num => valueL t.s
 | .reg => valueL t.s
 | _ => 0
def tnOf (t : Tk) : TN := ⟨kindN t.c, t.at_, t.at_ + t.s.length, wordN t, numN t⟩
def tksAt (s : List UInt8) (p : Nat) : List Tk := toks (s.length - p) p (s.drop p)
def tk1 (len : Nat) (l : List Tk) : TN := match l with
 | [] => ⟨0, len, len, [], 0⟩
 | t :: _ => tnOf t
structure NR where
 form : Nat
 at_ : Nat
 beh : Nat
 num : Int
 word : List UInt8
 region : Int
 source : Int
 p0 : Int
 p1 : Int
 p2 : Int
structure PS where
 l : List Tk
 fl : Option Nat
 scope : List (List UInt8 × Int)
 nodes : List NR
 opened : List Int
def PS.fail (at_ : Nat) (st : PS) : PS := match st.fl with
 | some _ => st
 | none => { st with fl := some at_, l := [] }
def PS.tail (st : PS) : PS := { st with l := st.l.tail }
def PS.expect (len kind : Nat) (st : PS) : PS := if (tk1 len st.l).kind ≠ kind then st.tail.fail (tk1 len st.l).at_ else st.tail
def PS.add (n : NR) (st : PS) : PS := { st with nodes := st.nodes ++ [n] }
def findS (scope : List (List UInt8 × Int)) (w : List UInt8) : Int := match scope.reverse.find? (fun x => x.1 == w) with
 | some x => x.2
 | none => -1
def formN : Nat → Nat
 | 7 => 3
 | 8 => 4
 | 9 => 5
 | 10 => 6
 | 11 => 7
 | 12 => 8
 | 13 => 9
 | 14 => 10
 | 15 => 11
 | 16 => 12
 | _ => 0
def pBody (pE : PS → Int × PS) (word : List UInt8) (src : Int) (st : PS) : Int × PS :=
 let x := pE { st with scope := st.scope ++ [(word, src)] }
 (x.1, { x.2 with scope := x.2.scope.dropLast })
def pLet (len : Nat) (pE : PS → Int × PS) (n : NR) (st : PS) : NR × PS :=
 let nm := tk1 len st.l
 let x := pE (st.expect len 4)
 let y := pBody pE nm.word x.1 x.2
 ({ n with word := nm.word, p0 := x.1, p1 := y.1, p2 := -1 }, y.2)
def pLoop (len : Nat) (pE : PS → Int × PS) (n : NR) (st : PS) : NR × PS :=
 let t := pE st
 let nm := tk1 len t.2.l
 let x := pE (t.2.expect len 4)
 let y := pBody pE nm.word x.1 x.2
 ({ n with word := nm.word, p0 := t.1, p1 := x.1, p2 := y.1 }, y.2)
def pRegion (len : Nat) (n : NR) (st : PS) : NR × PS := ({ n with region := (tk1 len st.l).num }, st.expect len 6)
def pRow1 (pE : PS → Int × PS) (n : NR) (st : PS) : NR × PS :=
 let x := pE st
 ({ n with p0 := x.1 }, x.2)
def pRow2 (pE : PS → Int × PS) (n : NR) (st : PS) : NR × PS :=
 let x := pRow1 pE n st
 let y := pE x.2
 ({ x.1 with p1 := y.1 }, y.2)
def pRow3 (pE : PS → Int × PS) (n : NR) (st : PS) : NR × PS :=
 let x := pRow2 pE n st
 let y := pE x.2
 ({ x.1 with p2 := y.1 }, y.2)
def pFill (placed : Bool) (len : Nat) (pE : PS → Int × PS) (n : NR) (st : PS) : NR × PS :=
 if n.form = 3 then pLet len pE n st
 else if n.form = 11 then pLoop len pE n st
 else if n.form = 4 then (if placed then pRow2 pE (pRegion len n st).1 (pRegion len n st).2 else pRow2 pE n st)
 else if n.form = 12 then pRow1 pE (pRegion len n st).1 (pRegion len n st).2
 else if n.form = 5 ∨ n.form = 6 then pRow1 pE n st
 else if n.form = 7 then pRow3 pE n st
 else pRow2 pE n st
def pBracket (placed : Bool) (len : Nat) (pE : PS → Int × PS) (n : NR) (st : PS) : Int × PS :=
 let w := tk1 len st.l
 let f := formN w.kind
 if f = 0 ∨ (f = 12 ∧ placed = false) then (-1, st.tail.fail w.at_)
 else
  let x := pFill placed len pE { n with form := f } st.tail
  let e := tk1 len x.2.l
  (((x.2.expect len 3).nodes.length : Int), (x.2.expect len 3).add { x.1 with beh := e.beh })
def nodeT (t : TN) : NR := ⟨0, t.at_, t.beh, 0, [], 0, -1, -1, -1, -1⟩
def pAny (len : Nat) (pB : NR → PS → Int × PS) (st : PS) : Int × PS :=
 let t := tk1 len st.l
 if t.kind = 5 then ((st.nodes.length : Int), st.tail.add { nodeT t with form := 1, num := t.num })
 else if t.kind = 4 then ((st.nodes.length : Int), st.tail.add { nodeT t with form := 2, word := t.word, source := findS st.scope t.word })
 else if t.kind = 2 then pB (nodeT t) st.tail
 else (-1, st.tail.fail t.at_)
def pSeat (f : PS → Int × PS) (st : PS) : Int × PS :=
 let x := f { st with opened := st.opened ++ [-1] }
 (x.1, { x.2 with opened := x.2.opened.set st.opened.length x.1 })
def pExpr (placed : Bool) (len : Nat) : Nat → PS → Int × PS
 | 0 => pSeat (pAny len fun _ st => (-1, st))
 | m + 1 => pSeat (pAny len (pBracket placed len (pExpr placed len m)))
theorem kindN_num (c : Cl) : kindN c = 5 ↔ c = .num := by
 cases c with
 | kw k => cases k <;> decide
 | _ => decide
theorem kindN_nam (c : Cl) : kindN c = 4 ↔ c = .nam := by
 cases c with
 | kw k => cases k <;> decide
 | _ => decide
theorem kindN_opn (c : Cl) : kindN c = 2 ↔ c = .opn := by
 cases c with
 | kw k => cases k <;> decide
 | _ => decide
theorem kindN_cls (c : Cl) : kindN c = 3 ↔ c = .cls := by
 cases c with
 | kw k => cases k <;> decide
 | _ => decide
theorem kindN_reg (c : Cl) : kindN c = 6 ↔ c = .reg := by
 cases c with
 | kw k => cases k <;> decide
 | _ => decide
theorem kindN_pos (c : Cl) : kindN c ≠ 0 := by
 cases c with
 | kw k => cases k <;> decide
 | _ => decide
def PS.stuck (q : Nat) (st : PS) : Prop := st.fl = some q ∧ st.l = []
theorem stuck_fail {q a : Nat} {st : PS} (h : st.stuck q) : (st.fail a).stuck q := by
 obtain ⟨h1, h2⟩ := h
 unfold PS.fail; rw [h1]; exact ⟨h1, h2⟩
theorem stuck_tail {q : Nat} {st : PS} (h : st.stuck q) : st.tail.stuck q := ⟨h.1, by simp [PS.tail, h.2]⟩
theorem stuck_expect {q len k : Nat} {st : PS} (h : st.stuck q) : (st.expect len k).stuck q := by
 unfold PS.expect; split
 ·exact stuck_fail (stuck_tail h)
 ·exact stuck_tail h
theorem fail_stuck {a : Nat} {st : PS} (h : st.fl = none) : (st.fail a).stuck a := by
 unfold PS.fail; rw [h]; exact ⟨rfl, rfl⟩
def Keeps (pE : PS → Int × PS) : Prop := ∀ (q : Nat) (st : PS), st.stuck q → (pE st).2.stuck q
theorem keeps_any (len : Nat) (pB : NR → PS → Int × PS) : Keeps (pAny len pB) := by
 intro q st h
 unfold pAny
 simp only [h.2, tk1]
 exact stuck_fail (stuck_tail h)
theorem keeps_seat {f : PS → Int × PS} (hf : Keeps f) : Keeps (pSeat f) := by
 intro q st h
 exact hf q { st with opened := st.opened ++ [-1] } h
theorem keeps_expr (placed : Bool) (len n : Nat) : Keeps (pExpr placed len n) := by
 cases n with
 | zero => exact keeps_seat (keeps_any _ _)
 | succ m => exact keeps_seat (keeps_any _ _)
theorem keeps_body {pE : PS → Int × PS} (h : Keeps pE) (w : List UInt8) (src : Int) {q : Nat} {st : PS} (hs : st.stuck q) : (pBody pE w src st).2.stuck q := h q { st with scope := st.scope ++ [(w, src)] } hs
theorem tail_len (st : PS) : st.tail.l.length ≤ st.l.length := by simp [PS.tail]
end Go.Proofs.YtpicaknklgccoaaDoor
namespace Go.Proofs.YtpicaknklgccoaaDoor
open Go.RowKit
def bA (s : ByteArray) (a : Nat) : UInt8 := if h : a < s.size then s[a] else 0
theorem bA_in (s : ByteArray) (a : Nat) (h : a < s.size) : bA s a = s[a] := by unfold bA; rw [dif_pos h]
theorem bA_out (s : ByteArray) (a : Nat) (h : s.size ≤ a) : bA s a = 0 := by unfold bA; rw [dif_neg (by omega)]
set_option maxHeartbeats 400000 in
theorem byteAt_any (s : ByteArray) (a : Nat) (w : World) (ha : a ≤ 10000) :
  Calls Tryd.prog 105 #[.string s, .int .i64 a] w fun e w' => e = .returned (.int .u8 ((bA s a).toNat : Int)) ∧ w' = w := by
 by_cases h : a < s.size
 ·rw [bA_in s a h]
  go_enter Tryd.func105, Tryd.ntmps105
  go_wp2
  go_ret
  exact ⟨rfl, rfl⟩
 ·rw [bA_out s a (by omega)]
  go_enter Tryd.func105, Tryd.ntmps105
  go_wp2
  go_ret
  exact ⟨rfl, rfl⟩
set_option maxHeartbeats 400000 in
theorem isLetter_any (c : UInt8) (w : World) :
  Calls Tryd.prog 106 #[.int .u8 (c.toNat : Int)] w fun e w' => e = .returned (.bool (inB 97 122 c)) ∧ w' = w := by
 have hc : c.toNat < 256 := c.toNat_lt
 unfold inB
 go_enter Tryd.func106, Tryd.ntmps106
 go_wp2
 all_goals go_ret
 ·refine ⟨ret_bool ?_, rfl⟩
  have h1 : (97 : Int) ≤ (c.toNat : Int) := by assumption
  simp [h1]
 ·refine ⟨ret_bool ?_, rfl⟩
  have h1 : ¬ (97 : Int) ≤ (c.toNat : Int) := by omega
  simp [h1]
set_option maxHeartbeats 400000 in
theorem isDigit_any (c : UInt8) (w : World) :
  Calls Tryd.prog 108 #[.int .u8 (c.toNat : Int)] w fun e w' => e = .returned (.bool (inB 48 57 c)) ∧ w' = w := by
 have hc : c.toNat < 256 := c.toNat_lt
 unfold inB
 go_enter Tryd.func108, Tryd.ntmps108
 go_wp2
 all_goals go_ret
 ·refine ⟨ret_bool ?_, rfl⟩
  have h1 : (48 : Int) ≤ (c.toNat : Int) := by assumption
  simp [h1]
 ·refine ⟨ret_bool ?_, rfl⟩
  have h1 : ¬ (48 : Int) ≤ (c.toNat : Int) := by omega
  simp [h1]
set_option maxHeartbeats 400000 in
theorem isBlank_any (c : UInt8) (w : World) :
  Calls Tryd.prog 117 #[.int .u8 (c.toNat : Int)] w fun e w' => e = .returned (.bool (blankB c)) ∧ w' = w := by
 have e1 : ((c.toNat : Int) == 32) = (c == 32) := byte_eq c 32
 have e2 : ((c.toNat : Int) == 10) = (c == 10) := byte_eq c 10
 unfold blankB
 rw [← e1, ← e2]
 clear e1 e2
 go_enter Tryd.func117, Tryd.ntmps117
 go_wp2
 all_goals go_ret
 all_goals
  refine ⟨ret_bool ?_, rfl⟩
  simp_all
def nbl : List UInt8 → Nat
 | [] => 0
 | c :: r => if blankB c then nbl r + 1 else 0
theorem nbl_le (l : List UInt8) : nbl l ≤ l.length := by
 induction l with
 | nil => simp [nbl]
 | cons c r ih => simp only [nbl]; split <;> simp <;> omega
set_option maxRecDepth 100000 in
set_option maxHeartbeats 1000000 in
theorem skipBlanks_any (s : ByteArray) (a : Nat) (w : World) (hs : s.size ≤ 9000) (ha : a ≤ s.size) :
  Calls Tryd.prog 104 #[.string s, .int .i64 a] w fun e w' => e = .returned (.int .i64 ((a + nbl (s.data.toList.drop a) : Nat) : Int)) ∧ w' = w := by
 have hby := fun k (h : k ≤ 10000) w => byteAt_any s k w h
 go_enter Tryd.func104, Tryd.ntmps104
 go_wp2
 go_loop [5] (fun i => ∃ k : Nat, k ≤ s.size ∧ i = .int .i64 k ∧ a + nbl (s.data.toList.drop a) = k + nbl (s.data.toList.drop k)) (fun i => s.size - (intOf i).toNat)
 case atStart => exact ⟨a, ha, rfl, rfl⟩
 case round =>
  obtain ⟨k, hk, rfl, hr⟩ := hrel
  have HR : Hid _ := hr
  clear hr
  by_cases hlt : k < s.size
  ·by_cases hb : blankB s[k] = true
   ·have hn : nbl (s.data.toList.drop k) = nbl (s.data.toList.drop (k + 1)) + 1 := by rw [drop_cons s k hlt]; simp [nbl, hb]
    have HN : Hid _ := hn
    have hbl := fun w => isBlank_any s[k] w
    rw [hb] at hbl
    have hbk := hby k (by omega)
    rw [bA_in s k hlt] at hbk
    clear hn hb
    go_wp2_with (first
     | (go_at_call 105; refine (hbk _).mono ?_; rintro e w' ⟨rfl, rfl⟩)
     | (go_at_call 117; refine (hbl _).mono ?_; rintro e w' ⟨rfl, rfl⟩))
    go_round
    case rel => exact ⟨k + 1, by omega, by go_num, by rw [HR.out, HN.out]; omega⟩
    case measure => simp [intOf]; omega
   ·have hb0 : blankB s[k] = false := by simpa using hb
    have hn : nbl (s.data.toList.drop k) = 0 := by rw [drop_cons s k hlt]; simp [nbl, hb0]
    have HN : Hid _ := hn
    have hbl := fun w => isBlank_any s[k] w
    rw [hb0] at hbl
    have hbk := hby k (by omega)
    rw [bA_in s k hlt] at hbk
    clear hn hb hb0
    go_wp2_with (first
     | (go_at_call 105; refine (hbk _).mono ?_; rintro e w' ⟨rfl, rfl⟩)
     | (go_at_call 117; refine (hbl _).mono ?_; rintro e w' ⟨rfl, rfl⟩))
    go_ret
    exact ⟨ret_int (by have h1 := HR.out; have h2 := HN.out; omega), rfl⟩
  ·have hn : nbl (s.data.toList.drop k) = 0 := by rw [drop_end s k (by omega)]; rfl
   have HN : Hid _ := hn
   clear hn
   go_wp2
   go_ret
   exact ⟨ret_int (by have h1 := HR.out; have h2 := HN.out; omega), rfl⟩
set_option maxRecDepth 100000 in
set_option maxHeartbeats 1000000 in
theorem valueOf_any (s : ByteArray) (a n b : Nat) (w : World) (hs : s.size ≤ 9000) (hab : b = a + n) (ha : b ≤ s.size) (hn : n ≤ 5) (hd : ∀ c ∈ (s.data.toList.drop a).take n, c ≠ 35) :
  Calls Tryd.prog 120 #[.string s, .int .i64 a, .int .i64 b] w fun e w' => e = .returned (.int .i64 (valueL ((s.data.toList.drop a).take n))) ∧ w' = w := by
 have hby := fun k (h : k ≤ 10000) w => byteAt_any s k w h
 have HD : Hid _ := hd
 clear hd
 go_enter Tryd.func120, Tryd.ntmps120
 go_wp2
 go_loop [7, 8] (fun v i => ∃ k j : Nat, k ≤ n ∧ j = a + k ∧ i = .int .i64 j ∧ v = .int .i64 (valueL ((s.data.toList.drop a).take k))) (fun _ i => b - (intOf i).toNat)
 case atStart => exact ⟨0, a, by omega, rfl, rfl, rfl⟩
 case round =>
  obtain ⟨k, j, hk, hj, rfl, rfl⟩ := hrel
  have hb := valueL_bd ((s.data.toList.drop a).take k)
  have hp := pow5 ((s.data.toList.drop a).take k).length (by simp; omega)
  obtain ⟨m, hm⟩ : ∃ m, m = valueL ((s.data.toList.drop a).take k) := ⟨_, rfl⟩
  rw [← hm] at hb
  obtain ⟨hb1, hb2⟩ : -3000000 ≤ m ∧ m ≤ 3000000 := by omega
  clear hp hb
  by_cases hlt : k < n
  ·have hin : j < s.size := by omega
   have hsn : valueL ((s.data.toList.drop a).take (k + 1)) = 10 * m + (s[j].toNat : Int) - 48 := by
    have e : (s.data.toList.drop a).take (k + 1) = (s.data.toList.drop a).take k ++ [s[j]] := by
     subst hj; rw [List.take_succ_eq_append_getElem (by simp; omega), List.getElem_drop]; rfl
    have hne : s[j] ≠ 35 := by
     apply HD.out
     have : s[j] ∈ (s.data.toList.drop a).take (k + 1) := by rw [e]; simp
     rw [show (s.data.toList.drop a).take (k + 1) = ((s.data.toList.drop a).take n).take (k + 1) from by rw [List.take_take, Nat.min_eq_left (by omega)]] at this
     exact List.mem_of_mem_take this
    rw [e, valueL_snoc, if_neg hne, hm]
   have HS : Hid _ := hsn
   have hcb : s[j].toNat < 256 := s[j].toNat_lt
   have HC : Hid _ := hcb
   have hbk := hby j (by omega)
   rw [bA_in s j hin] at hbk
   clear hsn hcb
   rw [← hm]
   have HM : Hid _ := hm
   clear hm
   have HJ : Hid (j = a + k) := hj
   have hjb : j < b := by omega
   have HAB : Hid (b = a + n) := hab
   clear hj hab
   go_wp2_with fail
   refine (hbk _).mono ?_
   rintro e w' ⟨rfl, rfl⟩
   go_wp2
   go_round
   case rel =>
    have := HJ.out
    refine ⟨k + 1, j + 1, by omega, by omega, by go_num, ?_⟩
    rw [HS.out]
    have := HC.out
    rw [IntWalk.wrap64_in (s[j].toNat : Int) (by omega), IntWalk.wrap64_in (m * 10 + (s[j].toNat : Int)) (by omega), IntWalk.wrap64_in _ (by omega), Int.mul_comm m 10]
   case measure => simp [intOf]; omega
  ·have hkn : k = n := by omega
   subst hkn
   go_wp2
   go_ret
   exact ⟨rfl, rfl⟩
set_option maxHeartbeats 400000 in
theorem cut_any (s : ByteArray) (a b : Nat) (w : World) (ha : a ≤ b) (hb : b ≤ s.size) :
  Calls Tryd.prog 118 #[.string s, .int .i64 a, .int .i64 b] w fun e w' => e = .returned (.string (s.extract a b)) ∧ w' = w := by
 go_enter Tryd.func118, Tryd.ntmps118
 go_wp2
 go_ret
 exact ⟨rfl, rfl⟩
theorem kw_key (s : ByteArray) (k : Kw) : (s.toList == k.bytes) = decide (kwOf s.data.toList = some k) := by
 rw [Lib.toList_data]
 by_cases h : kwOf s.data.toList = some k
 ·rw [decide_eq_true h, kwOf_some h]; simp
 ·rw [decide_eq_false h, beq_eq_false_iff_ne]
  intro e; rw [e, kwOf_bytes] at h; exact h rfl
set_option maxRecDepth 100000 in
set_option maxHeartbeats 1000000 in
theorem kindOf_any (s : ByteArray) (w : World) :
  Calls Tryd.prog 119 #[.string s] w fun e w' => e = .returned (.int .i64 ((kindN (wordCl s.data.toList 0) : Nat) : Int)) ∧ w' = w := by
 have f1 := kw_key s .let_
 have f2 := kw_key s .pair
 have f3 := kw_key s .fst
 have f4 := kw_key s .snd
 have f5 := kw_key s .if_
 have f6 := kw_key s .add
 have f7 := kw_key s .sub
 have f8 := kw_key s .less
 have f9 := kw_key s .loop
 have f10 := kw_key s .new
 simp only [Kw.bytes] at f1 f2 f3 f4 f5 f6 f7 f8 f9 f10
 unfold wordCl
 cases hk : kwOf s.data.toList with
 | none =>
  rw [hk] at f1 f2 f3 f4 f5 f6 f7 f8 f9 f10
  simp only [reduceCtorEq, decide_false] at f1 f2 f3 f4 f5 f6 f7 f8 f9 f10
  clear hk
  go_enter Tryd.func119, Tryd.ntmps119
  go_wp2
  go_ret
  exact ⟨rfl, rfl⟩
 | some k =>
  rw [hk] at f1 f2 f3 f4 f5 f6 f7 f8 f9 f10
  clear hk
  cases k
  all_goals
   simp only [Option.some.injEq, reduceCtorEq, decide_false, decide_true] at f1 f2 f3 f4 f5 f6 f7 f8 f9 f10
   go_enter Tryd.func119, Tryd.ntmps119
   go_wp2
   go_ret
   exact ⟨rfl, rfl⟩
end Go.Proofs.YtpicaknklgccoaaDoor
