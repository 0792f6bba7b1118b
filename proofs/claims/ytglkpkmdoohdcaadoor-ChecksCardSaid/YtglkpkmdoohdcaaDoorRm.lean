import Derived.Test.YtglkpkmdoohdcaaDoorRl
import Derived.BigRegion
namespace Go.Proofs.YtglkpkmdoohdcaaDoor
open Go.RowKit

def Rec.isPair (r : Rec) : Bool := r.op == Kw.pair.bytes
mutual
/-- the pairs of a program, by the places of their brackets: place and region -/
def PT.prl : PT → List (Nat × List UInt8)
  | .num _ _ => []
  | .name _ _ => []
  | .node p k _ rg kids => (if k = .pair then [(p, rg)] else []) ++ prlL kids
def prlL : List PT → List (Nat × List UInt8)
  | [] => []
  | t :: r => t.prl ++ prlL r
end
mutual
theorem prl_len : ∀ t : PT, t.prl.length = t.prs
  | .num _ _ => rfl
  | .name _ _ => rfl
  | .node _ k _ _ kids => by simp only [PT.prl, PT.prs, List.length_append, prlL_len kids]; split <;> rfl
theorem prlL_len : ∀ ts : List PT, (prlL ts).length = prsL ts
  | [] => rfl
  | t :: r => by simp only [prlL, prsL, List.length_append, prl_len t, prlL_len r]
end

mutual
theorem prs_cnt : ∀ t : PT, t.prs ≤ t.cnt
  | .num _ _ => by simp [PT.prs]
  | .name _ _ => by simp [PT.prs]
  | .node _ k _ _ kids => by have := prsL_cnt kids; simp only [PT.prs, PT.cnt]; split <;> omega
theorem prsL_cnt : ∀ ts : List PT, prsL ts ≤ cntL ts
  | [] => by simp [prsL]
  | t :: r => by have := prs_cnt t; have := prsL_cnt r; simp only [prsL, cntL]; omega
end

def cntP (rl : List Rec) : Nat := (rl.filter Rec.isPair).length
theorem cntP_append (a b : List Rec) : cntP (a ++ b) = cntP a + cntP b := by simp [cntP]

theorem kw_pair (k : Kw) : (k.bytes == Kw.pair.bytes) = decide (k = .pair) := by cases k <;> decide

mutual
theorem recs_pairs : ∀ (t : PT) (id site : Nat), cntP (t.recs id site) = t.prs ∧ (∀ r ∈ t.recs id site, r.isPair = true → site ≤ r.site ∧ r.site < site + t.prs ∧ ∃ rg, t.prl[r.site - site]? = some (r.p, rg) ∧ r.n = valueL rg) ∧ (∀ s, site ≤ s → s < site + t.prs → ∃ r ∈ t.recs id site, r.isPair = true ∧ r.site = s)
  | .num p s, id, site => by
    refine ⟨rfl, ?_, ?_⟩
    · intro r hr hp; simp only [PT.recs, List.mem_singleton] at hr; subst hr; simp [Rec.isPair, numB, Kw.bytes] at hp
    · intro s h1 h2; simp [PT.prs] at h2; omega
  | .name p s, id, site => by
    refine ⟨rfl, ?_, ?_⟩
    · intro r hr hp; simp only [PT.recs, List.mem_singleton] at hr; subst hr; simp [Rec.isPair, nameB, Kw.bytes] at hp
    · intro s h1 h2; simp [PT.prs] at h2; omega
  | .node p k nm rg kids, id, site => by
    obtain ⟨h1, h2, h3⟩ := recsL_pairs kids (id + 1) (site + if k = .pair then 1 else 0)
    have hself : (Rec.isPair ⟨k.bytes, p, nm, valueL rg, id, id + cntL kids, site⟩) = decide (k = .pair) := kw_pair k
    refine ⟨?_, ?_, ?_⟩
    · simp only [PT.recs, PT.prs, cntP_append, h1]
      have : cntP [⟨k.bytes, p, nm, valueL rg, id, id + cntL kids, site⟩] = if k = .pair then 1 else 0 := by
        unfold cntP; rw [List.filter_cons, hself]; by_cases hk : k = .pair <;> simp [hk]
      omega
    · intro r hr hp
      simp only [PT.recs, List.mem_append, List.mem_singleton] at hr
      rcases hr with hr | hr
      · obtain ⟨a, b, rg', c, d⟩ := h2 r hr hp
        simp only [PT.prl, PT.prs]
        by_cases hk : k = .pair
        · rw [if_pos hk] at a b c ⊢
          rw [if_pos hk]
          refine ⟨by omega, by omega, rg', ?_, d⟩
          rw [show r.site - site = (r.site - (site + 1)) + 1 from by omega]
          simpa using c
        · rw [if_neg hk] at a b c ⊢
          rw [if_neg hk]
          exact ⟨by omega, by omega, rg', by simpa using c, d⟩
      · subst hr
        rw [hself] at hp
        have hk : k = .pair := by simpa using hp
        simp only [PT.prl, PT.prs, if_pos hk]
        exact ⟨by omega, by omega, rg, by simp, rfl⟩
    · intro s hs1 hs2
      simp only [PT.prs] at hs2
      by_cases hk : k = .pair
      · rw [if_pos hk] at h3 hs2
        by_cases hs : s = site
        · refine ⟨⟨k.bytes, p, nm, valueL rg, id, id + cntL kids, site⟩, by simp [PT.recs], ?_, hs.symm⟩
          rw [hself]; simpa using hk
        · obtain ⟨r, hr, hp, he⟩ := h3 s (by omega) (by omega)
          exact ⟨r, by simp only [PT.recs, if_pos hk, List.mem_append]; exact Or.inl hr, hp, he⟩
      · rw [if_neg hk] at h3 hs2
        obtain ⟨r, hr, hp, he⟩ := h3 s (by omega) (by omega)
        exact ⟨r, by simp only [PT.recs, if_neg hk, List.mem_append]; exact Or.inl hr, hp, he⟩
theorem recsL_pairs : ∀ (ts : List PT) (id site : Nat), cntP (recsL ts id site) = prsL ts ∧ (∀ r ∈ recsL ts id site, r.isPair = true → site ≤ r.site ∧ r.site < site + prsL ts ∧ ∃ rg, (prlL ts)[r.site - site]? = some (r.p, rg) ∧ r.n = valueL rg) ∧ (∀ s, site ≤ s → s < site + prsL ts → ∃ r ∈ recsL ts id site, r.isPair = true ∧ r.site = s)
  | [], _, _ => by
    refine ⟨rfl, ?_, ?_⟩
    · intro r hr; simp [recsL] at hr
    · intro s h1 h2; simp [prsL] at h2; omega
  | t :: ts, id, site => by
    obtain ⟨h1, h2, h3⟩ := recs_pairs t id site
    obtain ⟨k1, k2, k3⟩ := recsL_pairs ts (id + t.cnt) (site + t.prs)
    have hl := prl_len t
    refine ⟨by simp only [recsL, prsL, cntP_append, h1, k1], ?_, ?_⟩
    · intro r hr hp
      simp only [recsL, List.mem_append] at hr
      simp only [prlL, prsL]
      rcases hr with hr | hr
      · obtain ⟨a, b, rg', c, d⟩ := h2 r hr hp
        exact ⟨a, by omega, rg', by rw [List.getElem?_append_left (by omega)]; exact c, d⟩
      · obtain ⟨a, b, rg', c, d⟩ := k2 r hr hp
        refine ⟨by omega, by omega, rg', ?_, d⟩
        rw [List.getElem?_append_right (by omega), hl, show r.site - site - t.prs = r.site - (site + t.prs) from by omega]; exact c
    · intro s hs1 hs2
      simp only [prsL] at hs2
      by_cases hs : s < site + t.prs
      · obtain ⟨r, hr, hp, he⟩ := h3 s hs1 hs
        exact ⟨r, by simp only [recsL, List.mem_append]; exact Or.inl hr, hp, he⟩
      · obtain ⟨r, hr, hp, he⟩ := k3 s (by omega) (by omega)
        exact ⟨r, by simp only [recsL, List.mem_append]; exact Or.inr hr, hp, he⟩
end

/-- the pairs laid at their sites -/
def fillP : List Nat → List Rec → List Value → List Value
  | b :: bl, r :: rl, out => fillP bl rl (if r.isPair then out.set r.site (ptr b) else out)
  | _, _, out => out
theorem fillP_len : ∀ (bl : List Nat) (rl : List Rec) (out : List Value), (fillP bl rl out).length = out.length
  | b :: bl, r :: rl, out => by simp only [fillP]; rw [fillP_len bl rl]; split <;> simp
  | [], _, _ => by simp [fillP]
  | _ :: _, [], _ => by simp [fillP]

theorem fillP_at {w : World} {P : Rec → Prop} : ∀ (bl : List Nat) (rl : List Rec) (out : List Value) (s : Nat), areRecs w bl rl → (∀ r ∈ rl, P r) → s < out.length →
    ((∃ r ∈ rl, r.isPair = true ∧ r.site = s) ∨ (∃ b r, out[s]? = some (ptr b) ∧ isRec w b r ∧ r.isPair = true ∧ r.site = s ∧ P r)) → ∃ b r, (fillP bl rl out)[s]? = some (ptr b) ∧ isRec w b r ∧ r.isPair = true ∧ r.site = s ∧ P r
  | [], [], out, s, _, _, hs, h => by
    rcases h with ⟨r, hr, _⟩ | h
    · simp at hr
    · simpa [fillP] using h
  | b :: bl, r :: rl, out, s, ha, hP, hs, h => by
    simp only [fillP]
    refine fillP_at bl rl _ s ha.2 (fun r hr => hP r (List.mem_cons_of_mem _ hr)) (by split <;> simpa using hs) ?_
    by_cases hp : r.isPair = true
    · rw [if_pos hp]
      by_cases he : r.site = s
      · exact Or.inr ⟨b, r, by rw [he, List.getElem?_set_self hs], ha.1, hp, he, hP r List.mem_cons_self⟩
      · rcases h with ⟨r', hr', hp', hs'⟩ | ⟨b', r', h1, h2⟩
        · rcases List.mem_cons.1 hr' with rfl | hr'
          · exact absurd hs' he
          · exact Or.inl ⟨r', hr', hp', hs'⟩
        · exact Or.inr ⟨b', r', by rw [List.getElem?_set_ne he]; exact h1, h2⟩
    · rw [if_neg hp]
      rcases h with ⟨r', hr', hp', hs'⟩ | h
      · rcases List.mem_cons.1 hr' with rfl | hr'
        · exact absurd hp' hp
        · exact Or.inl ⟨r', hr', hp', hs'⟩
      · exact Or.inr h
  | [], _ :: _, _, _, h, _, _, _ => by simp [areRecs] at h
  | _ :: _, [], _, _, h, _, _, _ => by simp [areRecs] at h

theorem areRecs.at {w : World} : ∀ {bl : List Nat} {rl : List Rec}, areRecs w bl rl → ∀ i, i < bl.length → ∃ b r, bl[i]? = some b ∧ rl[i]? = some r ∧ isRec w b r
  | [], [], _, i, hi => by simp at hi
  | b :: bl, r :: rl, h, 0, _ => ⟨b, r, rfl, rfl, h.1⟩
  | b :: bl, r :: rl, h, i + 1, hi => by
    obtain ⟨b', r', h1, h2, h3⟩ := areRecs.at h.2 i (by simpa using hi)
    exact ⟨b', r', by simpa using h1, by simpa using h2, h3⟩
  | [], _ :: _, h, _, _ => by simp [areRecs] at h
  | _ :: _, [], h, _, _ => by simp [areRecs] at h

set_option maxRecDepth 100000 in
set_option maxHeartbeats 2000000 in
theorem pairs_any (t : PT) (b : Nat) (F : Nat → Prop) (w : World) (hcnt : t.cnt ≤ 9000) (hT : IsT w F t 0 0 b) : Calls Tryd.prog 33 #[ptr b] w fun e w' =>
    ∃ g cap vs, e = .returned (.slice (some ⟨g, 0, none⟩) t.prs cap) ∧ Below w.heap.size w w' ∧ w'.ownsRow 0 52 1 (.slice (some ⟨g, 0, none⟩) t.prs cap) t.prs vs ∧
      ∀ s, s < t.prs → ∃ b r, vs[s]? = some (ptr b) ∧ isRec w b r ∧ r.isPair = true ∧ r.site = s ∧ r ∈ t.recs 0 0 := by
  obtain ⟨i0, hi, hz0, hz1, hz2⟩ := info_parts Tryd.infoPtr
  have HI : Hid _ := hi
  have HZ0 : Hid _ := hz0
  have HZ1 : Hid _ := hz1
  have HZ2 : Hid _ := hz2
  clear hi hz1 
  have hal := all_any t 0 0 b F w hcnt hT w (Below.refl _ _)
  unfold ptr at hal
  show Calls _ _ #[Value.pointer (some ⟨b, 0, none⟩)] w _
  clear hz0 hz2
  go_enter Tryd.func33, Tryd.ntmps33
  go_wp2_with (first
    | (go_at_call 57; refine hal.mono ?_; rintro e w1 ⟨g1, cap1, bl, rfl, hb1, ho1, hr1⟩)
    | (at_make; go_must (refine wpList_make_full _ rfl (.tmp 10) (.tmp 10) 79 rfl w1.heap.size 52 i0 _ 1 Tryd.undPtrs HI.out HZ0.out HZ1.out .i64 .i64 _ _ bl.length rfl rfl rfl rfl ?m1 ?m2 ?m3 ?_)))
  case m1 => rw [HZ2.out]; have := hr1.len; rw [recs_len] at this; omega
  case m2 => have := hr1.len; rw [recs_len] at this; unfold maxLen; omega
  case m3 => omega
  intro w2 ho2 hg2
  have hL : bl.length = t.cnt := by have := hr1.len; rw [recs_len] at this; exact this
  obtain ⟨out0, hout0⟩ : ∃ out0, out0 = (madeCells #[Value.pointer none] bl.length).toList := ⟨_, rfl⟩
  have ho2l := ho2.1
  have HO2 : Hid (w2.ownsRow w1.heap.size 52 1 (.slice (some ⟨w1.heap.size, 0, none⟩) bl.length bl.length) bl.length out0) := by rw [hout0]; exact ho2
  have hol0 : out0.length = bl.length := by have := HO2.out.1; simpa using this
  have HOL : Hid (out0.length = bl.length) := hol0
  clear hol0
  have hb2 : Below w1.heap.size w1 w2 := ⟨hg2.os, hg2.tape, hg2.output, hg2.size, fun k hk => hg2.block k hk (by simp)⟩
  have HR1 : Hid _ := hr1
  have HO1 : Hid (w1.ownsRow w.heap.size 52 1 (.slice (some ⟨g1, 0, none⟩) bl.length cap1) bl.length (bl.map ptr)) := ho1
  have hs1 := hb1.size
  have hs2 := hb2.size
  have hlen : bl.length ≤ 9000 := by omega
  have hps := (recs_pairs t 0 0)
  have HPS : Hid _ := hps
  have hg1w := (ho1.lt g1 rfl).2
  have hw12 : w1.heap.size < w2.heap.size := (HO2.out.lt _ rfl).2
  clear ho2 hg2 hr1 ho1 hout0 ho2l hps
  go_wp2
  go_loopw [5, 6] (fun n i wr => ∃ (j m : Nat) (out : List Value), j ≤ bl.length ∧ i = .int .i64 j ∧ n = .int .i64 m ∧ m ≤ j ∧ wr.ownsRow w1.heap.size 52 1 (.slice (some ⟨w1.heap.size, 0, none⟩) bl.length bl.length) bl.length out ∧ Below w1.heap.size w1 wr ∧ out.length = bl.length ∧
      fillP (bl.drop j) ((t.recs 0 0).drop j) out = fillP bl (t.recs 0 0) out0 ∧ m + cntP ((t.recs 0 0).drop j) = t.prs) (fun _ i _ => bl.length - (intOf i).toNat)
  case atStart => exact ⟨0, 0, out0, by omega, rfl, rfl, by omega, HO2.out, hb2, HOL.out, by simp, by simp; exact HPS.out.1⟩
  case round =>
    obtain ⟨j, m, out, hj, rfl, rfl, hmj, hown, hbel, hol, hfill, hcp⟩ := hrel
    have HOWN : Hid (wr.ownsRow w1.heap.size 52 1 (.slice (some ⟨w1.heap.size, 0, none⟩) bl.length bl.length) bl.length out) := hown
    have HOLr : Hid _ := hol
    have HF : Hid _ := hfill
    have HCP : Hid _ := hcp
    have hbs := hbel.size
    have hwr : w1.heap.size < wr.heap.size := (HOWN.out.lt _ rfl).2
    clear hown hol hfill hcp
    by_cases hlt : j < bl.length
    · obtain ⟨b', r, hbl, hrl, hrec⟩ := HR1.out.at j hlt
      obtain ⟨kv, hblk⟩ := hrec
      have hbw := blk_lt hblk
      have hblr : wr.heap[b']? = some (.cells (exCells r.op r.p r.nm r.n kv r.id r.last r.site) 82 (0, 0)) := by
        rw [hbel.block b' (by omega), hb1.block b' hbw]; exact hblk
      have y0 : wr.cell? ⟨b', 0, none⟩ = some (.string (bs r.op)) := by rw [blk_cell hblr]; rfl
      have y7 : wr.cell? ⟨b', 7, none⟩ = some (.int .i64 r.site) := by rw [blk_cell hblr]; rfl
      have hlc : wr.cell? ⟨g1, j, none⟩ = some (.pointer (some ⟨b', 0, none⟩)) := by
        rw [hbel.cell (p := ⟨g1, j, none⟩) hg1w, HO1.out.cellAt j (by omega)]; simp [hbl, ptr]
      have hop : ((bs r.op).toList == [112, 97, 105, 114]) = r.isPair := by rw [bs_beq]; rfl
      have hdb : bl.drop j = b' :: bl.drop (j + 1) := by
        rw [List.drop_eq_getElem_cons hlt]; rw [List.getElem?_eq_getElem hlt] at hbl; simp only [Option.some.injEq] at hbl; rw [hbl]
      have hrlt : j < (t.recs 0 0).length := by rw [recs_len]; omega
      have hdr : (t.recs 0 0).drop j = r :: (t.recs 0 0).drop (j + 1) := by
        rw [List.drop_eq_getElem_cons hrlt]; rw [List.getElem?_eq_getElem hrlt] at hrl; simp only [Option.some.injEq] at hrl; rw [hrl]
      have HF2 : Hid _ := HF.out
      have hf2 := HF.out
      rw [hdb, hdr] at hf2
      simp only [fillP] at hf2
      have hc2 := HCP.out
      rw [hdr] at hc2
      have HC2 : Hid (m + cntP (r :: (t.recs 0 0).drop (j + 1)) = t.prs) := hc2
      have HFF : Hid (fillP (bl.drop (j + 1)) ((t.recs 0 0).drop (j + 1)) (if r.isPair then out.set r.site (ptr b') else out) = fillP bl (t.recs 0 0) out0) := hf2
      have hsite : r.isPair = true → r.site < bl.length := by
        intro hp
        have h := HPS.out.2.1 r (List.mem_of_getElem? hrl) hp
        have h2 := prs_cnt t
        omega
      clear hblk hblr hbl hrl hdb hdr hf2 hc2 HF2 HF HCP
      by_cases hp : r.isPair = true
      · have hsl := hsite hp
        rw [hp] at hop
        have hst := HOWN.out.stored r.site (ptr b')
        have HST : Hid ((wr.setCell ⟨w1.heap.size, r.site, none⟩ (ptr b')).ownsRow w1.heap.size 52 1 (.slice (some ⟨w1.heap.size, 0, none⟩) bl.length bl.length) bl.length (out.set r.site (ptr b'))) := hst.1
        have hoc : wr.cell? ⟨w1.heap.size, r.site, none⟩ = out[r.site]? := HOWN.out.cellAt r.site (by omega)
        obtain ⟨ov, hov⟩ : ∃ ov, out[r.site]? = some ov := ⟨out[r.site]'(by rw [HOLr.out]; exact hsl), List.getElem?_eq_getElem _⟩
        rw [hov] at hoc
        have hfz : wr.frozen? ⟨w1.heap.size, r.site, none⟩ = false := HOWN.out.frozenAt r.site
        have hfl := HFF.out
        rw [if_pos hp] at hfl
        have HFL : Hid _ := hfl
        have hcc := HC2.out
        have hcc2 : cntP (r :: (t.recs 0 0).drop (j + 1)) = 1 + cntP ((t.recs 0 0).drop (j + 1)) := by unfold cntP; rw [List.filter_cons, if_pos hp]; simp; omega
        rw [hcc2] at hcc
        have HCC : Hid _ := hcc
        have HPP : Hid (r.isPair = true) := hp
        clear hst hp hsite hov hfl hcc hcc2 HFF HC2
        go_wp2
        go_region
        go_wp2
        go_roundw
        case rel =>
          refine ⟨j + 1, m + 1, out.set r.site (ptr b'), by omega, by go_num, by go_num, by omega, ?_, ?_, by simp [HOLr.out], HFL.out, by have := HCC.out; omega⟩
          · exact HST.out
          · exact (hbel.setCell (p := ⟨w1.heap.size, r.site, none⟩) (Nat.le_refl _) _).trans ⟨rfl, rfl, rfl, Nat.le_refl _, fun _ _ => rfl⟩
        case measure => simp [intOf]; omega
      · have hp' : r.isPair = false := by simpa using hp
        rw [hp'] at hop
        have hfl := HFF.out
        rw [if_neg hp] at hfl
        have HFL : Hid _ := hfl
        have hcc := HC2.out
        have hcc2 : cntP (r :: (t.recs 0 0).drop (j + 1)) = cntP ((t.recs 0 0).drop (j + 1)) := by unfold cntP; rw [List.filter_cons, if_neg hp]
        rw [hcc2] at hcc
        have HCC : Hid _ := hcc
        clear hp hp' hsite hfl hcc hcc2 HFF HC2
        go_wp2
        go_roundw
        case rel => exact ⟨j + 1, m, out, by omega, by go_num, rfl, by omega, HOWN.out, hbel, HOLr.out, HFL.out, HCC.out⟩
        case measure => simp [intOf]; omega
    · have hjl : j = bl.length := by omega
      have hm : m = t.prs := by
        have := HCP.out
        rw [List.drop_eq_nil_of_le (by rw [recs_len]; omega)] at this
        simpa [cntP] using this
      have hpl := prs_cnt t
      have hmb : m ≤ bl.length := by omega
      have HM : Hid _ := hm
      have HJ : Hid _ := hjl
      clear hjl hm
      go_wp2
      go_ret
      refine ⟨w1.heap.size, bl.length, out.take t.prs, by rw [← HM.out, hL]; rfl, (hb1.trans (hbel.mono hs1)), ?_, ?_⟩
      · have h := HOWN.out
        obtain ⟨h1, h2⟩ := h
        rcases h2 with ⟨h2, _⟩ | ⟨g, cap, cur, hv, hg, hh, hn, hcm, hcs, htake⟩
        · cases h2
        · refine ⟨by rw [List.length_take, HOLr.out]; omega, Or.inr ⟨w1.heap.size, bl.length, cur, rfl, Nat.zero_le _, ?_, by omega, ?_, ?_, ?_⟩⟩
          · simp only [Value.slice.injEq, Option.some.injEq, Addr.mk.injEq] at hv
            rw [hv.1.1]; exact hh
          · simp only [Value.slice.injEq] at hv; omega
          · simp only [Value.slice.injEq] at hv; omega
          · have h3 : (cur.toList.take (bl.length * 1)).take (t.prs * 1) = out.take (t.prs * 1) := by rw [htake]
            rw [List.take_take, Nat.min_eq_left (by omega)] at h3
            simpa using h3
      · intro s hs
        have hf := HF.out
        rw [HJ.out, List.drop_length] at hf
        simp only [fillP] at hf
        obtain ⟨r0, hr0, hp0, hs0⟩ := HPS.out.2.2 s (by omega) (by omega)
        obtain ⟨b', r, h1, h2, h3, h4, h5⟩ := fillP_at (P := fun r => r ∈ t.recs 0 0) bl (t.recs 0 0) out0 s HR1.out (fun _ h => h) (by rw [HOL.out]; omega) (Or.inl ⟨r0, hr0, hp0, hs0⟩)
        rw [← hf] at h1
        exact ⟨b', r, by rw [List.getElem?_take_of_lt hs]; exact h1, h2, h3, h4, h5⟩
end Go.Proofs.YtglkpkmdoohdcaaDoor
