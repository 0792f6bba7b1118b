import Derived.Test.YtpicaknklgccoaaGreatDoorX27
namespace Go.Proofs.YtpicaknklgccoaaGreatDoor
open Go.RowKit
def exV (op : List UInt8) (n : Nat) (kv : Value) : Array Value := #[.string (bs op), .int .i64 n, kv]
def KIn (w : World) : KE → Nat → Prop
 | .num n, p => w.heap[p]? = some (.cells (exV [] n (.slice none 0 0)) 98 (0, 0))
 | .var n, p => w.heap[p]? = some (.cells (exV [120] n (.slice none 0 0)) 98 (0, 0))
 | .n1 k a, p => ∃ c pa : Nat, w.heap[p]? = some (.cells (exV k.bytes 0 (.slice (some ⟨c, 0, none⟩) 1 1)) 98 (0, 0)) ∧ w.heap[c]? = some (.cells #[.pointer (some ⟨pa, 0, none⟩)] 43 (0, 0)) ∧ KIn w a pa
 | .n2 k n a b, p => ∃ c pa pb : Nat, w.heap[p]? = some (.cells (exV k.bytes n (.slice (some ⟨c, 0, none⟩) 2 2)) 98 (0, 0)) ∧ w.heap[c]? = some (.cells #[.pointer (some ⟨pa, 0, none⟩), .pointer (some ⟨pb, 0, none⟩)] 43 (0, 0)) ∧ KIn w a pa ∧ KIn w b pb
 | .n3 k n a b d, p => ∃ c pa pb pd : Nat, w.heap[p]? = some (.cells (exV k.bytes n (.slice (some ⟨c, 0, none⟩) 3 3)) 98 (0, 0)) ∧ w.heap[c]? = some (.cells #[.pointer (some ⟨pa, 0, none⟩), .pointer (some ⟨pb, 0, none⟩), .pointer (some ⟨pd, 0, none⟩)] 43 (0, 0)) ∧ KIn w a pa ∧ KIn w b pb ∧ KIn w d pd
theorem KIn.keep {w w' : World} (h : ∀ (k : Nat) (arr : Array Value) (U : TypeId), U = 98 ∨ U = 43 → w.heap[k]? = some (.cells arr U (0, 0)) → w'.heap[k]? = some (.cells arr U (0, 0))) : ∀ {x : KE} {p : Nat}, KIn w x p → KIn w' x p
 | .num _, _, hx => h _ _ _ (Or.inl rfl) hx
 | .var _, _, hx => h _ _ _ (Or.inl rfl) hx
 | .n1 _ _, _, ⟨c, pa, h1, h2, h3⟩ => ⟨c, pa, h _ _ _ (Or.inl rfl) h1, h _ _ _ (Or.inr rfl) h2, KIn.keep h h3⟩
 | .n2 _ _ _ _, _, ⟨c, pa, pb, h1, h2, h3, h4⟩ => ⟨c, pa, pb, h _ _ _ (Or.inl rfl) h1, h _ _ _ (Or.inr rfl) h2, KIn.keep h h3, KIn.keep h h4⟩
 | .n3 _ _ _ _ _, _, ⟨c, pa, pb, pd, h1, h2, h3, h4, h5⟩ => ⟨c, pa, pb, pd, h _ _ _ (Or.inl rfl) h1, h _ _ _ (Or.inr rfl) h2, KIn.keep h h3, KIn.keep h h4, KIn.keep h h5⟩
theorem KIn.below {w w' : World} {x : KE} {p : Nat} (h : KIn w x p) (hb : Below w.heap.size w w') : KIn w' x p := h.keep (fun k _ _ _ hk => (hb.block k (blk_lt hk)).trans hk)
theorem KIn.fr {w0 w w' : World} {yb : Nat} {rv : Value} {raw : List Int} {s : MkS} {nv nv' : Value} {x : KE} {p : Nat} (h : KIn w x p) (hm : MkIn w0 w yb rv raw s nv) (hf : FrO w w' yb nv nv') : KIn w' x p :=
 h.keep (fun k arr U hU hk => hm.ob.other hf (by rcases hU with rfl | rfl <;> decide) (by rcases hU with rfl | rfl <;> decide) hk)
theorem owns_shape {w : World} {b n : Nat} {E : TypeId} {v : Value} {xs : List Value} (h : w.ownsRow b E 1 v n xs) : ∃ a cap, v = .slice a n cap ∧ (0 < n → ∃ g, a = some ⟨g, 0, none⟩) := by
 rcases h.2 with ⟨hv, hn⟩ | ⟨g, cap, cur, hv, _⟩
 ·exact ⟨none, 0, by rw [hv, hn], fun h => by omega⟩
 ·exact ⟨_, cap, hv, fun _ => ⟨g, rfl⟩⟩
theorem idxs_succ (vars : List Nat) (t j : Nat) : idxs vars t (j + 1) = if vars.getD j 9 = t then idxs vars t j ++ [j] else idxs vars t j := by
 unfold idxs
 rw [List.range_succ, List.filter_append]
 by_cases h : vars.getD j 9 = t
 ·rw [if_pos h]; simp only [List.filter_cons, List.filter_nil, h, beq_self_eq_true, if_true]
 ·have hb : (vars.getD j 9 == t) = false := by simpa using h
  rw [if_neg h]; simp only [List.filter_cons, List.filter_nil, hb, Bool.false_eq_true, if_false, List.append_nil]
theorem idxs_len (vars : List Nat) (t j : Nat) : (idxs vars t j).length ≤ j := by
 unfold idxs; have := List.length_filter_le (fun i => vars.getD i 9 == t) (List.range j); simpa using this
theorem idxs_lt {vars : List Nat} {t j x : Nat} (h : x ∈ idxs vars t j) : x < j := by
 unfold idxs at h; rw [List.mem_filter, List.mem_range] at h; exact h.1
theorem Tryz.infoIntZ : (Tryz.prog.info? 3).map (fun i => (i.zero, i.size, i.bytes)) = some (some (.int .i64 0), 1, 8) := by kernel_rfl
theorem Tryz.undIntsZ : Tryz.prog.underlying 42 = some (.slice 3) := by kernel_rfl
set_option maxRecDepth 100000 in
set_option maxHeartbeats 2000000 in
theorem named_any {w0 w : World} {yb : Nat} {rv : Value} {raw : List Int} {s : MkS} {nv : Value} (t k : Nat) (h : MkIn w0 w yb rv raw s nv) (hvl : s.vars.length ≤ 200) :
  Calls Tryz.prog 118 #[.pointer (some ⟨yb, 0, none⟩), .int .i64 t, .int .i64 k] w fun e w' => Below w.heap.size w w' ∧ ((namedF s.vars t k = none ∧ e = .returned (.pointer none)) ∨ ∃ (x : KE) (p : Nat), namedF s.vars t k = some x ∧ e = .returned (.pointer (some ⟨p, 0, none⟩)) ∧ KIn w' x p) := by
 obtain ⟨i0, hi, hz0, hz1, hz2⟩ := info_parts Tryz.infoIntZ
 have HI : Hid _ := hi
 have HZ0 : Hid _ := hz0
 have HZ1 : Hid _ := hz1
 have HZ2 : Hid _ := hz2
 have hyl := blk_lt h.ob.y
 obtain ⟨na, nc, hnv, _, hna⟩ := h.ob.shape
 have elen : (natsV s.vars).length = s.vars.length := by simp [natsV]
 rw [elen] at hnv hna
 have y3 : w.cell? ⟨yb, 3, none⟩ = some (.slice na s.vars.length nc) := by rw [blk_cell h.ob.y, ← hnv]; rfl
 have hcell : ∀ j, (hj : j < s.vars.length) → ∃ g, na = some ⟨g, 0, none⟩ ∧ g < w.heap.size ∧ w.cell? ⟨g, j, none⟩ = some (.int .i64 (s.vars[j] : Nat)) := by
  intro j hj
  obtain ⟨g, hg⟩ := hna (by omega)
  have ho := h.ob.n
  rw [hnv, hg, elen] at ho
  have hc : w.cell? ⟨g, j, none⟩ = some (.int .i64 (s.vars[j] : Nat)) := by
   rw [ho.cellAt j (by omega)]; unfold natsV; rw [List.getElem?_map, List.getElem?_eq_getElem hj]; rfl
  exact ⟨g, hg, World.block_lt_of_cell? _ _ hc, hc⟩
 have HC : Hid _ := hcell
 have hlen := idxs_len s.vars t s.vars.length
 clear hi hz0 hz1 hz2 h hnv hna hcell
 go_enter Tryz.func118, Tryz.ntmps118
 go_wp2
 go_loopw [7, 8] (fun l i wr => ∃ j : Nat, j ≤ s.vars.length ∧ i = .int .i64 j ∧ wr.ownsRow w.heap.size 3 1 l (idxs s.vars t j).length (natsV (idxs s.vars t j)) ∧ Below w.heap.size w wr) (fun _ i _ => s.vars.length - (intOf i).toNat)
 case atStart => exact ⟨0, by omega, rfl, World.ownsRow_nil _ _ _ _, Below.refl _ _⟩
 case round =>
  obtain ⟨j, hj, rfl, hown, hbel⟩ := hrel
  have hsz := hbel.size
  have q3 : wr.cell? ⟨yb, 3, none⟩ = some (.slice na s.vars.length nc) := (hbel.cell (p := ⟨yb, 3, none⟩) hyl).trans y3
  have hylr : yb < wr.heap.size := by omega
  have HO : Hid _ := hown
  have HB : Hid _ := hbel
  clear hown hbel
  by_cases hlt : j < s.vars.length
  ·obtain ⟨g, rfl, hg, hc⟩ := HC.out j hlt
   have hcr : wr.cell? ⟨g, j, none⟩ = some (.int .i64 (s.vars[j] : Nat)) := (HB.out.cell (p := ⟨g, j, none⟩) hg).trans hc
   have hgr : g < wr.heap.size := by omega
   have hsucc := idxs_succ s.vars t j
   rw [List.getD_eq_getElem?_getD, List.getElem?_eq_getElem hlt, Option.getD_some] at hsucc
   have hil := idxs_len s.vars t j
   by_cases hv : s.vars[j] = t
   ·have qv : (((s.vars[j] : Nat) : Int) == (t : Int)) = true := by rw [hv]; simp
    rw [if_pos hv] at hsucc
    have HS : Hid _ := hsucc
    clear hsucc hv hc y3
    generalize s.vars[j] = vj at *
    go_wp2_with (at_builtin; go_must (refine wpList_append_own _ rfl (.tmp 27) (.tmp 29) 42 rfl w.heap.size 3 i0 _ 1 8 Tryz.undIntsZ HI.out HZ0.out HZ1.out HZ2.out rfl (by decide) _ (idxs s.vars t j).length (natsV (idxs s.vars t j)) rfl (World.ownsRow.alloc HO.out _) ⟨wr.heap.size, 0, none⟩ 1 1 [.int .i64 j] rfl rfl ?c1 ?c2 ?c3 ?c4 ?c5 ?_))
    case c1 =>
     intro j u hj
     rw [← hj]
     exact alloc_cell_at _ _ _ _
    case c2 => intro u hu; simp at hu; subst hu; rfl
    case c3 => unfold maxLen; omega
    case c4 => first | omega | (simp; omega)
    case c5 => first | omega | (simp; omega)
    intro v' w4 hown' hgrow hnil
    have HB2 : Hid (Below w.heap.size w w4) := (HB.out.alloc hsz _).grown hgrow (by simp; omega) (fun b hb => (World.ownsRow.lt HO.out b hb).1)
    have HO3 : Hid _ := hown'
    clear hown' hgrow hnil
    go_wp2
    go_roundw
    case rel =>
     refine ⟨j + 1, by omega, by go_num, ?_, HB2.out⟩
     rw [HS.out]
     unfold natsV
     rw [List.length_append, List.map_append]
     exact HO3.out
    case measure => simp [intOf]; omega
   ·have qv : (((s.vars[j] : Nat) : Int) == (t : Int)) = false := by rw [beq_eq_false_iff_ne]; omega
    rw [if_neg hv] at hsucc
    have HS : Hid _ := hsucc
    clear hsucc hv hc y3
    generalize s.vars[j] = vj at *
    go_wp2
    go_roundw
    case rel => exact ⟨j + 1, by omega, by go_num, by rw [HS.out]; exact HO.out, HB.out⟩
    case measure => simp [intOf]; omega
  ·have hje : j = s.vars.length := by omega
   subst hje
   obtain ⟨L, hL⟩ : ∃ L, L = idxs s.vars t s.vars.length := ⟨_, rfl⟩
   have hmem : ∀ x ∈ L, x < s.vars.length := fun x hx => idxs_lt (by rw [hL] at hx; exact hx)
   have hnm : namedF s.vars t k = if L = [] then none else some (.var (L.getD (k % L.length) 0)) := by unfold namedF; rw [← hL]
   rw [← hL] at HO hlen
   have HNM : Hid _ := hnm
   clear hL hnm HC y3
   obtain ⟨la, lc, hlv, hla⟩ := owns_shape HO.out
   subst hlv
   by_cases hn : L = []
   ·have HNN : Hid _ := hn
    have hl0 : L.length = 0 := by rw [hn]; rfl
    rw [hl0] at HO ⊢
    clear hla hmem hn
    go_wp2
    go_ret
    exact ⟨HB.out, Or.inl ⟨by rw [HNM.out, if_pos HNN.out], rfl⟩⟩
   ·have HNN : Hid _ := hn
    have hpos : 0 < L.length := List.length_pos_iff.2 hn
    obtain ⟨g, rfl⟩ := hla hpos
    have hkl := Nat.mod_lt k hpos
    have hidx : Int.tmod (k : Int) (L.length : Int) = ((k % L.length : Nat) : Int) := (Int.ofNat_tmod _ _).symm
    have hcx : wr.cell? ⟨g, k % L.length, none⟩ = some (.int .i64 (L.getD (k % L.length) 0 : Nat)) := by
     rw [World.ownsRow.cellAt HO.out _ (by omega)]; unfold natsV
     rw [List.getElem?_map, List.getD_eq_getElem?_getD, List.getElem?_eq_getElem hkl]; rfl
    have hgl : g < wr.heap.size := World.block_lt_of_cell? _ _ hcx
    have ql : ((L.length : Int) == 0) = false := by rw [beq_eq_false_iff_ne]; omega
    clear hla hmem hn
    generalize L.getD (k % L.length) 0 = nx at *
    generalize k % L.length = ix at *
    go_wp2
    go_ret
    refine ⟨HB.out.alloc hsz _, Or.inr ⟨_, _, by rw [HNM.out, if_neg HNN.out], rfl, ?_⟩⟩
    exact blk_new _ _
theorem kpair_new (w : World) (k : Kw) (n pa pb : Nat) {a b : KE} (ha : KIn w a pa) (hb : KIn w b pb) :
  Below w.heap.size w ((w.alloc (.cells #[.pointer (some ⟨pa, 0, none⟩), .pointer (some ⟨pb, 0, none⟩)] 43 (0, 0))).alloc (.cells (exV k.bytes n (.slice (some ⟨w.heap.size, 0, none⟩) 2 2)) 98 (0, 0))) ∧
  KIn ((w.alloc (.cells #[.pointer (some ⟨pa, 0, none⟩), .pointer (some ⟨pb, 0, none⟩)] 43 (0, 0))).alloc (.cells (exV k.bytes n (.slice (some ⟨w.heap.size, 0, none⟩) 2 2)) 98 (0, 0))) (.n2 k n a b) (w.heap.size + 1) := by
 have h1 := below_alZ (Below.refl _ w) (.cells #[.pointer (some ⟨pa, 0, none⟩), .pointer (some ⟨pb, 0, none⟩)] 43 (0, 0))
 have h2 := below_alZ h1 (.cells (exV k.bytes n (.slice (some ⟨w.heap.size, 0, none⟩) 2 2)) 98 (0, 0))
 refine ⟨h2, w.heap.size, pa, pb, ?_, ?_, ha.below h2, hb.below h2⟩
 ·have := blk_new (w.alloc (.cells #[.pointer (some ⟨pa, 0, none⟩), .pointer (some ⟨pb, 0, none⟩)] 43 (0, 0))) (.cells (exV k.bytes n (.slice (some ⟨w.heap.size, 0, none⟩) 2 2)) 98 (0, 0))
  simpa using this
 ·rw [Below.heap_alloc _ _ _ (by simp)]; exact blk_new _ _
set_option maxRecDepth 100000 in
set_option maxHeartbeats 4000000 in
theorem leaf_any {w0 : World} {yb : Nat} {rv : Value} {raw : List Int} (f : Nat) : ∀ (t : Nat) (s : MkS) (nv : Value) (w : World), t < 5 → dep t < f → MkIn w0 w yb rv raw s nv → s.vars.length ≤ 200 → s.at_ + 40 * s.left + atW t ≤ 1000000 →
  Calls Tryz.prog 79 #[.pointer (some ⟨yb, 0, none⟩), .int .i64 t] w fun e w' => ∃ p, e = .returned (.pointer (some ⟨p, 0, none⟩)) ∧ FrO w w' yb nv nv ∧ MkIn w0 w' yb rv raw (leafF raw f t s).2 nv ∧ KIn w' (leafF raw f t s).1 p := by
 induction f with
 | zero => intro t s nv w _ h; omega
 | succ f ih =>
  intro t s nv w ht hd h hvl hat
  have hW := @W_pos t
  have hnx := next_any 7 (by omega) (by omega) h (by omega)
  have hst := nextF_st raw 7 s
  have hx7 := nextF_lt raw 7 s (by omega)
  have hlf : leafF raw (f + 1) t s = leafF raw (f + 1) t s := rfl
  generalize hR0 : leafF raw (f + 1) t s = R at hlf ⊢
  simp only [leafF] at hR0
  generalize nextF raw 7 s = x at *
  obtain ⟨x1, x2, x3, x4⟩ := hst
  have HA : Hid (∀ y, 1 < x.1 → namedF x.2.vars t x.1 = some y → R = (y, x.2)) := fun y h1 h2 => by rw [← hR0, if_pos h1, h2]
  have HB : Hid ((if 1 < x.1 then namedF x.2.vars t x.1 else none) = none → t = 0 → R = (.num (nextF raw 60 x.2).1, (nextF raw 60 x.2).2)) := fun h1 h2 => by rw [← hR0, h1, if_pos h2]
  have HC : Hid ((if 1 < x.1 then namedF x.2.vars t x.1 else none) = none → t ≠ 0 → R = (.n2 .pair 0 (leafF raw f (fT t) x.2).1 (leafF raw f (sT t) (leafF raw f (fT t) x.2).2).1, (leafF raw f (sT t) (leafF raw f (fT t) x.2).2).2)) := fun h1 h2 => by rw [← hR0, h1, if_neg h2]
  clear hR0 hlf h
  have HNX : Hid _ := hnx
  clear hnx
  go_enter Tryz.func79, Tryz.ntmps79
  go_wp2_with fail
  refine Calls.mono HNX.out ?_
  rintro _ w1 ⟨rfl, hf1, hm1⟩
  clear HNX
  by_cases hk : 1 < x.1
  ·have hnm := named_any t x.1 hm1 (by rw [x2]; omega)
   have HNM : Hid _ := hnm
   have HF1 : Hid _ := hf1
   have HM1 : Hid _ := hm1
   clear hnm hf1 hm1
   go_wp2_with fail
   refine Calls.mono HNM.out ?_
   rintro e w2 ⟨hb2, ⟨hn, rfl⟩ | ⟨y, p, hy, rfl, hkin⟩⟩
   ·have hm2 := HM1.out.grow hb2
    have hf2 := HF1.out.trans (FrO.below hb2 _ _)
    have HN : Hid ((if 1 < x.1 then namedF x.2.vars t x.1 else none) = none) := by show _ = _; rw [if_pos hk]; exact hn
    clear hn hb2 HM1 HF1 HNM HA
    by_cases h0 : t = 0
    ·have hR := HB.out HN.out h0
     subst h0
     have hz := next_any 60 (by omega) (by omega) hm2 (by omega)
     have hzs := nextF_st raw 60 x.2
     generalize nextF raw 60 x.2 = z at *
     have HZ : Hid _ := hz
     have HF2 : Hid _ := hf2
     clear hz hm2 hf2
     go_wp2_with fail
     refine Calls.mono HZ.out ?_
     rintro _ w3 ⟨rfl, hf3, hm3⟩
     have HF3 : Hid _ := HF2.out.trans hf3
     have HM3 : Hid _ := hm3
     clear hf3 hm3 HZ HF2
     have HR : Hid _ := hR
     clear hR
     go_wp2
     go_ret
     rw [HR.out]
     have hbn := below_alZ (Below.refl _ w3) (.cells (exV [] z.1 (.slice none 0 0)) 98 (0, 0))
     exact ⟨_, rfl, HF3.out.trans (FrO.below hbn _ _), HM3.out.grow hbn, blk_new _ _⟩
    ·have hR := HC.out HN.out h0
     have hp := W_pair ht h0
     have hdp := dep_parts ht h0
     have hfi : fI t = ((fT t : Nat) : Int) := by unfold fI; rw [if_neg h0]
     have hsi : sI t = ((sT t : Nat) : Int) := by unfold sI; rw [if_neg h0]
     have q0 : ((t : Int) == 0) = false := by rw [beq_eq_false_iff_ne]; omega
     have hfs := kfirst_any t ht
     have hss := ksecond_any t ht
     rw [hfi] at hfs
     rw [hsi] at hss
     have HFS : Hid _ := hfs
     have HSS : Hid _ := hss
     have HF2 : Hid _ := hf2
     have HM2 : Hid _ := hm2
     have hlo := leafF_ok raw f (fT t) x.2 hp.2.2.2.2.1 (by omega)
     have hia := fun W hW => ih (fT t) x.2 nv W hp.2.2.2.2.1 (by omega) (hm2.grow hW) (by rw [x2]; omega) (by omega)
     generalize leafF raw f (fT t) x.2 = a at *
     have hib := fun W hW => ih (sT t) a.2 nv W hp.2.2.2.2.2 (by omega) hW (by rw [hlo.vars, x2]; omega) (by have := hlo.at_; have := hlo.left; omega)
     generalize leafF raw f (sT t) a.2 = b at *
     have HIA : Hid _ := hia
     have HIB : Hid _ := hib
     clear hfi hsi hfs hss hm2 hf2 hlo hia hib hdp hp ih h0
     go_wp2_with fail
     refine Calls.mono (HFS.out _) ?_
     rintro _ w3 ⟨rfl, hb3⟩
     go_wp2_with fail
     refine Calls.mono (HIA.out w3 hb3) ?_
     rintro _ w4 ⟨pa, rfl, hf4, hm4, hk4⟩
     have HF4 : Hid _ := (HF2.out.trans (FrO.below hb3 _ _)).trans hf4
     have HM4 : Hid _ := hm4
     have HK4 : Hid _ := hk4
     clear hb3 hf4 hm4 hk4 HF2 HM2 HIA
     go_wp2_with fail
     refine Calls.mono (HSS.out _) ?_
     rintro _ w5 ⟨rfl, hb5⟩
     have hm5 := HM4.out.grow hb5
     have hk5 := HK4.out.below hb5
     have HF5 : Hid _ := HF4.out.trans (FrO.below hb5 _ _)
     have HM5 : Hid _ := hm5
     have HK5 : Hid _ := hk5
     clear hb5 hm5 hk5 HM4 HK4 HF4
     go_wp2_with fail
     refine Calls.mono (HIB.out w5 HM5.out) ?_
     rintro _ w6 ⟨pb, rfl, hf6, hm6, hk6⟩
     have HK6 : Hid _ := HK5.out.fr HM5.out hf6
     have HF6 : Hid _ := HF5.out.trans hf6
     have HM6 : Hid _ := hm6
     have HK7 : Hid _ := hk6
     clear hf6 hm6 hk6 HK5 HF5 HM5 HIB
     have HR : Hid _ := hR
     clear hR
     go_wp2
     go_ret
     rw [HR.out]
     have h2 := kpair_new w6 (.pair) 0 pa pb HK6.out HK7.out
     exact ⟨_, rfl, HF6.out.trans (FrO.below h2.1 _ _), HM6.out.grow h2.1, h2.2⟩
   ·have hR := HA.out y hk hy
    have HB2 : Hid _ := hb2
    have HK : Hid _ := hkin
    clear hb2 hkin HNM HB HC
    have HR : Hid _ := hR
    clear hR
    go_wp2
    go_ret
    rw [HR.out]
    exact ⟨p, rfl, HF1.out.trans (FrO.below HB2.out _ _), HM1.out.grow HB2.out, HK.out⟩
  ·have HN : Hid ((if 1 < x.1 then namedF x.2.vars t x.1 else none) = none) := by show _ = _; rw [if_neg hk]
   have hm2 := hm1
   have hf2 := hf1
   clear hm1 hf1 HA
   by_cases h0 : t = 0
   ·have hR := HB.out HN.out h0
    subst h0
    have hz := next_any 60 (by omega) (by omega) hm2 (by omega)
    have hzs := nextF_st raw 60 x.2
    generalize nextF raw 60 x.2 = z at *
    have HZ : Hid _ := hz
    have HF2 : Hid _ := hf2
    clear hz hm2 hf2
    go_wp2_with fail
    refine Calls.mono HZ.out ?_
    rintro _ w3 ⟨rfl, hf3, hm3⟩
    have HF3 : Hid _ := HF2.out.trans hf3
    have HM3 : Hid _ := hm3
    clear hf3 hm3 HZ HF2
    have HR : Hid _ := hR
    clear hR
    go_wp2
    go_ret
    rw [HR.out]
    have hbn := below_alZ (Below.refl _ w3) (.cells (exV [] z.1 (.slice none 0 0)) 98 (0, 0))
    exact ⟨_, rfl, HF3.out.trans (FrO.below hbn _ _), HM3.out.grow hbn, blk_new _ _⟩
   ·have hR := HC.out HN.out h0
    have hp := W_pair ht h0
    have hdp := dep_parts ht h0
    have hfi : fI t = ((fT t : Nat) : Int) := by unfold fI; rw [if_neg h0]
    have hsi : sI t = ((sT t : Nat) : Int) := by unfold sI; rw [if_neg h0]
    have q0 : ((t : Int) == 0) = false := by rw [beq_eq_false_iff_ne]; omega
    have hfs := kfirst_any t ht
    have hss := ksecond_any t ht
    rw [hfi] at hfs
    rw [hsi] at hss
    have HFS : Hid _ := hfs
    have HSS : Hid _ := hss
    have HF2 : Hid _ := hf2
    have HM2 : Hid _ := hm2
    have hlo := leafF_ok raw f (fT t) x.2 hp.2.2.2.2.1 (by omega)
    have hia := fun W hW => ih (fT t) x.2 nv W hp.2.2.2.2.1 (by omega) (hm2.grow hW) (by rw [x2]; omega) (by omega)
    generalize leafF raw f (fT t) x.2 = a at *
    have hib := fun W hW => ih (sT t) a.2 nv W hp.2.2.2.2.2 (by omega) hW (by rw [hlo.vars, x2]; omega) (by have := hlo.at_; have := hlo.left; omega)
    generalize leafF raw f (sT t) a.2 = b at *
    have HIA : Hid _ := hia
    have HIB : Hid _ := hib
    clear hfi hsi hfs hss hm2 hf2 hlo hia hib hdp hp ih h0
    go_wp2_with fail
    refine Calls.mono (HFS.out _) ?_
    rintro _ w3 ⟨rfl, hb3⟩
    go_wp2_with fail
    refine Calls.mono (HIA.out w3 hb3) ?_
    rintro _ w4 ⟨pa, rfl, hf4, hm4, hk4⟩
    have HF4 : Hid _ := (HF2.out.trans (FrO.below hb3 _ _)).trans hf4
    have HM4 : Hid _ := hm4
    have HK4 : Hid _ := hk4
    clear hb3 hf4 hm4 hk4 HF2 HM2 HIA
    go_wp2_with fail
    refine Calls.mono (HSS.out _) ?_
    rintro _ w5 ⟨rfl, hb5⟩
    have hm5 := HM4.out.grow hb5
    have hk5 := HK4.out.below hb5
    have HF5 : Hid _ := HF4.out.trans (FrO.below hb5 _ _)
    have HM5 : Hid _ := hm5
    have HK5 : Hid _ := hk5
    clear hb5 hm5 hk5 HM4 HK4 HF4
    go_wp2_with fail
    refine Calls.mono (HIB.out w5 HM5.out) ?_
    rintro _ w6 ⟨pb, rfl, hf6, hm6, hk6⟩
    have HK6 : Hid _ := HK5.out.fr HM5.out hf6
    have HF6 : Hid _ := HF5.out.trans hf6
    have HM6 : Hid _ := hm6
    have HK7 : Hid _ := hk6
    clear hf6 hm6 hk6 HK5 HF5 HM5 HIB
    have HR : Hid _ := hR
    clear hR
    go_wp2
    go_ret
    rw [HR.out]
    have h2 := kpair_new w6 (.pair) 0 pa pb HK6.out HK7.out
    exact ⟨_, rfl, HF6.out.trans (FrO.below h2.1 _ _), HM6.out.grow h2.1, h2.2⟩
theorem natsV_len (l : List Nat) : (natsV l).length = l.length := by simp [natsV]
theorem natsV_snoc (l : List Nat) (v : Nat) : natsV (l ++ [v]) = natsV l ++ [.int .i64 v] := by simp [natsV]
set_option maxRecDepth 100000 in
set_option maxHeartbeats 2000000 in
theorem bind_of {w0 : World} {yb : Nat} {rv : Value} {raw : List Int} (g : Nat → MkS → KE × MkS) (v t : Nat) (s : MkS) (nv : Value) (w : World)
  (hf : ∀ (nv : Value) (w : World), MkIn w0 w yb rv raw { s with vars := s.vars ++ [v] } nv → Calls Tryz.prog 48 #[.pointer (some ⟨yb, 0, none⟩), .int .i64 t] w fun e w' => ∃ p nv', e = .returned (.pointer (some ⟨p, 0, none⟩)) ∧ FrO w w' yb nv nv' ∧ MkIn w0 w' yb rv raw (g t { s with vars := s.vars ++ [v] }).2 nv' ∧ KIn w' (g t { s with vars := s.vars ++ [v] }).1 p)
  (hg : (g t { s with vars := s.vars ++ [v] }).2.vars = s.vars ++ [v]) (h : MkIn w0 w yb rv raw s nv) (hvl : s.vars.length ≤ 200) :
  Calls Tryz.prog 80 #[.pointer (some ⟨yb, 0, none⟩), .int .i64 v, .int .i64 t] w fun e w' => ∃ p nv', e = .returned (.pointer (some ⟨p, 0, none⟩)) ∧ FrO w w' yb nv nv' ∧ MkIn w0 w' yb rv raw (bindF g v t s).2 nv' ∧ KIn w' (bindF g v t s).1 p := by
 obtain ⟨i0, hi, hz0, hz1, hz2⟩ := info_parts Tryz.infoIntZ
 have HI : Hid _ := hi
 have HZ0 : Hid _ := hz0
 have HZ1 : Hid _ := hz1
 have HZ2 : Hid _ := hz2
 have HH : Hid _ := h
 have hyl := blk_lt h.ob.y
 obtain ⟨na, nc, hnv, _, _⟩ := h.ob.shape
 rw [natsV_len] at hnv
 have y3 : w.cell? ⟨yb, 3, none⟩ = some (.slice na s.vars.length nc) := by rw [blk_cell h.ob.y, ← hnv]; rfl
 have f3 : w.frozen? ⟨yb, 3, none⟩ = false := blk_free h.ob.y 3
 have hown : w.ownsRow 0 3 1 (.slice na s.vars.length nc) s.vars.length (natsV s.vars) := by
  have := owns_base (base' := 0) h.ob.n (fun _ _ => Nat.zero_le _)
  rw [natsV_len, hnv] at this; exact this
 have HNV : Hid _ := hnv
 have HOWN : Hid (w.ownsRow 0 3 1 (.slice na s.vars.length nc) s.vars.length (natsV s.vars)) := hown
 have HHF : Hid _ := hf
 have HHG : Hid _ := hg
 clear hi hz0 hz1 hz2 hown hnv h hf hg
 go_enter Tryz.func80, Tryz.ntmps80
 go_wp2_with (at_builtin; go_must (refine app_own _ rfl (.tmp 18) (.tmp 20) 42 rfl 3 i0 _ 1 8 Tryz.undIntsZ HI.out HZ0.out HZ1.out HZ2.out rfl (by decide) (.slice na s.vars.length nc) s.vars.length (natsV s.vars) rfl (HOWN.out.alloc _) ⟨w.heap.size, 0, none⟩ 1 1 [.int .i64 v] rfl rfl ?d1 ?d2 (by decide) ?d3 ?d4 ?_))
 case d1 =>
  intro j' u hj'
  match j', hj' with
  | 0, hj' => simp at hj'; subst hj'; simp [Addr.add]
  | j' + 1, hj' => simp at hj'
 case d2 => intro u hu; simp at hu; subst hu; rfl
 case d3 => unfold maxLen; omega
 case d4 => omega
 intro g1 c1 w3 ho3 hg3 hgg3
 have hp1 := ObIn.push (x := .int .i64 v) (o := 3) (W := w3.setCell ⟨yb, 3, none⟩ (.slice (some ⟨g1, 0, none⟩) (s.vars.length + 1) c1)) HH.out.ob (by rw [HNV.out]; exact hg3) (by rw [natsV_len]; exact ho3) (by rw [HNV.out]; simpa using hgg3) (by rw [natsV_len])
 rw [natsV_len] at hp1
 obtain ⟨hO1, hs1⟩ := hp1
 have hm1 : MkIn w0 (w3.setCell ⟨yb, 3, none⟩ (.slice (some ⟨g1, 0, none⟩) (s.vars.length + 1) c1)) yb rv raw { s with vars := s.vars ++ [v] } (.slice (some ⟨g1, 0, none⟩) (s.vars.length + 1) c1) := by
  refine ⟨HH.out.r, ?_⟩
  rw [natsV_snoc]
  exact hO1
 have hcall := HHF.out _ _ hm1
 have hy3 : w3.heap[yb]? = some (.cells (mkCells rv s nv) 94 (0, 0)) := by
  rw [hg3.block yb (by simp; omega) (fun e => HH.out.ob.ny (by rw [HNV.out]; exact e.symm)), Below.heap_alloc _ _ _ hyl]; exact HH.out.ob.y
 have hyl3 := blk_lt hy3
 have y33 : w3.cell? ⟨yb, 3, none⟩ = some nv := by rw [blk_cell hy3]; rfl
 have f33 : w3.frozen? ⟨yb, 3, none⟩ = false := blk_free hy3 3
 have HC : Hid _ := hcall
 have HS1 : Hid _ := hs1
 clear ho3 hg3 hgg3 hO1 hy3 y3 f3 hcall hm1 hs1 HHF HOWN
 go_wp2_with fail
 refine Calls.mono HC.out ?_
 rintro _ w7 ⟨p, nv7, rfl, hs7, hm7, hk7⟩
 obtain ⟨na7, nc7, hnv7, hcap7, hna7⟩ := hm7.ob.shape
 have hob := hm7.ob
 rw [natsV_len, HHG.out, List.length_append, List.length_singleton] at hnv7 hna7 hcap7
 obtain ⟨g7, hg7⟩ := hna7 (by omega)
 rw [hg7] at hnv7
 have y37 : w7.cell? ⟨yb, 3, none⟩ = some (.slice (some ⟨g7, 0, none⟩) (s.vars.length + 1) nc7) := by rw [blk_cell hob.y, ← hnv7]; rfl
 have f37 : w7.frozen? ⟨yb, 3, none⟩ = false := blk_free hob.y 3
 have hyl7 := blk_lt hob.y
 obtain ⟨R, hR⟩ : ∃ R, R = g t { s with vars := s.vars ++ [v] } := ⟨_, rfl⟩
 have hP : ObIn w0 (w7.setCell ⟨yb, 3, none⟩ (.slice (some ⟨g7, 0, none⟩) s.vars.length nc7)) yb (mkCells rv (bindF g v t s).2 (.slice (some ⟨g7, 0, none⟩) s.vars.length nc7)) 94 (.slice (some ⟨g7, 0, none⟩) s.vars.length nc7) 3 (natsV s.vars) := by
  have h1 := hob
  rw [HHG.out, natsV_snoc, hnv7] at h1
  have h2 := ObIn.pop (o := 3) (xs := natsV s.vars) (x := .int .i64 v) (g := g7) (cap := nc7) (by rw [natsV_len]; exact h1)
  rw [natsV_len] at h2
  exact h2
 have hbv : (bindF g v t s).2.vars = s.vars := by unfold bindF; simp only [HHG.out, List.take_left]
 have HMK : Hid (MkIn w0 (w7.setCell ⟨yb, 3, none⟩ (.slice (some ⟨g7, 0, none⟩) s.vars.length nc7)) yb rv raw (bindF g v t s).2 (.slice (some ⟨g7, 0, none⟩) s.vars.length nc7)) := ⟨HH.out.r, by rw [hbv]; exact hP⟩
 have hfs := FrO.set1 w7 yb nv7 3 (.slice (some ⟨g7, 0, none⟩) s.vars.length nc7)
 have HKK : Hid _ := hk7.fr hm7 hfs
 have HFR : Hid _ := ((HS1.out.trans hs7).trans hfs).recast (nv2 := .slice (some ⟨g7, 0, none⟩) s.vars.length nc7) (by rw [hnv7]; rfl)
 clear hs7 hm7 hk7 hob hnv7 hna7 hg7 hP hbv hfs hR HC HS1 y33 f33
 go_wp2
 go_ret
 exact ⟨p, _, rfl, HFR.out, HMK.out, HKK.out⟩
def MakeOk (w0 : World) (yb : Nat) (rv : Value) (raw : List Int) (f : Nat) : Prop :=
 ∀ (t : Nat) (s : MkS) (nv : Value) (w : World), t < 5 → s.left < f → s.vars.length + s.left ≤ 100 → s.at_ + 40 * s.left + 11 ≤ 100000 → MkIn w0 w yb rv raw s nv →
  Calls Tryz.prog 48 #[.pointer (some ⟨yb, 0, none⟩), .int .i64 t] w fun e w' => ∃ p nv', e = .returned (.pointer (some ⟨p, 0, none⟩)) ∧ FrO w w' yb nv nv' ∧ MkIn w0 w' yb rv raw (makeF raw f t s).2 nv' ∧ KIn w' (makeF raw f t s).1 p
theorem make_pre {w0 w : World} {yb : Nat} {rv : Value} {raw : List Int} {s : MkS} {nv : Value} (h : MkIn w0 w yb rv raw s nv) (hl : s.left ≠ 0) : MkIn w0 (w.setCell ⟨yb, 2, none⟩ (.int .i64 ((s.left : Int) - 1))) yb rv raw { s with left := s.left - 1 } nv := by
 refine ⟨h.r, h.ob.set 2 _ ?_⟩
 simp only [mkCells]
 rw [show (s.left : Int) - 1 = ((s.left - 1 : Nat) : Int) by omega]
 rfl
theorem ktrip_new (w : World) (k : Kw) (n pa pb pd : Nat) {a b d : KE} (ha : KIn w a pa) (hb : KIn w b pb) (hd : KIn w d pd) :
  Below w.heap.size w ((w.alloc (.cells #[.pointer (some ⟨pa, 0, none⟩), .pointer (some ⟨pb, 0, none⟩), .pointer (some ⟨pd, 0, none⟩)] 43 (0, 0))).alloc (.cells (exV k.bytes n (.slice (some ⟨w.heap.size, 0, none⟩) 3 3)) 98 (0, 0))) ∧
  KIn ((w.alloc (.cells #[.pointer (some ⟨pa, 0, none⟩), .pointer (some ⟨pb, 0, none⟩), .pointer (some ⟨pd, 0, none⟩)] 43 (0, 0))).alloc (.cells (exV k.bytes n (.slice (some ⟨w.heap.size, 0, none⟩) 3 3)) 98 (0, 0))) (.n3 k n a b d) (w.heap.size + 1) := by
 have h1 := below_alZ (Below.refl _ w) (.cells #[.pointer (some ⟨pa, 0, none⟩), .pointer (some ⟨pb, 0, none⟩), .pointer (some ⟨pd, 0, none⟩)] 43 (0, 0))
 have h2 := below_alZ h1 (.cells (exV k.bytes n (.slice (some ⟨w.heap.size, 0, none⟩) 3 3)) 98 (0, 0))
 refine ⟨h2, w.heap.size, pa, pb, pd, ?_, ?_, ha.below h2, hb.below h2, hd.below h2⟩
 ·have := blk_new (w.alloc (.cells #[.pointer (some ⟨pa, 0, none⟩), .pointer (some ⟨pb, 0, none⟩), .pointer (some ⟨pd, 0, none⟩)] 43 (0, 0))) (.cells (exV k.bytes n (.slice (some ⟨w.heap.size, 0, none⟩) 3 3)) 98 (0, 0))
  simpa using this
 ·rw [Below.heap_alloc _ _ _ (by simp)]; exact blk_new _ _
set_option maxRecDepth 100000 in
set_option maxHeartbeats 4000000 in
theorem make_let {w0 : World} {yb : Nat} {rv : Value} {raw : List Int} {f : Nat} (ih : MakeOk w0 yb rv raw f) (t : Nat) (s : MkS) (nv : Value) (w : World) (ht : t < 5) (hf : s.left < f + 1) (hv : s.vars.length + s.left ≤ 100) (ha : s.at_ + 40 * s.left + 11 ≤ 100000) (h : MkIn w0 w yb rv raw s nv) (hl : s.left ≠ 0) (hk : (nextF raw 9 { s with left := s.left - 1 }).1 = 0) :
  Calls Tryz.prog 48 #[.pointer (some ⟨yb, 0, none⟩), .int .i64 t] w fun e w' => ∃ p nv', e = .returned (.pointer (some ⟨p, 0, none⟩)) ∧ FrO w w' yb nv nv' ∧ MkIn w0 w' yb rv raw (makeF raw (f + 1) t s).2 nv' ∧ KIn w' (makeF raw (f + 1) t s).1 p := by
 have hyl := blk_lt h.ob.y
 have y2 : w.cell? ⟨yb, 2, none⟩ = some (.int .i64 s.left) := by rw [blk_cell h.ob.y]; rfl
 have f2 : w.frozen? ⟨yb, 2, none⟩ = false := blk_free h.ob.y 2
 have hlp : 0 < s.left := by omega
 have hnx := next_any 9 (by omega) (by omega) (make_pre h hl) (by simp only; omega)
 have hst := nextF_st raw 9 { s with left := s.left - 1 }
 have hx9 := nextF_lt raw 9 { s with left := s.left - 1 } (by omega)
 generalize hR : makeF raw (f + 1) t s = R
 simp only [makeF] at hR
 rw [if_neg hl] at hR
 generalize nextF raw 9 { s with left := s.left - 1 } = x at *
 obtain ⟨x1, x2, x3, x4⟩ := hst
 simp only at x1 x2 x3 x4
 have qk : ((x.1 : Int) == 0) = true := by rw [hk]; rfl
 have HF0 : Hid _ := FrO.set1 w yb nv 2 (.int .i64 ((s.left : Int) - 1))
 have HNX : Hid _ := hnx
 clear hnx h
 go_enter Tryz.func48, Tryz.ntmps48
 go_wp2_with fail
 refine Calls.mono HNX.out ?_
 rintro _ w1 ⟨rfl, hf1, hm1⟩
 have HF1 : Hid _ := HF0.out.trans hf1
 have HM1 : Hid _ := hm1
 clear HNX HF0 hf1 hm1 y2 f2
 rw [if_pos hk] at hR
 have hm := nextF_st raw 5 x.2
 have hm5 := nextF_lt raw 5 x.2 (by omega)
 have hnv := next_any 5 (by omega) (by omega) HM1.out (by omega)
 generalize nextF raw 5 x.2 = v at *
 obtain ⟨m1, m2, m3, m4⟩ := hm
 have hao := makeF_ok raw f v.1 v.2 hm5 (by omega) (by rw [m2, x2]; omega)
 have hia := ih v.1 v.2 nv
 generalize makeF raw f v.1 v.2 = a at *
 obtain ⟨a1, a2, a3, a4, a5, a6, a7, a8⟩ := hao
 have hWv := @W_le v.1
 have hbo := makeF_ok raw f t { a.2 with vars := a.2.vars ++ [v.1] } ht (by simp only; omega) (by simp only [List.length_append, List.length_singleton, a2, m2, x2]; omega)
 have hib := fun nv W hW => bind_of (makeF raw f) v.1 t a.2 nv W (fun nv' W' h' => ih t { a.2 with vars := a.2.vars ++ [v.1] } nv' W' ht (by simp only; omega) (by simp only [List.length_append, List.length_singleton, a2, m2, x2]; omega) (by simp only; omega) h') hbo.vars hW (by rw [a2, m2, x2]; omega)
 have hbv := bindF_ok (v := v.1) hbo
 generalize bindF (makeF raw f) v.1 t a.2 = b at *
 obtain ⟨_, b2, _⟩ := hbv
 have HNV : Hid _ := hnv
 have HIA : Hid (∀ W, MkIn w0 W yb rv raw v.2 nv → _) := fun W hW => hia W hm5 (by omega) (by rw [m2, x2]; omega) (by omega) hW
 have HIB : Hid _ := hib
 have hbl : b.2.vars.length ≤ 100 := by rw [b2, a2, m2, x2]; omega
 clear hnv hia hib ih hbo
 go_wp2_with fail
 refine Calls.mono HNV.out ?_
 rintro _ w2 ⟨rfl, hf2, hm2⟩
 have HF2 : Hid _ := HF1.out.trans hf2
 have HM2 : Hid _ := hm2
 clear hf2 hm2 HM1 HF1 HNV
 go_wp2_with fail
 refine Calls.mono (HIA.out w2 HM2.out) ?_
 rintro _ w3 ⟨p3, nv3, rfl, hf3, hm3, hk3⟩
 have HF3 : Hid _ := HF2.out.trans hf3
 have HM3 : Hid _ := hm3
 have HK3 : Hid _ := hk3
 clear hf3 hm3 hk3 HM2 HF2
 go_wp2_with fail
 refine Calls.mono (HIB.out nv3 w3 HM3.out) ?_
 rintro _ w4 ⟨p4, nv4, rfl, hf4, hm4, hk4⟩
 have HK3b : Hid _ := KIn.fr HK3.out HM3.out hf4
 have HF4 : Hid _ := HF3.out.trans hf4
 have HM4 : Hid _ := hm4
 have HK4 : Hid _ := hk4
 clear hf4 hm4 hk4 HM3 HF3
 obtain ⟨na, nc, hnv4, _, _⟩ := HM4.out.ob.shape
 rw [natsV_len] at hnv4
 have y3 : w4.cell? ⟨yb, 3, none⟩ = some (.slice na b.2.vars.length nc) := by rw [blk_cell HM4.out.ob.y, ← hnv4]; rfl
 have hyl4 := blk_lt HM4.out.ob.y
 have HR : Hid _ := hR
 have h2 := kpair_new w4 .let_ b.2.vars.length p3 p4 HK3b.out HK4.out
 have H2 : Hid _ := h2
 clear hR h2 hnv4 b2 HIA HIB
 go_wp2
 go_ret
 rw [← HR.out]
 exact ⟨_, nv4, rfl, HF4.out.trans (FrO.below H2.out.1 _ _), HM4.out.grow H2.out.1, H2.out.2⟩
set_option maxRecDepth 100000 in
set_option maxHeartbeats 4000000 in
theorem make_if {w0 : World} {yb : Nat} {rv : Value} {raw : List Int} {f : Nat} (ih : MakeOk w0 yb rv raw f) (t : Nat) (s : MkS) (nv : Value) (w : World) (ht : t < 5) (hf : s.left < f + 1) (hv : s.vars.length + s.left ≤ 100) (ha : s.at_ + 40 * s.left + 11 ≤ 100000) (h : MkIn w0 w yb rv raw s nv) (hl : s.left ≠ 0) (hk : (nextF raw 9 { s with left := s.left - 1 }).1 = 1) :
  Calls Tryz.prog 48 #[.pointer (some ⟨yb, 0, none⟩), .int .i64 t] w fun e w' => ∃ p nv', e = .returned (.pointer (some ⟨p, 0, none⟩)) ∧ FrO w w' yb nv nv' ∧ MkIn w0 w' yb rv raw (makeF raw (f + 1) t s).2 nv' ∧ KIn w' (makeF raw (f + 1) t s).1 p := by
 have hyl := blk_lt h.ob.y
 have y2 : w.cell? ⟨yb, 2, none⟩ = some (.int .i64 s.left) := by rw [blk_cell h.ob.y]; rfl
 have f2 : w.frozen? ⟨yb, 2, none⟩ = false := blk_free h.ob.y 2
 have hlp : 0 < s.left := by omega
 have hnx := next_any 9 (by omega) (by omega) (make_pre h hl) (by simp only; omega)
 have hst := nextF_st raw 9 { s with left := s.left - 1 }
 have hx9 := nextF_lt raw 9 { s with left := s.left - 1 } (by omega)
 generalize hR : makeF raw (f + 1) t s = R
 simp only [makeF] at hR
 rw [if_neg hl] at hR
 generalize nextF raw 9 { s with left := s.left - 1 } = x at *
 obtain ⟨x1, x2, x3, x4⟩ := hst
 simp only at x1 x2 x3 x4
 skip
 have HF0 : Hid _ := FrO.set1 w yb nv 2 (.int .i64 ((s.left : Int) - 1))
 have HNX : Hid _ := hnx
 clear hnx h
 go_enter Tryz.func48, Tryz.ntmps48
 go_wp2_with fail
 refine Calls.mono HNX.out ?_
 rintro _ w1 ⟨rfl, hf1, hm1⟩
 have HF1 : Hid _ := HF0.out.trans hf1
 have HM1 : Hid _ := hm1
 clear HNX HF0 hf1 hm1 y2 f2
 rw [if_neg (by omega), if_pos hk] at hR
 have hao := makeF_ok raw f 0 x.2 (by omega) (by omega) (by rw [x2]; omega)
 have hia := fun W hW => ih 0 x.2 nv W (by omega) (by omega) (by rw [x2]; omega) (by omega) hW
 generalize makeF raw f 0 x.2 = a at *
 obtain ⟨a1, a2, a3, a4, a5, a6, a7, a8⟩ := hao
 have hbo := makeF_ok raw f t a.2 ht (by omega) (by rw [a2, x2]; omega)
 have hW0 := @W_le 0
 have hWt := @W_le t
 have hib := fun nv W hW => ih t a.2 nv W ht (by omega) (by rw [a2, x2]; omega) (by omega) hW
 generalize makeF raw f t a.2 = b at *
 obtain ⟨b1, b2, b3, b4, b5, b6, b7, b8⟩ := hbo
 have hic := fun nv W hW => ih t b.2 nv W ht (by omega) (by rw [b2, a2, x2]; omega) (by omega) hW
 generalize makeF raw f t b.2 = d at *
 have HIA : Hid _ := hia
 have HIB : Hid _ := hib
 have HIC : Hid _ := hic
 have qk : ((x.1 : Int) == 0) = false := by rw [beq_eq_false_iff_ne]; omega
 have qk1 : ((x.1 : Int) == 1) = true := by rw [hk]; rfl
 clear hia hib hic ih
 go_wp2_with fail
 refine Calls.mono (HIA.out w1 HM1.out) ?_
 rintro _ w3 ⟨p3, nv3, rfl, hf3, hm3, hk3⟩
 have HF3 : Hid _ := HF1.out.trans hf3
 have HM3 : Hid _ := hm3
 have HK3 : Hid _ := hk3
 clear hf3 hm3 hk3 HM1 HF1
 go_wp2_with fail
 refine Calls.mono (HIB.out nv3 w3 HM3.out) ?_
 rintro _ w4 ⟨p4, nv4, rfl, hf4, hm4, hk4⟩
 have HK3b : Hid _ := KIn.fr HK3.out HM3.out hf4
 have HF4 : Hid _ := HF3.out.trans hf4
 have HM4 : Hid _ := hm4
 have HK4 : Hid _ := hk4
 clear hf4 hm4 hk4 HM3 HF3
 go_wp2_with fail
 refine Calls.mono (HIC.out nv4 w4 HM4.out) ?_
 rintro _ w5 ⟨p5, nv5, rfl, hf5, hm5, hk5⟩
 have HK3c : Hid _ := KIn.fr HK3b.out HM4.out hf5
 have HK4b : Hid _ := KIn.fr HK4.out HM4.out hf5
 have HF5 : Hid _ := HF4.out.trans hf5
 have HM5 : Hid _ := hm5
 have HK5 : Hid _ := hk5
 clear hf5 hm5 hk5 HM4 HF4
 have HR : Hid _ := hR
 have h2 := ktrip_new w5 .if_ 0 p3 p4 p5 HK3c.out HK4b.out HK5.out
 have H2 : Hid _ := h2
 clear hR h2 HIA HIB HIC
 go_wp2
 go_ret
 rw [← HR.out]
 exact ⟨_, nv5, rfl, HF5.out.trans (FrO.below H2.out.1 _ _), HM5.out.grow H2.out.1, H2.out.2⟩
set_option maxRecDepth 100000 in
set_option maxHeartbeats 4000000 in
theorem make_loop {w0 : World} {yb : Nat} {rv : Value} {raw : List Int} {f : Nat} (ih : MakeOk w0 yb rv raw f) (t : Nat) (s : MkS) (nv : Value) (w : World) (ht : t < 5) (hf : s.left < f + 1) (hv : s.vars.length + s.left ≤ 100) (ha : s.at_ + 40 * s.left + 11 ≤ 100000) (h : MkIn w0 w yb rv raw s nv) (hl : s.left ≠ 0) (hk : (nextF raw 9 { s with left := s.left - 1 }).1 = 4) :
  Calls Tryz.prog 48 #[.pointer (some ⟨yb, 0, none⟩), .int .i64 t] w fun e w' => ∃ p nv', e = .returned (.pointer (some ⟨p, 0, none⟩)) ∧ FrO w w' yb nv nv' ∧ MkIn w0 w' yb rv raw (makeF raw (f + 1) t s).2 nv' ∧ KIn w' (makeF raw (f + 1) t s).1 p := by
 have hyl := blk_lt h.ob.y
 have y2 : w.cell? ⟨yb, 2, none⟩ = some (.int .i64 s.left) := by rw [blk_cell h.ob.y]; rfl
 have f2 : w.frozen? ⟨yb, 2, none⟩ = false := blk_free h.ob.y 2
 have hlp : 0 < s.left := by omega
 have hnx := next_any 9 (by omega) (by omega) (make_pre h hl) (by simp only; omega)
 have hst := nextF_st raw 9 { s with left := s.left - 1 }
 have hx9 := nextF_lt raw 9 { s with left := s.left - 1 } (by omega)
 generalize hR : makeF raw (f + 1) t s = R
 simp only [makeF] at hR
 rw [if_neg hl] at hR
 generalize nextF raw 9 { s with left := s.left - 1 } = x at *
 obtain ⟨x1, x2, x3, x4⟩ := hst
 simp only at x1 x2 x3 x4
 skip
 have HF0 : Hid _ := FrO.set1 w yb nv 2 (.int .i64 ((s.left : Int) - 1))
 have HNX : Hid _ := hnx
 clear hnx h
 go_enter Tryz.func48, Tryz.ntmps48
 go_wp2_with fail
 refine Calls.mono HNX.out ?_
 rintro _ w1 ⟨rfl, hf1, hm1⟩
 have HF1 : Hid _ := HF0.out.trans hf1
 have HM1 : Hid _ := hm1
 clear HNX HF0 hf1 hm1 y2 f2
 rw [if_neg (by omega), if_neg (by omega), if_neg (by omega), if_pos hk] at hR
 have hm := nextF_st raw 4 x.2
 have hm4 := nextF_lt raw 4 x.2 (by omega)
 have hnv := next_any 4 (by omega) (by omega) HM1.out (by omega)
 generalize nextF raw 4 x.2 = n at *
 obtain ⟨m1, m2, m3, m4⟩ := hm
 have hao := makeF_ok raw f t n.2 ht (by omega) (by rw [m2, x2]; omega)
 have hia := fun W hW => ih t n.2 nv W ht (by omega) (by rw [m2, x2]; omega) (by omega) hW
 generalize makeF raw f t n.2 = a at *
 obtain ⟨a1, a2, a3, a4, a5, a6, a7, a8⟩ := hao
 have hWt := @W_le t
 have hbo := makeF_ok raw f t { a.2 with vars := a.2.vars ++ [t] } ht (by simp only; omega) (by simp only [List.length_append, List.length_singleton, a2, m2, x2]; omega)
 have hib := fun nv W hW => bind_of (makeF raw f) t t a.2 nv W (fun nv' W' h' => ih t { a.2 with vars := a.2.vars ++ [t] } nv' W' ht (by simp only; omega) (by simp only [List.length_append, List.length_singleton, a2, m2, x2]; omega) (by simp only; omega) h') hbo.vars hW (by rw [a2, m2, x2]; omega)
 have hbv := bindF_ok (v := t) hbo
 generalize bindF (makeF raw f) t t a.2 = b at *
 obtain ⟨_, b2, _⟩ := hbv
 have HNV : Hid _ := hnv
 have HIA : Hid _ := hia
 have HIB : Hid _ := hib
 have hbl : b.2.vars.length ≤ 100 := by rw [b2, a2, m2, x2]; omega
 have qk : ((x.1 : Int) == 0) = false := by rw [beq_eq_false_iff_ne]; omega
 have qk1 : ((x.1 : Int) == 1) = false := by rw [beq_eq_false_iff_ne]; omega
 have qk2 : ((x.1 : Int) == 2) = false := by rw [beq_eq_false_iff_ne]; omega
 have qk3 : ((x.1 : Int) == 3) = false := by rw [beq_eq_false_iff_ne]; omega
 have qk4 : ((x.1 : Int) == 4) = true := by rw [hk]; rfl
 clear hnv hia hib ih hbo
 go_wp2_with fail
 refine Calls.mono HNV.out ?_
 rintro _ w2 ⟨rfl, hf2, hm2⟩
 have hbn := below_alZ (Below.refl _ w2) (.cells (exV [] n.1 (.slice none 0 0)) 98 (0, 0))
 have HKN : Hid (KIn (w2.alloc (.cells (exV [] n.1 (.slice none 0 0)) 98 (0, 0))) (.num n.1) w2.heap.size) := blk_new _ _
 have HF2 : Hid _ := (HF1.out.trans hf2).trans (FrO.below hbn _ _)
 have HM2 : Hid _ := hm2.grow hbn
 clear hf2 hm2 hbn HM1 HF1 HNV
 go_wp2_with fail
 refine Calls.mono (HIA.out _ HM2.out) ?_
 rintro _ w3 ⟨p3, nv3, rfl, hf3, hm3, hk3⟩
 have HKNb : Hid _ := KIn.fr HKN.out HM2.out hf3
 have HF3 : Hid _ := HF2.out.trans hf3
 have HM3 : Hid _ := hm3
 have HK3 : Hid _ := hk3
 clear hf3 hm3 hk3 HM2 HF2
 go_wp2_with fail
 refine Calls.mono (HIB.out nv3 w3 HM3.out) ?_
 rintro _ w4 ⟨p4, nv4, rfl, hf4, hm4, hk4⟩
 have HK3b : Hid _ := KIn.fr HK3.out HM3.out hf4
 have HKNc : Hid _ := KIn.fr HKNb.out HM3.out hf4
 have HF4 : Hid _ := HF3.out.trans hf4
 have HM4 : Hid _ := hm4
 have HK4 : Hid _ := hk4
 clear hf4 hm4 hk4 HM3 HF3
 obtain ⟨na, nc, hnv4, _, _⟩ := HM4.out.ob.shape
 rw [natsV_len] at hnv4
 have y3 : w4.cell? ⟨yb, 3, none⟩ = some (.slice na b.2.vars.length nc) := by rw [blk_cell HM4.out.ob.y, ← hnv4]; rfl
 have hyl4 := blk_lt HM4.out.ob.y
 have HR : Hid _ := hR
 have h2 := ktrip_new w4 .loop b.2.vars.length w2.heap.size p3 p4 HKNc.out HK3b.out HK4.out
 have H2 : Hid _ := h2
 clear hR h2 hnv4 b2 HIA HIB HKN
 go_wp2
 go_ret
 rw [← HR.out]
 exact ⟨_, nv4, rfl, HF4.out.trans (FrO.below H2.out.1 _ _), HM4.out.grow H2.out.1, H2.out.2⟩
set_option maxRecDepth 100000 in
set_option maxHeartbeats 4000000 in
theorem make_pair {w0 : World} {yb : Nat} {rv : Value} {raw : List Int} {f : Nat} (ih : MakeOk w0 yb rv raw f) (t : Nat) (s : MkS) (nv : Value) (w : World) (ht : t < 5) (hf : s.left < f + 1) (hv : s.vars.length + s.left ≤ 100) (ha : s.at_ + 40 * s.left + 11 ≤ 100000) (h : MkIn w0 w yb rv raw s nv) (hl : s.left ≠ 0) (hk : 4 < (nextF raw 9 { s with left := s.left - 1 }).1 ∧ (nextF raw 9 { s with left := s.left - 1 }).1 < 8) (h0 : t ≠ 0) :
  Calls Tryz.prog 48 #[.pointer (some ⟨yb, 0, none⟩), .int .i64 t] w fun e w' => ∃ p nv', e = .returned (.pointer (some ⟨p, 0, none⟩)) ∧ FrO w w' yb nv nv' ∧ MkIn w0 w' yb rv raw (makeF raw (f + 1) t s).2 nv' ∧ KIn w' (makeF raw (f + 1) t s).1 p := by
 have hyl := blk_lt h.ob.y
 have y2 : w.cell? ⟨yb, 2, none⟩ = some (.int .i64 s.left) := by rw [blk_cell h.ob.y]; rfl
 have f2 : w.frozen? ⟨yb, 2, none⟩ = false := blk_free h.ob.y 2
 have hlp : 0 < s.left := by omega
 have hnx := next_any 9 (by omega) (by omega) (make_pre h hl) (by simp only; omega)
 have hst := nextF_st raw 9 { s with left := s.left - 1 }
 have hx9 := nextF_lt raw 9 { s with left := s.left - 1 } (by omega)
 generalize hR : makeF raw (f + 1) t s = R
 simp only [makeF] at hR
 rw [if_neg hl] at hR
 generalize nextF raw 9 { s with left := s.left - 1 } = x at *
 obtain ⟨x1, x2, x3, x4⟩ := hst
 simp only at x1 x2 x3 x4
 skip
 have HF0 : Hid _ := FrO.set1 w yb nv 2 (.int .i64 ((s.left : Int) - 1))
 have HNX : Hid _ := hnx
 clear hnx h
 go_enter Tryz.func48, Tryz.ntmps48
 go_wp2_with fail
 refine Calls.mono HNX.out ?_
 rintro _ w1 ⟨rfl, hf1, hm1⟩
 have HF1 : Hid _ := HF0.out.trans hf1
 have HM1 : Hid _ := hm1
 clear HNX HF0 hf1 hm1 y2 f2
 rw [if_neg (by omega), if_neg (by omega), if_neg (by omega), if_neg (by omega), if_pos hk.2, if_neg h0] at hR
 have hp := W_pair ht h0
 have hfi : fI t = ((fT t : Nat) : Int) := by unfold fI; rw [if_neg h0]
 have hsi : sI t = ((sT t : Nat) : Int) := by unfold sI; rw [if_neg h0]
 have hfs := kfirst_any t ht
 have hss := ksecond_any t ht
 rw [hfi] at hfs
 rw [hsi] at hss
 have HFS : Hid _ := hfs
 have HSS : Hid _ := hss
 have hao := makeF_ok raw f (fT t) x.2 hp.2.2.2.2.1 (by omega) (by rw [x2]; omega)
 have hia := fun W hW => ih (fT t) x.2 nv W hp.2.2.2.2.1 (by omega) (by rw [x2]; omega) (by omega) hW
 have hWf := @W_le (fT t)
 generalize makeF raw f (fT t) x.2 = a at *
 obtain ⟨a1, a2, a3, a4, a5, a6, a7, a8⟩ := hao
 have hib := fun nv W hW => ih (sT t) a.2 nv W hp.2.2.2.2.2 (by omega) (by rw [a2, x2]; omega) (by omega) hW
 generalize makeF raw f (sT t) a.2 = b at *
 have HIA : Hid _ := hia
 have HIB : Hid _ := hib
 have q0 : ((t : Int) == 0) = false := by rw [beq_eq_false_iff_ne]; omega
 have qk0 : ((x.1 : Int) == 0) = false := by rw [beq_eq_false_iff_ne]; omega
 have qk1 : ((x.1 : Int) == 1) = false := by rw [beq_eq_false_iff_ne]; omega
 have qk2 : ((x.1 : Int) == 2) = false := by rw [beq_eq_false_iff_ne]; omega
 have qk3 : ((x.1 : Int) == 3) = false := by rw [beq_eq_false_iff_ne]; omega
 have qk4 : ((x.1 : Int) == 4) = false := by rw [beq_eq_false_iff_ne]; omega
 clear hia hib ih hfi hsi hfs hss hp
 go_wp2_with fail
 refine Calls.mono (HFS.out _) ?_
 rintro _ w2 ⟨rfl, hb2⟩
 have HF2 : Hid _ := HF1.out.trans (FrO.below hb2 _ _)
 have HM2 : Hid _ := HM1.out.grow hb2
 clear hb2 HF1 HM1
 go_wp2_with fail
 refine Calls.mono (HIA.out w2 HM2.out) ?_
 rintro _ w3 ⟨p3, nv3, rfl, hf3, hm3, hk3⟩
 have HF3 : Hid _ := HF2.out.trans hf3
 have HM3 : Hid _ := hm3
 have HK3 : Hid _ := hk3
 clear hf3 hm3 hk3 HM2 HF2
 go_wp2_with fail
 refine Calls.mono (HSS.out _) ?_
 rintro _ w4 ⟨rfl, hb4⟩
 have HF4 : Hid _ := HF3.out.trans (FrO.below hb4 _ _)
 have HM4 : Hid _ := HM3.out.grow hb4
 have HK4 : Hid _ := HK3.out.below hb4
 clear hb4 HF3 HM3 HK3
 go_wp2_with fail
 refine Calls.mono (HIB.out nv3 w4 HM4.out) ?_
 rintro _ w5 ⟨p5, nv5, rfl, hf5, hm5, hk5⟩
 have HK4b : Hid _ := KIn.fr HK4.out HM4.out hf5
 have HF5 : Hid _ := HF4.out.trans hf5
 have HM5 : Hid _ := hm5
 have HK5 : Hid _ := hk5
 clear hf5 hm5 hk5 HM4 HF4
 have HR : Hid _ := hR
 have h2 := kpair_new w5 .pair 0 p3 p5 HK4b.out HK5.out
 have H2 : Hid _ := h2
 clear hR h2 HIA HIB HFS HSS
 go_wp2
 go_ret
 rw [← HR.out]
 exact ⟨_, nv5, rfl, HF5.out.trans (FrO.below H2.out.1 _ _), HM5.out.grow H2.out.1, H2.out.2⟩
set_option maxRecDepth 100000 in
set_option maxHeartbeats 4000000 in
theorem make_leaf {w0 : World} {yb : Nat} {rv : Value} {raw : List Int} {f : Nat} (ih : MakeOk w0 yb rv raw f) (t : Nat) (s : MkS) (nv : Value) (w : World) (ht : t < 5) (hf : s.left < f + 1) (hv : s.vars.length + s.left ≤ 100) (ha : s.at_ + 40 * s.left + 11 ≤ 100000) (h : MkIn w0 w yb rv raw s nv) (hl : s.left ≠ 0) (hk : 8 ≤ (nextF raw 9 { s with left := s.left - 1 }).1) :
  Calls Tryz.prog 48 #[.pointer (some ⟨yb, 0, none⟩), .int .i64 t] w fun e w' => ∃ p nv', e = .returned (.pointer (some ⟨p, 0, none⟩)) ∧ FrO w w' yb nv nv' ∧ MkIn w0 w' yb rv raw (makeF raw (f + 1) t s).2 nv' ∧ KIn w' (makeF raw (f + 1) t s).1 p := by
 have hyl := blk_lt h.ob.y
 have y2 : w.cell? ⟨yb, 2, none⟩ = some (.int .i64 s.left) := by rw [blk_cell h.ob.y]; rfl
 have f2 : w.frozen? ⟨yb, 2, none⟩ = false := blk_free h.ob.y 2
 have hlp : 0 < s.left := by omega
 have hnx := next_any 9 (by omega) (by omega) (make_pre h hl) (by simp only; omega)
 have hst := nextF_st raw 9 { s with left := s.left - 1 }
 have hx9 := nextF_lt raw 9 { s with left := s.left - 1 } (by omega)
 generalize hR : makeF raw (f + 1) t s = R
 simp only [makeF] at hR
 rw [if_neg hl] at hR
 generalize nextF raw 9 { s with left := s.left - 1 } = x at *
 obtain ⟨x1, x2, x3, x4⟩ := hst
 simp only at x1 x2 x3 x4
 skip
 have HF0 : Hid _ := FrO.set1 w yb nv 2 (.int .i64 ((s.left : Int) - 1))
 have HNX : Hid _ := hnx
 clear hnx h
 go_enter Tryz.func48, Tryz.ntmps48
 go_wp2_with fail
 refine Calls.mono HNX.out ?_
 rintro _ w1 ⟨rfl, hf1, hm1⟩
 have HF1 : Hid _ := HF0.out.trans hf1
 have HM1 : Hid _ := hm1
 clear HNX HF0 hf1 hm1 y2 f2
 rw [if_neg (by omega), if_neg (by omega), if_neg (by omega), if_neg (by omega), if_neg (by omega)] at hR
 have hlf := leaf_any 3 t x.2 nv w1 ht (by unfold dep; split <;> (try split) <;> omega) HM1.out (by rw [x2]; omega) (by have := @W_le t; omega)
 rw [hR] at hlf
 have HLF : Hid _ := hlf
 have qk0 : ((x.1 : Int) == 0) = false := by rw [beq_eq_false_iff_ne]; omega
 have qk1 : ((x.1 : Int) == 1) = false := by rw [beq_eq_false_iff_ne]; omega
 have qk2 : ((x.1 : Int) == 2) = false := by rw [beq_eq_false_iff_ne]; omega
 have qk3 : ((x.1 : Int) == 3) = false := by rw [beq_eq_false_iff_ne]; omega
 have qk4 : ((x.1 : Int) == 4) = false := by rw [beq_eq_false_iff_ne]; omega
 have hff := hf
 have hii := ih
 clear hlf HM1 ih hii hff
 go_wp2_with fail
 refine Calls.mono HLF.out ?_
 rintro _ w2 ⟨p, rfl, hf2, hm2, hk2⟩
 have HF2 : Hid _ := HF1.out.trans hf2
 have HM2 : Hid _ := hm2
 have HK2 : Hid _ := hk2
 clear hf2 hm2 hk2 HF1 HLF
 go_wp2
 go_ret
 exact ⟨p, nv, rfl, HF2.out, HM2.out, HK2.out⟩
def takenF (raw : List Int) (f t : Nat) (s : MkS) : KE × MkS :=
 match takeG t (nextF raw 4 s).1 0 10 with
 | some q => (.n1 q.1 (makeF raw f q.2 (nextF raw 4 s).2).1, (makeF raw f q.2 (nextF raw 4 s).2).2)
 | none => leafF raw 3 t (nextF raw 4 s).2
theorem takeG_succ (t k i n : Nat) : takeG t k i (n + 1) = if (i + k) / 5 % 2 = 1 then (if sI ((i + k) % 5) = t then some (.snd, (i + k) % 5) else takeG t k (i + 1) n) else (if fI ((i + k) % 5) = t then some (.fst, (i + k) % 5) else takeG t k (i + 1) n) := rfl
theorem kone_new (w : World) (k : Kw) (pa : Nat) {a : KE} (ha : KIn w a pa) :
  Below w.heap.size w ((w.alloc (.cells #[.pointer (some ⟨pa, 0, none⟩)] 43 (0, 0))).alloc (.cells (exV k.bytes 0 (.slice (some ⟨w.heap.size, 0, none⟩) 1 1)) 98 (0, 0))) ∧
  KIn ((w.alloc (.cells #[.pointer (some ⟨pa, 0, none⟩)] 43 (0, 0))).alloc (.cells (exV k.bytes 0 (.slice (some ⟨w.heap.size, 0, none⟩) 1 1)) 98 (0, 0))) (.n1 k a) (w.heap.size + 1) := by
 have h1 := below_alZ (Below.refl _ w) (.cells #[.pointer (some ⟨pa, 0, none⟩)] 43 (0, 0))
 have h2 := below_alZ h1 (.cells (exV k.bytes 0 (.slice (some ⟨w.heap.size, 0, none⟩) 1 1)) 98 (0, 0))
 refine ⟨h2, w.heap.size, pa, ?_, ?_, ha.below h2⟩
 ·have := blk_new (w.alloc (.cells #[.pointer (some ⟨pa, 0, none⟩)] 43 (0, 0))) (.cells (exV k.bytes 0 (.slice (some ⟨w.heap.size, 0, none⟩) 1 1)) 98 (0, 0))
  simpa using this
 ·rw [Below.heap_alloc _ _ _ (by simp)]; exact blk_new _ _
set_option maxRecDepth 100000 in
set_option maxHeartbeats 4000000 in
theorem taken_of {w0 : World} {yb : Nat} {rv : Value} {raw : List Int} {f : Nat} (ih : MakeOk w0 yb rv raw f) (t : Nat) (s : MkS) (nv : Value) (w : World) (ht : t < 5) (hf : s.left < f) (hv : s.vars.length + s.left ≤ 100) (ha : s.at_ + 40 * s.left + 12 ≤ 100000) (h : MkIn w0 w yb rv raw s nv) :
  Calls Tryz.prog 81 #[.pointer (some ⟨yb, 0, none⟩), .int .i64 t] w fun e w' => ∃ p nv', e = .returned (.pointer (some ⟨p, 0, none⟩)) ∧ FrO w w' yb nv nv' ∧ MkIn w0 w' yb rv raw (takenF raw f t s).2 nv' ∧ KIn w' (takenF raw f t s).1 p := by
 have hnx := next_any 4 (by omega) (by omega) h (by omega)
 have hst := nextF_st raw 4 s
 have hk4 := nextF_lt raw 4 s (by omega)
 have hS : ∀ q, takeG t (nextF raw 4 s).1 0 10 = some q → takenF raw f t s = (.n1 q.1 (makeF raw f q.2 (nextF raw 4 s).2).1, (makeF raw f q.2 (nextF raw 4 s).2).2) := fun q hq => by unfold takenF; rw [hq]
 have hN : takeG t (nextF raw 4 s).1 0 10 = none → takenF raw f t s = leafF raw 3 t (nextF raw 4 s).2 := fun hq => by unfold takenF; rw [hq]
 have htg := fun q => takeG_ty t ht (nextF raw 4 s).1 hk4 q
 generalize takenF raw f t s = R at *
 generalize nextF raw 4 s = x at *
 obtain ⟨x1, x2, x3, x4⟩ := hst
 have HS : Hid _ := hS
 have HN : Hid _ := hN
 have HTG : Hid _ := htg
 have HNX : Hid _ := hnx
 have HLF : Hid _ := fun W (hW : MkIn w0 W yb rv raw x.2 nv) => leaf_any 3 t x.2 nv W ht (by unfold dep; split <;> (try split) <;> omega) hW (by rw [x2]; omega) (by have := @W_le t; omega)
 have HIH : Hid _ := fun (p : Nat) (hp : p < 5) W hW => ih p x.2 nv W hp (by omega) (by rw [x2]; omega) (by omega) hW
 clear hS hN htg hnx h ih
 obtain ⟨k, s1⟩ := x
 simp only at *
 go_enter Tryz.func81, Tryz.ntmps81
 go_wp2_with fail
 refine Calls.mono HNX.out ?_
 rintro _ w1 ⟨rfl, hf1, hm1⟩
 have HF1 : Hid _ := hf1
 have HM1 : Hid _ := hm1
 clear hf1 hm1 HNX
 go_wp2_with fail
 go_loopw [6] (fun i wr => ∃ j : Nat, j ≤ 10 ∧ i = .int .i64 j ∧ takeG t k 0 10 = takeG t k j (10 - j) ∧ Below w1.heap.size w1 wr) (fun i _ => 10 - (intOf i).toNat)
 case atStart => exact ⟨0, by omega, rfl, rfl, Below.refl _ _⟩
 case round =>
  obtain ⟨j, hj, rfl, htk, hbel⟩ := hrel
  have hsz := hbel.size
  have HB : Hid _ := hbel
  by_cases hlt : j < 10
  ·obtain ⟨n, hn⟩ : ∃ n, 10 - j = n + 1 := ⟨9 - j, by omega⟩
   have hn9 : n = 10 - (j + 1) := by omega
   rw [hn] at htk
   replace htk := htk.trans (takeG_succ t k j n)
   rw [hn9] at htk
   have hp5 : (j + k) % 5 < 5 := Nat.mod_lt _ (by omega)
   have HFS : Hid _ := kfirst_any ((j + k) % 5) hp5
   have HSS : Hid _ := ksecond_any ((j + k) % 5) hp5
   have e1 : ((j : Int) + (k : Int)) % 5 = (((j + k) % 5 : Nat) : Int) := by omega
   have HTK : Hid _ := htk
   clear htk hbel hn hn9
   obtain ⟨p, hp⟩ : ∃ p, p = (j + k) % 5 := ⟨_, rfl⟩
   rw [← hp] at e1 HTK HFS HSS hp5
   by_cases hod : (j + k) / 5 % 2 = 1
   ·have e2 : ((j : Int) + (k : Int)) / 5 % 2 = 1 := by omega
    have HTK2 : Hid (takeG t k 0 10 = if sI p = t then some (.snd, p) else takeG t k (j + 1) (10 - (j + 1))) := by have := HTK.out; rw [if_pos hod] at this; exact this
    clear HTK hp hod
    go_wp2_with fail
    refine Calls.mono (HFS.out _) ?_
    rintro _ w2 ⟨rfl, hb2⟩
    have HB2 : Hid _ := HB.out.trans (hb2.mono hsz)
    have hsz2 := HB2.out.size
    clear hb2 HFS
    go_wp2_with fail
    refine Calls.mono (HSS.out _) ?_
    rintro _ w3 ⟨rfl, hb3⟩
    have HB3 : Hid _ := HB2.out.trans (hb3.mono hsz2)
    clear hb3 HSS
    by_cases hh : sI p = t
    ·have qh : (sI p == (t : Int)) = true := by rw [hh]; simp
     have hq : takeG t k 0 10 = some (.snd, p) := by rw [HTK2.out, if_pos hh]
     have HR : Hid _ := HS.out _ hq
     have HMW : Hid _ := HM1.out.grow HB3.out
     clear hh hq HTK2
     go_wp2_with fail
     refine Calls.mono (HIH.out p hp5 w3 HMW.out) ?_
     rintro _ w4 ⟨pa, nv4, rfl, hf4, hm4, hk4⟩
     have HF4 : Hid _ := (HF1.out.trans (FrO.below HB3.out _ _)).trans hf4
     have HM4 : Hid _ := hm4
     have H2 : Hid _ := kone_new w4 .snd pa hk4
     clear hf4 hm4 hk4
     go_wp2
     go_ret
     rw [HR.out]
     exact ⟨_, nv4, rfl, HF4.out.trans (FrO.below H2.out.1 _ _), HM4.out.grow H2.out.1, H2.out.2⟩
    ·have qh : (sI p == (t : Int)) = false := by rw [beq_eq_false_iff_ne]; exact hh
     have HQ : Hid _ := HTK2.out.trans (if_neg hh)
     clear hh HTK2
     go_wp2
     go_roundw
     case rel => exact ⟨j + 1, by omega, by go_num, HQ.out, HB3.out⟩
     case measure => simp [intOf]; omega
   ·have e2 : ((j : Int) + (k : Int)) / 5 % 2 = 0 := by omega
    have HTK2 : Hid (takeG t k 0 10 = if fI p = t then some (.fst, p) else takeG t k (j + 1) (10 - (j + 1))) := by have := HTK.out; rw [if_neg hod] at this; exact this
    clear HTK hp hod
    go_wp2_with fail
    refine Calls.mono (HFS.out _) ?_
    rintro _ w2 ⟨rfl, hb2⟩
    have HB3 : Hid _ := HB.out.trans (hb2.mono hsz)
    clear hb2 HFS
    by_cases hh : fI p = t
    ·have qh : (fI p == (t : Int)) = true := by rw [hh]; simp
     have hq : takeG t k 0 10 = some (.fst, p) := by rw [HTK2.out, if_pos hh]
     have HR : Hid _ := HS.out _ hq
     have HMW : Hid _ := HM1.out.grow HB3.out
     clear hh hq HTK2
     go_wp2_with fail
     refine Calls.mono (HIH.out p hp5 w2 HMW.out) ?_
     rintro _ w4 ⟨pa, nv4, rfl, hf4, hm4, hk4⟩
     have HF4 : Hid _ := (HF1.out.trans (FrO.below HB3.out _ _)).trans hf4
     have HM4 : Hid _ := hm4
     have H2 : Hid _ := kone_new w4 .fst pa hk4
     clear hf4 hm4 hk4
     go_wp2
     go_ret
     rw [HR.out]
     exact ⟨_, nv4, rfl, HF4.out.trans (FrO.below H2.out.1 _ _), HM4.out.grow H2.out.1, H2.out.2⟩
    ·have qh : (fI p == (t : Int)) = false := by rw [beq_eq_false_iff_ne]; exact hh
     have HQ : Hid _ := HTK2.out.trans (if_neg hh)
     clear hh HTK2
     go_wp2
     go_roundw
     case rel => exact ⟨j + 1, by omega, by go_num, HQ.out, HB3.out⟩
     case measure => simp [intOf]; omega
  ·have hje : j = 10 := by omega
   subst hje
   have HR : Hid _ := HN.out htk
   have HMW : Hid _ := HM1.out.grow HB.out
   clear htk hbel
   go_wp2_with fail
   refine Calls.mono (HLF.out _ HMW.out) ?_
   rintro _ w2 ⟨p, rfl, hf2, hm2, hk2⟩
   have HF2 : Hid _ := (HF1.out.trans (FrO.below HB.out _ _)).trans hf2
   have HM2 : Hid _ := hm2
   have HK2 : Hid _ := hk2
   clear hf2 hm2 hk2
   go_wp2
   go_ret
   rw [HR.out]
   exact ⟨p, nv, rfl, HF2.out, HM2.out, HK2.out⟩
end Go.Proofs.YtpicaknklgccoaaGreatDoor
