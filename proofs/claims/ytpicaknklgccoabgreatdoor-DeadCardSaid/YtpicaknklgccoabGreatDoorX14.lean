import Derived.Test.YtpicaknklgccoabGreatDoorX12
import Derived.Test.YtpicaknklgccoabGreatDoorX13
namespace Go.Proofs.YtpicaknklgccoabGreatDoor
open Go.RowKit
def nr0 : NR := ⟨0, 0, 0, 0, [], 0, 0, 0, 0, 0⟩
def newF (l : List NR) (rg : Int) : Option NR := l.find? (fun n => n.region == rg)
theorem newF_drop (l : List NR) (rg : Int) (k : Nat) (hk : k < l.length) : newF (l.drop k) rg = if l[k].region == rg then some l[k] else newF (l.drop (k + 1)) rg := by
 rw [List.drop_eq_getElem_cons hk]
 unfold newF
 rw [List.find?_cons]
 cases l[k].region == rg <;> rfl
set_option maxRecDepth 100000 in
set_option maxHeartbeats 4000000 in
theorem newOf_any (w : World) (vv : Value) (l : List NR) (rg : Int) (base : Nat) (h : w.ownsRow base 108 10 vv l.length (l.flatMap nrL)) (hl : l.length ≤ 9000) :
  Calls Tryz.prog 65 #[vv, .int .i64 rg] w fun v w' => v = .returned (.tuple #[nrVal ((newF l rg).getD nr0), .bool (newF l rg).isSome]) ∧ Below w.heap.size w w' := by
 have h0 : w.ownsRow 0 108 10 vv l.length (l.flatMap nrL) := owns_base h (fun k hk => Nat.zero_le _)
 clear h
 obtain ⟨ans, hans⟩ : ∃ ans, ans = newF l rg := ⟨_, rfl⟩
 rw [← hans]
 have HANS : Hid _ := hans
 clear hans
 rcases h0.2 with ⟨hv, hn⟩ | ⟨g, cap, cur, hv, hx⟩
 ·subst hv
  have hA : ans = none := by rw [HANS.out, List.length_eq_zero_iff.1 hn]; rfl
  subst hA
  clear h0 hn HANS
  show Calls _ _ _ _ (fun v w' => v = .returned (.tuple #[nrVal nr0, .bool false]) ∧ Below w.heap.size w w')
  unfold nrVal nr0
  go_enter Tryz.func65, Tryz.ntmps65
  go_wp2
  go_loopw [6] (fun i wr => i = .int .i64 0 ∧ Below w.heap.size w wr ∧ wr = w.alloc (nrO nr0)) (fun _ _ => 0)
  case atStart => exact ⟨rfl, (Below.refl _ w).alloc (Nat.le_refl _) _, rfl⟩
  case round =>
   obtain ⟨rfl, hb, rfl⟩ := hrel
   unfold nrO nrC nr0
   go_wp2
   refine bodyPost_ret (v := .tuple #[.agg #[.int .i64 0, .int .i64 0, .int .i64 0, .int .i64 0, .string (bs []), .int .i64 0, .int .i64 0, .int .i64 0, .int .i64 0, .int .i64 0], .bool false]) (by simp [results, Tryz.results65, go_sem]; rfl) rfl ⟨rfl, ?_⟩
   exact (Below.refl _ w).alloc (Nat.le_refl _) _
 ·subst hv
  have hcells := fun k hk => node_cells h0 k hk
  have hgl : g < w.heap.size := (h0.lt g rfl).2
  obtain ⟨m, hm⟩ : ∃ m, m = l.length := ⟨_, rfl⟩
  have HM : Hid _ := hm
  have HC : Hid _ := hcells
  rw [← hm] at hl ⊢
  clear hcells h0 hx hm
  unfold nrVal
  go_enter Tryz.func65, Tryz.ntmps65
  go_wp2
  go_loopw [6] (fun i wr => ∃ k : Nat, k ≤ m ∧ i = .int .i64 k ∧ wr = w.alloc (nrO nr0) ∧ Hid (newF l rg = newF (l.drop k) rg)) (fun i _ => m - (intOf i).toNat)
  case atStart => exact ⟨0, Nat.zero_le _, rfl, rfl, (rfl : newF l rg = newF (l.drop 0) rg)⟩
  case round =>
   obtain ⟨k, hk, rfl, rfl, HF⟩ := hrel
   unfold nrO nrC nr0
   by_cases hlt : k < m
   ·have hkl : k < l.length := by have := HM.out; omega
    obtain ⟨c0, c1, c2, c3, c4, c5, c6, c7, c8, c9⟩ := HC.out k hkl
    have hdr := newF_drop l rg k hkl
    obtain ⟨n, hn⟩ : ∃ n, n = l[k] := ⟨_, rfl⟩
    rw [← hn] at c0 c1 c2 c3 c4 c5 c6 c7 c8 c9 hdr
    clear hn
    cases hr : (n.region == rg) with
    | true =>
     have HA : Hid (ans = some n) := (show ans = some n by rw [HANS.out, HF.out, hdr, if_pos hr])
     clear hdr
     go_wp2
     refine bodyPost_ret (v := .tuple #[.agg #[.int .i64 n.form, .int .i64 n.at_, .int .i64 n.beh, .int .i64 n.num, .string (bs n.word), .int .i64 n.region, .int .i64 n.source, .int .i64 n.p0, .int .i64 n.p1, .int .i64 n.p2], .bool true]) (by simp [results, Tryz.results65, go_sem]) rfl ⟨by rw [HA.out]; rfl, ?_⟩
     exact (Below.refl _ w).alloc (Nat.le_refl _) _
    | false =>
     have HF2 : Hid (newF l rg = newF (l.drop (k + 1)) rg) := (show newF l rg = _ by rw [HF.out, hdr, if_neg (by rw [hr]; simp)])
     clear hdr
     go_wp2
     go_roundw
     case rel => exact ⟨k + 1, by omega, by go_num, rfl, HF2.out⟩
     case measure => simp [intOf]; omega
   ·have HA : Hid (ans = none) := (show ans = none by rw [HANS.out, HF.out, List.drop_eq_nil_of_le (by have := HM.out; omega)]; rfl)
    go_wp2
    refine bodyPost_ret (v := .tuple #[.agg #[.int .i64 0, .int .i64 0, .int .i64 0, .int .i64 0, .string (bs []), .int .i64 0, .int .i64 0, .int .i64 0, .int .i64 0, .int .i64 0], .bool false]) (by simp [results, Tryz.results65, go_sem]; rfl) rfl ⟨by rw [HA.out]; rfl, ?_⟩
    exact (Below.refl _ w).alloc (Nat.le_refl _) _
def newsK : List NR → List NR → List NR × Nat × Nat
 | [], l => (l, 0, 0)
 | n :: r, l => if n.form = 12 then (if (newF l n.region).isSome = true then (l, 7, n.at_) else newsK r (l ++ [n])) else newsK r l
def opNs (ns : List NR) (op : List Int) : List NR := op.map (fun x => (ns[x.toNat]?).getD nr0)
theorem opNs_len (ns : List NR) (op : List Int) : (opNs ns op).length = op.length := List.length_map _
theorem opNs_at {ns : List NR} {op : List Int} (ho : OpOk ns op) (k : Nat) (hk : k < ns.length) : ∃ (i : Nat) (n : NR), op[k]? = some (i : Int) ∧ ns[i]? = some n ∧ (opNs ns op).drop k = n :: (opNs ns op).drop (k + 1) ∧ n ∈ opNs ns op := by
 have hkl : k < op.length := by rw [ho.1]; exact hk
 obtain ⟨x0, x1⟩ := ho.2 op[k] (List.getElem_mem hkl)
 have hx : ns[op[k].toNat]? = some ns[op[k].toNat] := List.getElem?_eq_getElem x1
 refine ⟨op[k].toNat, ns[op[k].toNat], by rw [List.getElem?_eq_getElem hkl, Int.toNat_of_nonneg x0], hx, ?_, ?_⟩
 ·rw [List.drop_eq_getElem_cons (by rw [opNs_len]; exact hkl)]
  congr 1
  unfold opNs
  rw [List.getElem_map, hx]; rfl
 ·unfold opNs
  rw [List.mem_map]
  exact ⟨op[k], List.getElem_mem hkl, by rw [hx]; rfl⟩
set_option maxRecDepth 100000 in
set_option maxHeartbeats 4000000 in
theorem newsOf_any (w : World) (nv ov : Value) (ns : List NR) (op : List Int) (h : TreeIn w nv ov ns op) (ho : OpOk ns op) (hl : ns.length ≤ 9000) :
  Calls Tryz.prog 45 #[treeV nv ov] w fun v w' => ∃ vv, v = .returned (.tuple #[vv, .int .i64 (newsK (opNs ns op) []).2.1, .int .i64 (newsK (opNs ns op) []).2.2]) ∧ w'.ownsRow w.heap.size 108 10 vv (newsK (opNs ns op) []).1.length ((newsK (opNs ns op) []).1.flatMap nrL) ∧ Below w.heap.size w w' := by
 obtain ⟨i0, hi0, hz0, hz1, hz2⟩ := info_parts Tryz.infoNode
 have HI : Hid _ := hi0
 have HZ0 : Hid _ := hz0
 have HZ1 : Hid _ := hz1
 have HZ2 : Hid _ := hz2
 clear hi0 hz0 hz1 hz2
 have hlen := fun (w' : World) (hb : Below w.heap.size w w') => Len_any w' nv ov ns op (h.below hb)
 have hopn := fun (w' : World) (hb : Below w.heap.size w w') (k i : Nat) (n : NR) (hk : op[k]? = some (i : Int)) (hi : ns[i]? = some n) => Opened_in' w' nv ov ns op (h.below hb) k i n hk hi hl (by rw [ho.1]; omega)
 obtain ⟨a0, cap0, e0⟩ := slice_any h.nd
 obtain ⟨a1, cap1, e1⟩ := slice_any h.op
 rw [ho.1] at e1
 obtain ⟨m, hm⟩ : ∃ m, m = ns.length := ⟨_, rfl⟩
 rw [← hm] at e0 e1 hl
 subst e0
 subst e1
 have HO : Hid _ := ho
 have HM : Hid _ := hm
 unfold treeV at hlen hopn
 unfold treeV
 unfold nrVal at hopn
 rw [← hm] at hlen
 have HLEN : Hid _ := hlen
 have HOPN : Hid _ := hopn
 obtain ⟨ans, hans⟩ : ∃ ans, ans = newsK (opNs ns op) [] := ⟨_, rfl⟩
 rw [← hans]
 have HANS : Hid _ := hans
 clear hlen hopn ho h hm hans
 have hBx : Below w.heap.size w (w.alloc (.cells #[.slice a0 m cap0, .slice a1 m cap1] 62)) := (Below.refl _ w).alloc (Nat.le_refl _) _
 have HBX : Hid _ := hBx
 clear hBx
 go_enter Tryz.func45, Tryz.ntmps45
 go_wp2
 obtain ⟨WB, hWB⟩ : ∃ WB, WB = w.alloc (.cells #[.slice a0 m cap0, .slice a1 m cap1] 62) := ⟨_, rfl⟩
 have HWBS : Hid (WB.heap.size = w.heap.size + 1) := (show WB.heap.size = w.heap.size + 1 by rw [hWB]; simp)
 have HBXC : Hid (∀ wr, Below WB.heap.size WB wr → wr.cell? ⟨w.heap.size, 0, none⟩ = some (.slice a0 m cap0) ∧ wr.cell? ⟨w.heap.size, 1, none⟩ = some (.slice a1 m cap1) ∧ w.heap.size < wr.heap.size) := by
  intro wr hb
  rw [hWB] at hb
  exact box_cells hb
 rw [← hWB] at HBX ⊢
 have HWB : Hid _ := hWB
 clear hWB
 go_loopw [5, 6, 7, 8, 9] (fun v5 i _ _ _ wr => ∃ (k : Nat) (l : List NR) (vv : Value), k ≤ m ∧ i = .int .i64 k ∧ v5 = vv ∧ l.length ≤ k ∧ wr.ownsRow WB.heap.size 108 10 vv l.length (l.flatMap nrL) ∧ Hid (newsK (opNs ns op) [] = newsK ((opNs ns op).drop k) l) ∧ Below WB.heap.size WB wr) (fun _ i _ _ _ _ => m - (intOf i).toNat)
 case atStart =>
  refine ⟨0, [], _, Nat.zero_le _, rfl, rfl, Nat.le_refl _, ⟨rfl, Or.inr ⟨w.heap.size + 1, 0, #[], rfl, by rw [HWBS.out]; exact Nat.le_refl _, ?_, Nat.le_refl _, by unfold maxLen; omega, rfl, rfl⟩⟩, (rfl : newsK (opNs ns op) [] = newsK ((opNs ns op).drop 0) []), (Below.refl _ WB).alloc (Nat.le_refl _) _⟩
  rw [← HWBS.out]; exact blk_new _ _
 case round =>
  obtain ⟨k, l, _, hk, rfl, rfl, hlk, hown, HF, hbr⟩ := hrel
  obtain ⟨b0, b1, bl⟩ := HBXC.out _ hbr
  have hbw := HBX.out.trans (hbr.mono HBX.out.size)
  have hln := HLEN.out _ hbw
  have hbrs := hbr.size
  by_cases hlt : k < m
  ·obtain ⟨i, n, hop, hni, hdr, _⟩ := opNs_at HO.out k (by have := HM.out; omega)
   have hst := HF.out
   rw [hdr] at hst
   simp only [newsK] at hst
   have HST : Hid _ := hst
   have HOP : Hid _ := hop
   have HNI : Hid _ := hni
   have HOWN : Hid _ := hown
   have HBR : Hid _ := hbr
   clear hop hni hdr hst hown HF
   go_wp2_with fail
   refine hln.mono ?_
   rintro _ w1 ⟨rfl, hb1⟩
   have hbr1 := hbr.trans (hb1.mono hbrs)
   obtain ⟨d0, d1, dl⟩ := HBXC.out _ hbr1
   have hopn := HOPN.out w1 (HBX.out.trans (hbr1.mono HBX.out.size)) k i n HOP.out HNI.out
   have HB1 : Hid _ := hb1
   clear hbr1 hb1 hln b0 b1 hbr
   go_wp2_with fail
   refine hopn.mono ?_
   rintro _ w2 ⟨rfl, hb2⟩
   have hr2 : Below wr.heap.size wr w2 := HB1.out.trans (hb2.mono HB1.out.size)
   have hW3 : Below wr.heap.size wr (w2.alloc (nrO n)) := hr2.alloc hr2.size (nrO n)
   have hnb : (w2.alloc (nrO n)).heap[w2.heap.size]? = some (nrO n) := blk_new _ _
   have hnw := newOf_any (w2.alloc (nrO n)) u5 l n.region WB.heap.size (owns_below HOWN.out hW3) (by omega)
   have HW3 : Hid _ := hW3
   have HNB : Hid _ := hnb
   clear hb2 hr2 hW3 hnb hopn d0 d1
   by_cases h12 : n.form = 12
   ·have q12 : ((n.form : Int) == 12) = true := ibeq_true (b := 12) h12
    have hst := HST.out
    rw [if_pos h12] at hst
    have HST2 : Hid _ := hst
    clear hst HST h12
    obtain ⟨x, hx⟩ : ∃ x, x = newF l n.region := ⟨_, rfl⟩
    rw [← hx] at hnw HST2
    obtain ⟨y, hy⟩ : ∃ y, y = x.getD nr0 := ⟨_, rfl⟩
    rw [← hy] at hnw
    unfold nrVal at hnw
    unfold nrO nrC at hnw
    clear hx hy
    go_wp2_with fail
    refine hnw.mono ?_
    rintro _ w4 ⟨rfl, hb4⟩
    have hnb4 : w4.heap[w2.heap.size]? = some (nrO n) := by rw [hb4.block _ (by simp)]; exact HNB.out
    obtain ⟨d0, d1, d2, d3, d4, d5, d6, d7, d8, d9⟩ := nr_cells10 hnb4
    have hnl := blk_lt hnb4
    have hW4 : Below wr.heap.size wr w4 := HW3.out.trans (hb4.mono HW3.out.size)
    have HW4 : Hid _ := hW4
    clear hb4 hnb4 hnw hW4
    cases x with
    | some z =>
     have HA : Hid (ans = (l, 7, n.at_)) := (show ans = _ by rw [HANS.out, HST2.out]; rfl)
     have HB4 : Hid (Below WB.heap.size WB (w4.alloc (nrO y))) := by
      have := HBR.out.trans (HW4.out.mono hbrs)
      exact this.alloc this.size _
     have HO4 : Hid ((w4.alloc (nrO y)).ownsRow WB.heap.size 108 10 u5 l.length (l.flatMap nrL)) := (owns_below HOWN.out HW4.out).alloc _
     go_wp2
     go_quiet (fail)
     go_wp2
     refine bodyPost_ret (v := .tuple #[u5, .int .i64 7, .int .i64 n.at_]) (by simp [results, Tryz.results45, go_sem]) rfl ⟨u5, by rw [HA.out]; rfl, ?_, ?_⟩
     ·rw [HA.out]
      exact owns_base HO4.out (fun k hk => by have := HWBS.out; have := (World.ownsRow.lt HO4.out k hk).1; omega)
     ·exact (HBX.out.trans (HB4.out.mono HBX.out.size)).trans ⟨rfl, rfl, rfl, Nat.le_refl _, fun _ _ => rfl⟩
    | none =>
     have HN : Hid (newsK (opNs ns op) [] = newsK ((opNs ns op).drop (k + 1)) (l ++ [n])) := (show _ = _ by rw [HST2.out]; rfl)
     have HW5 : Hid (Below WB.heap.size WB ((w4.alloc (nrO y)).alloc (nrO n))) := by
      have := HBR.out.trans (HW4.out.mono hbrs)
      have h2 := this.alloc this.size (nrO y)
      exact h2.alloc h2.size _
     have HO5 : Hid (((w4.alloc (nrO y)).alloc (nrO n)).ownsRow WB.heap.size 108 10 u5 l.length (l.flatMap nrL)) := ((owns_below HOWN.out HW4.out).alloc _).alloc _
     have h45 : (w4.alloc (nrO y)).heap.size = w4.heap.size + 1 := by simp
     have HC1 : Hid (∀ (j : Nat) (u : Value), (nrL n)[j]? = some u → ((w4.alloc (nrO y)).alloc (nrO n)).cell? ((⟨w4.heap.size + 1, 0, none⟩ : Addr).add j) = some u) := by
      intro j u hj
      have hq := alloc_cell_at (w4.alloc (nrO y)) (nrL n) 108 j
      rw [h45] at hq
      rw [← hj, ← hq]; rfl
     unfold nrO nrC at HO5 HC1 HW5
     clear h45
     go_wp2_with (at_builtin; go_must (refine wpList_append_own _ rfl (.tmp 34) (.tmp 36) 60 rfl WB.heap.size 108 i0 _ 10 88 Tryz.undNodes HI.out HZ0.out HZ1.out HZ2.out rfl (by decide) u5 l.length (l.flatMap nrL) rfl HO5.out ⟨w4.heap.size + 1, 0, none⟩ 1 1 (nrL n) rfl rfl HC1.out (nr_one n) ?c3 ?c4 ?c5 ?_))
     case c3 => unfold maxLen; omega
     case c4 => omega
     case c5 => have := HW4.out.size; first | omega | (simp; omega)
     intro v' w6 hown' hgrow hnil
     have HB6 : Hid (Below WB.heap.size WB w6) := (HW5.out).grown hgrow HW5.out.size (fun b hb => (World.ownsRow.lt HO5.out b hb).1)
     have HO6 : Hid (w6.ownsRow WB.heap.size 108 10 v' (l ++ [n]).length ((l ++ [n]).flatMap nrL)) := by
      show w6.ownsRow WB.heap.size 108 10 v' (l ++ [n]).length ((l ++ [n]).flatMap nrL)
      rw [List.length_append, List.flatMap_append]
      simpa using hown'
     clear hown' hgrow hnil
     go_wp2
     go_roundw
     case rel => exact ⟨k + 1, l ++ [n], _, by omega, by go_num, rfl, by simp; omega, HO6.out, HN.out, HB6.out⟩
     case measure => simp [intOf]; omega
   ·have q12 : ((n.form : Int) == 12) = false := ibeq_false (b := 12) h12
    have hst := HST.out
    rw [if_neg h12] at hst
    have HST2 : Hid _ := hst
    have HB3 : Hid (Below WB.heap.size WB (w2.alloc (nrO n))) := HBR.out.trans (HW3.out.mono hbrs)
    have HO3 : Hid ((w2.alloc (nrO n)).ownsRow WB.heap.size 108 10 u5 l.length (l.flatMap nrL)) := owns_below HOWN.out HW3.out
    unfold nrO nrC at HB3 HO3
    clear hst HST h12 hnw
    go_wp2
    go_roundw
    case rel => exact ⟨k + 1, l, _, by omega, by go_num, rfl, by omega, HO3.out, HST2.out, HB3.out⟩
    case measure => simp [intOf]; omega
  ·have HA : Hid (ans = (l, 0, 0)) := by
    have hkm : (opNs ns op).drop k = [] := List.drop_eq_nil_of_le (by rw [opNs_len]; have := HO.out.1; have := HM.out; omega)
    rw [HANS.out, HF.out, hkm]; exact rfl
   have HBR : Hid _ := hbr
   have HOWN : Hid _ := hown
   clear hbr hown
   go_wp2_with fail
   refine hln.mono ?_
   rintro _ w1 ⟨rfl, hb1⟩
   have HB1 : Hid _ := HBX.out.trans ((HBR.out.trans (hb1.mono hbrs)).mono HBX.out.size)
   have HO1 : Hid _ := owns_below HOWN.out hb1
   clear hb1 hln
   go_wp2
   refine bodyPost_ret (v := .tuple #[u5, .int .i64 0, .int .i64 0]) (by simp [results, Tryz.results45, go_sem]) rfl ⟨u5, by rw [HA.out]; rfl, ?_, HB1.out⟩
   rw [HA.out]
   exact owns_base HO1.out (fun k hk => by have := HWBS.out; have := (World.ownsRow.lt HO1.out k hk).1; omega)
def outK (l : List NR) : List NR → Nat × Nat
 | [] => (0, 0)
 | n :: r => if n.form = 4 then (match newF l n.region with
   | some o => if n.at_ < o.at_ ∨ o.beh ≤ n.at_ then (8, n.at_) else outK l r
   | none => outK l r) else outK l r
set_option maxRecDepth 100000 in
set_option maxHeartbeats 4000000 in
theorem outside_any (w : World) (nv ov vv : Value) (ns : List NR) (op : List Int) (l : List NR) (base : Nat) (h : TreeIn w nv ov ns op) (ho : OpOk ns op) (hl : ns.length ≤ 9000) (hown : w.ownsRow base 108 10 vv l.length (l.flatMap nrL)) (hll : l.length ≤ 9000) :
  Calls Tryz.prog 46 #[treeV nv ov, vv] w fun v w' => v = .returned (.tuple #[.int .i64 (outK l (opNs ns op)).1, .int .i64 (outK l (opNs ns op)).2]) ∧ Below w.heap.size w w' := by
 have hlen := fun (w' : World) (hb : Below w.heap.size w w') => Len_any w' nv ov ns op (h.below hb)
 have hopn := fun (w' : World) (hb : Below w.heap.size w w') (k i : Nat) (n : NR) (hk : op[k]? = some (i : Int)) (hi : ns[i]? = some n) => Opened_in' w' nv ov ns op (h.below hb) k i n hk hi hl (by rw [ho.1]; omega)
 have hnwo := fun (w' : World) (hb : Below w.heap.size w w') (rg : Int) => newOf_any w' vv l rg base (owns_below hown hb) hll
 obtain ⟨a0, cap0, e0⟩ := slice_any h.nd
 obtain ⟨a1, cap1, e1⟩ := slice_any h.op
 rw [ho.1] at e1
 obtain ⟨m, hm⟩ : ∃ m, m = ns.length := ⟨_, rfl⟩
 rw [← hm] at e0 e1 hl
 subst e0
 subst e1
 have HO : Hid _ := ho
 have HM : Hid _ := hm
 unfold treeV at hlen hopn
 unfold treeV
 unfold nrVal at hopn
 rw [← hm] at hlen
 have HLEN : Hid _ := hlen
 have HOPN : Hid _ := hopn
 have HNWO : Hid _ := hnwo
 obtain ⟨ans, hans⟩ : ∃ ans, ans = outK l (opNs ns op) := ⟨_, rfl⟩
 rw [← hans]
 have HANS : Hid _ := hans
 clear hlen hopn hnwo ho h hm hans hown hll
 have hBx : Below w.heap.size w (w.alloc (.cells #[.slice a0 m cap0, .slice a1 m cap1] 62)) := (Below.refl _ w).alloc (Nat.le_refl _) _
 have HBX : Hid _ := hBx
 clear hBx
 go_enter Tryz.func46, Tryz.ntmps46
 go_wp2
 obtain ⟨WB, hWB⟩ : ∃ WB, WB = w.alloc (.cells #[.slice a0 m cap0, .slice a1 m cap1] 62) := ⟨_, rfl⟩
 have HBXC : Hid (∀ wr, Below WB.heap.size WB wr → wr.cell? ⟨w.heap.size, 0, none⟩ = some (.slice a0 m cap0) ∧ wr.cell? ⟨w.heap.size, 1, none⟩ = some (.slice a1 m cap1) ∧ w.heap.size < wr.heap.size) := by
  intro wr hb
  rw [hWB] at hb
  exact box_cells hb
 rw [← hWB] at HBX ⊢
 clear hWB
 go_loopw [6, 7, 8, 9] (fun i _ _ _ wr => ∃ (k : Nat), k ≤ m ∧ i = .int .i64 k ∧ Hid (outK l (opNs ns op) = outK l ((opNs ns op).drop k)) ∧ Below WB.heap.size WB wr) (fun i _ _ _ _ => m - (intOf i).toNat)
 case atStart => exact ⟨0, Nat.zero_le _, rfl, (rfl : outK l (opNs ns op) = outK l ((opNs ns op).drop 0)), Below.refl _ _⟩
 case round =>
  obtain ⟨k, hk, rfl, HF, hbr⟩ := hrel
  obtain ⟨b0, b1, bl⟩ := HBXC.out _ hbr
  have hbw := HBX.out.trans (hbr.mono HBX.out.size)
  have hln := HLEN.out _ hbw
  have hbrs := hbr.size
  by_cases hlt : k < m
  ·obtain ⟨i, n, hop, hni, hdr, _⟩ := opNs_at HO.out k (by have := HM.out; omega)
   have hst := HF.out
   rw [hdr] at hst
   simp only [outK] at hst
   have HST : Hid _ := hst
   have HOP : Hid _ := hop
   have HNI : Hid _ := hni
   have HBR : Hid _ := hbr
   clear hop hni hdr hst HF
   go_wp2_with fail
   refine hln.mono ?_
   rintro _ w1 ⟨rfl, hb1⟩
   have hbr1 := hbr.trans (hb1.mono hbrs)
   obtain ⟨d0, d1, dl⟩ := HBXC.out _ hbr1
   have hopn := HOPN.out w1 (HBX.out.trans (hbr1.mono HBX.out.size)) k i n HOP.out HNI.out
   have HB1 : Hid _ := hb1
   clear hbr1 hb1 hln b0 b1 hbr
   go_wp2_with fail
   refine hopn.mono ?_
   rintro _ w2 ⟨rfl, hb2⟩
   have hr2 : Below wr.heap.size wr w2 := HB1.out.trans (hb2.mono HB1.out.size)
   have hW3 : Below wr.heap.size wr (w2.alloc (nrO n)) := hr2.alloc hr2.size (nrO n)
   have hnb : (w2.alloc (nrO n)).heap[w2.heap.size]? = some (nrO n) := blk_new _ _
   have hnw := HNWO.out (w2.alloc (nrO n)) (HBX.out.trans ((HBR.out.trans (hW3.mono hbrs)).mono HBX.out.size)) n.region
   have HW3 : Hid _ := hW3
   have HNB : Hid _ := hnb
   clear hb2 hr2 hW3 hnb hopn d0 d1
   by_cases h4 : n.form = 4
   ·have q4 : ((n.form : Int) == 4) = true := ibeq_true (b := 4) h4
    have hst := HST.out
    rw [if_pos h4] at hst
    have HST2 : Hid _ := hst
    clear hst HST h4
    obtain ⟨x, hx⟩ : ∃ x, x = newF l n.region := ⟨_, rfl⟩
    rw [← hx] at hnw HST2
    obtain ⟨y, hy⟩ : ∃ y, y = x.getD nr0 := ⟨_, rfl⟩
    rw [← hy] at hnw
    have HY : Hid _ := hy
    unfold nrVal at hnw
    unfold nrO nrC at hnw
    clear hx hy
    go_wp2_with fail
    refine hnw.mono ?_
    rintro _ w4 ⟨rfl, hb4⟩
    have hnb4 : w4.heap[w2.heap.size]? = some (nrO n) := by rw [hb4.block _ (by simp)]; exact HNB.out
    obtain ⟨d0, d1, d2, d3, d4, d5, d6, d7, d8, d9⟩ := nr_cells10 hnb4
    have hnl := blk_lt hnb4
    have hW4 : Below wr.heap.size wr w4 := HW3.out.trans (hb4.mono HW3.out.size)
    have HW4 : Hid _ := hW4
    have HB4 : Hid (Below WB.heap.size WB (w4.alloc (nrO y))) := by
     have := HBR.out.trans (hW4.mono hbrs)
     exact this.alloc this.size _
    clear hb4 hnb4 hnw hW4
    cases x with
    | some z =>
     have hyz : y = z := HY.out
     subst hyz
     clear HY
     by_cases h1 : n.at_ < y.at_
     ·have HA : Hid (ans = (8, n.at_)) := (show ans = _ by rw [HANS.out, HST2.out]; simp [h1])
      have hz : (n.at_ : Int) < (y.at_ : Int) := by omega
      have hzd : decide ((n.at_ : Int) < (y.at_ : Int)) = true := by simpa using hz
      go_wp2
      go_quiet (fail)
      go_wp2
      refine bodyPost_ret (v := .tuple #[.int .i64 8, .int .i64 n.at_]) (by simp [results, Tryz.results46, go_sem]) rfl ⟨by rw [HA.out]; rfl, ?_⟩
      exact (HBX.out.trans (HB4.out.mono HBX.out.size)).trans ⟨rfl, rfl, rfl, Nat.le_refl _, fun _ _ => rfl⟩
     ·have hz : ¬ (n.at_ : Int) < (y.at_ : Int) := by omega
      have hzd : decide ((n.at_ : Int) < (y.at_ : Int)) = false := by simpa using hz
      by_cases h2 : y.beh ≤ n.at_
      ·have HA : Hid (ans = (8, n.at_)) := (show ans = _ by rw [HANS.out, HST2.out]; simp [h2])
       have hz2 : (y.beh : Int) ≤ (n.at_ : Int) := by omega
       go_wp2
       go_quiet (fail)
       go_wp2
       refine bodyPost_ret (v := .tuple #[.int .i64 8, .int .i64 n.at_]) (by simp [results, Tryz.results46, go_sem]) rfl ⟨by rw [HA.out]; rfl, ?_⟩
       exact (HBX.out.trans (HB4.out.mono HBX.out.size)).trans ⟨rfl, rfl, rfl, Nat.le_refl _, fun _ _ => rfl⟩
      ·have HN : Hid (outK l (opNs ns op) = outK l ((opNs ns op).drop (k + 1))) := (show _ = _ by rw [HST2.out]; simp [h1, h2])
       have hz2 : ¬ (y.beh : Int) ≤ (n.at_ : Int) := by omega
       have hz2d : decide ((y.beh : Int) ≤ (n.at_ : Int)) = false := by simpa using hz2
       clear HST2
       go_wp2
       go_roundw
       case rel => exact ⟨k + 1, by omega, by go_num, HN.out, HB4.out⟩
       case measure => simp [intOf]; omega
    | none =>
     have HN : Hid (outK l (opNs ns op) = outK l ((opNs ns op).drop (k + 1))) := (show _ = _ by rw [HST2.out])
     go_wp2
     go_roundw
     case rel => exact ⟨k + 1, by omega, by go_num, HN.out, HB4.out⟩
     case measure => simp [intOf]; omega
   ·have q4 : ((n.form : Int) == 4) = false := ibeq_false (b := 4) h4
    have hst := HST.out
    rw [if_neg h4] at hst
    have HST2 : Hid _ := hst
    have HB3 : Hid (Below WB.heap.size WB (w2.alloc (nrO n))) := HBR.out.trans (HW3.out.mono hbrs)
    unfold nrO nrC at HB3
    clear hst HST h4 hnw
    go_wp2
    go_roundw
    case rel => exact ⟨k + 1, by omega, by go_num, HST2.out, HB3.out⟩
    case measure => simp [intOf]; omega
  ·have HA : Hid (ans = (0, 0)) := by
    have hkm : (opNs ns op).drop k = [] := List.drop_eq_nil_of_le (by rw [opNs_len]; have := HO.out.1; have := HM.out; omega)
    rw [HANS.out, HF.out, hkm]; exact rfl
   have HBR : Hid _ := hbr
   clear hbr
   go_wp2_with fail
   refine hln.mono ?_
   rintro _ w1 ⟨rfl, hb1⟩
   have HB1 : Hid _ := HBX.out.trans ((HBR.out.trans (hb1.mono hbrs)).mono HBX.out.size)
   clear hb1 hln
   go_wp2
   refine bodyPost_ret (v := .tuple #[.int .i64 0, .int .i64 0]) (by simp [results, Tryz.results46, go_sem]) rfl ⟨by rw [HA.out]; rfl, HB1.out⟩
def mentF (tb : List TP) : Nat → Nat → Int → Bool
 | 0, _, _ => false
 | f + 1, k, rg => if k = 0 ∨ tb.length < k then false else (((atP tb k).r : Int) == rg) || mentF tb f (atP tb k).a rg || mentF tb f (atP tb k).b rg
def Low (tb : List TP) : Prop := ∀ k, (atP tb (k + 1)).a ≤ k ∧ (atP tb (k + 1)).b ≤ k
set_option maxRecDepth 100000 in
set_option maxHeartbeats 4000000 in
theorem MentionsO_any (cb o : Nat) (pv : Value) (tb : List TP) (hl : tb.length ≤ 9000) (hlow : Low tb) (rg : Int) : ∀ (f k : Nat), k < f → k ≤ 10000 → ∀ (w : World), w.cell? ⟨cb, o, none⟩ = some pv → w.ownsRow 0 146 4 pv tb.length (tb.flatMap tpL) →
  Calls Tryz.prog 87 #[.pointer (some ⟨cb, o, none⟩), .int .i64 k, .int .i64 rg] w fun v w' => v = .returned (.bool (mentF tb f k rg)) ∧ Below w.heap.size w w' := by
 intro f
 induction f with
 | zero => intro k hk; omega
 | succ f ih =>
  intro k hkf hk w hc hr
  have hcb := World.block_lt_of_cell? _ _ hc
  show Calls _ _ #[Value.pointer (some ⟨cb, o, none⟩), _, _] w _
  by_cases h0 : k = 0 ∨ tb.length < k
  ·have e : mentF tb (f + 1) k rg = false := by simp only [mentF]; rw [if_pos h0]
   rw [e]
   obtain ⟨a, cap, rfl⟩ := slice_any hr
   generalize tb.length = m at *
   clear hr e ih hlow
   rcases h0 with h0 | h0
   ·have h0' : k < 1 := by omega
    clear h0
    go_enter Tryz.func87, Tryz.ntmps87
    go_wp2
    go_ret
    exact ⟨rfl, Below.refl _ _⟩
   ·have h1 : 1 ≤ k := by omega
    go_enter Tryz.func87, Tryz.ntmps87
    go_wp2
    go_ret
    exact ⟨rfl, Below.refl _ _⟩
  ·have hrec : ∀ (k' : Nat), k' < k → ∀ w', Below w.heap.size w w' → Calls Tryz.prog 87 #[.pointer (some ⟨cb, o, none⟩), .int .i64 k', .int .i64 rg] w' fun v w'' => v = .returned (.bool (mentF tb f k' rg)) ∧ Below w'.heap.size w' w'' := by
    intro k' hk' w' hb
    exact ih k' (by omega) (by omega) w' (by rw [hb.cell (p := ⟨cb, o, none⟩) hcb]; exact hc) (owns_below hr hb)
   have hm : mentF tb (f + 1) k rg = ((((atP tb k).r : Int) == rg) || mentF tb f (atP tb k).a rg || mentF tb f (atP tb k).b rg) := by simp only [mentF]; rw [if_neg h0]
   obtain ⟨g, cap, rfl⟩ := slice_of hr (by omega)
   obtain ⟨j, rfl⟩ : ∃ j, k = j + 1 := ⟨k - 1, by omega⟩
   have hj : j < tb.length := by omega
   obtain ⟨p, hp⟩ : ∃ p, tb[j]? = some p := ⟨tb[j], List.getElem?_eq_getElem hj⟩
   have e : atP tb (j + 1) = p := by unfold atP; rw [if_neg (by omega), Nat.add_sub_cancel, hp]; rfl
   have hlo := hlow j
   rw [e] at hm hlo
   obtain ⟨c0, c1, c2, c3⟩ := tp_cells hr j p hp
   have hg : g < w.heap.size := (hr.lt g rfl).2
   have ej : ((j + 1 : Nat) : Int) = (j : Int) + 1 := by omega
   have ej2 : (j : Int) + 1 - 1 = (j : Int) := by omega
   have hra := hrec p.a (by omega)
   have hrb := hrec p.b (by omega)
   have HRA : Hid _ := hra
   have HRB : Hid _ := hrb
   obtain ⟨ma, hma⟩ : ∃ ma, ma = mentF tb f p.a rg := ⟨_, rfl⟩
   obtain ⟨mb, hmb⟩ : ∃ mb, mb = mentF tb f p.b rg := ⟨_, rfl⟩
   rw [← hma] at HRA hm
   rw [← hmb] at HRB hm
   obtain ⟨R, hR⟩ : ∃ R, R = mentF tb (f + 1) (j + 1) rg := ⟨_, rfl⟩
   rw [← hR] at hm ⊢
   generalize tb.length = m at *
   have HBX : Hid (Below w.heap.size w (w.alloc (.cells #[.int .i64 p.r, .int .i64 p.a, .int .i64 p.b, .int .i64 p.sz] 146))) := (Below.refl _ _).alloc (Nat.le_refl _) _
   have HM : Hid _ := hm
   clear hr e hp h0 hrec hra hrb ih hlow hma hmb hR hm hlo
   rw [ej]
   cases hq : ((p.r : Int) == rg) with
   | true =>
    have HR : Hid (R = true) := (show R = true by rw [HM.out, hq]; rfl)
    clear HM
    go_enter Tryz.func87, Tryz.ntmps87
    go_wp2
    go_ret
    exact ⟨by rw [HR.out]; first | done | rfl, HBX.out⟩
   | false =>
    go_enter Tryz.func87, Tryz.ntmps87
    go_wp2_with fail
    refine (HRA.out _ HBX.out).mono ?_
    rintro _ w2 ⟨rfl, hb2⟩
    have hpb : w2.heap[w.heap.size]? = some (.cells #[.int .i64 p.r, .int .i64 p.a, .int .i64 p.b, .int .i64 p.sz] 146 (0, 0)) := by rw [hb2.block _ (by simp)]; exact blk_new _ _
    have d2 : w2.cell? ⟨w.heap.size, 2, none⟩ = some (.int .i64 p.b) := by rw [blk_cell hpb]; rfl
    have hpl := blk_lt hpb
    have hW2 : Below w.heap.size w w2 := HBX.out.trans (hb2.mono HBX.out.size)
    have HW2 : Hid _ := hW2
    clear hb2 hpb hW2
    cases ma with
    | true =>
     have HR : Hid (R = true) := (show R = true by rw [HM.out, hq]; rfl)
     clear HM
     go_wp2
     go_ret
     exact ⟨by rw [HR.out]; first | done | rfl, HW2.out⟩
    | false =>
     have HR : Hid (R = mb) := (show R = mb by rw [HM.out, hq]; rfl)
     clear HM
     go_wp2_with fail
     refine (HRB.out _ HW2.out).mono ?_
     rintro _ w3 ⟨rfl, hb3⟩
     have HB3 : Hid (Below w.heap.size w w3) := HW2.out.trans (hb3.mono HW2.out.size)
     clear hb3
     go_wp2
     go_ret
     exact ⟨by rw [HR.out]; first | done | rfl, HB3.out⟩
theorem Mentions_any (cb : Nat) (pv : Value) (tb : List TP) (hl : tb.length ≤ 9000) (hlow : Low tb) (rg : Int) : ∀ (f k : Nat), k < f → k ≤ 10000 → ∀ (w : World), w.cell? ⟨cb, 0, none⟩ = some pv → w.ownsRow 0 146 4 pv tb.length (tb.flatMap tpL) →
  Calls Tryz.prog 87 #[ptr cb, .int .i64 k, .int .i64 rg] w fun v w' => v = .returned (.bool (mentF tb f k rg)) ∧ Below w.heap.size w w' :=
 MentionsO_any cb 0 pv tb hl hlow rg
def vfK (tb : List TP) (K : List Nat) (n : NR) : Nat :=
 if n.form = 7 ∨ n.form = 11 then (if knownK K n.p1 = knownK K n.p2 then 0 else 9)
 else if n.form = 12 then (if mentF tb (tb.length + 1) (knownK K n.p0) n.region = true then 10 else 0)
 else 0
set_option maxRecDepth 100000 in
set_option maxHeartbeats 8000000 in
theorem vfaultOf_any (w : World) (cb : Nat) (pv tv : Value) (tb : List TP) (K : List Nat) (n : NR) (h : CIn cb w pv tv tb K) (hlow : Low tb) (hl : tb.length ≤ 9000) (hK : K.length ≤ 9000) (hkn : knownK K n.p0 ≤ tb.length) (hp0 : -10 ≤ n.p0 ∧ n.p0 ≤ 10000) (hp1 : -10 ≤ n.p1 ∧ n.p1 ≤ 10000) (hp2 : -10 ≤ n.p2 ∧ n.p2 ≤ 10000) :
  Calls Tryz.prog 66 #[nrVal n, ptr cb] w fun v w' => v = .returned (.int .i64 (vfK tb K n)) ∧ Below w.heap.size w w' := by
 have hbx : Below w.heap.size w (w.alloc (nrO n)) := (Below.refl _ _).alloc (Nat.le_refl _) _
 have hin := h.below hbx
 have hk0 := known_any (w.alloc (nrO n)) cb pv tv tb K n.p0 hin hK hp0
 have hk1 := known_any (w.alloc (nrO n)) cb pv tv tb K n.p1 hin hK hp1
 have hk2 := known_any (w.alloc (nrO n)) cb pv tv tb K n.p2 hin hK hp2
 have hcl := blk_lt hin.y
 have hm := fun (w' : World) (hb : Below (w.alloc (nrO n)).heap.size (w.alloc (nrO n)) w') => Mentions_any cb pv tb hl hlow n.region (tb.length + 1) (knownK K n.p0) (by omega) (by omega) w' (by rw [hb.cell (p := ⟨cb, 0, none⟩) hcl, blk_cell hin.y]; rfl) (owns_below hin.p hb)
 have HBX : Hid _ := hbx
 have HTK : Hid (vfK tb K n = if n.form = 7 ∨ n.form = 11 then (if knownK K n.p1 = knownK K n.p2 then 0 else 9)
  else if n.form = 12 then (if mentF tb (tb.length + 1) (knownK K n.p0) n.region = true then 10 else 0) else 0) := rfl
 obtain ⟨R, hR⟩ : ∃ R, R = vfK tb K n := ⟨_, rfl⟩
 rw [← hR] at HTK ⊢
 obtain ⟨mv, hmv⟩ : ∃ mv, mv = mentF tb (tb.length + 1) (knownK K n.p0) n.region := ⟨_, rfl⟩
 rw [← hmv] at HTK hm
 clear hR h hin hbx hmv
 unfold ptr at hk0 hk1 hk2 hm
 unfold nrVal
 unfold nrO nrC at hk0 hk1 hk2 hm HBX
 have HK0 : Hid _ := hk0
 have HK1 : Hid _ := hk1
 have HK2 : Hid _ := hk2
 have HME : Hid _ := hm
 have hcb0 : cb < w.heap.size + 1 := by simpa using hcl
 clear hk0 hk1 hk2 hm hkn hcl
 generalize knownK K n.p0 = ka at *
 generalize knownK K n.p1 = kb at *
 generalize knownK K n.p2 = kc at *
 show Calls _ _ #[_, Value.pointer (some ⟨cb, 0, none⟩)] w _
 by_cases k7 : n.form = 7 ∨ n.form = 11
 ·have HQ : Hid (R = if kb = kc then 0 else 9) := (show R = _ by rw [HTK.out, if_pos k7])
  have q7 : ((n.form : Int) == 7) = true ∨ (((n.form : Int) == 7) = false ∧ ((n.form : Int) == 11) = true) := by
   rcases k7 with h | h
   ·exact .inl (ibeq_true (b := 7) h)
   ·exact .inr ⟨ibeq_false (b := 7) (by omega), ibeq_true (b := 11) h⟩
  clear HTK k7 HME
  by_cases hc : kb = kc
  ·have e1 : ((kb : Int) == (kc : Int)) = true := by rw [hc]; simp
   have HR : Hid (R = 0) := by rw [HQ.out, if_pos hc]; exact rfl
   clear hc HQ
   rcases q7 with q7 | ⟨q7, q11⟩
   all_goals
    go_enter Tryz.func66, Tryz.ntmps66
    go_wp2_with fail
    refine Calls.mono HK0.out ?_
    rintro _ _ ⟨rfl, rfl⟩
    go_wp2_with fail
    refine Calls.mono HK1.out ?_
    rintro _ _ ⟨rfl, rfl⟩
    go_wp2_with fail
    refine Calls.mono HK2.out ?_
    rintro _ _ ⟨rfl, rfl⟩
    go_wp2
    go_ret
    exact ⟨by rw [HR.out]; first | done | rfl, HBX.out⟩
  ·have e1 : ((kb : Int) == (kc : Int)) = false := by rw [beq_eq_false_iff_ne]; omega
   have HR : Hid (R = 9) := by rw [HQ.out, if_neg hc]; exact rfl
   clear hc HQ
   rcases q7 with q7 | ⟨q7, q11⟩
   all_goals
    go_enter Tryz.func66, Tryz.ntmps66
    go_wp2_with fail
    refine Calls.mono HK0.out ?_
    rintro _ _ ⟨rfl, rfl⟩
    go_wp2_with fail
    refine Calls.mono HK1.out ?_
    rintro _ _ ⟨rfl, rfl⟩
    go_wp2_with fail
    refine Calls.mono HK2.out ?_
    rintro _ _ ⟨rfl, rfl⟩
    go_wp2
    go_ret
    exact ⟨by rw [HR.out]; first | done | rfl, HBX.out⟩
 ·have q7 : ((n.form : Int) == 7) = false := ibeq_false (b := 7) (by omega)
  have q11 : ((n.form : Int) == 11) = false := ibeq_false (b := 11) (by omega)
  by_cases k12 : n.form = 12
  ·have q12 : ((n.form : Int) == 12) = true := ibeq_true (b := 12) k12
   have HQ : Hid (R = if mv = true then 10 else 0) := (show R = _ by rw [HTK.out, if_neg k7, if_pos k12])
   clear HTK k7 k12
   go_enter Tryz.func66, Tryz.ntmps66
   go_wp2_with fail
   refine Calls.mono HK0.out ?_
   rintro _ _ ⟨rfl, rfl⟩
   go_wp2_with fail
   refine Calls.mono HK1.out ?_
   rintro _ _ ⟨rfl, rfl⟩
   go_wp2_with fail
   refine Calls.mono HK2.out ?_
   rintro _ _ ⟨rfl, rfl⟩
   go_wp2
   go_region_with (go_at_call 87; refine (HME.out _ ?_).mono ?_; exact ⟨rfl, rfl, rfl, Nat.le_refl _, fun _ _ => rfl⟩; rintro e w5 ⟨rfl, hb5⟩)
   all_goals
    have HB5 : Hid (Below w.heap.size w w5) := HBX.out.trans (⟨hb5.os, hb5.tape, hb5.output, hb5.size, fun k hk => hb5.block k (by have h2 : k < w.heap.size := hk; simp [World.drew] at *; omega)⟩)
    clear hb5
    cases mv with
    | true =>
     have HR : Hid (R = 10) := (show R = 10 by rw [HQ.out]; rfl)
     go_wp2
     go_ret
     exact ⟨by rw [HR.out]; first | done | rfl, HB5.out⟩
    | false =>
     have HR : Hid (R = 0) := (show R = 0 by rw [HQ.out]; rfl)
     go_wp2
     go_ret
     exact ⟨by rw [HR.out]; first | done | rfl, HB5.out⟩
  ·have q12 : ((n.form : Int) == 12) = false := ibeq_false (b := 12) k12
   have HR : Hid (R = 0) := (show R = 0 by rw [HTK.out, if_neg k7, if_neg k12])
   clear HTK k7 k12 HME
   go_enter Tryz.func66, Tryz.ntmps66
   go_wp2_with fail
   refine Calls.mono HK0.out ?_
   rintro _ _ ⟨rfl, rfl⟩
   go_wp2_with fail
   refine Calls.mono HK1.out ?_
   rintro _ _ ⟨rfl, rfl⟩
   go_wp2_with fail
   refine Calls.mono HK2.out ?_
   rintro _ _ ⟨rfl, rfl⟩
   go_wp2
   go_ret
   exact ⟨by rw [HR.out]; first | done | rfl, HBX.out⟩
theorem Rel.pairR {tb : List TP} {D : List Ty} {K : List Nat} {T : List Ty} (h : Rel tb D K T) (r a b : Nat) (ha : a ≤ tb.length) (hb : b ≤ tb.length) (sa : (getK D a).size ≤ 63) (sb : (getK D b).size ≤ 63) :
  ∃ D', Rel (Go.Proofs.YtpicaknklgccoabGreatDoor.pairF tb r a b).2 D' K T ∧ getK D' (Go.Proofs.YtpicaknklgccoabGreatDoor.pairF tb r a b).1 = .p r (getK D a) (getK D b) ∧ (Go.Proofs.YtpicaknklgccoabGreatDoor.pairF tb r a b).1 ≤ (Go.Proofs.YtpicaknklgccoabGreatDoor.pairF tb r a b).2.length ∧ (∀ k, k ≤ tb.length → getK D' k = getK D k) := by
 unfold Go.Proofs.YtpicaknklgccoabGreatDoor.pairF
 cases hf : tb.findIdx? (hitP r a b) with
 | some i =>
  obtain ⟨hi, hp, _⟩ := List.findIdx?_eq_some_iff_getElem.1 hf
  simp only
  unfold hitP at hp
  simp only [Bool.and_eq_true, beq_iff_eq] at hp
  obtain ⟨p, p1, p2, _⟩ := h.pair (i + 1) (by omega) (by omega)
  rw [Nat.add_sub_cancel, List.getElem?_eq_getElem hi] at p1
  simp only [Option.some.injEq] at p1
  refine ⟨D, h, ?_, by omega, fun _ _ => rfl⟩
  rw [p2, ← p1, hp.1.1, hp.1.2, hp.2]
 | none =>
  simp only
  rw [List.findIdx?_eq_none_iff] at hf
  have hD := h.len
  refine ⟨D ++ [.p r (getK D a) (getK D b)], ⟨by simp [hD], ?_, ?_, fun x hx => by have := h.k x hx; simp; omega, ?_, h.s⟩, ?_, by simp, fun k hk => getK_app D _ k (by omega)⟩
  ·intro j p hj
   by_cases hjl : j < tb.length
   ·rw [List.getElem?_append_left hjl] at hj
    obtain ⟨h1, h2, h3, h4, h5⟩ := h.at_ j p hj
    rw [getK_app D _ p.a (by omega), getK_app D _ p.b (by omega), List.getElem?_append_left (by omega)]
    exact ⟨h1, h2, h3, h4, h5⟩
   ·have hje : j = tb.length := by
     have := (List.getElem?_eq_some_iff.1 hj).1
     simp at this; omega
    subst hje
    rw [List.getElem?_append_right (Nat.le_refl _)] at hj
    simp only [Nat.sub_self, List.getElem?_cons_zero, Option.some.injEq] at hj
    subst hj
    simp only
    rw [getK_app D _ a (by omega), getK_app D _ b (by omega), List.getElem?_append_right (by omega), hD, Nat.sub_self, h.sz a ha, h.sz b hb]
    refine ⟨ha, hb, rfl, by simp only [Ty.size]; omega, by omega⟩
  ·intro i j p q hi hj e1 e2 e3
   have key : ∀ (i : Nat) (p : TP), tb[i]? = some p → ¬ (p.r = r ∧ p.a = a ∧ p.b = b) := by
    intro i p hi hh
    have := hf p (List.mem_of_getElem? hi)
    unfold hitP at this
    simp [hh.1, hh.2.1, hh.2.2] at this
   have last : ∀ (i : Nat) (p : TP), (tb ++ [⟨r, a, b, 1 + (atP tb a).sz + (atP tb b).sz⟩])[i]? = some p → (tb[i]? = some p ∧ i < tb.length) ∨ (i = tb.length ∧ p.r = r ∧ p.a = a ∧ p.b = b) := by
    intro i p hi
    by_cases hil : i < tb.length
    ·rw [List.getElem?_append_left hil] at hi; exact Or.inl ⟨hi, hil⟩
    ·have hie : i = tb.length := by
      have := (List.getElem?_eq_some_iff.1 hi).1
      simp at this; omega
     subst hie
     rw [List.getElem?_append_right (Nat.le_refl _)] at hi
     simp only [Nat.sub_self, List.getElem?_cons_zero, Option.some.injEq] at hi
     subst hi
     exact Or.inr ⟨rfl, rfl, rfl, rfl⟩
   rcases last i p hi with ⟨h1, _⟩ | ⟨h1, h2⟩
   ·rcases last j q hj with ⟨g1, _⟩ | ⟨g1, g2⟩
    ·exact h.nd i j p q h1 g1 e1 e2 e3
    ·exact absurd ⟨e1.trans g2.1, e2.trans g2.2.1, e3.trans g2.2.2⟩ (key i p h1)
   ·rcases last j q hj with ⟨g1, _⟩ | ⟨g1, g2⟩
    ·exact absurd ⟨e1.symm.trans h2.1, e2.symm.trans h2.2.1, e3.symm.trans h2.2.2⟩ (key j q g1)
    ·omega
  ·rw [← h.t]
   apply List.map_congr_left
   intro x hx
   exact getK_app D _ x (by have := h.k x hx; omega)
  ·unfold getK
   rw [if_neg (by omega), Nat.add_sub_cancel, ← hD, List.getElem?_append_right (Nat.le_refl _)]
   simp
def fstT : Ty → Ty
 | .n => .n
 | .p _ a _ => a
def sndT : Ty → Ty
 | .n => .n
 | .p _ _ b => b
def tyR (T : List Ty) (n : NR) : Ty :=
 if n.form = 2 then knownT T n.source
 else if n.form = 12 then knownT T n.p0
 else if n.form = 3 then knownT T n.p1
 else if n.form = 7 then knownT T n.p1
 else if n.form = 11 then knownT T n.p1
 else if n.form = 4 then .p n.region.toNat (knownT T n.p0) (knownT T n.p1)
 else if n.form = 5 then fstT (knownT T n.p0)
 else if n.form = 6 then sndT (knownT T n.p0)
 else .n
theorem fst_size (t : Ty) : (fstT t).size ≤ t.size := by cases t <;> simp [fstT, Ty.size]; omega
theorem snd_size (t : Ty) : (sndT t).size ≤ t.size := by cases t <;> simp [sndT, Ty.size]; omega
theorem stepR {tb : List TP} {D : List Ty} {K : List Nat} {T : List Ty} (h : Rel tb D K T) (n : NR) (hs : n.form = 4 → (Ty.p 0 (knownT T n.p0) (knownT T n.p1)).size ≤ 63) :
  ∃ D', Rel (tyK tb K n n.region.toNat).2 D' (K ++ [(tyK tb K n n.region.toNat).1]) (T ++ [tyR T n]) := by
 obtain ⟨a1, a2, a3⟩ := h.known n.p0
 obtain ⟨b1, b2, b3⟩ := h.known n.p1
 obtain ⟨s1, s2, s3⟩ := h.known n.source
 have push : ∀ k, k ≤ tb.length → (getK D k).size ≤ 63 → ∃ D', Rel tb D' (K ++ [k]) (T ++ [getK D k]) := fun k hk hs => ⟨D, h.push k hk hs⟩
 have p0 : ∃ D', Rel tb D' (K ++ [0]) (T ++ [Ty.n]) := push 0 (Nat.zero_le _) (by simp [getK, Ty.size])
 have hfs := fst_size (knownT T n.p0)
 have hsn := snd_size (knownT T n.p0)
 have part : fstT (knownT T n.p0) = getK D (atP tb (knownK K n.p0)).a ∧ sndT (knownT T n.p0) = getK D (atP tb (knownK K n.p0)).b ∧ (atP tb (knownK K n.p0)).a ≤ tb.length ∧ (atP tb (knownK K n.p0)).b ≤ tb.length := by
  by_cases hk : knownK K n.p0 = 0
  ·rw [a1, hk]
   refine ⟨rfl, rfl, ?_, ?_⟩ <;> simp [atP]
  ·obtain ⟨p, q1, q2, q3, q4, q5⟩ := h.pair (knownK K n.p0) hk a2
   rw [a1, q2, q5]
   exact ⟨rfl, rfl, by omega, by omega⟩
 unfold tyK tyR
 by_cases k2 : n.form = 2
 ·rw [if_pos k2, if_pos k2, s1]; exact push _ s2 (by rw [← s1]; exact s3)
 rw [if_neg k2, if_neg k2]
 by_cases k12 : n.form = 12
 ·rw [if_pos k12, if_pos k12, a1]; exact push _ a2 (by rw [← a1]; exact a3)
 rw [if_neg k12, if_neg k12]
 by_cases k3 : n.form = 3
 ·rw [if_pos k3, if_pos k3, b1]; exact push _ b2 (by rw [← b1]; exact b3)
 rw [if_neg k3, if_neg k3]
 by_cases k7 : n.form = 7
 ·rw [if_pos k7, if_pos k7, b1]; exact push _ b2 (by rw [← b1]; exact b3)
 rw [if_neg k7, if_neg k7]
 by_cases k11 : n.form = 11
 ·rw [if_pos k11, if_pos k11, b1]; exact push _ b2 (by rw [← b1]; exact b3)
 rw [if_neg k11, if_neg k11]
 by_cases k4 : n.form = 4
 ·rw [if_pos k4, if_pos k4]
  obtain ⟨D', h1, h2, h3, _⟩ := h.pairR n.region.toNat (knownK K n.p0) (knownK K n.p1) a2 b2 (by rw [← a1]; exact a3) (by rw [← b1]; exact b3)
  have hs4 := hs k4
  refine ⟨D', ?_⟩
  have := h1.push _ h3 (by rw [h2, ← a1, ← b1]; simpa [Ty.size] using hs4)
  rw [h2, ← a1, ← b1] at this
  exact this
 rw [if_neg k4, if_neg k4]
 by_cases k5 : n.form = 5
 ·rw [if_pos k5, if_pos k5, part.1]; exact push _ part.2.2.1 (by rw [← part.1]; omega)
 rw [if_neg k5, if_neg k5]
 by_cases k6 : n.form = 6
 ·rw [if_pos k6, if_pos k6, part.2.1]; exact push _ part.2.2.2 (by rw [← part.2.1]; omega)
 rw [if_neg k6, if_neg k6]
 exact p0
theorem has_p (r : Nat) (a b : Ty) (rg : Int) : (Ty.p r a b).has rg = (((r : Int) == rg) || a.has rg || b.has rg) := by
 unfold Ty.has
 simp only [Ty.rgl, List.any_cons, List.any_append, Bool.or_assoc]
theorem ment_eq {tb : List TP} {D : List Ty} {K : List Nat} {T : List Ty} (h : Rel tb D K T) (rg : Int) : ∀ (f k : Nat), k < f → k ≤ tb.length → mentF tb f k rg = (getK D k).has rg
 | 0, k, h1, _ => by omega
 | f + 1, k, h1, h2 => by
  simp only [mentF]
  by_cases hk : k = 0
  ·rw [if_pos (.inl hk), hk]; rfl
  ·rw [if_neg (by omega)]
   obtain ⟨p, q1, q2, q3, q4, q5⟩ := h.pair k hk h2
   rw [q5, q2, has_p, ment_eq h rg f p.a (by omega) (by omega), ment_eq h rg f p.b (by omega) (by omega)]
theorem Rel.low {tb : List TP} {D : List Ty} {K : List Nat} {T : List Ty} (h : Rel tb D K T) : Low tb := by
 intro k
 by_cases hk : k < tb.length
 ·obtain ⟨p, q1, q2, q3, q4, q5⟩ := h.pair (k + 1) (by omega) (by omega)
  rw [q5]; omega
 ·unfold atP
  rw [if_neg (by omega), List.getElem?_eq_none (by omega)]
  exact ⟨Nat.zero_le _, Nat.zero_le _⟩
def vfT (T : List Ty) (n : NR) : Nat :=
 if n.form = 7 ∨ n.form = 11 then (if knownT T n.p1 = knownT T n.p2 then 0 else 9)
 else if n.form = 12 then (if (knownT T n.p0).has n.region = true then 10 else 0)
 else 0
theorem vfK_eq {tb : List TP} {D : List Ty} {K : List Nat} {T : List Ty} (h : Rel tb D K T) (n : NR) : vfK tb K n = vfT T n := by
 obtain ⟨a1, a2, a3⟩ := h.known n.p0
 obtain ⟨b1, b2, b3⟩ := h.known n.p1
 obtain ⟨c1, c2, c3⟩ := h.known n.p2
 unfold vfK vfT
 have ebc : knownT T n.p1 = knownT T n.p2 ↔ knownK K n.p1 = knownK K n.p2 := by rw [b1, c1]; exact h.injI b2 c2
 rw [ment_eq h n.region _ _ (by omega) a2, ← a1]
 simp only [ebc]
def plT : List Ty → List NR → Nat × Nat
 | _, [] => (0, 0)
 | T, n :: r => if vfT (T ++ [tyR T n]) n ≠ 0 then (vfT (T ++ [tyR T n]) n, n.at_) else plT (T ++ [tyR T n]) r
def SzOk : List Ty → List NR → Prop
 | _, [] => True
 | T, n :: r => (n.form = 4 → (Ty.p 0 (knownT T n.p0) (knownT T n.p1)).size ≤ 63) ∧ SzOk (T ++ [tyR T n]) r
def tyRun : List Ty → List NR → List Ty
 | T, [] => T
 | T, n :: r => tyRun (T ++ [tyR T n]) r
theorem tyRun_app : ∀ (a b : List NR) (T : List Ty), tyRun T (a ++ b) = tyRun (tyRun T a) b
 | [], _, _ => rfl
 | n :: r, b, T => by simp only [List.cons_append, tyRun]; exact tyRun_app r b _
theorem SzOk_app : ∀ (a b : List NR) (T : List Ty), SzOk T a → SzOk (tyRun T a) b → SzOk T (a ++ b)
 | [], _, _, _, h => h
 | n :: r, b, T, h, h' => by
  simp only [List.cons_append, SzOk] at h ⊢
  exact ⟨h.1, SzOk_app r b _ h.2 h'⟩
theorem plT_app : ∀ (a b : List NR) (T : List Ty), plT T (a ++ b) = if (plT T a).1 ≠ 0 then plT T a else plT (tyRun T a) b
 | [], _, _ => by simp [plT, tyRun]
 | n :: r, b, T => by
  have e1 : plT T (n :: (r ++ b)) = if vfT (T ++ [tyR T n]) n ≠ 0 then (vfT (T ++ [tyR T n]) n, n.at_) else plT (T ++ [tyR T n]) (r ++ b) := rfl
  have e2 : plT T (n :: r) = if vfT (T ++ [tyR T n]) n ≠ 0 then (vfT (T ++ [tyR T n]) n, n.at_) else plT (T ++ [tyR T n]) r := rfl
  by_cases h : vfT (T ++ [tyR T n]) n ≠ 0
  ·rw [if_pos h] at e1 e2; rw [List.cons_append, e1, e2, if_pos h]
  ·rw [if_neg h] at e1 e2; rw [List.cons_append, e1, e2, plT_app r b]; rfl
end Go.Proofs.YtpicaknklgccoabGreatDoor
