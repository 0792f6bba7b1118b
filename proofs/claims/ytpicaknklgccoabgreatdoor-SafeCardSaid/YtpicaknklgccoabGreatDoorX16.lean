import Derived.Test.YtpicaknklgccoabGreatDoorX15
import Derived.Test.YtpicaknklgccoabGreatDoorX14
import Derived.Test.YtpicaknklgccoabGreatDoorX3
import Derived.Test.YtpicaknklgccoabGreatDoorX1
namespace Go.Proofs.YtpicaknklgccoabGreatDoor
open Go.RowKit
set_option maxRecDepth 100000 in
set_option maxHeartbeats 16000000 in
theorem placedTypes_any (w : World) (nv ov : Value) (ns : List NR) (op : List Int) (h : TreeIn w nv ov ns op) (ho : OpOk ns op) (hl : ns.length ≤ 9000) (hsm : ∀ n ∈ ns, n.small) (hrg : ∀ n ∈ ns, 0 ≤ n.region) (hsz : SzOk [] ns) :
  Calls Tryz.prog 47 #[treeV nv ov] w fun v w' => v = .returned (.tuple #[.int .i64 (plT [] ns).1, .int .i64 (plT [] ns).2]) ∧ Below w.heap.size w w' := by
 have hlen := fun (w' : World) (hb : Below w.heap.size w w') => Len_any w' nv ov ns op (h.below hb)
 have hnod := fun (w' : World) (hb : Below w.heap.size w w') (k : Nat) (n : NR) (hk : ns[k]? = some n) => Node_in' w' nv ov ns op (h.below hb) k n hk hl
 obtain ⟨a0, cap0, e0⟩ := slice_any h.nd
 obtain ⟨a1, cap1, e1⟩ := slice_any h.op
 rw [ho.1] at e1
 obtain ⟨m, hm⟩ : ∃ m, m = ns.length := ⟨_, rfl⟩
 rw [← hm] at e0 e1 hl
 subst e0
 subst e1
 unfold treeV at hlen hnod
 unfold treeV
 unfold nrVal at hnod
 rw [← hm] at hlen
 have HLEN : Hid _ := hlen
 have HNOD : Hid _ := hnod
 have HM : Hid _ := hm
 have HSM : Hid _ := hsm
 have HRG : Hid _ := hrg
 have HSZ : Hid _ := hsz
 obtain ⟨ans, hans⟩ : ∃ ans, ans = plT [] ns := ⟨_, rfl⟩
 rw [← hans]
 have HA : Hid _ := hans
 clear hlen hnod ho h hm hans hsm hrg hsz
 have hBx : Below w.heap.size w (w.alloc (.cells #[.slice a0 m cap0, .slice a1 m cap1] 62)) := (Below.refl _ w).alloc (Nat.le_refl _) _
 have HBX : Hid _ := hBx
 clear hBx
 obtain ⟨wb, hwb⟩ : ∃ wb, wb = w.alloc (.cells #[.slice a0 m cap0, .slice a1 m cap1] 62) := ⟨_, rfl⟩
 have HBB : Hid (∀ wr, Below wb.heap.size wb wr → wr.cell? ⟨w.heap.size, 0, none⟩ = some (.slice a0 m cap0) ∧ wr.cell? ⟨w.heap.size, 1, none⟩ = some (.slice a1 m cap1) ∧ w.heap.size < wr.heap.size) := by
  intro wr hb
  rw [hwb] at hb
  exact box_cells hb
 have HBW : Hid (Below w.heap.size w wb) := by rw [hwb]; exact HBX.out
 have HC0 : Hid (CIn wb.heap.size (wb.alloc (.cells #[.slice none 0 0, .slice none 0 0] 104)) (.slice none 0 0) (.slice none 0 0) [] []) := ⟨blk_new _ _, World.ownsRow_nil _ _ _ _, World.ownsRow_nil _ _ _ _, by simp [Value.ownBlock], by simp [Value.ownBlock], fun g hg => by simp [Value.ownBlock] at hg⟩
 have hws : w.heap.size ≤ wb.heap.size := HBW.out.size
 have HWB : Hid _ := hwb
 clear hwb HBX
 go_enter Tryz.func47, Tryz.ntmps47
 go_wp2
 rw [← HWB.out]
 have hsz1 : w.heap.size + 1 = wb.heap.size := by rw [HWB.out]; simp
 rw [hsz1]
 clear hsz1 HWB
 go_loopw [5, 6, 7] (fun i _ _ wr => ∃ k : Nat, k ≤ m ∧ i = .int .i64 k ∧ ∃ pv tv tb D K T, CIn wb.heap.size wr pv tv tb K ∧ Rel tb D K T ∧ K.length = k ∧ tb.length ≤ k ∧ plT [] ns = plT T (ns.drop k) ∧ SzOk T (ns.drop k) ∧ Below wb.heap.size wb wr ∧ wb.heap.size < wr.heap.size ∧ (∀ g, pv.ownBlock = some g → wb.heap.size ≤ g) ∧ (∀ g, tv.ownBlock = some g → wb.heap.size ≤ g)) (fun i _ _ _ => m - (intOf i).toNat)
 case atStart => exact ⟨0, by omega, rfl, _, _, [], [], [], [], HC0.out, rel0, rfl, by simp, by simp, HSZ.out, (Below.refl _ wb).alloc (Nat.le_refl _) _, by simp, by simp [Value.ownBlock], by simp [Value.ownBlock]⟩
 case round =>
  obtain ⟨k, hk, rfl, pv, tv, tb, D, K, T, hC, hRel, hKl, htl, hck, hso, hbr, hbs, hpb, htb⟩ := hrel
  have hbw2 : Below w.heap.size w wr := HBW.out.trans (hbr.mono hws)
  obtain ⟨x0, x1, xl⟩ := HBB.out _ hbr
  have hln := HLEN.out wr hbw2
  have hrs := hbr.size
  by_cases hlt : k < m
  ·have hkl : k < ns.length := by have := HM.out; omega
   obtain ⟨n, hn⟩ : ∃ n, ns[k]? = some n := ⟨ns[k], List.getElem?_eq_getElem hkl⟩
   have hnsm := HSM.out n (List.mem_of_getElem? hn)
   have hnrg := HRG.out n (List.mem_of_getElem? hn)
   have hdr : ns.drop k = n :: ns.drop (k + 1) := by
    rw [List.drop_eq_getElem_cons hkl]; rw [List.getElem?_eq_getElem hkl] at hn; simp only [Option.some.injEq] at hn; rw [hn]
   rw [hdr] at hck hso
   simp only [plT] at hck
   simp only [SzOk] at hso
   obtain ⟨r, hr⟩ : ∃ r, r = n.region.toNat := ⟨_, rfl⟩
   obtain ⟨D', hRel'⟩ := stepR hRel n hso.1
   rw [← hr] at hRel'
   have hok : TOk tb K n := ⟨by omega, by omega, fun i => by have := (hRel.known i).2.1; omega, fun j => by have := hRel.sz_le j; omega, ⟨by have := hnsm.1; omega, by have := hnsm.1; omega⟩, ⟨by have := hnsm.2.1; omega, by have := hnsm.2.1; omega⟩, ⟨by have := hnsm.2.2.1; omega, by have := hnsm.2.2.1; omega⟩, ⟨by have := hnsm.2.2.2; omega, by have := hnsm.2.2.2; omega⟩⟩
   have hpl := pairF_len tb r (knownK K n.p0) (knownK K n.p1)
   have htl2 : (tyK tb K n r).2.length ≤ k + 1 := by
    unfold tyK
    repeat' split
    all_goals first | (simp only; omega) | omega
   have hvf := vfK_eq hRel' n
   have hkn := (hRel'.known n.p0).2.1
   have hlow := hRel'.low
   have hty := fun (w' : World) (hb : Below wr.heap.size wr w') => Add_any w' wb.heap.size pv tv tb K n n.region r (fun _ => by omega) (hC.below hb) hok
   have hfa := fun (w' : World) (pv' tv' : Value) (hC' : CIn wb.heap.size w' pv' tv' (tyK tb K n r).2 (K ++ [(tyK tb K n r).1])) => vfaultOf_any w' wb.heap.size pv' tv' (tyK tb K n r).2 (K ++ [(tyK tb K n r).1]) n hC' hlow (by omega) (by simp; omega) hkn hok.p0 hok.p1 hok.p2
   rw [hvf] at hfa
   generalize vfT (T ++ [tyR T n]) n = F at *
   unfold ptr nrVal at hty hfa
   have HTY : Hid _ := hty
   have HFA : Hid _ := hfa
   have HN : Hid _ := hn
   have HCK : Hid _ := hck
   have HSO : Hid _ := hso.2
   have HRL : Hid _ := hRel'
   have HBR : Hid _ := hbr
   have HC : Hid _ := hC
   have HPB : Hid _ := hpb
   have HTB : Hid _ := htb
   have HKL : Hid _ := hKl
   have HTL : Hid _ := htl2
   clear hn hnsm hnrg hdr hck hso hok hty hRel hRel' hC hbr hpb htb hkl hKl htl hfa htl2 hpl hvf hkn hlow hr
   go_wp2_with fail
   refine hln.mono ?_
   rintro _ w1 ⟨rfl, hb1⟩
   obtain ⟨d0, d1, dl⟩ := HBB.out _ (HBR.out.trans (hb1.mono hrs))
   have hno := HNOD.out w1 (HBW.out.trans ((HBR.out.trans (hb1.mono hrs)).mono hws)) k n HN.out
   have HB1 : Hid _ := hb1
   clear hb1 hln x0 x1
   go_wp2_with fail
   refine hno.mono ?_
   rintro _ w2 ⟨rfl, hb2⟩
   have hr2 : Below wr.heap.size wr w2 := HB1.out.trans (hb2.mono HB1.out.size)
   have hr3 := hr2.alloc hr2.size (nrO n)
   have hty := HTY.out _ hr3
   have HR3 : Hid _ := hr3
   have hr2s := hr2.size
   clear hb2 hr2 hno d0 d1 hr3 HTY
   unfold nrO nrC at hty
   go_wp2_with fail
   refine hty.mono ?_
   rintro _ w3 ⟨rfl, pv3, tv3, hfr3, hC3⟩
   have hnb : w3.heap[w2.heap.size]? = some (nrO n) := by
    rw [hfr3.blk w2.heap.size (by simp) (by omega) (fun e => by have := (HC.out.lt.1 _ e); omega) (fun e => by have := (HC.out.lt.2.1 _ e); omega)]
    exact blk_new _ _
   have hB3 : Below wb.heap.size wb (w2.alloc (nrO n)) := HBR.out.trans (HR3.out.mono hrs)
   obtain ⟨g1, g2, g3⟩ := hfr3.toBelow hB3 (Nat.le_refl _) (by simp; omega) HPB.out HTB.out
   have hw3s := hfr3.size
   have hw3b : wb.heap.size < w3.heap.size := by simp at hw3s; omega
   have hfa := HFA.out w3 pv3 tv3 hC3
   obtain ⟨d0, d1, d2, d3, d4, d5, d6, d7, d8, d9⟩ := nr_cells10 hnb
   have hnl := blk_lt hnb
   have HC3 : Hid _ := hC3
   have HG1 : Hid _ := g1
   have HG2 : Hid _ := g2
   have HG3 : Hid _ := g3
   have HNB : Hid _ := hnb
   clear hfr3 hC3 hnb hB3 g1 g2 g3 hty HR3 HFA
   go_wp2_with fail
   refine hfa.mono ?_
   rintro _ w4 ⟨rfl, hb4⟩
   have c1 : w4.cell? ⟨w2.heap.size, 1, none⟩ = some (.int .i64 n.at_) := by rw [hb4.cell (p := ⟨w2.heap.size, 1, none⟩) hnl]; exact d1
   have HB4 : Hid _ := hb4
   have hw4s := hb4.size
   clear hb4 hfa d0 d1 d2 d3 d4 d5 d6 d7 d8 d9
   by_cases hf : F = 0
   ·have q2 : ((F : Int) != 0) = false := by simp; omega
    have hck := HCK.out
    rw [if_neg (by omega)] at hck
    have HC4 : Hid _ := HC3.out.below HB4.out
    have HCK2 : Hid _ := hck
    clear hf hck HC3
    go_wp2
    go_roundw
    case rel => exact ⟨k + 1, by omega, by go_num, pv3, tv3, _, D', _, _, HC4.out, HRL.out, by simp [HKL.out], HTL.out, HCK2.out, HSO.out, HG1.out.trans (HB4.out.mono (by omega)), by omega, HG2.out, HG3.out⟩
    case measure => simp [intOf]; omega
   ·have q2 : ((F : Int) != 0) = true := by simp; omega
    have hck := HCK.out
    rw [if_pos hf] at hck
    have HAA : Hid (ans = (F, n.at_)) := by rw [HA.out]; exact hck
    clear hf hck
    go_wp2
    go_quiet (fail)
    go_wp2
    refine bodyPost_ret (v := .tuple #[.int .i64 F, .int .i64 n.at_]) (by simp [results, Tryz.results47, go_sem]) rfl ⟨by rw [HAA.out], ?_⟩
    exact (HBW.out.trans ((HG1.out.trans (HB4.out.mono (by omega))).mono hws)).trans ⟨rfl, rfl, rfl, Nat.le_refl _, fun _ _ => rfl⟩
  ·have HAA : Hid (ans = (0, 0)) := by
    have hd : ns.drop k = [] := List.drop_eq_nil_of_le (by have := HM.out; omega)
    rw [hd] at hck
    rw [HA.out, hck]; exact rfl
   have HBR : Hid _ := hbr
   clear hbr hC hRel hck hpb htb hso
   go_wp2_with fail
   refine hln.mono ?_
   rintro _ w1 ⟨rfl, hb1⟩
   have HB1 : Hid _ := HBW.out.trans ((HBR.out.trans (hb1.mono hrs)).mono hws)
   clear hb1 hln
   go_wp2
   refine bodyPost_ret (v := .tuple #[.int .i64 0, .int .i64 0]) (by simp [results, Tryz.results47, go_sem]) rfl ⟨by rw [HAA.out]; rfl, HB1.out⟩
def vetAns (ns : List NR) (op : List Int) : Nat × Nat :=
 if (newsK (opNs ns op) []).2.1 ≠ 0 then (newsK (opNs ns op) []).2
 else if (outK (newsK (opNs ns op) []).1 (opNs ns op)).1 ≠ 0 then outK (newsK (opNs ns op) []).1 (opNs ns op)
 else plT [] ns
theorem newsK_len : ∀ (l acc : List NR), (newsK l acc).1.length ≤ acc.length + l.length
 | [], acc => by simp [newsK]
 | n :: r, acc => by
  simp only [newsK, List.length_cons]
  split
  ·split
   ·simp only; omega
   ·have := newsK_len r (acc ++ [n]); simp at this; omega
  ·have := newsK_len r acc; omega
set_option maxRecDepth 100000 in
set_option maxHeartbeats 16000000 in
theorem vetProgram_any (w : World) (nv ov : Value) (ns : List NR) (op : List Int) (h : TreeIn w nv ov ns op) (ho : OpOk ns op) (hl : ns.length ≤ 9000) (hsm : ∀ n ∈ ns, n.small) (hrg : ∀ n ∈ ns, 0 ≤ n.region) (hsz : SzOk [] ns) :
  Calls Tryz.prog 27 #[treeV nv ov] w fun v w' => v = .returned (.tuple #[.int .i64 (vetAns ns op).1, .int .i64 (vetAns ns op).2]) ∧ Below w.heap.size w w' := by
 have hne := fun (w' : World) (hb : Below w.heap.size w w') => newsOf_any w' nv ov ns op (h.below hb) ho hl
 have hol : (newsK (opNs ns op) []).1.length ≤ 9000 := by
  have := newsK_len (opNs ns op) []
  rw [opNs_len, ho.1] at this
  simp at this; omega
 have hou := fun (w' : World) (hb : Below w.heap.size w w') (vv : Value) (base : Nat) (hown : w'.ownsRow base 108 10 vv (newsK (opNs ns op) []).1.length ((newsK (opNs ns op) []).1.flatMap nrL)) => outside_any w' nv ov vv ns op _ base (h.below hb) ho hl hown hol
 have hpl := fun (w' : World) (hb : Below w.heap.size w w') => placedTypes_any w' nv ov ns op (h.below hb) ho hl hsm hrg hsz
 obtain ⟨a0, cap0, e0⟩ := slice_any h.nd
 obtain ⟨a1, cap1, e1⟩ := slice_any h.op
 rw [ho.1] at e1
 obtain ⟨m, hm⟩ : ∃ m, m = ns.length := ⟨_, rfl⟩
 rw [← hm] at e0 e1 hl
 subst e0
 subst e1
 obtain ⟨ans, hans⟩ : ∃ ans, ans = vetAns ns op := ⟨_, rfl⟩
 rw [← hans]
 unfold vetAns at hans
 have HA : Hid _ := hans
 unfold treeV at hne hou hpl
 unfold treeV
 have HNE : Hid _ := hne
 have HOU : Hid _ := hou
 have HPL : Hid _ := hpl
 have HBX : Hid (Below w.heap.size w (w.alloc (.cells #[.slice a0 m cap0, .slice a1 m cap1] 62))) := (Below.refl _ w).alloc (Nat.le_refl _) _
 clear hne hou hpl ho h hm hans hsm hrg hsz hol
 generalize newsK (opNs ns op) [] = N at *
 generalize outK N.1 (opNs ns op) = O at *
 generalize plT [] ns = P at *
 go_enter Tryz.func27, Tryz.ntmps27
 go_wp2_with fail
 refine (HNE.out _ HBX.out).mono ?_
 rintro _ w1 ⟨vv, rfl, hown1, hb1⟩
 obtain ⟨b0, b1, bl⟩ := box_cells hb1
 have hB1 := HBX.out.trans (hb1.mono (by simp))
 have hou := HOU.out w1 hB1 vv _ hown1
 have HB1 : Hid _ := hB1
 have HBB1 : Hid _ := hb1
 clear hb1 hB1 hown1
 by_cases h1 : N.2.1 = 0
 ·have q1 : ((N.2.1 : Int) != 0) = false := by rw [h1]; rfl
  have HA2 : Hid (ans = if O.1 ≠ 0 then O else P) := (show ans = _ by rw [HA.out, if_neg (by omega)])
  clear HA h1
  go_wp2_with fail
  refine hou.mono ?_
  rintro _ w2 ⟨rfl, hb2⟩
  have hbb2 := HBB1.out.trans (hb2.mono HBB1.out.size)
  obtain ⟨c0, c1, cl⟩ := box_cells hbb2
  have hB2 := HB1.out.trans (hb2.mono HB1.out.size)
  have hpl := HPL.out w2 hB2
  have HB2 : Hid _ := hB2
  clear hb2 hbb2 hB2 hou b0 b1
  by_cases h2 : O.1 = 0
  ·have q2 : ((O.1 : Int) != 0) = false := by rw [h2]; rfl
   have HA3 : Hid (ans = P) := (show ans = _ by rw [HA2.out, if_neg (by omega)])
   clear HA2 h2
   go_wp2_with fail
   refine hpl.mono ?_
   rintro _ w3 ⟨rfl, hb3⟩
   have HB3 : Hid _ := HB2.out.trans (hb3.mono HB2.out.size)
   clear hb3 hpl
   go_wp2
   refine bodyPost_ret (v := .tuple #[.int .i64 P.1, .int .i64 P.2]) (by simp [results, Tryz.results27, go_sem]) rfl ⟨by rw [HA3.out], HB3.out⟩
  ·have q2 : ((O.1 : Int) != 0) = true := by simp; omega
   have HA3 : Hid (ans = O) := (show ans = _ by rw [HA2.out, if_pos h2])
   clear HA2 h2 hpl
   go_wp2
   refine bodyPost_ret (v := .tuple #[.int .i64 O.1, .int .i64 O.2]) (by simp [results, Tryz.results27, go_sem]) rfl ⟨by rw [HA3.out], HB2.out⟩
 ·have q1 : ((N.2.1 : Int) != 0) = true := by simp; omega
  have HA2 : Hid (ans = N.2) := (show ans = _ by rw [HA.out, if_pos h1])
  clear HA h1 hou
  go_wp2
  refine bodyPost_ret (v := .tuple #[.int .i64 N.2.1, .int .i64 N.2.2]) (by simp [results, Tryz.results27, go_sem]) rfl ⟨by rw [HA2.out], HB1.out⟩
end Go.Proofs.YtpicaknklgccoabGreatDoor
namespace Go.Proofs.YtpicaknklgccoabGreatDoor
def selF (rl : List Rec) (P : Rec → Bool) : Nat → Option Nat
 | 0 => none
 | k + 1 => match rl[k]? with
  | some r => if P r && better rl (selF rl P k) r then some k else selF rl P k
  | none => selF rl P k
theorem openF_sel (rl : List Rec) (rg : Int) : ∀ k, openF rl rg k = selF rl (fun r => isNew r && (r.n == rg)) k
 | 0 => rfl
 | k + 1 => by
  simp only [openF, openS, selF, openF_sel rl rg k]
  cases rl[k]? with
  | none => rfl
  | some r => rfl
theorem twF_sel (rl : List Rec) : ∀ k, twF rl k = selF rl (isTw rl) k
 | 0 => rfl
 | k + 1 => by
  simp only [twF, selF, twF_sel rl k, leftF]
  cases rl[k]? with
  | none => rfl
  | some r => simp only; cases isTw rl r <;> simp
theorem outR_sel (rl : List Rec) : ∀ k, outR rl k = selF rl (isOut rl) k
 | 0 => rfl
 | k + 1 => by
  simp only [outR, selF, outR_sel rl k, leftF]
  cases rl[k]? with
  | none => rfl
  | some r => simp only; cases isOut rl r <;> simp
theorem selF_ok (rl : List Rec) (P : Rec → Bool) : ∀ k, k ≤ rl.length → (∀ i, selF rl P k = some i → ∃ r, rl[i]? = some r ∧ P r = true ∧ ∀ j r', j < k → rl[j]? = some r' → P r' = true → r.id ≤ r'.id) ∧ (selF rl P k = none → ∀ j r', j < k → rl[j]? = some r' → P r' = false)
 | 0, _ => ⟨fun i h => by simp [selF] at h, fun _ j r' h => by omega⟩
 | k + 1, hk => by
  obtain ⟨h1, h2⟩ := selF_ok rl P k (by omega)
  have hr : rl[k]? = some rl[k] := List.getElem?_eq_getElem (by omega)
  simp only [selF]
  rw [hr]
  simp only
  cases hP : P rl[k] with
  | false =>
   simp only [Bool.false_and, Bool.false_eq_true, if_false]
   refine ⟨fun i hi => ?_, fun hn j r' hj hjr => ?_⟩
   ·obtain ⟨r, g1, g2, g3⟩ := h1 i hi
    refine ⟨r, g1, g2, fun j r' hj hjr hp => ?_⟩
    by_cases e : j = k
    ·subst e; rw [hr] at hjr; cases hjr; rw [hP] at hp; cases hp
    ·exact g3 j r' (by omega) hjr hp
   ·by_cases e : j = k
    ·subst e; rw [hr] at hjr; cases hjr; exact hP
    ·exact h2 hn j r' (by omega) hjr
  | true =>
   simp only [Bool.true_and]
   cases hs : selF rl P k with
   | none =>
    simp only [better, if_true]
    refine ⟨fun i hi => ?_, fun hn => by cases hn⟩
    cases hi
    refine ⟨rl[k], hr, hP, fun j r' hj hjr hp => ?_⟩
    by_cases e : j = k
    ·subst e; rw [hr] at hjr; cases hjr; exact Nat.le_refl _
    ·have := h2 hs j r' (by omega) hjr
     rw [this] at hp; cases hp
   | some b =>
    obtain ⟨rb, g1, g2, g3⟩ := h1 b hs
    have hbt : better rl (some b) rl[k] = decide (rl[k].id < rb.id) := by simp only [better, g1]
    rw [hbt]
    by_cases hlt : rl[k].id < rb.id
    ·rw [if_pos (by simpa using hlt)]
     refine ⟨fun i hi => ?_, fun hn => by cases hn⟩
     cases hi
     refine ⟨rl[k], hr, hP, fun j r' hj hjr hp => ?_⟩
     by_cases e : j = k
     ·subst e; rw [hr] at hjr; cases hjr; exact Nat.le_refl _
     ·have := g3 j r' (by omega) hjr hp; omega
    ·rw [if_neg (by simpa using hlt)]
     refine ⟨fun i hi => ?_, fun hn => by cases hn⟩
     cases hi
     refine ⟨rb, g1, g2, fun j r' hj hjr hp => ?_⟩
     by_cases e : j = k
     ·subst e; rw [hr] at hjr; cases hjr; omega
     ·exact g3 j r' (by omega) hjr hp
structure Al (rl : List Rec) (ns lst : List NR) : Prop where
 f2 : ∀ z ∈ rl.zip ns, lst[z.1.id]? = some z.2
 f3 : ∀ r ∈ rl, ∃ n, (r, n) ∈ rl.zip ns
 f1 : ∀ (k : Nat) (n : NR), lst[k]? = some n → ∃ r, (r, n) ∈ rl.zip ns ∧ r.id = k
 br : ∀ z ∈ rl.zip ns, Bri z.1 z.2
 b : ∀ x ∈ rl.zip ns, ∀ y ∈ rl.zip ns, (x.1.id < y.1.id ↔ x.2.at_ < y.2.at_) ∧ (y.1.id ≤ x.1.last ↔ y.2.at_ < x.2.beh)
theorem find_first {l : List NR} {q : NR → Bool} {k : Nat} {n : NR} (hk : l[k]? = some n) (hq : q n = true) (hf : ∀ j n', j < k → l[j]? = some n' → q n' = false) : l.find? q = some n := by
 have hlt := (List.getElem?_eq_some_iff.1 hk).1
 have : l = l.take k ++ (n :: l.drop (k + 1)) := by
  conv => lhs; rw [← List.take_append_drop k l]
  rw [List.drop_eq_getElem_cons hlt]
  rw [List.getElem?_eq_getElem hlt] at hk
  rw [Option.some.inj hk]
 rw [this, List.find?_append]
 have h0 : (l.take k).find? q = none := by
  rw [List.find?_eq_none]
  intro x hx
  obtain ⟨j, hj, hx'⟩ := List.mem_iff_getElem.1 hx
  have hjk : j < k := by simp at hj; omega
  have := hf j x hjk (by rw [← hx', List.getElem_take, List.getElem?_eq_getElem])
  rw [this]; simp
 rw [h0, List.find?_cons, hq]; rfl
theorem sel_find {rl : List Rec} {ns lst : List NR} (h : Al rl ns lst) (P : Rec → Bool) (q : NR → Bool) (hpq : ∀ z ∈ rl.zip ns, P z.1 = q z.2) :
  (selF rl P rl.length = none → lst.find? q = none) ∧ ∀ i, selF rl P rl.length = some i → ∃ r n, rl[i]? = some r ∧ lst.find? q = some n ∧ (r, n) ∈ rl.zip ns := by
 obtain ⟨h1, h2⟩ := selF_ok rl P rl.length (Nat.le_refl _)
 refine ⟨fun hn => ?_, fun i hi => ?_⟩
 ·rw [List.find?_eq_none]
  intro n hm
  obtain ⟨k, hk, hkn⟩ := List.mem_iff_getElem.1 hm
  obtain ⟨r, hz, _⟩ := h.f1 k n (by rw [List.getElem?_eq_getElem hk, hkn])
  have hr : r ∈ rl := (List.of_mem_zip hz).1
  obtain ⟨j, hj, hjr⟩ := List.mem_iff_getElem.1 hr
  have := h2 hn j r hj (by rw [List.getElem?_eq_getElem hj, hjr])
  have e := hpq _ hz
  simp only at e
  rw [← e, this]; simp
 ·obtain ⟨r, g1, g2, g3⟩ := h1 i hi
  obtain ⟨n, hz⟩ := h.f3 r (List.mem_of_getElem? g1)
  refine ⟨r, n, g1, ?_, hz⟩
  have e := hpq _ hz
  simp only at e
  refine find_first (h.f2 _ hz) (by rw [← e]; exact g2) ?_
  intro j n' hj0 hn'
  have hj : j < r.id := hj0
  obtain ⟨r', hz', hid⟩ := h.f1 j n' hn'
  have e' := hpq _ hz'
  simp only at e'
  rw [← e']
  cases hp : P r' with
  | false => rfl
  | true =>
   obtain ⟨j', hj', hjr'⟩ := List.mem_iff_getElem.1 (List.of_mem_zip hz').1
   have := g3 j' r' hj' (by rw [List.getElem?_eq_getElem hj', hjr']) hp
   omega
def isN (n : NR) : Bool := n.form == 12
def ownQ (rg : Int) (n : NR) : Bool := isN n && (n.region == rg)
theorem own_q {rl : List Rec} {ns lst : List NR} (h : Al rl ns lst) (rg : Int) : ∀ z ∈ rl.zip ns, (isNew z.1 && (z.1.n == rg)) = ownQ rg z.2 := by
 intro z hz
 have hb := h.br z hz
 unfold ownQ isN isNew
 by_cases h12 : z.2.form = 12
 ·have := hb.nw.1 h12
  rw [this, h12, hb.rg (.inl h12)]; rfl
 ·have h1 : (z.2.form == 12) = false := by simpa using h12
  have h2 : (z.1.op == [110, 101, 119]) = false := by
   rw [beq_eq_false_iff_ne]; intro e; exact h12 (hb.nw.2 e)
  rw [h1, h2]; rfl
theorem newF_filter (l : List NR) (rg : Int) : newF (l.filter isN) rg = l.find? (ownQ rg) := by
 unfold newF ownQ
 rw [List.find?_filter]
 congr 1
 funext a
 cases isN a <;> cases (a.region == rg) <;> rfl
theorem own_find {rl : List Rec} {ns lst : List NR} (h : Al rl ns lst) (rg : Int) :
  (openF rl rg rl.length = none → newF (lst.filter isN) rg = none) ∧ ∀ o, openF rl rg rl.length = some o → ∃ r n, rl[o]? = some r ∧ newF (lst.filter isN) rg = some n ∧ (r, n) ∈ rl.zip ns := by
 rw [openF_sel, newF_filter]
 exact sel_find h _ _ (own_q h rg)
def outQ (news : List NR) (n : NR) : Bool := (n.form == 4) && match newF news n.region with
 | some o => decide (n.at_ < o.at_) || decide (o.beh ≤ n.at_)
 | none => false
theorem outK_find (news : List NR) : ∀ l : List NR, outK news l = match l.find? (outQ news) with
  | some n => (8, n.at_)
  | none => (0, 0)
 | [] => rfl
 | n :: r => by
  have ih := outK_find news r
  simp only [outK]
  rw [List.find?_cons]
  by_cases h4 : n.form = 4
  ·have e4 : (n.form == 4) = true := by simpa using h4
   rw [if_pos h4]
   cases ho : newF news n.region with
   | none =>
    have : outQ news n = false := by unfold outQ; rw [e4, ho]; rfl
    rw [this]; exact ih
   | some o =>
    have : outQ news n = (decide (n.at_ < o.at_) || decide (o.beh ≤ n.at_)) := by unfold outQ; rw [e4, ho]; rfl
    rw [this]
    simp only
    by_cases hc : n.at_ < o.at_ ∨ o.beh ≤ n.at_
    ·rw [if_pos hc]
     have : (decide (n.at_ < o.at_) || decide (o.beh ≤ n.at_)) = true := by simpa using hc
     rw [this]
    ·rw [if_neg hc]
     have : (decide (n.at_ < o.at_) || decide (o.beh ≤ n.at_)) = false := by simp only [Bool.or_eq_false_iff, decide_eq_false_iff_not]; omega
     rw [this]; exact ih
  ·have e4 : (n.form == 4) = false := by simpa using h4
   have : outQ news n = false := by unfold outQ; rw [e4]; rfl
   rw [if_neg h4, this]; exact ih
theorem out_q {rl : List Rec} {ns lst : List NR} (h : Al rl ns lst) : ∀ z ∈ rl.zip ns, isOut rl z.1 = outQ (lst.filter isN) z.2 := by
 intro z hz
 have hb := h.br z hz
 by_cases h4 : z.2.form = 4
 ·have hpr : isPr z.1 = true := by unfold isPr; rw [hb.pr.1 h4]; rfl
  have e4 : (z.2.form == 4) = true := by simpa using h4
  have hrg := hb.rg (.inr h4)
  obtain ⟨o1, o2⟩ := own_find h z.1.n
  unfold isOut outQ
  rw [e4, hrg]
  cases ho : openF rl z.1.n rl.length with
  | none => rw [o1 ho]; rfl
  | some o =>
   obtain ⟨ro, no, g1, g2, g3⟩ := o2 o ho
   rw [g2]
   simp only
   rw [g1]
   simp only
   rw [hpr]
   have b1 := (h.b _ hz _ g3).1
   have b2 := (h.b _ g3 _ hz).2
   simp only at b1 b2
   have e1 : decide (z.1.id < ro.id) = decide (z.2.at_ < no.at_) := by simp only [b1]
   have e2 : decide (ro.last < z.1.id) = decide (no.beh ≤ z.2.at_) := by
    by_cases c : z.2.at_ < no.beh
    ·have := b2.2 c
     simp only [show ¬ ro.last < z.1.id by omega, show ¬ no.beh ≤ z.2.at_ by omega]
    ·have : ¬ z.1.id ≤ ro.last := fun e => c (b2.1 e)
     simp only [show ro.last < z.1.id by omega, show no.beh ≤ z.2.at_ by omega]
   rw [e1, e2]
 ·have e4 : (z.2.form == 4) = false := by simpa using h4
  have hpr : isPr z.1 = false := by
   unfold isPr; rw [beq_eq_false_iff_ne]; intro e; exact h4 (hb.pr.2 e)
  unfold isOut outQ
  rw [e4, hpr]
  simp only [Bool.false_and]
  split
  ·split <;> rfl
  ·rfl
def twQ (lst : List NR) (n : NR) : Bool := isN n && lst.any (fun m => ownQ n.region m && decide (m.at_ < n.at_))
theorem tw_q {rl : List Rec} {ns lst : List NR} (h : Al rl ns lst) : ∀ z ∈ rl.zip ns, isTw rl z.1 = twQ lst z.2 := by
 intro z hz
 have hb := h.br z hz
 by_cases h12 : z.2.form = 12
 ·have hnw : isNew z.1 = true := by unfold isNew; rw [hb.nw.1 h12]; rfl
  have e12 : isN z.2 = true := by unfold isN; simpa using h12
  have hrg := hb.rg (.inl h12)
  obtain ⟨o1, o2⟩ := own_find h z.1.n
  have hself : ownQ z.1.n z.2 = true := by unfold ownQ; rw [e12, hrg]; simp
  have hzm : z.2 ∈ lst := List.mem_of_getElem? (h.f2 z hz)
  unfold isTw twQ
  rw [e12, hrg]
  cases ho : openF rl z.1.n rl.length with
  | none =>
   have := o1 ho
   rw [newF_filter, List.find?_eq_none] at this
   exact absurd hself (this z.2 hzm)
  | some o =>
   obtain ⟨ro, no, g1, g2, g3⟩ := o2 o ho
   simp only
   rw [g1]
   simp only
   rw [hnw]
   simp only [Bool.true_and]
   rw [newF_filter] at g2
   have hown : ownQ z.1.n no = true := List.find?_some g2
   have b1 := (h.b _ g3 _ hz).1
   have b3 := (h.b _ hz _ g3).1
   simp only at b1 b3
   by_cases e : z.1.id = ro.id
   ·have hne : (z.1.id != ro.id) = false := by rw [e]; simp
    rw [hne]
    symm
    rw [List.any_eq_false]
    intro m hm
    simp only [Bool.and_eq_true, decide_eq_true_eq, not_and]
    intro hmo hlt
    -- m is earlier than the first
    obtain ⟨k, hk, hkm⟩ := List.mem_iff_getElem.1 hm
    obtain ⟨rm, hzm', hid⟩ := h.f1 k m (by rw [List.getElem?_eq_getElem hk, hkm])
    have hb3 := (h.b _ hzm' _ hz).1
    simp only at hb3
    have hlt' : rm.id < z.1.id := hb3.2 hlt
    have hP := own_q h z.1.n _ hzm'
    simp only at hP
    rw [openF_sel] at ho
    obtain ⟨j, hj, hjr⟩ := List.mem_iff_getElem.1 (List.of_mem_zip hzm').1
    obtain ⟨r', q1, q2, q3⟩ := (selF_ok rl _ rl.length (Nat.le_refl _)).1 o ho
    rw [g1] at q1
    cases q1
    have := q3 j rm hj (by rw [List.getElem?_eq_getElem hj, hjr]) (by rw [hP]; exact hmo)
    omega
   ·have hne : (z.1.id != ro.id) = true := by simpa using e
    rw [hne]
    symm
    rw [List.any_eq_true]
    refine ⟨no, List.mem_of_find?_eq_some g2, ?_⟩
    rw [hown]
    simp only [Bool.true_and, decide_eq_true_eq]
    rw [openF_sel] at ho
    obtain ⟨r', q1, q2, q3⟩ := (selF_ok rl _ rl.length (Nat.le_refl _)).1 o ho
    rw [g1] at q1
    cases q1
    obtain ⟨j, hj, hjr⟩ := List.mem_iff_getElem.1 (List.of_mem_zip hz).1
    have hP := own_q h z.1.n _ hz
    have := q3 j z.1 hj (by rw [List.getElem?_eq_getElem hj, hjr]) (by rw [hP]; exact hself)
    exact b1.1 (by omega)
 ·have e12 : isN z.2 = false := by unfold isN; simpa using h12
  have hnw : isNew z.1 = false := by
   unfold isNew; rw [beq_eq_false_iff_ne]; intro e; exact h12 (hb.nw.2 e)
  unfold isTw twQ
  rw [e12, hnw]
  simp only [Bool.false_and]
  split
  ·split <;> rfl
  ·rfl
theorem newsK_find (lst : List NR) (hs : lst.Pairwise (fun a b => a.at_ < b.at_)) : ∀ (l2 l1 : List NR), lst = l1 ++ l2 →
  (l2.find? (twQ lst) = none → newsK l2 (l1.filter isN) = (lst.filter isN, 0, 0)) ∧ ∀ n, l2.find? (twQ lst) = some n → (newsK l2 (l1.filter isN)).2 = (7, n.at_)
 | [], l1, e => by
  rw [List.append_nil] at e
  subst e
  exact ⟨fun _ => rfl, fun n h => by simp at h⟩
 | n :: r, l1, e => by
  have ih := newsK_find lst hs r (l1 ++ [n]) (by rw [e]; simp)
  have htw : twQ lst n = (isN n && (newF (l1.filter isN) n.region).isSome) := by
   unfold twQ
   congr 1
   rw [newF_filter]
   have hp := hs
   rw [e, List.pairwise_append] at hp
   obtain ⟨_, hp2, hp3⟩ := hp
   rw [List.pairwise_cons] at hp2
   apply Bool.eq_iff_iff.2
   rw [List.any_eq_true, List.find?_isSome]
   constructor
   ·rintro ⟨m, hm, hq⟩
    simp only [Bool.and_eq_true, decide_eq_true_eq] at hq
    rw [e] at hm
    rcases List.mem_append.1 hm with hm | hm
    ·exact ⟨m, hm, hq.1⟩
    ·rcases List.mem_cons.1 hm with rfl | hm
     ·omega
     ·have := hp2.1 m hm; omega
   ·rintro ⟨m, hm, hq⟩
    refine ⟨m, by rw [e]; exact List.mem_append_left _ hm, ?_⟩
    rw [hq]
    simpa using hp3 m hm n (by simp)
  rw [List.find?_cons]
  simp only [newsK]
  by_cases h12 : n.form = 12
  ·have e12 : isN n = true := by unfold isN; simpa using h12
   rw [if_pos h12]
   cases hc : (newF (l1.filter isN) n.region).isSome with
   | true =>
    have ht : twQ lst n = true := by rw [htw, e12, hc]; rfl
    rw [ht]
    exact ⟨fun h => (by cases h), fun m h => (by cases h; rfl)⟩
   | false =>
    have ht : twQ lst n = false := by rw [htw, e12, hc]; rfl
    rw [ht]
    have ef : (l1 ++ [n]).filter isN = l1.filter isN ++ [n] := by rw [List.filter_append]; simp [e12]
    rw [ef] at ih
    simpa using ih
  ·have e12 : isN n = false := by unfold isN; simpa using h12
   have ht : twQ lst n = false := by rw [htw, e12]; rfl
   rw [if_neg h12, ht]
   have ef : (l1 ++ [n]).filter isN = l1.filter isN := by rw [List.filter_append]; simp [e12]
   rw [ef] at ih
   exact ih
theorem Al.sorted {rl : List Rec} {ns lst : List NR} (h : Al rl ns lst) : lst.Pairwise (fun a b => a.at_ < b.at_) := by
 rw [List.pairwise_iff_getElem]
 intro i j hi hj hij
 obtain ⟨r, hz, hid⟩ := h.f1 i _ (List.getElem?_eq_getElem hi)
 obtain ⟨r', hz', hid'⟩ := h.f1 j _ (List.getElem?_eq_getElem hj)
 have := (h.b _ hz _ hz').1
 simp only at this
 exact this.1 (by omega)
theorem scopes_eq {rl : List Rec} {ns lst : List NR} (h : Al rl ns lst) :
  (if (newsK lst []).2.1 ≠ 0 then (newsK lst []).2 else outK (newsK lst []).1 lst) = scopesAns rl := by
 obtain ⟨t1, t2⟩ := sel_find h (isTw rl) (twQ lst) (tw_q h)
 obtain ⟨u1, u2⟩ := sel_find h (isOut rl) (outQ (lst.filter isN)) (out_q h)
 obtain ⟨n1, n2⟩ := newsK_find lst h.sorted lst [] rfl
 unfold scopesAns
 rw [twF_sel, outR_sel]
 cases ht : selF rl (isTw rl) rl.length with
 | some i =>
  obtain ⟨r, n, g1, g2, g3⟩ := t2 i ht
  have := n2 n g2
  simp only [List.filter_nil] at this
  rw [this]
  simp only [g1]
  rw [if_pos (by decide)]
  have := (h.br _ g3).p
  simp only at this
  simp [this]
 | none =>
  have := n1 (t1 ht)
  simp only [List.filter_nil] at this
  rw [this]
  simp only
  rw [if_neg (by decide), outK_find]
  cases ho : selF rl (isOut rl) rl.length with
  | none => rw [u1 ho]
  | some i =>
   obtain ⟨r, n, g1, g2, g3⟩ := u2 i ho
   rw [g2]
   have := (h.br _ g3).p
   simp only at this
   simp [g1, this]
end Go.Proofs.YtpicaknklgccoabGreatDoor
namespace Go.Proofs.YtpicaknklgccoabGreatDoor
open Go.RowKit
theorem slice_anyV {w : World} {base : Nat} {e : TypeId} {size : Nat} {v : Value} {n : Nat} {xs : List Value} (h : w.ownsRow base e size v n xs) : ∃ a c, v = .slice a n c := by
 rcases h.2 with ⟨h1, h2⟩ | ⟨g, cap, cur, h1, _⟩
 ·exact ⟨none, 0, by rw [h1, h2]⟩
 ·exact ⟨_, _, h1⟩
theorem own_neV {w : World} {base : Nat} {e : TypeId} {size : Nat} {v : Value} {n : Nat} {xs : List Value} (h : w.ownsRow base e size v n xs) {b : Nat} {arr : Array Value} {t : TypeId} {fr : Nat × Nat} (hb : w.heap[b]? = some (.cells arr t fr)) (ht : t ≠ e) : ∀ k, v.ownBlock = some k → k ≠ b := by
 intro k hk hkb
 rcases h.2 with ⟨h1, _⟩ | ⟨g, cap, cur, h1, _, hh, _⟩
 ·rw [h1] at hk; simp [Value.ownBlock] at hk
 ·rw [h1] at hk
  simp [Value.ownBlock] at hk
  rw [hk, hkb, hb] at hh
  simp only [Option.some.injEq, Obj.cells.injEq] at hh
  exact ht hh.2.1
set_option maxRecDepth 100000 in
set_option maxHeartbeats 4000000 in
theorem parsePlaced_pos (s : ByteArray) (w : World) (hs : s.size ≤ 9000) (e : PT) (hp : PE true (tokens s.data.toList) e []) : Calls Tryz.prog 36 #[.string s] w fun v w' => ∃ x1 n1 c1 x2 n2 c2 ns, v = .returned (.tuple #[treeV (.slice x1 n1 c1) (.slice x2 n2 c2), .int .i64 0, .int .i64 0]) ∧ Below w.heap.size w w' ∧ TreeIn w' (.slice x1 n1 c1) (.slice x2 n2 c2) ns (opn e 0) ∧ NA [] e 0 ns ∧ PosN e ns (posOf s.size (tokens s.data.toList)) s.size := by
 obtain ⟨ns, hna, hpg⟩ := prog_yes (len := s.size) hp
 have hps := prog_pos (placed := true) (len := s.size) hp (tokens_okU s.data.toList)
 rw [hpg] at hps
 have hpp := fun w => ParsePlaced_any s w (by omega)
 have HPG : Hid _ := hpg
 have HNA : Hid _ := And.intro hna hps
 clear hp hna hpg hps
 go_enter Tryz.func36, Tryz.ntmps36
 go_wp2_with fail
 refine (hpp _).mono ?_
 rintro v w1 ⟨hb, hv⟩
 have hr := kept1 hb
 have hlt := blk_lt hr
 have HB : Hid _ := below1 hb
 rcases hv with ⟨q', hq', _⟩ | ⟨_, nv, ov, rfl, hT⟩
 ·rw [HPG.out] at hq'; cases hq'
 ·rw [HPG.out] at hT
  simp only at hT
  obtain ⟨x1, c1, e1⟩ := slice_anyV hT.nd
  obtain ⟨x2, c2, e2⟩ := slice_anyV hT.op
  have HNN : Hid _ := own_neV hT.nd hr (by decide)
  have HNO : Hid _ := own_neV hT.op hr (by decide)
  subst e1
  subst e2
  have r0 : w1.cell? ⟨w.heap.size, 0, none⟩ = some (.slice none 0 0) := by rw [blk_cell hr]; rfl
  have r1 : w1.cell? ⟨w.heap.size, 1, none⟩ = some (.slice none 0 0) := by rw [blk_cell hr]; rfl
  have f0 := blk_free hr 0
  have f1 := blk_free hr 1
  have hW := blk_alloc (.cells #[.slice x1 ns.length c1, .slice x2 (opn e 0).length c2] 62) (blk_set (blk_set hr 0 (.slice x1 ns.length c1)) 1 (.slice x2 (opn e 0).length c2))
  have S0 : Hid ((((w1.setCell ⟨w.heap.size, 0, none⟩ (.slice x1 ns.length c1)).setCell ⟨w.heap.size, 1, none⟩ (.slice x2 (opn e 0).length c2)).alloc (.cells #[.slice x1 ns.length c1, .slice x2 (opn e 0).length c2] 62)).cell? ⟨w.heap.size, 0, none⟩ = some (.slice x1 ns.length c1)) := (blk_cell hW 0).trans rfl
  have S1 : Hid ((((w1.setCell ⟨w.heap.size, 0, none⟩ (.slice x1 ns.length c1)).setCell ⟨w.heap.size, 1, none⟩ (.slice x2 (opn e 0).length c2)).alloc (.cells #[.slice x1 ns.length c1, .slice x2 (opn e 0).length c2] 62)).cell? ⟨w.heap.size, 1, none⟩ = some (.slice x2 (opn e 0).length c2)) := (blk_cell hW 1).trans rfl
  have hTS : TreeIn ((w1.setCell ⟨w.heap.size, 0, none⟩ (.slice x1 ns.length c1)).setCell ⟨w.heap.size, 1, none⟩ (.slice x2 (opn e 0).length c2)) (.slice x1 ns.length c1) (.slice x2 (opn e 0).length c2) ns (opn e 0) := ⟨owns_blk hT.nd (fun k hk => by rw [blk_other _ _ (by simpa using HNN.out k hk), blk_other _ _ (by simpa using HNN.out k hk)]), owns_blk hT.op (fun k hk => by rw [blk_other _ _ (by simpa using HNO.out k hk), blk_other _ _ (by simpa using HNO.out k hk)])⟩
  have HTS : Hid _ := hTS.below ((Below.refl _ _).alloc (Nat.le_refl _) (.cells #[.slice x1 ns.length c1, .slice x2 (opn e 0).length c2] 62))
  have hne : w.heap.size ≠ w1.heap.size := by omega
  unfold treeV
  clear hT hb hr hpp hW hTS
  go_wp2
  refine bodyPost_ret (v := .tuple #[.agg #[.slice x1 ns.length c1, .slice x2 (opn e 0).length c2], .int .i64 0, .int .i64 0]) (by have s0 := S0.out; have s1 := S1.out; simp [results, Tryz.results36, go_sem, s0, s1]) rfl ⟨x1, ns.length, c1, x2, (opn e 0).length, c2, ns, rfl, ?_, HTS.out, HNA.out⟩
  exact ((HB.out.setCell (p := ⟨w.heap.size, 0, none⟩) (Nat.le_refl _) _).setCell (p := ⟨w.heap.size, 1, none⟩) (Nat.le_refl _) _).alloc (by have := HB.out.size; simp [World.setCell]; omega) _
set_option maxRecDepth 100000 in
set_option maxHeartbeats 4000000 in
theorem readPlaced_pos (s : ByteArray) (w : World) (hs : s.size ≤ 9000) (e : PT) (hp : PE true (tokens s.data.toList) e []) : Calls Tryz.prog 26 #[.string s] w fun v w' => ∃ x1 n1 c1 x2 n2 c2 ns, v = .returned (.tuple #[treeV (.slice x1 n1 c1) (.slice x2 n2 c2), .int .i64 (chkAns e).1, .int .i64 (chkAns e).2]) ∧ Below w.heap.size w w' ∧ TreeIn w' (.slice x1 n1 c1) (.slice x2 n2 c2) ns (opn e 0) ∧ NA [] e 0 ns ∧ PosN e ns (posOf s.size (tokens s.data.toList)) s.size := by
 have hcnt := Study_len hp
 have hpp := fun w => parsePlaced_pos s w hs e hp
 have hpr := fun (w : World) (nv ov : Value) (ns : List NR) (hna : NA [] e 0 ns) (h : TreeIn w nv ov ns (opn e 0)) => Program_any w nv ov ns (opn e 0) h (op_ok hna) (by have := hna.len; omega) (hna.small (fun _ h => by simp at h) (by omega)) (fun j n hj => by have := hna.back j n hj; simpa using this)
 unfold treeV at hpp
 have HPR : Hid _ := hpr
 have HPP : Hid _ := hpp
 clear hp hpr hpp
 obtain ⟨ans, hans⟩ : ∃ ans, ans = chkAns e := ⟨_, rfl⟩
 rw [← hans]
 have HANS : Hid _ := hans
 clear hans
 go_enter Tryz.func26, Tryz.ntmps26
 go_wp2_with fail
 refine (HPP.out _).mono ?_
 rintro _ w1 ⟨x1, n1, c1, x2, n2, c2, ns, rfl, hb, hT, hna⟩
 have hr := kept1 hb
 have hlt := blk_lt hr
 have HB : Hid _ := below1 hb
 have HR : Hid _ := hr
 have HNN : Hid _ := own_neV hT.nd hr (by decide)
 have HNO : Hid _ := own_neV hT.op hr (by decide)
 have hT1 := hT.below ((Below.refl _ w1).alloc (Nat.le_refl _) (.cells #[.slice x1 n1 c1, .slice x2 n2 c2] 62))
 have hpr := HPR.out (w1.alloc (.cells #[.slice x1 n1 c1, .slice x2 n2 c2] 62)) _ _ ns hna.1 hT1
 rw [prog_ans hna.1, ← HANS.out] at hpr
 have HNA : Hid _ := hna
 unfold treeV at hpr
 clear hT hb hr HPP HPR hna
 go_wp2_with fail
 refine hpr.mono ?_
 rintro _ w2 ⟨rfl, hb2⟩
 have HT2 : Hid _ := hT1.below hb2
 have hk := kept1 hb2
 have k0 : w2.cell? ⟨w1.heap.size, 0, none⟩ = some (.slice x1 n1 c1) := by rw [blk_cell hk]; rfl
 have k1 : w2.cell? ⟨w1.heap.size, 1, none⟩ = some (.slice x2 n2 c2) := by rw [blk_cell hk]; rfl
 have hr2 : w2.heap[w.heap.size]? = some (.cells #[.slice none 0 0, .slice none 0 0] 62 (0, 0)) := by
  rw [hb2.block _ (by simp; omega)]; exact blk_alloc _ HR.out
 have r0 : w2.cell? ⟨w.heap.size, 0, none⟩ = some (.slice none 0 0) := by rw [blk_cell hr2]; rfl
 have r1 : w2.cell? ⟨w.heap.size, 1, none⟩ = some (.slice none 0 0) := by rw [blk_cell hr2]; rfl
 have f0 := blk_free hr2 0
 have f1 := blk_free hr2 1
 have hB2 : Below w.heap.size w w2 := HB.out.trans ((below1 hb2).mono HB.out.size)
 have HB2 : Hid _ := hB2
 have hne : w.heap.size ≠ w1.heap.size := by omega
 clear hk hr2 hb2 hB2 hpr hT1
 go_wp2
 refine bodyPost_ret (v := .tuple #[.agg #[.slice x1 n1 c1, .slice x2 n2 c2], .int .i64 ans.1, .int .i64 ans.2]) (by simp [results, Tryz.results26, go_sem, r0, r1]) rfl ⟨x1, n1, c1, x2, n2, c2, ns, rfl, ?_, ⟨owns_blk HT2.out.nd (fun k hk => by rw [blk_other _ _ (by simpa using HNN.out k hk), blk_other _ _ (by simpa using HNN.out k hk)]), owns_blk HT2.out.op (fun k hk => by rw [blk_other _ _ (by simpa using HNO.out k hk), blk_other _ _ (by simpa using HNO.out k hk)])⟩, HNA.out⟩
 exact (HB2.out.setCell (p := ⟨w.heap.size, 0, none⟩) (Nat.le_refl _) _).setCell (p := ⟨w.heap.size, 1, none⟩) (Nat.le_refl _) _
set_option maxRecDepth 100000 in
set_option maxHeartbeats 4000000 in
theorem leaseVet_ok (s : ByteArray) (w : World) (e : PT) (y : Nat) (ans : Nat × Nat) (hrd : ∀ w, Calls Tryz.prog 26 #[.string s] w fun v w' => ∃ x1 n1 c1 x2 n2 c2 ns, v = .returned (.tuple #[treeV (.slice x1 n1 c1) (.slice x2 n2 c2), .int .i64 0, .int .i64 y]) ∧ Below w.heap.size w w' ∧ TreeIn w' (.slice x1 n1 c1) (.slice x2 n2 c2) ns (opn e 0) ∧ NA [] e 0 ns ∧ PosN e ns (posOf s.size (tokens s.data.toList)) s.size)
  (hrn : ∀ (w' : World) (x1 : Option Addr) (n1 c1 : Nat) (x2 : Option Addr) (n2 c2 : Nat) (ns : List NR), TreeIn w' (.slice x1 n1 c1) (.slice x2 n2 c2) ns (opn e 0) → NA [] e 0 ns ∧ PosN e ns (posOf s.size (tokens s.data.toList)) s.size → Calls Tryz.prog 27 #[treeV (.slice x1 n1 c1) (.slice x2 n2 c2)] w' fun v w'' => v = .returned (.tuple #[.int .i64 ans.1, .int .i64 ans.2]) ∧ Below w'.heap.size w' w'') :
  Calls Tryz.prog 12 #[.string s] w fun v w' => v = .returned (.tuple #[.int .i64 ans.1, .int .i64 ans.2]) ∧ Below w.heap.size w w' := by
 unfold treeV at hrd hrn
 have HR : Hid _ := hrd
 have HN : Hid _ := hrn
 clear hrd hrn
 go_enter Tryz.func12, Tryz.ntmps12
 go_wp2_with fail
 refine (HR.out _).mono ?_
 rintro _ w1 ⟨x1, n1, c1, x2, n2, c2, ns, rfl, hb, hT, hna⟩
 have hb2 : Below w1.heap.size w1 (w1.alloc (.cells #[.slice x1 n1 c1, .slice x2 n2 c2] 62)) := (Below.refl _ w1).alloc (Nat.le_refl _) _
 have HRN : Hid _ := HN.out _ x1 n1 c1 x2 n2 c2 ns (hT.below hb2) hna
 have HB2 : Hid _ := hb.trans (hb2.mono hb.size)
 clear hb hT hna hb2 HR HN
 go_wp2_with fail
 refine Calls.mono HRN.out ?_
 rintro _ w3 ⟨rfl, hb3⟩
 have HB3 : Hid _ := HB2.out.trans (hb3.mono HB2.out.size)
 clear hb3 HRN HB2
 go_wp2
 refine bodyPost_ret (v := .tuple #[.int .i64 ans.1, .int .i64 ans.2]) (by simp [results, Tryz.results12, go_sem]) rfl ⟨rfl, HB3.out⟩
end Go.Proofs.YtpicaknklgccoabGreatDoor
namespace Go.Proofs.YtpicaknklgccoabGreatDoor
mutual
theorem subs_nodup : ∀ (t : PT) (id site : Nat), ((t.subs id site).map (·.2.1)).Nodup
 | .num _ _, id, site => by simp [PT.subs]
 | .name _ _, id, site => by simp [PT.subs]
 | .node p k nm rg kids, id, site => by
  simp only [PT.subs, List.map_append, List.map_cons, List.map_nil]
  rw [List.nodup_append]
  refine ⟨subsL_nodup kids _ _, by simp, ?_⟩
  intro a ha b hb
  obtain ⟨x, hx, rfl⟩ := List.mem_map.1 ha
  have := subsL_ids kids _ _ x hx
  rw [List.mem_singleton] at hb
  omega
theorem subsL_nodup : ∀ (ts : List PT) (id site : Nat), ((subsL ts id site).map (·.2.1)).Nodup
 | [], _, _ => by simp [subsL]
 | t :: r, id, site => by
  simp only [subsL, List.map_append]
  rw [List.nodup_append]
  refine ⟨subs_nodup t _ _, subsL_nodup r _ _, ?_⟩
  intro a ha b hb
  obtain ⟨x, hx, rfl⟩ := List.mem_map.1 ha
  obtain ⟨y, hy, rfl⟩ := List.mem_map.1 hb
  have h1 := subs_ids t _ _ x hx
  have h2 := subsL_ids r _ _ y hy
  have := cnt_pos x.1
  omega
end
theorem recOf_id (x : PT × Nat × Nat) : (recOf x).id = x.2.1 := by obtain ⟨t, a, b⟩ := x; cases t <;> rfl
theorem recs_inj (t : PT) (id site : Nat) {i j : Nat} {r r' : Rec} (hi : (t.recs id site)[i]? = some r) (hj : (t.recs id site)[j]? = some r') (h : r.id = r'.id) : i = j := by
 have hn : ((t.recs id site).map (·.id)).Nodup := by
  rw [recs_subs, List.map_map]
  have : ((fun (r : Rec) => r.id) ∘ recOf) = (fun (x : PT × Nat × Nat) => x.2.1) := by funext x; exact recOf_id x
  rw [this]; exact subs_nodup t id site
 have li := (List.getElem?_eq_some_iff.1 hi).1
 have lj := (List.getElem?_eq_some_iff.1 hj).1
 have ei : ((t.recs id site).map (·.id))[i]'(by simpa using li) = r.id := by
  rw [List.getElem_map]; rw [List.getElem?_eq_getElem li] at hi; rw [Option.some.inj hi]
 have ej : ((t.recs id site).map (·.id))[j]'(by simpa using lj) = r'.id := by
  rw [List.getElem_map]; rw [List.getElem?_eq_getElem lj] at hj; rw [Option.some.inj hj]
 have hp := List.pairwise_iff_getElem.1 hn
 rcases Nat.lt_trichotomy i j with hij | hij | hij
 ·exact absurd (by rw [ei, ej, h]) (hp i j (by simpa using li) (by simpa using lj) hij)
 ·exact hij
 ·exact absurd (by rw [ei, ej, h]) (hp j i (by simpa using lj) (by simpa using li) hij)
theorem opNs_get {ns : List NR} {op : List Int} {k j : Nat} {n : NR} (h1 : op[k]? = some (j : Int)) (h2 : ns[j]? = some n) : (opNs ns op)[k]? = some n := by
 unfold opNs
 rw [List.getElem?_map, h1]
 simp [h2]
theorem zip_mem {rl : List Rec} {ns : List NR} {j : Nat} {r : Rec} {n : NR} (h1 : rl[j]? = some r) (h2 : ns[j]? = some n) : (r, n) ∈ rl.zip ns :=
 List.mem_of_getElem? (i := j) (by rw [List.getElem?_zip_eq_some]; exact ⟨h1, h2⟩)
theorem mem_zip_at {rl : List Rec} {ns : List NR} {z : Rec × NR} (h : z ∈ rl.zip ns) : ∃ j : Nat, rl[j]? = some z.1 ∧ ns[j]? = some z.2 := by
 obtain ⟨j, hj⟩ := List.getElem?_of_mem h
 exact ⟨j, List.getElem?_zip_eq_some.1 hj⟩
theorem al_of {e : PT} {ns : List NR} {lo hi : Nat} (hna : NA [] e 0 ns) (hpos : PosN e ns lo hi) : Al (e.recs 0 0) ns (opNs ns (opn e 0)) := by
 have hl := hna.len
 have hrl := recs_len e 0 0
 have hg := (hpos.good 0 0).2
 refine ⟨?_, ?_, ?_, hna.bri 0 0, hg.b⟩
 ·intro z hz
  obtain ⟨j, h1, h2⟩ := mem_zip_at hz
  have hb := hg.a z hz
  obtain ⟨j', r, g1, g2, g3⟩ := opn_ids e 0 0 0 z.1.id (by omega)
  have : j' = j := recs_inj e 0 0 g2 h1 (by omega)
  subst this
  rw [Nat.zero_add] at g1
  exact opNs_get g1 h2
 ·intro r hr
  obtain ⟨j, hj⟩ := List.getElem?_of_mem hr
  have hlt := (List.getElem?_eq_some_iff.1 hj).1
  exact ⟨_, zip_mem hj (List.getElem?_eq_getElem (by omega))⟩
 ·intro k n hk
  have hlt := (List.getElem?_eq_some_iff.1 hk).1
  rw [opNs_len, (op_ok hna).1] at hlt
  obtain ⟨j, r, g1, g2, g3⟩ := opn_ids e 0 0 0 k (by omega)
  rw [Nat.zero_add] at g1 g3
  have hjl := (List.getElem?_eq_some_iff.1 g2).1
  have hn : ns[j]? = some ns[j] := List.getElem?_eq_getElem (by omega)
  have := opNs_get g1 hn
  rw [hk] at this
  refine ⟨r, ?_, g3⟩
  rw [Option.some.inj this]
  exact zip_mem g2 hn
theorem vet_eq {e : PT} {ns : List NR} {lo hi : Nat} {TY : List Ty} (hna : NA [] e 0 ns) (hpos : PosN e ns lo hi) (ht : plT [] ns = vetL TY (e.subs 0 0)) : vetAns ns (opn e 0) = vetAnsR e TY := by
 have h := scopes_eq (al_of hna hpos)
 unfold vetAns vetAnsR
 rw [← h, ht]
 generalize newsK (opNs ns (opn e 0)) [] = N
 generalize outK N.1 (opNs ns (opn e 0)) = O
 by_cases h1 : N.2.1 ≠ 0
 ·rw [if_pos h1, if_pos h1, if_pos h1]
 ·rw [if_neg h1, if_neg h1]
end Go.Proofs.YtpicaknklgccoabGreatDoor
