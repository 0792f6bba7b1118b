import Derived.Test.YtpicaknklgccoabGreatDoorX14
import Derived.Test.YtpicaknklgccoabGreatDoorX13
import Derived.Test.YtpicaknklgccoabGreatDoorX1
namespace Go.Proofs.YtpicaknklgccoabGreatDoor
open Go.RowKit
set_option maxRecDepth 100000 in
set_option maxHeartbeats 16000000 in
theorem placedTypes_any (w : World) (nv ov : Value) (ns : List NR) (op : List Int) (h : TreeIn w nv ov ns op) (ho : OpOk ns op) (hl : ns.length ≤ 9000) (hsm : ∀ n ∈ ns, n.small) (hrg : ∀ n ∈ ns, 0 ≤ n.region) (hsz : SzOk [] ns) :
  Calls Tryz.prog 47 #[treeV nv ov] w fun v w' => v = .returned (.tuple #[.int .i64 (plT [] ns).1, .int .i64 (plT [] ns).2]) ∧ Below w.heap.size w w' := by
 have hlen := fun (w' : World) (hb : Below w.heap.size w w') => Len_any w' nv ov ns op (h.below hb)
 have hnod := fun (w' : World) (hb : Below w.heap.size w w') (k : Nat) (n : NR) (hk : ns[k]? = some n) => Node_in' w' nv ov ns op (h.below hb) k n hk hl
 obtain ⟨a0, cap0, e0⟩ := slice_any h.nd
 obtain ⟨a1, cap1, e1⟩ := slice_any h.op
 rw [ho.1] at e1
 obtain ⟨m, hm⟩ : ∃ m, m = ns.length := ⟨_, rfl⟩
 rw [← hm] at e0 e1 hl
 subst e0
 subst e1
 unfold treeV at hlen hnod
 unfold treeV
 unfold nrVal at hnod
 rw [← hm] at hlen
 have HLEN : Hid _ := hlen
 have HNOD : Hid _ := hnod
 have HM : Hid _ := hm
 have HSM : Hid _ := hsm
 have HRG : Hid _ := hrg
 have HSZ : Hid _ := hsz
 obtain ⟨ans, hans⟩ : ∃ ans, ans = plT [] ns := ⟨_, rfl⟩
 rw [← hans]
 have HA : Hid _ := hans
 clear hlen hnod ho h hm hans hsm hrg hsz
 have hBx : Below w.heap.size w (w.alloc (.cells #[.slice a0 m cap0, .slice a1 m cap1] 62)) := (Below.refl _ w).alloc (Nat.le_refl _) _
 have HBX : Hid _ := hBx
 clear hBx
 obtain ⟨wb, hwb⟩ : ∃ wb, wb = w.alloc (.cells #[.slice a0 m cap0, .slice a1 m cap1] 62) := ⟨_, rfl⟩
 have HBB : Hid (∀ wr, Below wb.heap.size wb wr → wr.cell? ⟨w.heap.size, 0, none⟩ = some (.slice a0 m cap0) ∧ wr.cell? ⟨w.heap.size, 1, none⟩ = some (.slice a1 m cap1) ∧ w.heap.size < wr.heap.size) := by
  intro wr hb
  rw [hwb] at hb
  exact box_cells hb
 have HBW : Hid (Below w.heap.size w wb) := by rw [hwb]; exact HBX.out
 have HC0 : Hid (CIn wb.heap.size (wb.alloc (.cells #[.slice none 0 0, .slice none 0 0] 104)) (.slice none 0 0) (.slice none 0 0) [] []) := ⟨blk_new _ _, World.ownsRow_nil _ _ _ _, World.ownsRow_nil _ _ _ _, by simp [Value.ownBlock], by simp [Value.ownBlock], fun g hg => by simp [Value.ownBlock] at hg⟩
 have hws : w.heap.size ≤ wb.heap.size := HBW.out.size
 have HWB : Hid _ := hwb
 clear hwb HBX
 go_enter Tryz.func47, Tryz.ntmps47
 go_wp2
 rw [← HWB.out]
 have hsz1 : w.heap.size + 1 = wb.heap.size := by rw [HWB.out]; simp
 rw [hsz1]
 clear hsz1 HWB
 go_loopw [5, 6, 7] (fun i _ _ wr => ∃ k : Nat, k ≤ m ∧ i = .int .i64 k ∧ ∃ pv tv tb D K T, CIn wb.heap.size wr pv tv tb K ∧ Rel tb D K T ∧ K.length = k ∧ tb.length ≤ k ∧ plT [] ns = plT T (ns.drop k) ∧ SzOk T (ns.drop k) ∧ Below wb.heap.size wb wr ∧ wb.heap.size < wr.heap.size ∧ (∀ g, pv.ownBlock = some g → wb.heap.size ≤ g) ∧ (∀ g, tv.ownBlock = some g → wb.heap.size ≤ g)) (fun i _ _ _ => m - (intOf i).toNat)
 case atStart => exact ⟨0, by omega, rfl, _, _, [], [], [], [], HC0.out, rel0, rfl, by simp, by simp, HSZ.out, (Below.refl _ wb).alloc (Nat.le_refl _) _, by simp, by simp [Value.ownBlock], by simp [Value.ownBlock]⟩
 case round =>
  obtain ⟨k, hk, rfl, pv, tv, tb, D, K, T, hC, hRel, hKl, htl, hck, hso, hbr, hbs, hpb, htb⟩ := hrel
  have hbw2 : Below w.heap.size w wr := HBW.out.trans (hbr.mono hws)
  obtain ⟨x0, x1, xl⟩ := HBB.out _ hbr
  have hln := HLEN.out wr hbw2
  have hrs := hbr.size
  by_cases hlt : k < m
  ·have hkl : k < ns.length := by have := HM.out; omega
   obtain ⟨n, hn⟩ : ∃ n, ns[k]? = some n := ⟨ns[k], List.getElem?_eq_getElem hkl⟩
   have hnsm := HSM.out n (List.mem_of_getElem? hn)
   have hnrg := HRG.out n (List.mem_of_getElem? hn)
   have hdr : ns.drop k = n :: ns.drop (k + 1) := by
    rw [List.drop_eq_getElem_cons hkl]; rw [List.getElem?_eq_getElem hkl] at hn; simp only [Option.some.injEq] at hn; rw [hn]
   rw [hdr] at hck hso
   simp only [plT] at hck
   simp only [SzOk] at hso
   obtain ⟨r, hr⟩ : ∃ r, r = n.region.toNat := ⟨_, rfl⟩
   obtain ⟨D', hRel'⟩ := stepR hRel n hso.1
   rw [← hr] at hRel'
   have hok : TOk tb K n := ⟨by omega, by omega, fun i => by have := (hRel.known i).2.1; omega, fun j => by have := hRel.sz_le j; omega, ⟨by have := hnsm.1; omega, by have := hnsm.1; omega⟩, ⟨by have := hnsm.2.1; omega, by have := hnsm.2.1; omega⟩, ⟨by have := hnsm.2.2.1; omega, by have := hnsm.2.2.1; omega⟩, ⟨by have := hnsm.2.2.2; omega, by have := hnsm.2.2.2; omega⟩⟩
   have hpl := pairF_len tb r (knownK K n.p0) (knownK K n.p1)
   have htl2 : (tyK tb K n r).2.length ≤ k + 1 := by
    unfold tyK
    repeat' split
    all_goals first | (simp only; omega) | omega
   have hvf := vfK_eq hRel' n
   have hkn := (hRel'.known n.p0).2.1
   have hlow := hRel'.low
   have hty := fun (w' : World) (hb : Below wr.heap.size wr w') => Add_any w' wb.heap.size pv tv tb K n n.region r (fun _ => by omega) (hC.below hb) hok
   have hfa := fun (w' : World) (pv' tv' : Value) (hC' : CIn wb.heap.size w' pv' tv' (tyK tb K n r).2 (K ++ [(tyK tb K n r).1])) => vfaultOf_any w' wb.heap.size pv' tv' (tyK tb K n r).2 (K ++ [(tyK tb K n r).1]) n hC' hlow (by omega) (by simp; omega) hkn hok.p0 hok.p1 hok.p2
   rw [hvf] at hfa
   generalize vfT (T ++ [tyR T n]) n = F at *
   unfold ptr nrVal at hty hfa
   have HTY : Hid _ := hty
   have HFA : Hid _ := hfa
   have HN : Hid _ := hn
   have HCK : Hid _ := hck
   have HSO : Hid _ := hso.2
   have HRL : Hid _ := hRel'
   have HBR : Hid _ := hbr
   have HC : Hid _ := hC
   have HPB : Hid _ := hpb
   have HTB : Hid _ := htb
   have HKL : Hid _ := hKl
   have HTL : Hid _ := htl2
   clear hn hnsm hnrg hdr hck hso hok hty hRel hRel' hC hbr hpb htb hkl hKl htl hfa htl2 hpl hvf hkn hlow hr
   go_wp2_with fail
   refine hln.mono ?_
   rintro _ w1 ⟨rfl, hb1⟩
   obtain ⟨d0, d1, dl⟩ := HBB.out _ (HBR.out.trans (hb1.mono hrs))
   have hno := HNOD.out w1 (HBW.out.trans ((HBR.out.trans (hb1.mono hrs)).mono hws)) k n HN.out
   have HB1 : Hid _ := hb1
   clear hb1 hln x0 x1
   go_wp2_with fail
   refine hno.mono ?_
   rintro _ w2 ⟨rfl, hb2⟩
   have hr2 : Below wr.heap.size wr w2 := HB1.out.trans (hb2.mono HB1.out.size)
   have hr3 := hr2.alloc hr2.size (nrO n)
   have hty := HTY.out _ hr3
   have HR3 : Hid _ := hr3
   have hr2s := hr2.size
   clear hb2 hr2 hno d0 d1 hr3 HTY
   unfold nrO nrC at hty
   go_wp2_with fail
   refine hty.mono ?_
   rintro _ w3 ⟨rfl, pv3, tv3, hfr3, hC3⟩
   have hnb : w3.heap[w2.heap.size]? = some (nrO n) := by
    rw [hfr3.blk w2.heap.size (by simp) (by omega) (fun e => by have := (HC.out.lt.1 _ e); omega) (fun e => by have := (HC.out.lt.2.1 _ e); omega)]
    exact blk_new _ _
   have hB3 : Below wb.heap.size wb (w2.alloc (nrO n)) := HBR.out.trans (HR3.out.mono hrs)
   obtain ⟨g1, g2, g3⟩ := hfr3.toBelow hB3 (Nat.le_refl _) (by simp; omega) HPB.out HTB.out
   have hw3s := hfr3.size
   have hw3b : wb.heap.size < w3.heap.size := by simp at hw3s; omega
   have hfa := HFA.out w3 pv3 tv3 hC3
   obtain ⟨d0, d1, d2, d3, d4, d5, d6, d7, d8, d9⟩ := nr_cells10 hnb
   have hnl := blk_lt hnb
   have HC3 : Hid _ := hC3
   have HG1 : Hid _ := g1
   have HG2 : Hid _ := g2
   have HG3 : Hid _ := g3
   have HNB : Hid _ := hnb
   clear hfr3 hC3 hnb hB3 g1 g2 g3 hty HR3 HFA
   go_wp2_with fail
   refine hfa.mono ?_
   rintro _ w4 ⟨rfl, hb4⟩
   have c1 : w4.cell? ⟨w2.heap.size, 1, none⟩ = some (.int .i64 n.at_) := by rw [hb4.cell (p := ⟨w2.heap.size, 1, none⟩) hnl]; exact d1
   have HB4 : Hid _ := hb4
   have hw4s := hb4.size
   clear hb4 hfa d0 d1 d2 d3 d4 d5 d6 d7 d8 d9
   by_cases hf : F = 0
   ·have q2 : ((F : Int) != 0) = false := by simp; omega
    have hck := HCK.out
    rw [if_neg (by omega)] at hck
    have HC4 : Hid _ := HC3.out.below HB4.out
    have HCK2 : Hid _ := hck
    clear hf hck HC3
    go_wp2
    go_roundw
    case rel => exact ⟨k + 1, by omega, by go_num, pv3, tv3, _, D', _, _, HC4.out, HRL.out, by simp [HKL.out], HTL.out, HCK2.out, HSO.out, HG1.out.trans (HB4.out.mono (by omega)), by omega, HG2.out, HG3.out⟩
    case measure => simp [intOf]; omega
   ·have q2 : ((F : Int) != 0) = true := by simp; omega
    have hck := HCK.out
    rw [if_pos hf] at hck
    have HAA : Hid (ans = (F, n.at_)) := by rw [HA.out]; exact hck
    clear hf hck
    go_wp2
    go_quiet (fail)
    go_wp2
    refine bodyPost_ret (v := .tuple #[.int .i64 F, .int .i64 n.at_]) (by simp [results, Tryz.results47, go_sem]) rfl ⟨by rw [HAA.out], ?_⟩
    exact (HBW.out.trans ((HG1.out.trans (HB4.out.mono (by omega))).mono hws)).trans ⟨rfl, rfl, rfl, Nat.le_refl _, fun _ _ => rfl⟩
  ·have HAA : Hid (ans = (0, 0)) := by
    have hd : ns.drop k = [] := List.drop_eq_nil_of_le (by have := HM.out; omega)
    rw [hd] at hck
    rw [HA.out, hck]; exact rfl
   have HBR : Hid _ := hbr
   clear hbr hC hRel hck hpb htb hso
   go_wp2_with fail
   refine hln.mono ?_
   rintro _ w1 ⟨rfl, hb1⟩
   have HB1 : Hid _ := HBW.out.trans ((HBR.out.trans (hb1.mono hrs)).mono hws)
   clear hb1 hln
   go_wp2
   refine bodyPost_ret (v := .tuple #[.int .i64 0, .int .i64 0]) (by simp [results, Tryz.results47, go_sem]) rfl ⟨by rw [HAA.out]; rfl, HB1.out⟩
def vetAns (ns : List NR) (op : List Int) : Nat × Nat :=
 if (newsK (opNs ns op) []).2.1 ≠ 0 then (newsK (opNs ns op) []).2
 else if (outK (newsK (opNs ns op) []).1 (opNs ns op)).1 ≠ 0 then outK (newsK (opNs ns op) []).1 (opNs ns op)
 else plT [] ns
theorem newsK_len : ∀ (l acc : List NR), (newsK l acc).1.length ≤ acc.length + l.length
 | [], acc => by simp [newsK]
 | n :: r, acc => by
  simp only [newsK, List.length_cons]
  split
  ·split
   ·simp only; omega
   ·have := newsK_len r (acc ++ [n]); simp at this; omega
  ·have := newsK_len r acc; omega
set_option maxRecDepth 100000 in
set_option maxHeartbeats 16000000 in
theorem vetProgram_any (w : World) (nv ov : Value) (ns : List NR) (op : List Int) (h : TreeIn w nv ov ns op) (ho : OpOk ns op) (hl : ns.length ≤ 9000) (hsm : ∀ n ∈ ns, n.small) (hrg : ∀ n ∈ ns, 0 ≤ n.region) (hsz : SzOk [] ns) :
  Calls Tryz.prog 27 #[treeV nv ov] w fun v w' => v = .returned (.tuple #[.int .i64 (vetAns ns op).1, .int .i64 (vetAns ns op).2]) ∧ Below w.heap.size w w' := by
 have hne := fun (w' : World) (hb : Below w.heap.size w w') => newsOf_any w' nv ov ns op (h.below hb) ho hl
 have hol : (newsK (opNs ns op) []).1.length ≤ 9000 := by
  have := newsK_len (opNs ns op) []
  rw [opNs_len, ho.1] at this
  simp at this; omega
 have hou := fun (w' : World) (hb : Below w.heap.size w w') (vv : Value) (base : Nat) (hown : w'.ownsRow base 108 10 vv (newsK (opNs ns op) []).1.length ((newsK (opNs ns op) []).1.flatMap nrL)) => outside_any w' nv ov vv ns op _ base (h.below hb) ho hl hown hol
 have hpl := fun (w' : World) (hb : Below w.heap.size w w') => placedTypes_any w' nv ov ns op (h.below hb) ho hl hsm hrg hsz
 obtain ⟨a0, cap0, e0⟩ := slice_any h.nd
 obtain ⟨a1, cap1, e1⟩ := slice_any h.op
 rw [ho.1] at e1
 obtain ⟨m, hm⟩ : ∃ m, m = ns.length := ⟨_, rfl⟩
 rw [← hm] at e0 e1 hl
 subst e0
 subst e1
 obtain ⟨ans, hans⟩ : ∃ ans, ans = vetAns ns op := ⟨_, rfl⟩
 rw [← hans]
 unfold vetAns at hans
 have HA : Hid _ := hans
 unfold treeV at hne hou hpl
 unfold treeV
 have HNE : Hid _ := hne
 have HOU : Hid _ := hou
 have HPL : Hid _ := hpl
 have HBX : Hid (Below w.heap.size w (w.alloc (.cells #[.slice a0 m cap0, .slice a1 m cap1] 62))) := (Below.refl _ w).alloc (Nat.le_refl _) _
 clear hne hou hpl ho h hm hans hsm hrg hsz hol
 generalize newsK (opNs ns op) [] = N at *
 generalize outK N.1 (opNs ns op) = O at *
 generalize plT [] ns = P at *
 go_enter Tryz.func27, Tryz.ntmps27
 go_wp2_with fail
 refine (HNE.out _ HBX.out).mono ?_
 rintro _ w1 ⟨vv, rfl, hown1, hb1⟩
 obtain ⟨b0, b1, bl⟩ := box_cells hb1
 have hB1 := HBX.out.trans (hb1.mono (by simp))
 have hou := HOU.out w1 hB1 vv _ hown1
 have HB1 : Hid _ := hB1
 have HBB1 : Hid _ := hb1
 clear hb1 hB1 hown1
 by_cases h1 : N.2.1 = 0
 ·have q1 : ((N.2.1 : Int) != 0) = false := by rw [h1]; rfl
  have HA2 : Hid (ans = if O.1 ≠ 0 then O else P) := (show ans = _ by rw [HA.out, if_neg (by omega)])
  clear HA h1
  go_wp2_with fail
  refine hou.mono ?_
  rintro _ w2 ⟨rfl, hb2⟩
  have hbb2 := HBB1.out.trans (hb2.mono HBB1.out.size)
  obtain ⟨c0, c1, cl⟩ := box_cells hbb2
  have hB2 := HB1.out.trans (hb2.mono HB1.out.size)
  have hpl := HPL.out w2 hB2
  have HB2 : Hid _ := hB2
  clear hb2 hbb2 hB2 hou b0 b1
  by_cases h2 : O.1 = 0
  ·have q2 : ((O.1 : Int) != 0) = false := by rw [h2]; rfl
   have HA3 : Hid (ans = P) := (show ans = _ by rw [HA2.out, if_neg (by omega)])
   clear HA2 h2
   go_wp2_with fail
   refine hpl.mono ?_
   rintro _ w3 ⟨rfl, hb3⟩
   have HB3 : Hid _ := HB2.out.trans (hb3.mono HB2.out.size)
   clear hb3 hpl
   go_wp2
   refine bodyPost_ret (v := .tuple #[.int .i64 P.1, .int .i64 P.2]) (by simp [results, Tryz.results27, go_sem]) rfl ⟨by rw [HA3.out], HB3.out⟩
  ·have q2 : ((O.1 : Int) != 0) = true := by simp; omega
   have HA3 : Hid (ans = O) := (show ans = _ by rw [HA2.out, if_pos h2])
   clear HA2 h2 hpl
   go_wp2
   refine bodyPost_ret (v := .tuple #[.int .i64 O.1, .int .i64 O.2]) (by simp [results, Tryz.results27, go_sem]) rfl ⟨by rw [HA3.out], HB2.out⟩
 ·have q1 : ((N.2.1 : Int) != 0) = true := by simp; omega
  have HA2 : Hid (ans = N.2) := (show ans = _ by rw [HA.out, if_pos h1])
  clear HA h1 hou
  go_wp2
  refine bodyPost_ret (v := .tuple #[.int .i64 N.2.1, .int .i64 N.2.2]) (by simp [results, Tryz.results27, go_sem]) rfl ⟨by rw [HA2.out], HB1.out⟩
theorem slice_anyV {w : World} {base : Nat} {e : TypeId} {size : Nat} {v : Value} {n : Nat} {xs : List Value} (h : w.ownsRow base e size v n xs) : ∃ a c, v = .slice a n c := by
 rcases h.2 with ⟨h1, h2⟩ | ⟨g, cap, cur, h1, _⟩
 ·exact ⟨none, 0, by rw [h1, h2]⟩
 ·exact ⟨_, _, h1⟩
theorem own_neV {w : World} {base : Nat} {e : TypeId} {size : Nat} {v : Value} {n : Nat} {xs : List Value} (h : w.ownsRow base e size v n xs) {b : Nat} {arr : Array Value} {t : TypeId} {fr : Nat × Nat} (hb : w.heap[b]? = some (.cells arr t fr)) (ht : t ≠ e) : ∀ k, v.ownBlock = some k → k ≠ b := by
 intro k hk hkb
 rcases h.2 with ⟨h1, _⟩ | ⟨g, cap, cur, h1, _, hh, _⟩
 ·rw [h1] at hk; simp [Value.ownBlock] at hk
 ·rw [h1] at hk
  simp [Value.ownBlock] at hk
  rw [hk, hkb, hb] at hh
  simp only [Option.some.injEq, Obj.cells.injEq] at hh
  exact ht hh.2.1
set_option maxRecDepth 100000 in
set_option maxHeartbeats 4000000 in
theorem parsePlaced_pos (s : ByteArray) (w : World) (hs : s.size ≤ 9000) (e : PT) (hp : PE true (tokens s.data.toList) e []) : Calls Tryz.prog 36 #[.string s] w fun v w' => ∃ x1 n1 c1 x2 n2 c2 ns, v = .returned (.tuple #[treeV (.slice x1 n1 c1) (.slice x2 n2 c2), .int .i64 0, .int .i64 0]) ∧ Below w.heap.size w w' ∧ TreeIn w' (.slice x1 n1 c1) (.slice x2 n2 c2) ns (opn e 0) ∧ NA [] e 0 ns ∧ PosN e ns (posOf s.size (tokens s.data.toList)) s.size := by
 obtain ⟨ns, hna, hpg⟩ := prog_yes (len := s.size) hp
 have hps := prog_pos (placed := true) (len := s.size) hp (tokens_okU s.data.toList)
 rw [hpg] at hps
 have hpp := fun w => ParsePlaced_any s w (by omega)
 have HPG : Hid _ := hpg
 have HNA : Hid _ := And.intro hna hps
 clear hp hna hpg hps
 go_enter Tryz.func36, Tryz.ntmps36
 go_wp2_with fail
 refine (hpp _).mono ?_
 rintro v w1 ⟨hb, hv⟩
 have hr := kept1 hb
 have hlt := blk_lt hr
 have HB : Hid _ := below1 hb
 rcases hv with ⟨q', hq', _⟩ | ⟨_, nv, ov, rfl, hT⟩
 ·rw [HPG.out] at hq'; cases hq'
 ·rw [HPG.out] at hT
  simp only at hT
  obtain ⟨x1, c1, e1⟩ := slice_anyV hT.nd
  obtain ⟨x2, c2, e2⟩ := slice_anyV hT.op
  have HNN : Hid _ := own_neV hT.nd hr (by decide)
  have HNO : Hid _ := own_neV hT.op hr (by decide)
  subst e1
  subst e2
  have r0 : w1.cell? ⟨w.heap.size, 0, none⟩ = some (.slice none 0 0) := by rw [blk_cell hr]; rfl
  have r1 : w1.cell? ⟨w.heap.size, 1, none⟩ = some (.slice none 0 0) := by rw [blk_cell hr]; rfl
  have f0 := blk_free hr 0
  have f1 := blk_free hr 1
  have hW := blk_alloc (.cells #[.slice x1 ns.length c1, .slice x2 (opn e 0).length c2] 62) (blk_set (blk_set hr 0 (.slice x1 ns.length c1)) 1 (.slice x2 (opn e 0).length c2))
  have S0 : Hid ((((w1.setCell ⟨w.heap.size, 0, none⟩ (.slice x1 ns.length c1)).setCell ⟨w.heap.size, 1, none⟩ (.slice x2 (opn e 0).length c2)).alloc (.cells #[.slice x1 ns.length c1, .slice x2 (opn e 0).length c2] 62)).cell? ⟨w.heap.size, 0, none⟩ = some (.slice x1 ns.length c1)) := (blk_cell hW 0).trans rfl
  have S1 : Hid ((((w1.setCell ⟨w.heap.size, 0, none⟩ (.slice x1 ns.length c1)).setCell ⟨w.heap.size, 1, none⟩ (.slice x2 (opn e 0).length c2)).alloc (.cells #[.slice x1 ns.length c1, .slice x2 (opn e 0).length c2] 62)).cell? ⟨w.heap.size, 1, none⟩ = some (.slice x2 (opn e 0).length c2)) := (blk_cell hW 1).trans rfl
  have hTS : TreeIn ((w1.setCell ⟨w.heap.size, 0, none⟩ (.slice x1 ns.length c1)).setCell ⟨w.heap.size, 1, none⟩ (.slice x2 (opn e 0).length c2)) (.slice x1 ns.length c1) (.slice x2 (opn e 0).length c2) ns (opn e 0) := ⟨owns_blk hT.nd (fun k hk => by rw [blk_other _ _ (by simpa using HNN.out k hk), blk_other _ _ (by simpa using HNN.out k hk)]), owns_blk hT.op (fun k hk => by rw [blk_other _ _ (by simpa using HNO.out k hk), blk_other _ _ (by simpa using HNO.out k hk)])⟩
  have HTS : Hid _ := hTS.below ((Below.refl _ _).alloc (Nat.le_refl _) (.cells #[.slice x1 ns.length c1, .slice x2 (opn e 0).length c2] 62))
  have hne : w.heap.size ≠ w1.heap.size := by omega
  unfold treeV
  clear hT hb hr hpp hW hTS
  go_wp2
  refine bodyPost_ret (v := .tuple #[.agg #[.slice x1 ns.length c1, .slice x2 (opn e 0).length c2], .int .i64 0, .int .i64 0]) (by have s0 := S0.out; have s1 := S1.out; simp [results, Tryz.results36, go_sem, s0, s1]) rfl ⟨x1, ns.length, c1, x2, (opn e 0).length, c2, ns, rfl, ?_, HTS.out, HNA.out⟩
  exact ((HB.out.setCell (p := ⟨w.heap.size, 0, none⟩) (Nat.le_refl _) _).setCell (p := ⟨w.heap.size, 1, none⟩) (Nat.le_refl _) _).alloc (by have := HB.out.size; simp [World.setCell]; omega) _
set_option maxRecDepth 100000 in
set_option maxHeartbeats 4000000 in
theorem readPlaced_pos (s : ByteArray) (w : World) (hs : s.size ≤ 9000) (e : PT) (hp : PE true (tokens s.data.toList) e []) : Calls Tryz.prog 26 #[.string s] w fun v w' => ∃ x1 n1 c1 x2 n2 c2 ns, v = .returned (.tuple #[treeV (.slice x1 n1 c1) (.slice x2 n2 c2), .int .i64 (chkAns e).1, .int .i64 (chkAns e).2]) ∧ Below w.heap.size w w' ∧ TreeIn w' (.slice x1 n1 c1) (.slice x2 n2 c2) ns (opn e 0) ∧ NA [] e 0 ns ∧ PosN e ns (posOf s.size (tokens s.data.toList)) s.size := by
 have hcnt := Study_len hp
 have hpp := fun w => parsePlaced_pos s w hs e hp
 have hpr := fun (w : World) (nv ov : Value) (ns : List NR) (hna : NA [] e 0 ns) (h : TreeIn w nv ov ns (opn e 0)) => Program_any w nv ov ns (opn e 0) h (op_ok hna) (by have := hna.len; omega) (hna.small (fun _ h => by simp at h) (by omega)) (fun j n hj => by have := hna.back j n hj; simpa using this)
 unfold treeV at hpp
 have HPR : Hid _ := hpr
 have HPP : Hid _ := hpp
 clear hp hpr hpp
 obtain ⟨ans, hans⟩ : ∃ ans, ans = chkAns e := ⟨_, rfl⟩
 rw [← hans]
 have HANS : Hid _ := hans
 clear hans
 go_enter Tryz.func26, Tryz.ntmps26
 go_wp2_with fail
 refine (HPP.out _).mono ?_
 rintro _ w1 ⟨x1, n1, c1, x2, n2, c2, ns, rfl, hb, hT, hna⟩
 have hr := kept1 hb
 have hlt := blk_lt hr
 have HB : Hid _ := below1 hb
 have HR : Hid _ := hr
 have HNN : Hid _ := own_neV hT.nd hr (by decide)
 have HNO : Hid _ := own_neV hT.op hr (by decide)
 have hT1 := hT.below ((Below.refl _ w1).alloc (Nat.le_refl _) (.cells #[.slice x1 n1 c1, .slice x2 n2 c2] 62))
 have hpr := HPR.out (w1.alloc (.cells #[.slice x1 n1 c1, .slice x2 n2 c2] 62)) _ _ ns hna.1 hT1
 rw [prog_ans hna.1, ← HANS.out] at hpr
 have HNA : Hid _ := hna
 unfold treeV at hpr
 clear hT hb hr HPP HPR hna
 go_wp2_with fail
 refine hpr.mono ?_
 rintro _ w2 ⟨rfl, hb2⟩
 have HT2 : Hid _ := hT1.below hb2
 have hk := kept1 hb2
 have k0 : w2.cell? ⟨w1.heap.size, 0, none⟩ = some (.slice x1 n1 c1) := by rw [blk_cell hk]; rfl
 have k1 : w2.cell? ⟨w1.heap.size, 1, none⟩ = some (.slice x2 n2 c2) := by rw [blk_cell hk]; rfl
 have hr2 : w2.heap[w.heap.size]? = some (.cells #[.slice none 0 0, .slice none 0 0] 62 (0, 0)) := by
  rw [hb2.block _ (by simp; omega)]; exact blk_alloc _ HR.out
 have r0 : w2.cell? ⟨w.heap.size, 0, none⟩ = some (.slice none 0 0) := by rw [blk_cell hr2]; rfl
 have r1 : w2.cell? ⟨w.heap.size, 1, none⟩ = some (.slice none 0 0) := by rw [blk_cell hr2]; rfl
 have f0 := blk_free hr2 0
 have f1 := blk_free hr2 1
 have hB2 : Below w.heap.size w w2 := HB.out.trans ((below1 hb2).mono HB.out.size)
 have HB2 : Hid _ := hB2
 have hne : w.heap.size ≠ w1.heap.size := by omega
 clear hk hr2 hb2 hB2 hpr hT1
 go_wp2
 refine bodyPost_ret (v := .tuple #[.agg #[.slice x1 n1 c1, .slice x2 n2 c2], .int .i64 ans.1, .int .i64 ans.2]) (by simp [results, Tryz.results26, go_sem, r0, r1]) rfl ⟨x1, n1, c1, x2, n2, c2, ns, rfl, ?_, ⟨owns_blk HT2.out.nd (fun k hk => by rw [blk_other _ _ (by simpa using HNN.out k hk), blk_other _ _ (by simpa using HNN.out k hk)]), owns_blk HT2.out.op (fun k hk => by rw [blk_other _ _ (by simpa using HNO.out k hk), blk_other _ _ (by simpa using HNO.out k hk)])⟩, HNA.out⟩
 exact (HB2.out.setCell (p := ⟨w.heap.size, 0, none⟩) (Nat.le_refl _) _).setCell (p := ⟨w.heap.size, 1, none⟩) (Nat.le_refl _) _
set_option maxRecDepth 100000 in
set_option maxHeartbeats 4000000 in
theorem leaseVet_ok (s : ByteArray) (w : World) (e : PT) (y : Nat) (ans : Nat × Nat) (hrd : ∀ w, Calls Tryz.prog 26 #[.string s] w fun v w' => ∃ x1 n1 c1 x2 n2 c2 ns, v = .returned (.tuple #[treeV (.slice x1 n1 c1) (.slice x2 n2 c2), .int .i64 0, .int .i64 y]) ∧ Below w.heap.size w w' ∧ TreeIn w' (.slice x1 n1 c1) (.slice x2 n2 c2) ns (opn e 0) ∧ NA [] e 0 ns ∧ PosN e ns (posOf s.size (tokens s.data.toList)) s.size)
  (hrn : ∀ (w' : World) (x1 : Option Addr) (n1 c1 : Nat) (x2 : Option Addr) (n2 c2 : Nat) (ns : List NR), TreeIn w' (.slice x1 n1 c1) (.slice x2 n2 c2) ns (opn e 0) → NA [] e 0 ns ∧ PosN e ns (posOf s.size (tokens s.data.toList)) s.size → Calls Tryz.prog 27 #[treeV (.slice x1 n1 c1) (.slice x2 n2 c2)] w' fun v w'' => v = .returned (.tuple #[.int .i64 ans.1, .int .i64 ans.2]) ∧ Below w'.heap.size w' w'') :
  Calls Tryz.prog 12 #[.string s] w fun v w' => v = .returned (.tuple #[.int .i64 ans.1, .int .i64 ans.2]) ∧ Below w.heap.size w w' := by
 unfold treeV at hrd hrn
 have HR : Hid _ := hrd
 have HN : Hid _ := hrn
 clear hrd hrn
 go_enter Tryz.func12, Tryz.ntmps12
 go_wp2_with fail
 refine (HR.out _).mono ?_
 rintro _ w1 ⟨x1, n1, c1, x2, n2, c2, ns, rfl, hb, hT, hna⟩
 have hb2 : Below w1.heap.size w1 (w1.alloc (.cells #[.slice x1 n1 c1, .slice x2 n2 c2] 62)) := (Below.refl _ w1).alloc (Nat.le_refl _) _
 have HRN : Hid _ := HN.out _ x1 n1 c1 x2 n2 c2 ns (hT.below hb2) hna
 have HB2 : Hid _ := hb.trans (hb2.mono hb.size)
 clear hb hT hna hb2 HR HN
 go_wp2_with fail
 refine Calls.mono HRN.out ?_
 rintro _ w3 ⟨rfl, hb3⟩
 have HB3 : Hid _ := HB2.out.trans (hb3.mono HB2.out.size)
 clear hb3 HRN HB2
 go_wp2
 refine bodyPost_ret (v := .tuple #[.int .i64 ans.1, .int .i64 ans.2]) (by simp [results, Tryz.results12, go_sem]) rfl ⟨rfl, HB3.out⟩
end Go.Proofs.YtpicaknklgccoabGreatDoor
namespace Go.Proofs.YtpicaknklgccoabGreatDoor
def envL (T : List Ty) : TEnv → Sc → Prop
 | [], [] => True
 | x :: e, y :: s => x.1 = y.1 ∧ 0 ≤ y.2 ∧ T[y.2.toNat]? = some x.2 ∧ envL T e s
 | _, _ => False
theorem envL.app {T : List Ty} : ∀ {e e' : TEnv} {s s' : Sc}, envL T e s → envL T e' s' → envL T (e ++ e') (s ++ s')
 | [], _, [], _, _, h => h
 | _ :: _, _, _ :: _, _, h, h' => ⟨h.1, h.2.1, h.2.2.1, envL.app h.2.2.2 h'⟩
 | [], _, _ :: _, _, h, _ => h.elim
 | _ :: _, _, [], _, h, _ => h.elim
theorem envL.rev {T : List Ty} : ∀ {e : TEnv} {s : Sc}, envL T e s → envL T e.reverse s.reverse
 | [], [], _ => trivial
 | _ :: _, _ :: _, h => by
  rw [List.reverse_cons, List.reverse_cons]
  exact envL.app (envL.rev h.2.2.2) ⟨h.1, h.2.1, h.2.2.1, trivial⟩
 | [], _ :: _, h => h.elim
 | _ :: _, [], h => h.elim
theorem envL.more {T T' : List Ty} : ∀ {e : TEnv} {s : Sc}, envL T e s → envL (T ++ T') e s
 | [], [], _ => trivial
 | _ :: _, _ :: _, h => ⟨h.1, h.2.1, by
   have h3 := h.2.2.1
   rw [List.getElem?_append_left (List.getElem?_eq_some_iff.1 h3).1]; exact h3, envL.more h.2.2.2⟩
 | [], _ :: _, h => h.elim
 | _ :: _, [], h => h.elim
theorem envL.find {T : List Ty} (w : List UInt8) : ∀ {e : TEnv} {s : Sc}, envL T e s →
  (e.find? (fun x => x.1 == w) = none ∧ s.find? (fun x => x.1 == w) = none) ∨ (∃ x y, e.find? (fun x => x.1 == w) = some x ∧ s.find? (fun x => x.1 == w) = some y ∧ 0 ≤ y.2 ∧ T[y.2.toNat]? = some x.2)
 | [], [], _ => Or.inl ⟨rfl, rfl⟩
 | x :: _, y :: _, h => by
  rw [List.find?_cons, List.find?_cons, ← h.1]
  by_cases hw : (x.1 == w) = true
  ·rw [hw]; exact Or.inr ⟨x, y, rfl, rfl, h.2.1, h.2.2.1⟩
  ·have hw' : (x.1 == w) = false := by simpa using hw
   rw [hw']; exact envL.find w h.2.2.2
 | [], _ :: _, h => h.elim
 | _ :: _, [], h => h.elim
theorem envL.look {T : List Ty} {e : TEnv} {s : Sc} (h : envL T e s) (w : List UInt8) :
  (look e w = none ∧ findS s w = -1) ∨ (∃ t, look e w = some t ∧ findS s w ≠ -1 ∧ knownT T (findS s w) = t) := by
 rcases h.rev.find w with ⟨h1, h2⟩ | ⟨x, y, h1, h2, h3, h4⟩
 ·left; unfold Go.Proofs.YtpicaknklgccoabGreatDoor.look findS; rw [h1, h2]; exact ⟨rfl, rfl⟩
 ·right
  refine ⟨x.2, ?_, ?_, ?_⟩
  ·unfold Go.Proofs.YtpicaknklgccoabGreatDoor.look; rw [h1]; rfl
  ·unfold findS; rw [h2]; simp only; omega
  ·unfold findS knownT; rw [h2]; simp only; rw [if_pos h3, h4]; rfl
theorem vetL_app (TY : List Ty) : ∀ (a b : List (PT × Nat × Nat)), vetL TY (a ++ b) = if (vetL TY a).1 ≠ 0 then vetL TY a else vetL TY b
 | [], _ => by simp [vetL]
 | x :: r, b => by
  have e1 : vetL TY (x :: (r ++ b)) = if vStep TY x ≠ 0 then (vStep TY x, x.1.at0) else vetL TY (r ++ b) := rfl
  have e2 : vetL TY (x :: r) = if vStep TY x ≠ 0 then (vStep TY x, x.1.at0) else vetL TY r := rfl
  by_cases h : vStep TY x ≠ 0
  ·rw [if_pos h] at e1 e2; rw [List.cons_append, e1, e2, if_pos h]
  ·rw [if_neg h] at e1 e2; rw [List.cons_append, e1, e2, vetL_app TY r b]
structure Lab (T : List Ty) (c : Nat) (ns : List NR) (T' : List Ty) (of of' : List (List UInt8)) (id : Nat) (xs : List (PT × Nat × Nat)) : Prop where
 run : tyRun T ns = T ++ T'
 len : T'.length = c
 sz : SzOk T ns
 out : ∀ k, k < id ∨ id + c ≤ k → of'[k]? = of[k]?
 ofl : of'.length = of.length
 inn : ∀ k, id ≤ k → k < id + c → ∃ U : Ty, U.fit ∧ of'[k]? = some U.txt
 pl : ∀ TY : List Ty, (∀ k, id ≤ k → k < id + c → of'[k]? = some (tyAt TY k).txt) → plT T ns = vetL TY xs
theorem Lab.nil (T : List Ty) (of : List (List UInt8)) (id : Nat) : Lab T 0 [] [] of of id [] :=
 ⟨by simp [tyRun], rfl, trivial, fun _ _ => rfl, rfl, fun k h1 h2 => by omega, fun _ _ => rfl⟩
theorem Lab.app {T : List Ty} {c1 c2 : Nat} {n1 n2 : List NR} {T1 T2 : List Ty} {o o1 o2 : List (List UInt8)} {id : Nat} {x1 x2 : List (PT × Nat × Nat)} (h : Lab T c1 n1 T1 o o1 id x1) (g : Lab (T ++ T1) c2 n2 T2 o1 o2 (id + c1) x2) : Lab T (c1 + c2) (n1 ++ n2) (T1 ++ T2) o o2 id (x1 ++ x2) := by
 refine ⟨?_, ?_, ?_, ?_, ?_, ?_, ?_⟩
 ·rw [tyRun_app, h.run, g.run, List.append_assoc]
 ·rw [List.length_append, h.len, g.len]
 ·exact SzOk_app _ _ _ h.sz (by rw [h.run]; exact g.sz)
 ·intro k hk; rw [g.out k (by omega), h.out k (by omega)]
 ·rw [g.ofl, h.ofl]
 ·intro k h1 h2
  by_cases hk : k < id + c1
  ·obtain ⟨U, u1, u2⟩ := h.inn k h1 hk
   exact ⟨U, u1, by rw [g.out k (by omega)]; exact u2⟩
  ·exact g.inn k (by omega) (by omega)
 ·intro TY hT
  rw [plT_app, vetL_app, h.run, h.pl TY (fun k h1 h2 => by rw [← g.out k (by omega)]; exact hT k h1 (by omega)), g.pl TY (fun k h1 h2 => hT k (by omega) (by omega))]
theorem Lab.root {T : List Ty} {c : Nat} {ks : List NR} {T' : List Ty} {o o1 : List (List UInt8)} {id : Nat} {xs : List (PT × Nat × Nat)} (h : Lab T c ks T' o o1 (id + 1) xs) (n : NR) (U : Ty) (x : PT × Nat × Nat) (hU : tyR (T ++ T') n = U) (hf : U.fit) (hs : n.form = 4 → (Ty.p 0 (knownT (T ++ T') n.p0) (knownT (T ++ T') n.p1)).size ≤ 63) (hid : id < o.length) (hat : n.at_ = x.1.at0)
  (hv : ∀ TY : List Ty, (∀ k, id + 1 ≤ k → k < id + 1 + c → o1[k]? = some (tyAt TY k).txt) → vfT (T ++ T' ++ [U]) n = vStep TY x) :
  Lab T (1 + c) (ks ++ [n]) (T' ++ [U]) o (o1.set id U.txt) id (xs ++ [x]) := by
 have ho : ∀ k, k ≠ id → (o1.set id U.txt)[k]? = o1[k]? := fun k hk => List.getElem?_set_ne (fun e => hk e.symm)
 have hi : (o1.set id U.txt)[id]? = some U.txt := by rw [List.getElem?_set_self (by rw [h.ofl]; exact hid)]
 refine ⟨?_, ?_, ?_, ?_, ?_, ?_, ?_⟩
 ·rw [tyRun_app, h.run]; simp only [tyRun, hU, List.append_assoc]
 ·rw [List.length_append, h.len]; simp; omega
 ·exact SzOk_app _ _ _ h.sz (by rw [h.run]; exact ⟨hs, trivial⟩)
 ·intro k hk; rw [ho k (by omega), h.out k (by omega)]
 ·rw [List.length_set, h.ofl]
 ·intro k h1 h2
  by_cases e : k = id
  ·subst e; exact ⟨U, hf, hi⟩
  ·obtain ⟨V, v1, v2⟩ := h.inn k (by omega) (by omega)
   exact ⟨V, v1, by rw [ho k e]; exact v2⟩
 ·intro TY hT
  have hT' : ∀ k, id + 1 ≤ k → k < id + 1 + c → o1[k]? = some (tyAt TY k).txt := fun k h1 h2 => by rw [← ho k (by omega)]; exact hT k (by omega) (by omega)
  rw [plT_app, vetL_app, h.run, h.pl TY hT']
  simp only [plT, vetL, hU, hv TY hT', hat]
theorem fin_of (id p : Nat) (x : Ty × TSt) : (fin id p x).1 = x.1 ∧ (fin id p x).2.of = x.2.of.set id x.1.txt ∧ ((fin id p x).2.e = 0 → x.2.e = 0 ∧ x.1.size ≤ 63) := by
 unfold fin
 refine ⟨rfl, ?_, ?_⟩
 ·simp only
  split
  ·unfold errS; split <;> rfl
  ·rfl
 ·simp only
  split
  ·rename_i h
   unfold errS; rw [if_pos h.1]; intro h'; simp at h'
  ·rename_i h
   intro h'
   exact ⟨h', by omega⟩
def clsIn (cls : List Nat) (l : List (Nat × List UInt8)) (site : Nat) : Prop := ∀ (i : Nat) (x : Nat × List UInt8), l[i]? = some x → cls.getD (site + i) 0 = (valueL x.2).toNat
theorem clsIn.left {cls : List Nat} {a b : List (Nat × List UInt8)} {site : Nat} (h : clsIn cls (a ++ b) site) : clsIn cls a site :=
 fun i x hx => h i x (by rw [List.getElem?_append_left (List.getElem?_eq_some_iff.1 hx).1]; exact hx)
theorem clsIn.right {cls : List Nat} {a b : List (Nat × List UInt8)} {site : Nat} (h : clsIn cls (a ++ b) site) : clsIn cls b (site + a.length) := by
 intro i x hx
 have := h (a.length + i) x (by rw [List.getElem?_append_right (by omega), Nat.add_sub_cancel_left]; exact hx)
 rw [Nat.add_assoc]; exact this
theorem known_more {T : List Ty} {i : Nat} {t : Ty} (U : List Ty) (h : T[i]? = some t) : knownT (T ++ U) (i : Int) = t :=
 known_some (by rw [List.getElem?_append_left (List.getElem?_eq_some_iff.1 h).1]; exact h)
theorem fk_let : formK .let_ = 3 := by decide
theorem fk_pair : formK .pair = 4 := by decide
theorem fk_fst : formK .fst = 5 := by decide
theorem fk_snd : formK .snd = 6 := by decide
theorem fk_if : formK .if_ = 7 := by decide
theorem fk_add : formK .add = 8 := by decide
theorem fk_sub : formK .sub = 9 := by decide
theorem fk_less : formK .less = 10 := by decide
theorem fk_loop : formK .loop = 11 := by decide
theorem fk_new : formK .new = 12 := by decide
theorem made_lab (cls : List Nat) (k : Kw) (p site id : Nat) (nm rg : List UInt8) (kids : List PT) (ks : List Ty) (st : TSt) (T : List Ty) (beh : Nat) (hkl : kids.length = (bodK k).length) (hl : ks.length = (bodK k).length) (h0 : st.e = 0)
  (hc : k = .pair → cls.getD site 0 = (valueL rg).toNat) (base : Nat)
  (hK : ∀ (j : Nat) (t : Ty), ks[j]? = some t → ∃ i : Nat, (partsL kids base).getD j (-1) = (i : Int) ∧ T[i]? = some t)
  (he : (nodeT2 cls k p site ks st).2.e = 0) (hsz : (nodeT2 cls k p site ks st).1.size ≤ 63) :
  (nodeT2 cls k p site ks st).2 = st ∧
  tyR T ⟨formK k, p, beh, 0, nm, valueL rg, -1, (partsL kids base).getD 0 (-1), (partsL kids base).getD 1 (-1), (partsL kids base).getD 2 (-1)⟩ = (nodeT2 cls k p site ks st).1 ∧
  (formK k = 4 → (Ty.p 0 (knownT T ((partsL kids base).getD 0 (-1))) (knownT T ((partsL kids base).getD 1 (-1)))).size ≤ 63) ∧
  ∀ (TY : List Ty) (U : Ty), (∀ (j : Nat) (t : Ty), ks[j]? = some t → tyAt TY (id + 1 + cntL (kids.take j)) = t) →
   vfT (T ++ [U]) ⟨formK k, p, beh, 0, nm, valueL rg, -1, (partsL kids base).getD 0 (-1), (partsL kids base).getD 1 (-1), (partsL kids base).getD 2 (-1)⟩ = vStep TY (.node p k nm rg kids, id, site) := by
 have hkn : ∀ (j : Nat) (t : Ty), ks[j]? = some t → knownT T ((partsL kids base).getD j (-1)) = t ∧ ∀ U, knownT (T ++ [U]) ((partsL kids base).getD j (-1)) = t := by
  intro j t ht
  obtain ⟨i, h1, h2⟩ := hK j t ht
  rw [h1]
  exact ⟨known_some h2, fun U => known_more [U] h2⟩
 have bad : ∀ (e q : Nat) (st : TSt), st.e = 0 → e ≠ 0 → (errS st e q).e ≠ 0 := by
  intro e q st h1 h2; unfold errS; rw [if_pos h1]; exact h2
 have h0k := hkn 0
 have h1k := hkn 1
 have h2k := hkn 2
 clear hK hkn
 generalize (partsL kids base).getD 0 (-1) = P0 at *
 generalize (partsL kids base).getD 1 (-1) = P1 at *
 generalize (partsL kids base).getD 2 (-1) = P2 at *
 cases k
 case let_ =>
  match ks, hl, kids, hkl, h1k with
  | [A, B], _, [a, b], _, h1k => simp [nodeT2, tyR, fk_let, vfT, vStep, (h1k B rfl).1]
 case pair =>
  match ks, hl, kids, hkl, h0k, h1k with
  | [A, B], _, [a, b], _, h0k, h1k =>
   have e : nodeT2 cls .pair p site [A, B] st = (.p (valueL rg).toNat A B, st) := by simp only [nodeT2, madeT, hc rfl]; rfl
   rw [e] at hsz ⊢
   refine ⟨rfl, by simp [tyR, fk_pair, (h0k A rfl).1, (h1k B rfl).1], fun _ => ?_, fun TY U _ => by simp [vfT, fk_pair, vStep]⟩
   rw [(h0k A rfl).1, (h1k B rfl).1]
   exact hsz
 case fst =>
  match ks, hl, kids, hkl, h0k with
  | [.p r A B], _, [a], _, h0k => simp [nodeT2, madeT, tyR, fk_fst, vfT, vStep, (h0k _ rfl).1, fstT]
  | [.n], _, [a], _, _ => exact absurd he (by simp only [nodeT2, madeT]; exact bad _ _ _ h0 (by decide))
 case snd =>
  match ks, hl, kids, hkl, h0k with
  | [.p r A B], _, [a], _, h0k => simp [nodeT2, madeT, tyR, fk_snd, vfT, vStep, (h0k _ rfl).1, sndT]
  | [.n], _, [a], _, _ => exact absurd he (by simp only [nodeT2, madeT]; exact bad _ _ _ h0 (by decide))
 case if_ =>
  match ks, hl, kids, hkl, h1k, h2k with
  | [A, B, C], _, [a, b, c], _, h1k, h2k =>
   by_cases hc : A = .n ∧ B.bare = C.bare
   ·have e : nodeT2 cls .if_ p site [A, B, C] st = (B, st) := by simp only [nodeT2, madeT]; rw [if_pos hc]; rfl
    rw [e]
    refine ⟨rfl, by simp [tyR, fk_if, (h1k B rfl).1], by simp [fk_if], ?_⟩
    intro TY U hT
    have t1 := hT 1 B rfl
    have t2 := hT 2 C rfl
    simp only [List.take, cntL, Nat.add_zero] at t1 t2
    rw [← Nat.add_assoc] at t2
    simp only [vfT, fk_if, vStep, (h1k B rfl).2, (h2k C rfl).2, t1, t2]
    by_cases hbc : B = C <;> simp [hbc]
   ·exact absurd he (by simp only [nodeT2, madeT]; rw [if_neg hc]; exact bad _ _ _ h0 (by decide))
 case loop =>
  match ks, hl, kids, hkl, h1k, h2k with
  | [A, B, C], _, [a, b, c], _, h1k, h2k =>
   by_cases hc : A = .n ∧ B.bare = C.bare
   ·have e : nodeT2 cls .loop p site [A, B, C] st = (B, st) := by simp only [nodeT2, madeT]; rw [if_pos hc]; rfl
    rw [e]
    refine ⟨rfl, by simp [tyR, fk_loop, (h1k B rfl).1], by simp [fk_loop], ?_⟩
    intro TY U hT
    have t1 := hT 1 B rfl
    have t2 := hT 2 C rfl
    simp only [List.take, cntL, Nat.add_zero] at t1 t2
    rw [← Nat.add_assoc] at t2
    simp only [vfT, fk_loop, vStep, (h1k B rfl).2, (h2k C rfl).2, t1, t2]
    by_cases hbc : B = C <;> simp [hbc]
   ·exact absurd he (by simp only [nodeT2, madeT]; rw [if_neg hc]; exact bad _ _ _ h0 (by decide))
 case new =>
  match ks, hl, kids, hkl, h0k with
  | [A], _, [a], _, h0k =>
   refine ⟨rfl, by simp [nodeT2, madeT, tyR, fk_new, (h0k A rfl).1], by simp [fk_new], ?_⟩
   intro TY U hT
   have t1 := hT 0 A rfl
   simp only [List.take, cntL, Nat.add_zero] at t1
   simp only [vfT, fk_new, vStep, (h0k A rfl).2, t1]
   by_cases hh : A.has (valueL rg) = true <;> simp [hh]
 all_goals
  match ks, hl, kids, hkl with
  | [A, B], _, [a, b], _ =>
   by_cases hc : A = .n ∧ B = .n
   ·simp only [nodeT2, madeT]
    rw [if_pos hc]
    simp [tyR, fk_add, fk_sub, fk_less, vfT, vStep]
   ·exact absurd he (by simp only [nodeT2, madeT]; rw [if_neg hc]; exact bad _ _ _ h0 (by decide))
def Tk.z (t : Tk) : Tk := { t with at_ := 0 }
def sk (l : List UInt8) : List Tk := (tokens l).map Tk.z
theorem toks_z : ∀ (f p q : Nat) (l : List UInt8), (toks f p l).map Tk.z = (toks f q l).map Tk.z
 | 0, _, _, _ => rfl
 | _ + 1, _, _, [] => rfl
 | f + 1, p, q, c :: r => by
  simp only [toks]
  split
  ·exact toks_z f _ _ _
  ·simp only [List.map_cons]; rw [toks_z f _ (q + (tokenOf (c :: r)).1)]; rfl
theorem toks_sk (f p : Nat) (l : List UInt8) (h : l.length ≤ f) : (toks f p l).map Tk.z = sk l := by
 unfold sk tokens; rw [toks_fuel f l.length p l h (Nat.le_refl _)]; exact toks_z _ _ _ _
theorem sk_nil : sk [] = [] := rfl
theorem sk_blank (c : UInt8) (r : List UInt8) (h : blankB c = true) : sk (c :: r) = sk r := by
 show (toks (r.length + 1) 0 (c :: r)).map Tk.z = _
 rw [toks_blank _ _ _ _ h]; exact toks_sk _ _ _ (Nat.le_refl _)
theorem sk_tok (a : UInt8) (t r : List UInt8) (c : Cl) (ha : blankB a = false) (h : tokenOf (a :: (t ++ r)) = (t.length + 1, c)) : sk (a :: (t ++ r)) = ⟨a :: t, 0, c⟩ :: sk r := by
 show (toks ((t ++ r).length + 1) 0 (a :: (t ++ r))).map Tk.z = _
 rw [toks_tok _ _ _ _ ha, h]
 simp only [List.map_cons, List.take_succ_cons, List.drop_succ_cons, List.take_left, List.drop_left]
 rw [toks_sk _ _ _ (by simp)]; rfl
theorem run_app (lo hi : Int) : ∀ (w r : List UInt8), (∀ c ∈ w, inB lo hi c = true) → (∀ c ∈ r.head?, inB lo hi c = false) → run lo hi (w ++ r) = w.length
 | [], [], _, _ => rfl
 | [], c :: r, _, h => by simp [run, h c (by simp)]
 | a :: w, r, h, h' => by
  simp only [List.cons_append, run, h a (by simp), if_true, List.length_cons]
  rw [run_app lo hi w r (fun c hc => h c (by simp [hc])) h']
def Stop (r : List UInt8) : Prop := ∀ c ∈ r.head?, inB 97 122 c = false ∧ inB 48 57 c = false
theorem stop_nil : Stop [] := by intro c h; simp at h
theorem stop_blank (r : List UInt8) : Stop (32 :: r) := by intro c h; simp at h; subst h; decide
theorem stop_close (r : List UInt8) : Stop (41 :: r) := by intro c h; simp at h; subst h; decide
def GoodN (s : List UInt8) : Prop := s ≠ [] ∧ (∀ c ∈ s, inB 97 122 c = true) ∧ s.length ≤ 8 ∧ kwOf s = none
def GoodD (s : List UInt8) (m : Nat) : Prop := (∀ c ∈ s, inB 48 57 c = true) ∧ numeralB s m = true
theorem inB_of {lo hi : Int} {c : UInt8} (h : inB lo hi c = true) : lo ≤ (c.toNat : Int) ∧ (c.toNat : Int) ≤ hi := by
 unfold inB at h; simp only [Bool.and_eq_true, decide_eq_true_eq] at h; exact h
theorem inB_not {lo hi : Int} {c : UInt8} (h : (c.toNat : Int) < lo ∨ hi < (c.toNat : Int)) : inB lo hi c = false := by
 cases hb : inB lo hi c with
 | false => rfl
 | true => have := inB_of hb; omega
theorem blank_not {c : UInt8} (h : 33 ≤ c.toNat) : blankB c = false := by
 unfold blankB
 rw [Bool.or_eq_false_iff]
 constructor <;> (rw [beq_eq_false_iff_ne]; rintro rfl; exact absurd h (by decide))
theorem sk_word (w r : List UInt8) (hne : w ≠ []) (hw : ∀ c ∈ w, inB 97 122 c = true) (hr : Stop r) : sk (w ++ r) = ⟨w, 0, wordCl w w.length⟩ :: sk r := by
 have hrun := run_app 97 122 w r hw (fun c hc => (hr c hc).1)
 cases w with
 | nil => exact absurd rfl hne
 | cons a t =>
  have ha := inB_of (hw a (by simp))
  refine sk_tok a t r _ (blank_not (by omega)) ?_
  have hrun' : run 97 122 (a :: (t ++ r)) = t.length + 1 := hrun
  unfold tokenOf
  rw [if_pos (by omega), hrun']
  simp
theorem sk_kw (k : Kw) (r : List UInt8) (hr : Stop r) : sk (k.bytes ++ r) = ⟨k.bytes, 0, .kw k⟩ :: sk r := by
 rw [sk_word k.bytes r (by cases k <;> decide) (by cases k <;> decide) hr]
 unfold wordCl; rw [kwOf_bytes]
theorem sk_name (s r : List UInt8) (h : GoodN s) (hr : Stop r) : sk (s ++ r) = ⟨s, 0, .nam⟩ :: sk r := by
 rw [sk_word s r h.1 h.2.1 hr]
 unfold wordCl; rw [h.2.2.2]; simp only; rw [if_pos h.2.2.1]
theorem numeral_pos {s : List UInt8} {m : Nat} (h : numeralB s m = true) : s ≠ [] := by
 rintro rfl; simp [numeralB] at h
theorem sk_num (s r : List UInt8) (h : GoodD s 4) (hr : Stop r) : sk (s ++ r) = ⟨s, 0, .num⟩ :: sk r := by
 have hrun := run_app 48 57 s r h.1 (fun c hc => (hr c hc).2)
 have hne := numeral_pos h.2
 cases s with
 | nil => exact absurd rfl hne
 | cons a t =>
  have ha := inB_of (h.1 a (by simp))
  refine sk_tok a t r _ (blank_not (by omega)) ?_
  have hrun' : run 48 57 (a :: (t ++ r)) = t.length + 1 := hrun
  have h0 : run 97 122 (a :: (t ++ r)) = 0 := by simp only [run]; rw [inB_not (by omega)]; simp
  unfold tokenOf
  rw [if_neg (by omega), if_pos (by omega), hrun']
  simp only [List.take_succ_cons, List.take_left]
  rw [if_pos h.2]
theorem sk_reg (d r : List UInt8) (h : GoodD d 3) (hr : Stop r) : sk (35 :: (d ++ r)) = ⟨35 :: d, 0, .reg⟩ :: sk r := by
 have hrun := run_app 48 57 d r h.1 (fun c hc => (hr c hc).2)
 refine sk_tok 35 d r _ (by decide) ?_
 unfold tokenOf
 rw [if_neg (by simp [run, inB]), if_neg (by simp [run, inB])]
 simp only [if_true]
 rw [hrun, List.take_left, if_pos h.2]
theorem sk_opn (r : List UInt8) : sk (40 :: r) = ⟨[40], 0, .opn⟩ :: sk r := by
 refine sk_tok 40 [] r _ (by decide) ?_
 unfold tokenOf
 rw [if_neg (by simp [run, inB]), if_neg (by simp [run, inB])]
 simp
theorem sk_cls (r : List UInt8) : sk (41 :: r) = ⟨[41], 0, .cls⟩ :: sk r := by
 refine sk_tok 41 [] r _ (by decide) ?_
 unfold tokenOf
 rw [if_neg (by simp [run, inB]), if_neg (by simp [run, inB])]
 simp
theorem sk_sp (r : List UInt8) : sk (32 :: r) = sk r := sk_blank 32 r (by decide)
mutual
def PT.ok (placed : Bool) : PT → Prop
 | .num _ s => GoodD s 4
 | .name _ s => GoodN s
 | .node _ k nm rg kids => wantsK k placed ≠ [] ∧ kids.length = arity k ∧ (if k = .let_ ∨ k = .loop then GoodN nm else nm = []) ∧ (if placed = true ∧ (k = .pair ∨ k = .new) then ∃ d, rg = 35 :: d ∧ GoodD d 3 else rg = []) ∧ okL placed kids
def okL (placed : Bool) : List PT → Prop
 | [] => True
 | t :: r => t.ok placed ∧ okL placed r
end
mutual
def PT.np : PT → PT
 | .num _ s => .num 0 s
 | .name _ s => .name 0 s
 | .node _ k nm rg kids => .node 0 k nm rg (npL kids)
def npL : List PT → List PT
 | [] => []
 | t :: r => t.np :: npL r
end
def regT (rg : List UInt8) : List UInt8 := if rg = [] then [] else 32 :: rg
mutual
def PT.tidy : PT → List UInt8
 | .num _ s => s
 | .name _ s => s
 | .node _ k nm rg kids => 40 :: (k.bytes ++ (regT rg ++ (joinT k nm 0 (tidyL kids) ++ [41])))
def tidyL : List PT → List (List UInt8)
 | [] => []
 | t :: r => t.tidy :: tidyL r
end
def pieceK (k : Kw) (nm : List UInt8) (i : Nat) (x : List Tk) : List Tk := (if (k = .let_ ∧ i = 0) ∨ (k = .loop ∧ i = 1) then [⟨nm, 0, .nam⟩] else []) ++ x
def joinK (k : Kw) (nm : List UInt8) : Nat → List (List Tk) → List Tk
 | _, [] => []
 | i, x :: r => pieceK k nm i x ++ joinK k nm (i + 1) r
def regK (rg : List UInt8) : List Tk := if rg = [] then [] else [⟨rg, 0, .reg⟩]
mutual
def PT.tkz : PT → List Tk
 | .num _ s => [⟨s, 0, .num⟩]
 | .name _ s => [⟨s, 0, .nam⟩]
 | .node _ k nm rg kids => ⟨[40], 0, .opn⟩ :: ⟨k.bytes, 0, .kw k⟩ :: (regK rg ++ (joinK k nm 0 (tkzL kids) ++ [⟨[41], 0, .cls⟩]))
def tkzL : List PT → List (List Tk)
 | [] => []
 | t :: r => t.tkz :: tkzL r
end
theorem stop_join (k : Kw) (nm : List UInt8) (i : Nat) (l : List (List UInt8)) (r : List UInt8) : Stop (joinT k nm i l ++ (41 :: r)) := by
 cases l with
 | nil => exact stop_close r
 | cons x l =>
  unfold joinT pieceT
  split
  ·exact stop_blank _
  ·exact stop_blank _
mutual
theorem tidy_sk {placed : Bool} : ∀ (e : PT), e.ok placed → ∀ r, Stop r → sk (e.tidy ++ r) = e.tkz ++ sk r
 | .num _ s, h, r, hr => sk_num s r (by simpa only [PT.ok] using h) hr
 | .name _ s, h, r, hr => sk_name s r (by simpa only [PT.ok] using h) hr
 | .node _ k nm rg kids, h, r, hr => by
  simp only [PT.ok] at h
  obtain ⟨_, _, hn, hg, hk⟩ := h
  have hj := tidyL_sk (placed := placed) kids hk k nm (fun hx => by rw [if_pos hx] at hn; exact hn) 0 r
  simp only [PT.tidy, PT.tkz, List.cons_append, List.append_assoc, List.nil_append]
  rw [sk_opn, sk_kw, List.cons.injEq, List.cons.injEq]
  ·refine ⟨rfl, rfl, ?_⟩
   unfold regT regK
   split
   ·exact hj
   ·rename_i e
    split at hg
    ·obtain ⟨d, rfl, hd⟩ := hg
     simp only [List.cons_append]
     rw [sk_sp, sk_reg d _ hd (stop_join _ _ _ _ _), hj]; rfl
    ·exact absurd hg e
  ·unfold regT
   split
   ·exact stop_join _ _ _ _ _
   ·exact stop_blank _
theorem tidyL_sk {placed : Bool} : ∀ (kids : List PT), okL placed kids → ∀ (k : Kw) (nm : List UInt8), ((k = .let_ ∨ k = .loop) → GoodN nm) → ∀ (i : Nat) (r : List UInt8), sk (joinT k nm i (tidyL kids) ++ (41 :: r)) = joinK k nm i (tkzL kids) ++ (⟨[41], 0, .cls⟩ :: sk r)
 | [], _, k, nm, _, i, r => by simp only [tidyL, tkzL, joinT, joinK, List.nil_append]; exact sk_cls r
 | t :: ts, h, k, nm, hn, i, r => by
  simp only [okL] at h
  have ih := tidyL_sk ts h.2 k nm hn (i + 1) r
  have iht := tidy_sk t h.1 (joinT k nm (i + 1) (tidyL ts) ++ (41 :: r)) (stop_join _ _ _ _ _)
  simp only [tidyL, tkzL, joinT, joinK, pieceT, pieceK, List.append_assoc]
  split
  ·rename_i hc
   have hg : GoodN nm := hn (hc.elim (fun h => Or.inl h.1) (fun h => Or.inr h.1))
   simp only [List.cons_append, List.nil_append]
   rw [sk_sp, sk_name nm _ hg (stop_blank _), sk_sp, iht, ih]
  ·simp only [List.cons_append, List.nil_append]
   rw [sk_sp, iht, ih]
end
mutual
theorem tkz_PE {placed : Bool} : ∀ (e : PT), e.ok placed → ∀ r, PE placed (e.tkz ++ r) e.np r
 | .num _ s, _, r => by simp only [PT.tkz, PT.np]; exact .num (t := ⟨s, 0, .num⟩) rfl
 | .name _ s, _, r => by simp only [PT.tkz, PT.np]; exact .name (t := ⟨s, 0, .nam⟩) rfl
 | .node _ k nm rg kids, h, r => by
  simp only [PT.ok] at h
  obtain ⟨hw, hl, hn, hg, hk⟩ := h
  have hks := okL_PE (placed := placed) kids hk
  have fin0 : ∀ (R : List Tk) (nm' rg' : List UInt8) (ks : List PT), PW placed (wantsK k placed) R nm' rg' ks r → R = regK rg ++ (joinK k nm 0 (tkzL kids) ++ [⟨[41], 0, .cls⟩]) ++ r → nm' = nm → rg' = rg → ks = npL kids → PE placed ((PT.node 0 k nm rg kids).tkz ++ r) (PT.node 0 k nm rg kids).np r := by
   rintro R nm' rg' ks hp rfl rfl rfl rfl
   simp only [PT.tkz, PT.np, List.cons_append]
   exact .node (t := ⟨[40], 0, .opn⟩) (u := ⟨k.bytes, 0, .kw k⟩) rfl rfl hw hp
  cases k with
  | let_ =>
   match kids, hl, hks, fin0 with
   | [a, b], _, hks, fin0 =>
    simp only [wantsK] at fin0
    simp only [true_or, if_true] at hn
    rw [if_neg (by simp)] at hg
    subst hg
    exact fin0 _ _ _ _ (.name (t := ⟨nm, 0, .nam⟩) rfl (.e (hks a (by simp) _) (.e (hks b (by simp) _) (.close (t := ⟨[41], 0, .cls⟩) rfl .nil)))) (by simp [regK, tkzL, joinK, pieceK]) rfl rfl rfl
  | loop =>
   match kids, hl, hks, fin0 with
   | [a, b, c], _, hks, fin0 =>
    simp only [wantsK] at fin0
    rw [if_neg (by simp)] at hg
    subst hg
    exact fin0 _ _ _ _ (.e (hks a (by simp) _) (.name (t := ⟨nm, 0, .nam⟩) rfl (.e (hks b (by simp) _) (.e (hks c (by simp) _) (.close (t := ⟨[41], 0, .cls⟩) rfl .nil))))) (by simp [regK, tkzL, joinK, pieceK]) rfl rfl rfl
  | if_ =>
   match kids, hl, hks, fin0 with
   | [a, b, c], _, hks, fin0 =>
    simp only [wantsK] at fin0
    rw [if_neg (by simp)] at hg
    rw [if_neg (by decide)] at hn
    subst hg; subst hn
    exact fin0 _ _ _ _ (.e (hks a (by simp) _) (.e (hks b (by simp) _) (.e (hks c (by simp) _) (.close (t := ⟨[41], 0, .cls⟩) rfl .nil)))) (by simp [regK, tkzL, joinK, pieceK]) rfl rfl rfl
  | fst =>
   match kids, hl, hks, fin0 with
   | [a], _, hks, fin0 =>
    simp only [wantsK] at fin0
    rw [if_neg (by simp)] at hg
    rw [if_neg (by decide)] at hn
    subst hg; subst hn
    exact fin0 _ _ _ _ (.e (hks a (by simp) _) (.close (t := ⟨[41], 0, .cls⟩) rfl .nil)) (by simp [regK, tkzL, joinK, pieceK]) rfl rfl rfl
  | snd =>
   match kids, hl, hks, fin0 with
   | [a], _, hks, fin0 =>
    simp only [wantsK] at fin0
    rw [if_neg (by simp)] at hg
    rw [if_neg (by decide)] at hn
    subst hg; subst hn
    exact fin0 _ _ _ _ (.e (hks a (by simp) _) (.close (t := ⟨[41], 0, .cls⟩) rfl .nil)) (by simp [regK, tkzL, joinK, pieceK]) rfl rfl rfl
  | add =>
   match kids, hl, hks, fin0 with
   | [a, b], _, hks, fin0 =>
    simp only [wantsK] at fin0
    rw [if_neg (by simp)] at hg
    rw [if_neg (by decide)] at hn
    subst hg; subst hn
    exact fin0 _ _ _ _ (.e (hks a (by simp) _) (.e (hks b (by simp) _) (.close (t := ⟨[41], 0, .cls⟩) rfl .nil))) (by simp [regK, tkzL, joinK, pieceK]) rfl rfl rfl
  | sub =>
   match kids, hl, hks, fin0 with
   | [a, b], _, hks, fin0 =>
    simp only [wantsK] at fin0
    rw [if_neg (by simp)] at hg
    rw [if_neg (by decide)] at hn
    subst hg; subst hn
    exact fin0 _ _ _ _ (.e (hks a (by simp) _) (.e (hks b (by simp) _) (.close (t := ⟨[41], 0, .cls⟩) rfl .nil))) (by simp [regK, tkzL, joinK, pieceK]) rfl rfl rfl
  | less =>
   match kids, hl, hks, fin0 with
   | [a, b], _, hks, fin0 =>
    simp only [wantsK] at fin0
    rw [if_neg (by simp)] at hg
    rw [if_neg (by decide)] at hn
    subst hg; subst hn
    exact fin0 _ _ _ _ (.e (hks a (by simp) _) (.e (hks b (by simp) _) (.close (t := ⟨[41], 0, .cls⟩) rfl .nil))) (by simp [regK, tkzL, joinK, pieceK]) rfl rfl rfl
  | pair =>
   match kids, hl, hks, fin0 with
   | [a, b], _, hks, fin0 =>
    rw [if_neg (by decide)] at hn
    subst hn
    cases placed with
    | false =>
     simp only [wantsK] at fin0
     rw [if_neg (by simp)] at hg
     subst hg
     exact fin0 _ _ _ _ (.e (hks a (by simp) _) (.e (hks b (by simp) _) (.close (t := ⟨[41], 0, .cls⟩) rfl .nil))) (by simp [regK, tkzL, joinK, pieceK]) rfl rfl rfl
    | true =>
     simp only [wantsK] at fin0
     rw [if_pos (by simp)] at hg
     obtain ⟨d, rfl, hd⟩ := hg
     exact fin0 _ _ _ _ (.region (t := ⟨35 :: d, 0, .reg⟩) rfl (.e (hks a (by simp) _) (.e (hks b (by simp) _) (.close (t := ⟨[41], 0, .cls⟩) rfl .nil)))) (by simp [regK, tkzL, joinK, pieceK]) rfl rfl rfl
  | new =>
   match kids, hl, hks, fin0 with
   | [a], _, hks, fin0 =>
    rw [if_neg (by decide)] at hn
    subst hn
    cases placed with
    | false => exact absurd rfl hw
    | true =>
     simp only [wantsK] at fin0
     rw [if_pos (by simp)] at hg
     obtain ⟨d, rfl, hd⟩ := hg
     exact fin0 _ _ _ _ (.region (t := ⟨35 :: d, 0, .reg⟩) rfl (.e (hks a (by simp) _) (.close (t := ⟨[41], 0, .cls⟩) rfl .nil))) (by simp [regK, tkzL, joinK, pieceK]) rfl rfl rfl
theorem okL_PE {placed : Bool} : ∀ (kids : List PT), okL placed kids → ∀ x ∈ kids, ∀ r, PE placed (x.tkz ++ r) x.np r
 | [], _, x, hx, _ => by simp at hx
 | t :: ts, h, x, hx, r => by
  simp only [okL] at h
  rcases List.mem_cons.1 hx with hx | hx
  ·rw [hx]; exact tkz_PE t h.1 r
  ·exact okL_PE ts h.2 x hx r
end
theorem z_cons {l : List Tk} {t : Tk} {r : List Tk} (h : l.map Tk.z = t :: r) : ∃ t2 r2, l = t2 :: r2 ∧ t2.c = t.c ∧ t2.s = t.s ∧ r2.map Tk.z = r := by
 cases l with
 | nil => simp at h
 | cons a l =>
  simp only [List.map_cons, List.cons.injEq] at h
  exact ⟨a, l, rfl, by rw [← h.1]; rfl, by rw [← h.1]; rfl, h.2⟩
mutual
theorem PE.unz {placed : Bool} : ∀ {l : List Tk} {e : PT} {r : List Tk}, PE placed l e r → ∀ l2, l2.map Tk.z = l → ∃ e2 r2, PE placed l2 e2 r2 ∧ e2.np = e.np ∧ r2.map Tk.z = r
 | _, _, _, .num h, l2, h2 => by
  obtain ⟨t2, r2, rfl, hc, hs, hr⟩ := z_cons h2
  exact ⟨_, r2, .num (hc.trans h), by simp only [PT.np, hs], hr⟩
 | _, _, _, .name h, l2, h2 => by
  obtain ⟨t2, r2, rfl, hc, hs, hr⟩ := z_cons h2
  exact ⟨_, r2, .name (hc.trans h), by simp only [PT.np, hs], hr⟩
 | _, _, _, .node h1 h3 h4 h5, l2, h2 => by
  obtain ⟨t2, r2, rfl, hc, _, hr⟩ := z_cons h2
  obtain ⟨u2, r3, rfl, hc3, _, hr3⟩ := z_cons hr
  obtain ⟨ks, r4, hp, hks, hr4⟩ := PW.unz h5 r3 hr3
  exact ⟨_, r4, .node (hc.trans h1) (hc3.trans h3) h4 hp, by simp only [PT.np, hks], hr4⟩
theorem PW.unz {placed : Bool} : ∀ {ws : List Wt} {l : List Tk} {nm rg : List UInt8} {kids : List PT} {r : List Tk}, PW placed ws l nm rg kids r → ∀ l2, l2.map Tk.z = l → ∃ kids2 r2, PW placed ws l2 nm rg kids2 r2 ∧ npL kids2 = npL kids ∧ r2.map Tk.z = r
 | _, _, _, _, _, _, .nil, l2, h2 => ⟨[], l2, .nil, rfl, h2⟩
 | _, _, _, _, _, _, .close h h1, l2, h2 => by
  obtain ⟨t2, r2, rfl, hc, _, hr⟩ := z_cons h2
  obtain ⟨ks, r4, hp, hks, hr4⟩ := PW.unz h1 r2 hr
  exact ⟨ks, r4, .close (hc.trans h) hp, hks, hr4⟩
 | _, _, _, _, _, _, .name h h1, l2, h2 => by
  obtain ⟨t2, r2, rfl, hc, hs, hr⟩ := z_cons h2
  obtain ⟨ks, r4, hp, hks, hr4⟩ := PW.unz h1 r2 hr
  exact ⟨ks, r4, by rw [← hs]; exact .name (hc.trans h) hp, hks, hr4⟩
 | _, _, _, _, _, _, .region h h1, l2, h2 => by
  obtain ⟨t2, r2, rfl, hc, hs, hr⟩ := z_cons h2
  obtain ⟨ks, r4, hp, hks, hr4⟩ := PW.unz h1 r2 hr
  exact ⟨ks, r4, by rw [← hs]; exact .region (hc.trans h) hp, hks, hr4⟩
 | _, _, _, _, _, _, .e h h1, l2, h2 => by
  obtain ⟨e2, r2, hp, he, hr⟩ := PE.unz h l2 h2
  obtain ⟨ks, r4, hp4, hks, hr4⟩ := PW.unz h1 r2 hr
  exact ⟨_, r4, .e hp hp4, by simp only [npL, he, hks], hr4⟩
end
mutual
theorem np_np : ∀ e : PT, e.np.np = e.np
 | .num _ _ => rfl
 | .name _ _ => rfl
 | .node _ _ _ _ kids => by simp only [PT.np, npL_np kids]
theorem npL_np : ∀ l : List PT, npL (npL l) = npL l
 | [] => rfl
 | t :: r => by simp only [npL, np_np t, npL_np r]
end
theorem tidy_PE {placed : Bool} (e : PT) (h : e.ok placed) : ∃ e2, PE placed (tokens e.tidy) e2 [] ∧ e2.np = e.np := by
 have hs := tidy_sk e h [] stop_nil
 rw [List.append_nil, sk_nil] at hs
 obtain ⟨e2, r2, hp, he, hr⟩ := (tkz_PE e h []).unz (tokens e.tidy) hs
 have : r2 = [] := by simpa using hr
 subst this
 exact ⟨e2, hp, he.trans (np_np e)⟩
end Go.Proofs.YtpicaknklgccoabGreatDoor
