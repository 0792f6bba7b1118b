import Derived.Test.YtpicaknklgccoaaGreatDoorS12
import Derived.Test.YtpicaknklgccoaaGreatDoorS8
set_option maxHeartbeats 8000000
set_option maxRecDepth 100000
namespace Go.Proofs.YtpicaknklgccoaaGreatDoor
open Go.RowKit
def DT : NR := ⟨0, 0, 0, 0, [], 0, 0, 0, 0, 0⟩
def lI (l : List NR) (rg : Int) : Option NR := l.find? (fun n => n.region == rg)
theorem Hf (l : List NR) (rg : Int) (k : Nat) (hk : k < l.length) : lI (l.drop k) rg = if l[k].region == rg then some l[k] else lI (l.drop (k + 1)) rg := by
 rw [List.drop_eq_getElem_cons hk]
 unfold lI
 rw [List.find?_cons]
 cases l[k].region == rg <;> rfl
theorem yD (w : World) (vv : Value) (l : List NR) (rg : Int) (base : Nat) (h : w.ownsRow base 160 10 vv l.length (l.flatMap pG)) (hl : l.length <= 9000) :
  Calls Tryz.prog 121 #[vv, .int .i64 rg] w fun v w' => v = .returned (.tuple #[aI ((lI l rg).getD DT), .bool (lI l rg).isSome]) /\ Below w.heap.size w w' := by
 have h0 : w.ownsRow 0 160 10 vv l.length (l.flatMap pG) := cY h (fun k hk => Nat.zero_le _)
 clear h
 obtain ⟨ans, cN⟩ : ∃ ans, ans = lI l rg := ⟨_, rfl⟩
 rw [<- cN]
 have jT : Hid _ := cN
 clear cN
 rcases h0.2 with ⟨hv, hn⟩ | ⟨g, cap, cur, hv, hx⟩
 ·subst hv
  have hA : ans = none := by rw [jT.out, List.length_eq_zero_iff.1 hn]; rfl
  subst hA
  clear h0 hn jT
  show Calls _ _ _ _ (fun v w' => v = .returned (.tuple #[aI DT, .bool false]) /\ Below w.heap.size w w')
  unfold aI DT
  go_enter Tryz.func121, Tryz.ntmps121
  go_wp2
  go_loopw [6] (fun i wr => i = .int .i64 0 /\ Below w.heap.size w wr /\ wr = w.alloc (bR DT)) (fun _ _ => 0)
  case atStart => exact ⟨rfl, (Below.refl _ w).alloc (Nat.le_refl _) _, rfl⟩
  case round =>
   obtain ⟨rfl, hb, rfl⟩ := hrel
   unfold bR xS DT
   go_wp2
   refine bodyPost_ret (v := .tuple #[.agg #[.int .i64 0, .int .i64 0, .int .i64 0, .int .i64 0, .string (bs []), .int .i64 0, .int .i64 0, .int .i64 0, .int .i64 0, .int .i64 0], .bool false]) (by simp [results, Tryz.results121, go_sem]; rfl) rfl ⟨rfl, ?_⟩
   exact (Below.refl _ w).alloc (Nat.le_refl _) _
 ·subst hv
  have hcells := fun k hk => vB h0 k hk
  have hgl : g < w.heap.size := (h0.lt g rfl).2
  obtain ⟨m, hm⟩ : ∃ m, m = l.length := ⟨_, rfl⟩
  have HM : Hid _ := hm
  have HC : Hid _ := hcells
  rw [<- hm] at hl ⊢
  clear hcells h0 hx hm
  unfold aI
  go_enter Tryz.func121, Tryz.ntmps121
  go_wp2
  go_loopw [6] (fun i wr => ∃ k : Nat, k <= m /\ i = .int .i64 k /\ wr = w.alloc (bR DT) /\ Hid (lI l rg = lI (l.drop k) rg)) (fun i _ => m - (intOf i).toNat)
  case atStart => exact ⟨0, Nat.zero_le _, rfl, rfl, (rfl : lI l rg = lI (l.drop 0) rg)⟩
  case round =>
   obtain ⟨k, hk, rfl, rfl, HF⟩ := hrel
   unfold bR xS DT
   by_cases hlt : k < m
   ·have hkl : k < l.length := by have := HM.out; omega
    obtain ⟨c0, c1, c2, c3, c4, c5, c6, c7, c8, c9⟩ := HC.out k hkl
    have nn := Hf l rg k hkl
    obtain ⟨n, hn⟩ : ∃ n, n = l[k] := ⟨_, rfl⟩
    rw [<- hn] at c0 c1 c2 c3 c4 c5 c6 c7 c8 c9 nn
    clear hn
    cases hr : (n.region == rg) with
    | true =>
     have HA : Hid (ans = some n) := (show ans = some n by rw [jT.out, HF.out, nn, if_pos hr])
     clear nn
     go_wp2
     refine bodyPost_ret (v := .tuple #[.agg #[.int .i64 n.form, .int .i64 n.at_, .int .i64 n.aO, .int .i64 n.num, .string (bs n.word), .int .i64 n.region, .int .i64 n.source, .int .i64 n.p0, .int .i64 n.p1, .int .i64 n.p2], .bool true]) (by simp [results, Tryz.results121, go_sem]) rfl ⟨by rw [HA.out]; rfl, ?_⟩
     exact (Below.refl _ w).alloc (Nat.le_refl _) _
    | false =>
     have cj : Hid (lI l rg = lI (l.drop (k + 1)) rg) := (show lI l rg = _ by rw [HF.out, nn, if_neg (by rw [hr]; simp)])
     clear nn
     go_wp2
     go_roundw
     case rel => exact ⟨k + 1, by omega, by go_num, rfl, cj.out⟩
     case measure => simp [intOf]; omega
   ·have HA : Hid (ans = none) := (show ans = none by rw [jT.out, HF.out, List.drop_eq_nil_of_le (by have := HM.out; omega)]; rfl)
    go_wp2
    refine bodyPost_ret (v := .tuple #[.agg #[.int .i64 0, .int .i64 0, .int .i64 0, .int .i64 0, .string (bs []), .int .i64 0, .int .i64 0, .int .i64 0, .int .i64 0, .int .i64 0], .bool false]) (by simp [results, Tryz.results121, go_sem]; rfl) rfl ⟨by rw [HA.out]; rfl, ?_⟩
    exact (Below.refl _ w).alloc (Nat.le_refl _) _
def dQ : List NR -> List NR -> List NR × Nat × Nat
 | [], l => (l, 0, 0)
 | n :: r, l => if n.form = 12 then (if (lI l n.region).isSome = true then (l, 7, n.at_) else dQ r (l ++ [n])) else dQ r l
def bD (ns : List NR) (op : List Int) : List NR := op.map (fun x => (ns[x.toNat]?).getD DT)
theorem kF (ns : List NR) (op : List Int) : (bD ns op).length = op.length := List.length_map _
theorem zQ {ns : List NR} {op : List Int} (ho : vq ns op) (k : Nat) (hk : k < ns.length) : ∃ (i : Nat) (n : NR), op[k]? = some (i : Int) /\ ns[i]? = some n /\ (bD ns op).drop k = n :: (bD ns op).drop (k + 1) /\ n ∈ bD ns op := by
 have hkl : k < op.length := by rw [ho.1]; exact hk
 obtain ⟨x0, x1⟩ := ho.2 op[k] (List.getElem_mem hkl)
 have hx : ns[op[k].toNat]? = some ns[op[k].toNat] := List.getElem?_eq_getElem x1
 refine ⟨op[k].toNat, ns[op[k].toNat], by rw [List.getElem?_eq_getElem hkl, Int.toNat_of_nonneg x0], hx, ?_, ?_⟩
 ·rw [List.drop_eq_getElem_cons (by rw [kF]; exact hkl)]
  congr 1
  unfold bD
  rw [List.getElem_map, hx]; rfl
 ·unfold bD
  rw [List.mem_map]
  exact ⟨op[k], List.getElem_mem hkl, by rw [hx]; rfl⟩
theorem DU (w : World) (nv ov : Value) (ns : List NR) (op : List Int) (h : bh w nv ov ns op) (ho : vq ns op) (hl : ns.length <= 9000) :
  Calls Tryz.prog 88 #[aK nv ov] w fun v w' => ∃ vv, v = .returned (.tuple #[vv, .int .i64 (dQ (bD ns op) []).2.1, .int .i64 (dQ (bD ns op) []).2.2]) /\ w'.ownsRow w.heap.size 160 10 vv (dQ (bD ns op) []).1.length ((dQ (bD ns op) []).1.flatMap pG) /\ Below w.heap.size w w' := by
 obtain ⟨i0, hi0, hz0, hz1, hz2⟩ := info_parts Tryz.Bq
 have HI : Hid _ := hi0
 have pq : Hid _ := hz0
 have pz : Hid _ := hz1
 have pF : Hid _ := hz2
 clear hi0 hz0 hz1 hz2
 have hlen := fun (w' : World) (hb : Below w.heap.size w w') => gx w' nv ov ns op (h.below hb)
 have gD := fun (w' : World) (hb : Below w.heap.size w w') (k i : Nat) (n : NR) (hk : op[k]? = some (i : Int)) (hi : ns[i]? = some n) => mn w' nv ov ns op (h.below hb) k i n hk hi hl (by rw [ho.1]; omega)
 obtain ⟨a0, jS, e0⟩ := aF h.nd
 obtain ⟨a1, kE, e1⟩ := aF h.op
 rw [ho.1] at e1
 obtain ⟨m, hm⟩ : ∃ m, m = ns.length := ⟨_, rfl⟩
 rw [<- hm] at e0 e1 hl
 subst e0
 subst e1
 have HO : Hid _ := ho
 have HM : Hid _ := hm
 unfold aK at hlen gD
 unfold aK
 unfold aI at gD
 rw [<- hm] at hlen
 have lH : Hid _ := hlen
 have DV : Hid _ := gD
 obtain ⟨ans, cN⟩ : ∃ ans, ans = dQ (bD ns op) [] := ⟨_, rfl⟩
 rw [<- cN]
 have jT : Hid _ := cN
 clear hlen gD ho h hm cN
 have A7 : Below w.heap.size w (w.alloc (.cells #[.slice a0 m jS, .slice a1 m kE] 59)) := (Below.refl _ w).alloc (Nat.le_refl _) _
 have dK : Hid _ := A7
 clear A7
 go_enter Tryz.func88, Tryz.ntmps88
 go_wp2
 obtain ⟨WB, pY⟩ : ∃ WB, WB = w.alloc (.cells #[.slice a0 m jS, .slice a1 m kE] 59) := ⟨_, rfl⟩
 have Br : Hid (WB.heap.size = w.heap.size + 1) := (show WB.heap.size = w.heap.size + 1 by rw [pY]; simp)
 have oX : Hid (∀ wr, Below WB.heap.size WB wr -> wr.cell? ⟨w.heap.size, 0, none⟩ = some (.slice a0 m jS) /\ wr.cell? ⟨w.heap.size, 1, none⟩ = some (.slice a1 m kE) /\ w.heap.size < wr.heap.size) := by
  intro wr hb
  rw [pY] at hb
  exact cX hb
 rw [<- pY] at dK ⊢
 have M5 : Hid _ := pY
 clear pY
 go_loopw [5, 6, 7, 8, 9] (fun v5 i _ _ _ wr => ∃ (k : Nat) (l : List NR) (vv : Value), k <= m /\ i = .int .i64 k /\ v5 = vv /\ l.length <= k /\ wr.ownsRow WB.heap.size 160 10 vv l.length (l.flatMap pG) /\ Hid (dQ (bD ns op) [] = dQ ((bD ns op).drop k) l) /\ Below WB.heap.size WB wr) (fun _ i _ _ _ _ => m - (intOf i).toNat)
 case atStart =>
  refine ⟨0, [], _, Nat.zero_le _, rfl, rfl, Nat.le_refl _, ⟨rfl, Or.inr ⟨w.heap.size + 1, 0, #[], rfl, by rw [Br.out]; exact Nat.le_refl _, ?_, Nat.le_refl _, by unfold maxLen; omega, rfl, rfl⟩⟩, (rfl : dQ (bD ns op) [] = dQ ((bD ns op).drop 0) []), (Below.refl _ WB).alloc (Nat.le_refl _) _⟩
  rw [<- Br.out]; exact aj _ _
 case round =>
  obtain ⟨k, l, _, hk, rfl, rfl, hlk, hown, HF, dw⟩ := hrel
  obtain ⟨b0, b1, bl⟩ := oX.out _ dw
  have xV := dK.out.trans (dw.mono dK.out.size)
  have gQ := lH.out _ xV
  have lJ := dw.size
  by_cases hlt : k < m
  ·obtain ⟨i, n, hop, hni, nn, _⟩ := zQ HO.out k (by have := HM.out; omega)
   have hst := HF.out
   rw [nn] at hst
   simp only [dQ] at hst
   have iQ : Hid _ := hst
   have Hg : Hid _ := hop
   have UI : Hid _ := hni
   have dS : Hid _ := hown
   have gW : Hid _ := dw
   clear hop hni nn hst hown HF
   go_wp2_with fail
   refine gQ.mono ?_
   rintro _ w1 ⟨rfl, hb1⟩
   have jr := dw.trans (hb1.mono lJ)
   obtain ⟨d0, d1, dl⟩ := oX.out _ jr
   have gD := DV.out w1 (dK.out.trans (jr.mono dK.out.size)) k i n Hg.out UI.out
   have dF : Hid _ := hb1
   clear jr hb1 gQ b0 b1 dw
   go_wp2_with fail
   refine gD.mono ?_
   rintro _ w2 ⟨rfl, hb2⟩
   have ez : Below wr.heap.size wr w2 := dF.out.trans (hb2.mono dF.out.size)
   have hW3 : Below wr.heap.size wr (w2.alloc (bR n)) := ez.alloc ez.size (bR n)
   have hnb : (w2.alloc (bR n)).heap[w2.heap.size]? = some (bR n) := aj _ _
   have ke := yD (w2.alloc (bR n)) u5 l n.region WB.heap.size (aA dS.out hW3) (by omega)
   have FB : Hid _ := hW3
   have Ju : Hid _ := hnb
   clear hb2 ez hW3 hnb gD d0 d1
   by_cases h12 : n.form = 12
   ·have yA : ((n.form : Int) == 12) = true := aH (b := 12) h12
    have hst := iQ.out
    rw [if_pos h12] at hst
    have ed : Hid _ := hst
    clear hst iQ h12
    obtain ⟨x, hx⟩ : ∃ x, x = lI l n.region := ⟨_, rfl⟩
    rw [<- hx] at ke ed
    obtain ⟨y, hy⟩ : ∃ y, y = x.getD DT := ⟨_, rfl⟩
    rw [<- hy] at ke
    unfold aI at ke
    unfold bR xS at ke
    clear hx hy
    go_wp2_with fail
    refine ke.mono ?_
    rintro _ w4 ⟨rfl, hb4⟩
    have DW : w4.heap[w2.heap.size]? = some (bR n) := by rw [hb4.block _ (by simp)]; exact Ju.out
    obtain ⟨d0, d1, d2, d3, d4, d5, d6, d7, d8, d9⟩ := aC DW
    have lg := af DW
    have TH : Below wr.heap.size wr w4 := FB.out.trans (hb4.mono FB.out.size)
    have TI : Hid _ := TH
    clear hb4 DW ke TH
    cases x with
    | some z =>
     have HA : Hid (ans = (l, 7, n.at_)) := (show ans = _ by rw [jT.out, ed.out]; rfl)
     have oF : Hid (Below WB.heap.size WB (w4.alloc (bR y))) := by
      have := gW.out.trans (TI.out.mono lJ)
      exact this.alloc this.size _
     have Jv : Hid ((w4.alloc (bR y)).ownsRow WB.heap.size 160 10 u5 l.length (l.flatMap pG)) := (aA dS.out TI.out).alloc _
     go_wp2
     go_quiet (fail)
     go_wp2
     refine bodyPost_ret (v := .tuple #[u5, .int .i64 7, .int .i64 n.at_]) (by simp [results, Tryz.results88, go_sem]) rfl ⟨u5, by rw [HA.out]; rfl, ?_, ?_⟩
     ·rw [HA.out]
      exact cY Jv.out (fun k hk => by have := Br.out; have := (World.ownsRow.lt Jv.out k hk).1; omega)
     ·exact (dK.out.trans (oF.out.mono dK.out.size)).trans ⟨rfl, rfl, rfl, Nat.le_refl _, fun _ _ => rfl⟩
    | none =>
     have HN : Hid (dQ (bD ns op) [] = dQ ((bD ns op).drop (k + 1)) (l ++ [n])) := (show _ = _ by rw [ed.out]; rfl)
     have YA : Hid (Below WB.heap.size WB ((w4.alloc (bR y)).alloc (bR n))) := by
      have := gW.out.trans (TI.out.mono lJ)
      have h2 := this.alloc this.size (bR y)
      exact h2.alloc h2.size _
     have NG : Hid (((w4.alloc (bR y)).alloc (bR n)).ownsRow WB.heap.size 160 10 u5 l.length (l.flatMap pG)) := ((aA dS.out TI.out).alloc _).alloc _
     have h45 : (w4.alloc (bR y)).heap.size = w4.heap.size + 1 := by simp
     have xX : Hid (∀ (j : Nat) (u : Value), (pG n)[j]? = some u -> ((w4.alloc (bR y)).alloc (bR n)).cell? ((⟨w4.heap.size + 1, 0, none⟩ : Addr).add j) = some u) := by
      intro j u hj
      have hq := bH (w4.alloc (bR y)) (pG n) 160 j
      rw [h45] at hq
      rw [<- hj, <- hq]; rfl
     unfold bR xS at NG xX YA
     clear h45
     go_wp2_with (at_builtin; go_must (refine wpList_append_own _ rfl (.tmp 34) (.tmp 36) 57 rfl WB.heap.size 160 i0 _ 10 88 Tryz.Bs HI.out pq.out pz.out pF.out rfl (by decide) u5 l.length (l.flatMap pG) rfl NG.out ⟨w4.heap.size + 1, 0, none⟩ 1 1 (pG n) rfl rfl xX.out (JY n) ?c3 ?c4 ?c5 ?_))
     case c3 => unfold maxLen; omega
     case c4 => omega
     case c5 => have := TI.out.size; first | omega | (simp; omega)
     intro v' w6 hown' hgrow hnil
     have DX : Hid (Below WB.heap.size WB w6) := (YA.out).grown hgrow YA.out.size (fun b hb => (World.ownsRow.lt NG.out b hb).1)
     have NH : Hid (w6.ownsRow WB.heap.size 160 10 v' (l ++ [n]).length ((l ++ [n]).flatMap pG)) := by
      show w6.ownsRow WB.heap.size 160 10 v' (l ++ [n]).length ((l ++ [n]).flatMap pG)
      rw [List.length_append, List.flatMap_append]
      simpa using hown'
     clear hown' hgrow hnil
     go_wp2
     go_roundw
     case rel => exact ⟨k + 1, l ++ [n], _, by omega, by go_num, rfl, by simp; omega, NH.out, HN.out, DX.out⟩
     case measure => simp [intOf]; omega
   ·have yA : ((n.form : Int) == 12) = false := ah (b := 12) h12
    have hst := iQ.out
    rw [if_neg h12] at hst
    have ed : Hid _ := hst
    have iI : Hid (Below WB.heap.size WB (w2.alloc (bR n))) := gW.out.trans (FB.out.mono lJ)
    have DY : Hid ((w2.alloc (bR n)).ownsRow WB.heap.size 160 10 u5 l.length (l.flatMap pG)) := aA dS.out FB.out
    unfold bR xS at iI DY
    clear hst iQ h12 ke
    go_wp2
    go_roundw
    case rel => exact ⟨k + 1, l, _, by omega, by go_num, rfl, by omega, DY.out, ed.out, iI.out⟩
    case measure => simp [intOf]; omega
  ·have HA : Hid (ans = (l, 0, 0)) := by
    have FC : (bD ns op).drop k = [] := List.drop_eq_nil_of_le (by rw [kF]; have := HO.out.1; have := HM.out; omega)
    rw [jT.out, HF.out, FC]; exact rfl
   have gW : Hid _ := dw
   have dS : Hid _ := hown
   clear dw hown
   go_wp2_with fail
   refine gQ.mono ?_
   rintro _ w1 ⟨rfl, hb1⟩
   have dF : Hid _ := dK.out.trans ((gW.out.trans (hb1.mono lJ)).mono dK.out.size)
   have P6 : Hid _ := aA dS.out hb1
   clear hb1 gQ
   go_wp2
   refine bodyPost_ret (v := .tuple #[u5, .int .i64 0, .int .i64 0]) (by simp [results, Tryz.results88, go_sem]) rfl ⟨u5, by rw [HA.out]; rfl, ?_, dF.out⟩
   rw [HA.out]
   exact cY P6.out (fun k hk => by have := Br.out; have := (World.ownsRow.lt P6.out k hk).1; omega)
def lX (l : List NR) : List NR -> Nat × Nat
 | [] => (0, 0)
 | n :: r => if n.form = 4 then (match lI l n.region with
   | some o => if n.at_ < o.at_ \/ o.aO <= n.at_ then (8, n.at_) else lX l r
   | none => lX l r) else lX l r
theorem Bt (w : World) (nv ov vv : Value) (ns : List NR) (op : List Int) (l : List NR) (base : Nat) (h : bh w nv ov ns op) (ho : vq ns op) (hl : ns.length <= 9000) (hown : w.ownsRow base 160 10 vv l.length (l.flatMap pG)) (hll : l.length <= 9000) :
  Calls Tryz.prog 89 #[aK nv ov, vv] w fun v w' => v = .returned (.tuple #[.int .i64 (lX l (bD ns op)).1, .int .i64 (lX l (bD ns op)).2]) /\ Below w.heap.size w w' := by
 have hlen := fun (w' : World) (hb : Below w.heap.size w w') => gx w' nv ov ns op (h.below hb)
 have gD := fun (w' : World) (hb : Below w.heap.size w w') (k i : Nat) (n : NR) (hk : op[k]? = some (i : Int)) (hi : ns[i]? = some n) => mn w' nv ov ns op (h.below hb) k i n hk hi hl (by rw [ho.1]; omega)
 have UJ := fun (w' : World) (hb : Below w.heap.size w w') (rg : Int) => yD w' vv l rg base (aA hown hb) hll
 obtain ⟨a0, jS, e0⟩ := aF h.nd
 obtain ⟨a1, kE, e1⟩ := aF h.op
 rw [ho.1] at e1
 obtain ⟨m, hm⟩ : ∃ m, m = ns.length := ⟨_, rfl⟩
 rw [<- hm] at e0 e1 hl
 subst e0
 subst e1
 have HO : Hid _ := ho
 have HM : Hid _ := hm
 unfold aK at hlen gD
 unfold aK
 unfold aI at gD
 rw [<- hm] at hlen
 have lH : Hid _ := hlen
 have DV : Hid _ := gD
 have YB : Hid _ := UJ
 obtain ⟨ans, cN⟩ : ∃ ans, ans = lX l (bD ns op) := ⟨_, rfl⟩
 rw [<- cN]
 have jT : Hid _ := cN
 clear hlen gD UJ ho h hm cN hown hll
 have A7 : Below w.heap.size w (w.alloc (.cells #[.slice a0 m jS, .slice a1 m kE] 59)) := (Below.refl _ w).alloc (Nat.le_refl _) _
 have dK : Hid _ := A7
 clear A7
 go_enter Tryz.func89, Tryz.ntmps89
 go_wp2
 obtain ⟨WB, pY⟩ : ∃ WB, WB = w.alloc (.cells #[.slice a0 m jS, .slice a1 m kE] 59) := ⟨_, rfl⟩
 have oX : Hid (∀ wr, Below WB.heap.size WB wr -> wr.cell? ⟨w.heap.size, 0, none⟩ = some (.slice a0 m jS) /\ wr.cell? ⟨w.heap.size, 1, none⟩ = some (.slice a1 m kE) /\ w.heap.size < wr.heap.size) := by
  intro wr hb
  rw [pY] at hb
  exact cX hb
 rw [<- pY] at dK ⊢
 clear pY
 go_loopw [6, 7, 8, 9] (fun i _ _ _ wr => ∃ (k : Nat), k <= m /\ i = .int .i64 k /\ Hid (lX l (bD ns op) = lX l ((bD ns op).drop k)) /\ Below WB.heap.size WB wr) (fun i _ _ _ _ => m - (intOf i).toNat)
 case atStart => exact ⟨0, Nat.zero_le _, rfl, (rfl : lX l (bD ns op) = lX l ((bD ns op).drop 0)), Below.refl _ _⟩
 case round =>
  obtain ⟨k, hk, rfl, HF, dw⟩ := hrel
  obtain ⟨b0, b1, bl⟩ := oX.out _ dw
  have xV := dK.out.trans (dw.mono dK.out.size)
  have gQ := lH.out _ xV
  have lJ := dw.size
  by_cases hlt : k < m
  ·obtain ⟨i, n, hop, hni, nn, _⟩ := zQ HO.out k (by have := HM.out; omega)
   have hst := HF.out
   rw [nn] at hst
   simp only [lX] at hst
   have iQ : Hid _ := hst
   have Hg : Hid _ := hop
   have UI : Hid _ := hni
   have gW : Hid _ := dw
   clear hop hni nn hst HF
   go_wp2_with fail
   refine gQ.mono ?_
   rintro _ w1 ⟨rfl, hb1⟩
   have jr := dw.trans (hb1.mono lJ)
   obtain ⟨d0, d1, dl⟩ := oX.out _ jr
   have gD := DV.out w1 (dK.out.trans (jr.mono dK.out.size)) k i n Hg.out UI.out
   have dF : Hid _ := hb1
   clear jr hb1 gQ b0 b1 dw
   go_wp2_with fail
   refine gD.mono ?_
   rintro _ w2 ⟨rfl, hb2⟩
   have ez : Below wr.heap.size wr w2 := dF.out.trans (hb2.mono dF.out.size)
   have hW3 : Below wr.heap.size wr (w2.alloc (bR n)) := ez.alloc ez.size (bR n)
   have hnb : (w2.alloc (bR n)).heap[w2.heap.size]? = some (bR n) := aj _ _
   have ke := YB.out (w2.alloc (bR n)) (dK.out.trans ((gW.out.trans (hW3.mono lJ)).mono dK.out.size)) n.region
   have FB : Hid _ := hW3
   have Ju : Hid _ := hnb
   clear hb2 ez hW3 hnb gD d0 d1
   by_cases h4 : n.form = 4
   ·have q4 : ((n.form : Int) == 4) = true := aH (b := 4) h4
    have hst := iQ.out
    rw [if_pos h4] at hst
    have ed : Hid _ := hst
    clear hst iQ h4
    obtain ⟨x, hx⟩ : ∃ x, x = lI l n.region := ⟨_, rfl⟩
    rw [<- hx] at ke ed
    obtain ⟨y, hy⟩ : ∃ y, y = x.getD DT := ⟨_, rfl⟩
    rw [<- hy] at ke
    have HY : Hid _ := hy
    unfold aI at ke
    unfold bR xS at ke
    clear hx hy
    go_wp2_with fail
    refine ke.mono ?_
    rintro _ w4 ⟨rfl, hb4⟩
    have DW : w4.heap[w2.heap.size]? = some (bR n) := by rw [hb4.block _ (by simp)]; exact Ju.out
    obtain ⟨d0, d1, d2, d3, d4, d5, d6, d7, d8, d9⟩ := aC DW
    have lg := af DW
    have TH : Below wr.heap.size wr w4 := FB.out.trans (hb4.mono FB.out.size)
    have TI : Hid _ := TH
    have oF : Hid (Below WB.heap.size WB (w4.alloc (bR y))) := by
     have := gW.out.trans (TH.mono lJ)
     exact this.alloc this.size _
    clear hb4 DW ke TH
    cases x with
    | some z =>
     have hyz : y = z := HY.out
     subst hyz
     clear HY
     by_cases h1 : n.at_ < y.at_
     ·have HA : Hid (ans = (8, n.at_)) := (show ans = _ by rw [jT.out, ed.out]; simp [h1])
      have hz : (n.at_ : Int) < (y.at_ : Int) := by omega
      have hzd : decide ((n.at_ : Int) < (y.at_ : Int)) = true := by simpa using hz
      go_wp2
      go_quiet (fail)
      go_wp2
      refine bodyPost_ret (v := .tuple #[.int .i64 8, .int .i64 n.at_]) (by simp [results, Tryz.results89, go_sem]) rfl ⟨by rw [HA.out]; rfl, ?_⟩
      exact (dK.out.trans (oF.out.mono dK.out.size)).trans ⟨rfl, rfl, rfl, Nat.le_refl _, fun _ _ => rfl⟩
     ·have hz : ¬ (n.at_ : Int) < (y.at_ : Int) := by omega
      have hzd : decide ((n.at_ : Int) < (y.at_ : Int)) = false := by simpa using hz
      by_cases h2 : y.aO <= n.at_
      ·have HA : Hid (ans = (8, n.at_)) := (show ans = _ by rw [jT.out, ed.out]; simp [h2])
       have hz2 : (y.aO : Int) <= (n.at_ : Int) := by omega
       go_wp2
       go_quiet (fail)
       go_wp2
       refine bodyPost_ret (v := .tuple #[.int .i64 8, .int .i64 n.at_]) (by simp [results, Tryz.results89, go_sem]) rfl ⟨by rw [HA.out]; rfl, ?_⟩
       exact (dK.out.trans (oF.out.mono dK.out.size)).trans ⟨rfl, rfl, rfl, Nat.le_refl _, fun _ _ => rfl⟩
      ·have HN : Hid (lX l (bD ns op) = lX l ((bD ns op).drop (k + 1))) := (show _ = _ by rw [ed.out]; simp [h1, h2])
       have hz2 : ¬ (y.aO : Int) <= (n.at_ : Int) := by omega
       have aaB : decide ((y.aO : Int) <= (n.at_ : Int)) = false := by simpa using hz2
       clear ed
       go_wp2
       go_roundw
       case rel => exact ⟨k + 1, by omega, by go_num, HN.out, oF.out⟩
       case measure => simp [intOf]; omega
    | none =>
     have HN : Hid (lX l (bD ns op) = lX l ((bD ns op).drop (k + 1))) := (show _ = _ by rw [ed.out])
     go_wp2
     go_roundw
     case rel => exact ⟨k + 1, by omega, by go_num, HN.out, oF.out⟩
     case measure => simp [intOf]; omega
   ·have q4 : ((n.form : Int) == 4) = false := ah (b := 4) h4
    have hst := iQ.out
    rw [if_neg h4] at hst
    have ed : Hid _ := hst
    have iI : Hid (Below WB.heap.size WB (w2.alloc (bR n))) := gW.out.trans (FB.out.mono lJ)
    unfold bR xS at iI
    clear hst iQ h4 ke
    go_wp2
    go_roundw
    case rel => exact ⟨k + 1, by omega, by go_num, ed.out, iI.out⟩
    case measure => simp [intOf]; omega
  ·have HA : Hid (ans = (0, 0)) := by
    have FC : (bD ns op).drop k = [] := List.drop_eq_nil_of_le (by rw [kF]; have := HO.out.1; have := HM.out; omega)
    rw [jT.out, HF.out, FC]; exact rfl
   have gW : Hid _ := dw
   clear dw
   go_wp2_with fail
   refine gQ.mono ?_
   rintro _ w1 ⟨rfl, hb1⟩
   have dF : Hid _ := dK.out.trans ((gW.out.trans (hb1.mono lJ)).mono dK.out.size)
   clear hb1 gQ
   go_wp2
   refine bodyPost_ret (v := .tuple #[.int .i64 0, .int .i64 0]) (by simp [results, Tryz.results89, go_sem]) rfl ⟨by rw [HA.out]; rfl, dF.out⟩
def gY (tb : List TP) : Nat -> Nat -> Int -> Bool
 | 0, _, _ => false
 | f + 1, k, rg => if k = 0 \/ tb.length < k then false else (((fo tb k).r : Int) == rg) || gY tb f (fo tb k).a rg || gY tb f (fo tb k).b rg
def UK (tb : List TP) : Prop := ∀ k, (fo tb (k + 1)).a <= k /\ (fo tb (k + 1)).b <= k
theorem pH (cb o : Nat) (pv : Value) (tb : List TP) (hl : tb.length <= 9000) (hlow : UK tb) (rg : Int) : ∀ (f k : Nat), k < f -> k <= 10000 -> ∀ (w : World), w.cell? ⟨cb, o, none⟩ = some pv -> w.ownsRow 0 212 4 pv tb.length (tb.flatMap A8) ->
  Calls Tryz.prog 151 #[.pointer (some ⟨cb, o, none⟩), .int .i64 k, .int .i64 rg] w fun v w' => v = .returned (.bool (gY tb f k rg)) /\ Below w.heap.size w w' := by
 intro f
 induction f with
 | zero => intro k hk; omega
 | succ f ih =>
  intro k DZ hk w hc hr
  have uD := World.block_lt_of_cell? _ _ hc
  show Calls _ _ #[Value.pointer (some ⟨cb, o, none⟩), _, _] w _
  by_cases h0 : k = 0 \/ tb.length < k
  ·have e : gY tb (f + 1) k rg = false := by simp only [gY]; rw [if_pos h0]
   rw [e]
   obtain ⟨a, cap, rfl⟩ := aF hr
   generalize tb.length = m at *
   clear hr e ih hlow
   rcases h0 with h0 | h0
   ·have h0' : k < 1 := by omega
    clear h0
    go_enter Tryz.func151, Tryz.ntmps151
    go_wp2
    go_ret
    exact ⟨rfl, Below.refl _ _⟩
   ·have h1 : 1 <= k := by omega
    go_enter Tryz.func151, Tryz.ntmps151
    go_wp2
    go_ret
    exact ⟨rfl, Below.refl _ _⟩
  ·have hrec : ∀ (k' : Nat), k' < k -> ∀ w', Below w.heap.size w w' -> Calls Tryz.prog 151 #[.pointer (some ⟨cb, o, none⟩), .int .i64 k', .int .i64 rg] w' fun v w'' => v = .returned (.bool (gY tb f k' rg)) /\ Below w'.heap.size w' w'' := by
    intro k' hk' w' hb
    exact ih k' (by omega) (by omega) w' (by rw [hb.cell (p := ⟨cb, o, none⟩) uD]; exact hc) (aA hr hb)
   have hm : gY tb (f + 1) k rg = ((((fo tb k).r : Int) == rg) || gY tb f (fo tb k).a rg || gY tb f (fo tb k).b rg) := by simp only [gY]; rw [if_neg h0]
   obtain ⟨g, cap, rfl⟩ := fB hr (by omega)
   obtain ⟨j, rfl⟩ : ∃ j, k = j + 1 := ⟨k - 1, by omega⟩
   have hj : j < tb.length := by omega
   obtain ⟨p, hp⟩ : ∃ p, tb[j]? = some p := ⟨tb[j], List.getElem?_eq_getElem hj⟩
   have e : fo tb (j + 1) = p := by unfold fo; rw [if_neg (by omega), Nat.add_sub_cancel, hp]; rfl
   have hlo := hlow j
   rw [e] at hm hlo
   obtain ⟨c0, c1, c2, c3⟩ := vC hr j p hp
   have hg : g < w.heap.size := (hr.lt g rfl).2
   have ej : ((j + 1 : Nat) : Int) = (j : Int) + 1 := by omega
   have ej2 : (j : Int) + 1 - 1 = (j : Int) := by omega
   have P7 := hrec p.a (by omega)
   have FD := hrec p.b (by omega)
   have TJ : Hid _ := P7
   have NI : Hid _ := FD
   obtain ⟨ma, hma⟩ : ∃ ma, ma = gY tb f p.a rg := ⟨_, rfl⟩
   obtain ⟨mb, nu⟩ : ∃ mb, mb = gY tb f p.b rg := ⟨_, rfl⟩
   rw [<- hma] at TJ hm
   rw [<- nu] at NI hm
   obtain ⟨R, hR⟩ : ∃ R, R = gY tb (f + 1) (j + 1) rg := ⟨_, rfl⟩
   rw [<- hR] at hm ⊢
   generalize tb.length = m at *
   have dK : Hid (Below w.heap.size w (w.alloc (.cells #[.int .i64 p.r, .int .i64 p.a, .int .i64 p.b, .int .i64 p.sz] 212))) := (Below.refl _ _).alloc (Nat.le_refl _) _
   have HM : Hid _ := hm
   clear hr e hp h0 hrec P7 FD ih hlow hma nu hR hm hlo
   rw [ej]
   cases hq : ((p.r : Int) == rg) with
   | true =>
    have HR : Hid (R = true) := (show R = true by rw [HM.out, hq]; rfl)
    clear HM
    go_enter Tryz.func151, Tryz.ntmps151
    go_wp2
    go_ret
    exact ⟨by rw [HR.out]; first | done | rfl, dK.out⟩
   | false =>
    go_enter Tryz.func151, Tryz.ntmps151
    go_wp2_with fail
    refine (TJ.out _ dK.out).mono ?_
    rintro _ w2 ⟨rfl, hb2⟩
    have qP : w2.heap[w.heap.size]? = some (.cells #[.int .i64 p.r, .int .i64 p.a, .int .i64 p.b, .int .i64 p.sz] 212 (0, 0)) := by rw [hb2.block _ (by simp)]; exact aj _ _
    have d2 : w2.cell? ⟨w.heap.size, 2, none⟩ = some (.int .i64 p.b) := by rw [aa qP]; rfl
    have hpl := af qP
    have hW2 : Below w.heap.size w w2 := dK.out.trans (hb2.mono dK.out.size)
    have Xy : Hid _ := hW2
    clear hb2 qP hW2
    cases ma with
    | true =>
     have HR : Hid (R = true) := (show R = true by rw [HM.out, hq]; rfl)
     clear HM
     go_wp2
     go_ret
     exact ⟨by rw [HR.out]; first | done | rfl, Xy.out⟩
    | false =>
     have HR : Hid (R = mb) := (show R = mb by rw [HM.out, hq]; rfl)
     clear HM
     go_wp2_with fail
     refine (NI.out _ Xy.out).mono ?_
     rintro _ w3 ⟨rfl, hb3⟩
     have iI : Hid (Below w.heap.size w w3) := Xy.out.trans (hb3.mono Xy.out.size)
     clear hb3
     go_wp2
     go_ret
     exact ⟨by rw [HR.out]; first | done | rfl, iI.out⟩
theorem zT (cb : Nat) (pv : Value) (tb : List TP) (hl : tb.length <= 9000) (hlow : UK tb) (rg : Int) : ∀ (f k : Nat), k < f -> k <= 10000 -> ∀ (w : World), w.cell? ⟨cb, 0, none⟩ = some pv -> w.ownsRow 0 212 4 pv tb.length (tb.flatMap A8) ->
  Calls Tryz.prog 151 #[ptr cb, .int .i64 k, .int .i64 rg] w fun v w' => v = .returned (.bool (gY tb f k rg)) /\ Below w.heap.size w w' :=
 pH cb 0 pv tb hl hlow rg
def UL (tb : List TP) (K : List Nat) (n : NR) : Nat :=
 if n.form = 7 \/ n.form = 11 then (if aq K n.p1 = aq K n.p2 then 0 else 9)
 else if n.form = 12 then (if gY tb (tb.length + 1) (aq K n.p0) n.region = true then 10 else 0)
 else 0
theorem zU (w : World) (cb : Nat) (pv tv : Value) (tb : List TP) (K : List Nat) (n : NR) (h : zN cb w pv tv tb K) (hlow : UK tb) (hl : tb.length <= 9000) (hK : K.length <= 9000) (hkn : aq K n.p0 <= tb.length) (oA : -10 <= n.p0 /\ n.p0 <= 10000) (gu : -10 <= n.p1 /\ n.p1 <= 10000) (uE : -10 <= n.p2 /\ n.p2 <= 10000) :
  Calls Tryz.prog 122 #[aI n, ptr cb] w fun v w' => v = .returned (.int .i64 (UL tb K n)) /\ Below w.heap.size w w' := by
 have hbx : Below w.heap.size w (w.alloc (bR n)) := (Below.refl _ _).alloc (Nat.le_refl _) _
 have hin := h.below hbx
 have o9 := j8 (w.alloc (bR n)) cb pv tv tb K n.p0 hin hK oA
 have hk1 := j8 (w.alloc (bR n)) cb pv tv tb K n.p1 hin hK gu
 have hk2 := j8 (w.alloc (bR n)) cb pv tv tb K n.p2 hin hK uE
 have ui := af hin.y
 have hm := fun (w' : World) (hb : Below (w.alloc (bR n)).heap.size (w.alloc (bR n)) w') => zT cb pv tb hl hlow n.region (tb.length + 1) (aq K n.p0) (by omega) (by omega) w' (by rw [hb.cell (p := ⟨cb, 0, none⟩) ui, aa hin.y]; rfl) (aA hin.p hb)
 have dK : Hid _ := hbx
 have iH : Hid (UL tb K n = if n.form = 7 \/ n.form = 11 then (if aq K n.p1 = aq K n.p2 then 0 else 9)
  else if n.form = 12 then (if gY tb (tb.length + 1) (aq K n.p0) n.region = true then 10 else 0) else 0) := rfl
 obtain ⟨R, hR⟩ : ∃ R, R = UL tb K n := ⟨_, rfl⟩
 rw [<- hR] at iH ⊢
 obtain ⟨mv, hmv⟩ : ∃ mv, mv = gY tb (tb.length + 1) (aq K n.p0) n.region := ⟨_, rfl⟩
 rw [<- hmv] at iH hm
 clear hR h hin hbx hmv
 unfold ptr at o9 hk1 hk2 hm
 unfold aI
 unfold bR xS at o9 hk1 hk2 hm dK
 have JQ : Hid _ := o9
 have DN : Hid _ := hk1
 have nk : Hid _ := hk2
 have NJ : Hid _ := hm
 have aaC : cb < w.heap.size + 1 := by simpa using ui
 clear o9 hk1 hk2 hm hkn ui
 generalize aq K n.p0 = ka at *
 generalize aq K n.p1 = kb at *
 generalize aq K n.p2 = kc at *
 show Calls _ _ #[_, Value.pointer (some ⟨cb, 0, none⟩)] w _
 by_cases k7 : n.form = 7 \/ n.form = 11
 ·have HQ : Hid (R = if kb = kc then 0 else 9) := (show R = _ by rw [iH.out, if_pos k7])
  have q7 : ((n.form : Int) == 7) = true \/ (((n.form : Int) == 7) = false /\ ((n.form : Int) == 11) = true) := by
   rcases k7 with h | h
   ·exact .inl (aH (b := 7) h)
   ·exact .inr ⟨ah (b := 7) (by omega), aH (b := 11) h⟩
  clear iH k7 NJ
  by_cases hc : kb = kc
  ·have e1 : ((kb : Int) == (kc : Int)) = true := by rw [hc]; simp
   have HR : Hid (R = 0) := by rw [HQ.out, if_pos hc]; exact rfl
   clear hc HQ
   rcases q7 with q7 | ⟨q7, xT⟩
   all_goals
    go_enter Tryz.func122, Tryz.ntmps122
    go_wp2_with fail
    refine Calls.mono JQ.out ?_
    rintro _ _ ⟨rfl, rfl⟩
    go_wp2_with fail
    refine Calls.mono DN.out ?_
    rintro _ _ ⟨rfl, rfl⟩
    go_wp2_with fail
    refine Calls.mono nk.out ?_
    rintro _ _ ⟨rfl, rfl⟩
    go_wp2
    go_ret
    exact ⟨by rw [HR.out]; first | done | rfl, dK.out⟩
  ·have e1 : ((kb : Int) == (kc : Int)) = false := by rw [beq_eq_false_iff_ne]; omega
   have HR : Hid (R = 9) := by rw [HQ.out, if_neg hc]; exact rfl
   clear hc HQ
   rcases q7 with q7 | ⟨q7, xT⟩
   all_goals
    go_enter Tryz.func122, Tryz.ntmps122
    go_wp2_with fail
    refine Calls.mono JQ.out ?_
    rintro _ _ ⟨rfl, rfl⟩
    go_wp2_with fail
    refine Calls.mono DN.out ?_
    rintro _ _ ⟨rfl, rfl⟩
    go_wp2_with fail
    refine Calls.mono nk.out ?_
    rintro _ _ ⟨rfl, rfl⟩
    go_wp2
    go_ret
    exact ⟨by rw [HR.out]; first | done | rfl, dK.out⟩
 ·have q7 : ((n.form : Int) == 7) = false := ah (b := 7) (by omega)
  have xT : ((n.form : Int) == 11) = false := ah (b := 11) (by omega)
  by_cases k12 : n.form = 12
  ·have yA : ((n.form : Int) == 12) = true := aH (b := 12) k12
   have HQ : Hid (R = if mv = true then 10 else 0) := (show R = _ by rw [iH.out, if_neg k7, if_pos k12])
   clear iH k7 k12
   go_enter Tryz.func122, Tryz.ntmps122
   go_wp2_with fail
   refine Calls.mono JQ.out ?_
   rintro _ _ ⟨rfl, rfl⟩
   go_wp2_with fail
   refine Calls.mono DN.out ?_
   rintro _ _ ⟨rfl, rfl⟩
   go_wp2_with fail
   refine Calls.mono nk.out ?_
   rintro _ _ ⟨rfl, rfl⟩
   go_wp2
   go_region_with (go_at_call 151; refine (NJ.out _ ?_).mono ?_; exact ⟨rfl, rfl, rfl, Nat.le_refl _, fun _ _ => rfl⟩; rintro e w5 ⟨rfl, lY⟩)
   all_goals
    have Bu : Hid (Below w.heap.size w w5) := dK.out.trans (⟨lY.os, lY.tape, lY.output, lY.size, fun k hk => lY.block k (by have h2 : k < w.heap.size := hk; simp [World.drew] at *; omega)⟩)
    clear lY
    cases mv with
    | true =>
     have HR : Hid (R = 10) := (show R = 10 by rw [HQ.out]; rfl)
     go_wp2
     go_ret
     exact ⟨by rw [HR.out]; first | done | rfl, Bu.out⟩
    | false =>
     have HR : Hid (R = 0) := (show R = 0 by rw [HQ.out]; rfl)
     go_wp2
     go_ret
     exact ⟨by rw [HR.out]; first | done | rfl, Bu.out⟩
  ·have yA : ((n.form : Int) == 12) = false := ah (b := 12) k12
   have HR : Hid (R = 0) := (show R = 0 by rw [iH.out, if_neg k7, if_neg k12])
   clear iH k7 k12 NJ
   go_enter Tryz.func122, Tryz.ntmps122
   go_wp2_with fail
   refine Calls.mono JQ.out ?_
   rintro _ _ ⟨rfl, rfl⟩
   go_wp2_with fail
   refine Calls.mono DN.out ?_
   rintro _ _ ⟨rfl, rfl⟩
   go_wp2_with fail
   refine Calls.mono nk.out ?_
   rintro _ _ ⟨rfl, rfl⟩
   go_wp2
   go_ret
   exact ⟨by rw [HR.out]; first | done | rfl, dK.out⟩
theorem eW (E : List Nat) (x y : Nat) : (iO E x y).length = E.length := by unfold iO; split <;> simp
def lK (tb : List TP) : Nat -> List Nat -> Nat -> Nat -> List Nat
 | 0, E, _, _ => E
 | f + 1, E, x, y => if x = y \/ x = 0 \/ y = 0 then E else lK tb f (lK tb f (iO E (fo tb x).r (fo tb y).r) (fo tb x).a (fo tb y).a) (fo tb x).b (fo tb y).b
theorem pZ (tb : List TP) : ∀ (f : Nat) (E : List Nat) (x y : Nat), (lK tb f E x y).length = E.length
 | 0, _, _, _ => rfl
 | f + 1, E, x, y => by
  simp only [lK]
  split
  ·rfl
  ·rw [pZ tb f, pZ tb f, eW]
structure xL (g : Nat) (w w' : World) : Prop where
 os : w'.os = w.os
 tape : w'.tape = w.tape
 output : w'.output = w.output
 size : w.heap.size <= w'.heap.size
 blk : ∀ k, k < w.heap.size -> k ≠ g -> w'.heap[k]? = w.heap[k]?
theorem xL.trans {g : Nat} {w w1 w2 : World} (h : xL g w w1) (h' : xL g w1 w2) : xL g w w2 :=
 ⟨h'.os.trans h.os, h'.tape.trans h.tape, h'.output.trans h.output, Nat.le_trans h.size h'.size, fun k hk hg => (h'.blk k (Nat.lt_of_lt_of_le hk h.size) hg).trans (h.blk k hk hg)⟩
theorem xL.below {w w' : World} (g : Nat) (h : Below w.heap.size w w') : xL g w w' := ⟨h.os, h.tape, h.output, h.size, fun k hk _ => h.block k hk⟩
theorem xL.set (g k : Nat) (w : World) (v : Value) : xL g w (w.setCell ⟨g, k, none⟩ v) := ⟨rfl, rfl, rfl, by simp [World.setCell], fun j _ hg => ak _ _ (by simpa using hg)⟩
theorem xL.cell {g : Nat} {w w' : World} (h : xL g w w') {b o : Nat} (hb : b < w.heap.size) (hg : b ≠ g) : w'.cell? ⟨b, o, none⟩ = w.cell? ⟨b, o, none⟩ := by
 unfold World.cell?
 simp only [h.blk b hb hg]
theorem Hh (sb g cap : Nat) (pv : Value) (tb : List TP) (hl : tb.length <= 9000) (hlow : UK tb) (hgs : g ≠ sb) (DA : pv.ownBlock ≠ some g) : ∀ (f x y : Nat) (E : List Nat) (w : World), x < f -> x <= 10000 -> y <= 10000 -> E.length <= 9000 -> (∀ k, (fo tb k).r < E.length) ->
  w.cell? ⟨sb, 0, none⟩ = some pv -> w.cell? ⟨sb, 2, none⟩ = some (.slice (some ⟨g, 0, none⟩) E.length cap) -> w.ownsRow 0 212 4 pv tb.length (tb.flatMap A8) -> w.ownsRow 0 3 1 (.slice (some ⟨g, 0, none⟩) E.length cap) E.length (cA E) ->
  Calls Tryz.prog 135 #[ptr sb, .int .i64 x, .int .i64 y] w fun v w' => v = .returned (.tuple #[]) /\ xL g w w' /\ w'.ownsRow 0 3 1 (.slice (some ⟨g, 0, none⟩) E.length cap) E.length (cA (lK tb f E x y)) := by
 intro f
 induction f with
 | zero => intro x y E w hx; omega
 | succ f ih =>
  intro x y E w hxf hx hy hE hr hc0 hc2 hp he
  have hsb := World.block_lt_of_cell? _ _ hc0
  show Calls _ _ #[Value.pointer (some ⟨sb, 0, none⟩), _, _] w _
  obtain ⟨R, hR⟩ : ∃ R, R = lK tb (f + 1) E x y := ⟨_, rfl⟩
  rw [<- hR]
  simp only [lK] at hR
  by_cases h0 : x = y \/ x = 0 \/ y = 0
  ·rw [if_pos h0] at hR
   subst hR
   have HE : Hid _ := he
   clear he ih hp hr
   rcases h0 with h0 | h0 | h0
   ·have q1 : ((x : Int) == (y : Int)) = true := by rw [h0]; simp
    clear h0
    go_enter Tryz.func135, Tryz.ntmps135
    go_wp2
    refine bodyPost_ret (v := .tuple #[]) (by simp [results, Tryz.results135, go_sem]) rfl ⟨rfl, xL.below g (Below.refl _ _), HE.out⟩
   ·by_cases q : x = y
    ·have q1 : ((x : Int) == (y : Int)) = true := by rw [q]; simp
     clear q h0
     go_enter Tryz.func135, Tryz.ntmps135
     go_wp2
     refine bodyPost_ret (v := .tuple #[]) (by simp [results, Tryz.results135, go_sem]) rfl ⟨rfl, xL.below g (Below.refl _ _), HE.out⟩
    ·have q1 : ((x : Int) == (y : Int)) = false := by rw [beq_eq_false_iff_ne]; omega
     have q2 : ((x : Int) == 0) = true := by rw [h0]; rfl
     clear q h0
     go_enter Tryz.func135, Tryz.ntmps135
     go_wp2
     refine bodyPost_ret (v := .tuple #[]) (by simp [results, Tryz.results135, go_sem]) rfl ⟨rfl, xL.below g (Below.refl _ _), HE.out⟩
   ·by_cases q : x = y
    ·have q1 : ((x : Int) == (y : Int)) = true := by rw [q]; simp
     clear q h0
     go_enter Tryz.func135, Tryz.ntmps135
     go_wp2
     refine bodyPost_ret (v := .tuple #[]) (by simp [results, Tryz.results135, go_sem]) rfl ⟨rfl, xL.below g (Below.refl _ _), HE.out⟩
    ·have q1 : ((x : Int) == (y : Int)) = false := by rw [beq_eq_false_iff_ne]; omega
     have q2 : ((x : Int) == 0) = false := by rw [beq_eq_false_iff_ne]; omega
     have q3 : ((y : Int) == 0) = true := by rw [h0]; rfl
     clear q h0
     go_enter Tryz.func135, Tryz.ntmps135
     go_wp2
     refine bodyPost_ret (v := .tuple #[]) (by simp [results, Tryz.results135, go_sem]) rfl ⟨rfl, xL.below g (Below.refl _ _), HE.out⟩
  ·rw [if_neg h0] at hR
   have q1 : ((x : Int) == (y : Int)) = false := by rw [beq_eq_false_iff_ne]; omega
   have q2 : ((x : Int) == 0) = false := by rw [beq_eq_false_iff_ne]; omega
   have q3 : ((y : Int) == 0) = false := by rw [beq_eq_false_iff_ne]; omega
   have hx1 : 1 <= x := by omega
   have hy1 : 1 <= y := by omega
   have hlx := hlow (x - 1)
   have hly := hlow (y - 1)
   rw [show x - 1 + 1 = x by omega] at hlx
   rw [show y - 1 + 1 = y by omega] at hly
   have hrx := hr x
   have hry := hr y
   have hg : g < w.heap.size := (he.lt g rfl).2
   have hA := oz w sb 0 pv tb x hc0 hp hl hx
   have hB := fun (W : World) (hb : Below w.heap.size w W) => oz W sb 0 pv tb y (by rw [hb.cell (p := ⟨sb, 0, none⟩) hsb]; exact hc0) (aA hp hb) hl hy
   generalize fo tb x = P at *
   generalize fo tb y = Q at *
   have hJ := fun (W : World) (hb : Below w.heap.size w W) => JZ W sb 0 g cap E P.r Q.r (by rw [hb.cell (p := ⟨sb, 2, none⟩) hsb]; exact hc2) (aA he hb) hE hrx hry
   have hjl := eW E P.r Q.r
   generalize iO E P.r Q.r = E1 at *
   have UM := pZ tb f E1 P.a Q.a
   have hM : ∀ (W : World) (E' : List Nat) (x' y' : Nat), E'.length = E.length -> x' < x -> y' < y -> xL g w W -> W.ownsRow 0 3 1 (.slice (some ⟨g, 0, none⟩) E.length cap) E.length (cA E') -> Calls Tryz.prog 135 #[.pointer (some ⟨sb, 0, none⟩), .int .i64 x', .int .i64 y'] W fun v w' => v = .returned (.tuple #[]) /\ xL g W w' /\ w'.ownsRow 0 3 1 (.slice (some ⟨g, 0, none⟩) E.length cap) E.length (cA (lK tb f E' x' y')) := fun W E' x' y' hE' hx' hy' hW ho => by
    have := ih x' y' E' W (by omega) (by omega) (by omega) (by omega) (by rw [hE']; exact hr) (by rw [hW.cell hsb (fun e => hgs e.symm)]; exact hc0) (by rw [hW.cell hsb (fun e => hgs e.symm), hE']; exact hc2) (ax hp (fun k hk => hW.blk k (hp.lt k hk).2 (fun e => DA (by rw [hk, e])))) (by rw [hE']; exact ho)
    rw [hE'] at this
    exact this
   unfold tL at hA hB
   unfold ptr at hJ
   have HA : Hid _ := hA
   have HB : Hid _ := hB
   have HJ : Hid _ := hJ
   have HM : Hid _ := hM
   have HR : Hid _ := hR
   clear hA hB hJ hM hR he hp hr ih h0 hc0 hc2
   go_enter Tryz.func135, Tryz.ntmps135
   go_wp2_with fail
   refine Calls.mono HA.out ?_
   rintro _ w1 ⟨rfl, hb1⟩
   have P8 := hb1.alloc hb1.size (.cells #[.int .i64 P.r, .int .i64 P.a, .int .i64 P.b, .int .i64 P.sz] 212)
   have YC : Hid _ := aj w1 (.cells #[.int .i64 P.r, .int .i64 P.a, .int .i64 P.b, .int .i64 P.sz] 212 (0, 0))
   have Xz : Hid _ := P8
   have hz1 := hb1.size
   clear P8 hb1 HA
   go_wp2_with fail
   refine Calls.mono (HB.out _ Xz.out) ?_
   rintro _ w2 ⟨rfl, hb2⟩
   have Jw := Xz.out.trans (hb2.mono Xz.out.size)
   have UN := Jw.alloc Jw.size (.cells #[.int .i64 Q.r, .int .i64 Q.a, .int .i64 Q.b, .int .i64 Q.sz] 212)
   have ha2 := (hb2.block _ (af YC.out)).trans YC.out
   have hal : Below w2.heap.size w2 (w2.alloc (.cells #[.int .i64 Q.r, .int .i64 Q.a, .int .i64 Q.b, .int .i64 Q.sz] 212 (0, 0))) := (Below.refl _ w2).alloc (Nat.le_refl _) _
   have XA := (hal.block _ (af ha2)).trans ha2
   have Jx := aj w2 (.cells #[.int .i64 Q.r, .int .i64 Q.a, .int .i64 Q.b, .int .i64 Q.sz] 212 (0, 0))
   have hz2 := Jw.size
   have Dx : Hid _ := UN
   have Rd : Hid _ := XA
   have YD : Hid _ := Jx
   have e0 : (w2.alloc (.cells #[.int .i64 Q.r, .int .i64 Q.a, .int .i64 Q.b, .int .i64 Q.sz] 212 (0, 0))).cell? ⟨w1.heap.size, 0, none⟩ = some (.int .i64 P.r) := by rw [aa XA]; rfl
   have el := af XA
   clear Jw UN ha2 hal XA Jx hb2 Xz YC HB
   generalize w1.heap.size = S1 at *
   go_wp2_with fail
   refine Calls.mono (HJ.out _ Dx.out) ?_
   rintro _ w3 ⟨rfl, ⟨k3, a3, hw3⟩, NK⟩
   have hf3 := xL.set g k3 (w2.alloc (.cells #[.int .i64 Q.r, .int .i64 Q.a, .int .i64 Q.b, .int .i64 Q.sz] 212 (0, 0))) (.int .i64 a3)
   rw [<- hw3] at hf3
   have XB := (hf3.blk _ (af Rd.out) (by omega)).trans Rd.out
   have XC := (hf3.blk _ (af YD.out) (by omega)).trans YD.out
   have dC : Hid _ := (xL.below g Dx.out).trans hf3
   have s1 : w3.cell? ⟨S1, 1, none⟩ = some (.int .i64 P.a) := by rw [aa XB]; rfl
   have t1 : w3.cell? ⟨w2.heap.size, 1, none⟩ = some (.int .i64 Q.a) := by rw [aa XC]; rfl
   have sl := af XB
   have tl := af XC
   have YE : Hid _ := XB
   have Re : Hid _ := XC
   have DY : Hid _ := NK
   clear hw3 hf3 XB XC NK Dx Rd YD HJ e0 el
   generalize w2.heap.size = S2 at *
   go_wp2_with fail
   refine Calls.mono (HM.out w3 E1 P.a Q.a hjl (by omega) (by omega) dC.out DY.out) ?_
   rintro _ w4 ⟨rfl, cT, ho4⟩
   have YF := (cT.blk _ (af YE.out) (by omega)).trans YE.out
   have YG := (cT.blk _ (af Re.out) (by omega)).trans Re.out
   have js : Hid _ := dC.out.trans cT
   have Jv : Hid _ := ho4
   have u1 : w4.cell? ⟨S1, 2, none⟩ = some (.int .i64 P.b) := by rw [aa YF]; rfl
   have v1 : w4.cell? ⟨S2, 2, none⟩ = some (.int .i64 Q.b) := by rw [aa YG]; rfl
   have ul := af YF
   have vl := af YG
   clear cT ho4 YF YG YE Re dC DY s1 t1 sl tl
   go_wp2_with fail
   refine Calls.mono (HM.out w4 _ P.b Q.b (UM.trans hjl) (by omega) (by omega) js.out Jv.out) ?_
   rintro _ w5 ⟨rfl, ew, YH⟩
   have fJ : Hid _ := js.out.trans ew
   rw [<- HR.out] at YH
   have NG : Hid _ := YH
   clear ew YH js Jv HM u1 v1 ul vl
   go_wp2
   refine bodyPost_end (v := .tuple #[]) (by simp [results, Tryz.results135, go_sem]) rfl ⟨rfl, fJ.out, NG.out⟩
def Ty.has (T : Ty) (rg : Int) : Bool := T.xW.any (fun x => (x : Int) == rg)
theorem Rel.UO {tb : List TP} {D : List Ty} {K : List Nat} {T : List Ty} (h : Rel tb D K T) (r a b : Nat) (ha : a <= tb.length) (hb : b <= tb.length) (sa : (cg D a).size <= 63) (sb : (cg D b).size <= 63) :
  ∃ D', Rel (Go.Proofs.YtpicaknklgccoaaGreatDoor.cV tb r a b).2 D' K T /\ cg D' (Go.Proofs.YtpicaknklgccoaaGreatDoor.cV tb r a b).1 = .p r (cg D a) (cg D b) /\ (Go.Proofs.YtpicaknklgccoaaGreatDoor.cV tb r a b).1 <= (Go.Proofs.YtpicaknklgccoaaGreatDoor.cV tb r a b).2.length /\ (∀ k, k <= tb.length -> cg D' k = cg D k) := by
 unfold Go.Proofs.YtpicaknklgccoaaGreatDoor.cV
 cases hf : tb.findIdx? (iV r a b) with
 | some i =>
  obtain ⟨hi, hp, _⟩ := List.findIdx?_eq_some_iff_getElem.1 hf
  simp only
  unfold iV at hp
  simp only [Bool.and_eq_true, beq_iff_eq] at hp
  obtain ⟨p, p1, p2, _⟩ := h.pair (i + 1) (by omega) (by omega)
  rw [Nat.add_sub_cancel, List.getElem?_eq_getElem hi] at p1
  simp only [Option.some.injEq] at p1
  refine ⟨D, h, ?_, by omega, fun _ _ => rfl⟩
  rw [p2, <- p1, hp.1.1, hp.1.2, hp.2]
 | none =>
  simp only
  rw [List.findIdx?_eq_none_iff] at hf
  have hD := h.len
  refine ⟨D ++ [.p r (cg D a) (cg D b)], ⟨by simp [hD], ?_, ?_, fun x hx => by have := h.k x hx; simp; omega, ?_, h.s⟩, ?_, by simp, fun k hk => eS D _ k (by omega)⟩
  ·intro j p hj
   by_cases hjl : j < tb.length
   ·rw [List.getElem?_append_left hjl] at hj
    obtain ⟨h1, h2, h3, h4, h5⟩ := h.at_ j p hj
    rw [eS D _ p.a (by omega), eS D _ p.b (by omega), List.getElem?_append_left (by omega)]
    exact ⟨h1, h2, h3, h4, h5⟩
   ·have Du : j = tb.length := by
     have := (List.getElem?_eq_some_iff.1 hj).1
     simp at this; omega
    subst Du
    rw [List.getElem?_append_right (Nat.le_refl _)] at hj
    simp only [Nat.sub_self, List.getElem?_cons_zero, Option.some.injEq] at hj
    subst hj
    simp only
    rw [eS D _ a (by omega), eS D _ b (by omega), List.getElem?_append_right (by omega), hD, Nat.sub_self, h.sz a ha, h.sz b hb]
    refine ⟨ha, hb, rfl, by simp only [Ty.size]; omega, by omega⟩
  ·intro i j p q hi hj e1 e2 e3
   have key : ∀ (i : Nat) (p : TP), tb[i]? = some p -> ¬ (p.r = r /\ p.a = a /\ p.b = b) := by
    intro i p hi hh
    have := hf p (List.mem_of_getElem? hi)
    unfold iV at this
    simp [hh.1, hh.2.1, hh.2.2] at this
   have last : ∀ (i : Nat) (p : TP), (tb ++ [⟨r, a, b, 1 + (fo tb a).sz + (fo tb b).sz⟩])[i]? = some p -> (tb[i]? = some p /\ i < tb.length) \/ (i = tb.length /\ p.r = r /\ p.a = a /\ p.b = b) := by
    intro i p hi
    by_cases lP : i < tb.length
    ·rw [List.getElem?_append_left lP] at hi; exact Or.inl ⟨hi, lP⟩
    ·have hie : i = tb.length := by
      have := (List.getElem?_eq_some_iff.1 hi).1
      simp at this; omega
     subst hie
     rw [List.getElem?_append_right (Nat.le_refl _)] at hi
     simp only [Nat.sub_self, List.getElem?_cons_zero, Option.some.injEq] at hi
     subst hi
     exact Or.inr ⟨rfl, rfl, rfl, rfl⟩
   rcases last i p hi with ⟨h1, _⟩ | ⟨h1, h2⟩
   ·rcases last j q hj with ⟨g1, _⟩ | ⟨g1, g2⟩
    ·exact h.nd i j p q h1 g1 e1 e2 e3
    ·exact absurd ⟨e1.trans g2.1, e2.trans g2.2.1, e3.trans g2.2.2⟩ (key i p h1)
   ·rcases last j q hj with ⟨g1, _⟩ | ⟨g1, g2⟩
    ·exact absurd ⟨e1.symm.trans h2.1, e2.symm.trans h2.2.1, e3.symm.trans h2.2.2⟩ (key j q g1)
    ·omega
  ·rw [<- h.t]
   apply List.map_congr_left
   intro x hx
   exact eS D _ x (by have := h.k x hx; omega)
  ·unfold cg
   rw [if_neg (by omega), Nat.add_sub_cancel, <- hD, List.getElem?_append_right (Nat.le_refl _)]
   simp
def Bv : Ty -> Ty
 | .n => .n
 | .p _ a _ => a
def Bw : Ty -> Ty
 | .n => .n
 | .p _ _ b => b
def cH (T : List Ty) (n : NR) : Ty :=
 if n.form = 2 then ai T n.source
 else if n.form = 12 then ai T n.p0
 else if n.form = 3 then ai T n.p1
 else if n.form = 7 then ai T n.p1
 else if n.form = 11 then ai T n.p1
 else if n.form = 4 then .p n.region.toNat (ai T n.p0) (ai T n.p1)
 else if n.form = 5 then Bv (ai T n.p0)
 else if n.form = 6 then Bw (ai T n.p0)
 else .n
theorem J0 (t : Ty) : (Bv t).size <= t.size := by cases t <;> simp [Bv, Ty.size]; omega
theorem J1 (t : Ty) : (Bw t).size <= t.size := by cases t <;> simp [Bw, Ty.size]; omega
theorem J2 {tb : List TP} {D : List Ty} {K : List Nat} {T : List Ty} (h : Rel tb D K T) (n : NR) (hs : n.form = 4 -> (Ty.p 0 (ai T n.p0) (ai T n.p1)).size <= 63) :
  ∃ D', Rel (gM tb K n n.region.toNat).2 D' (K ++ [(gM tb K n n.region.toNat).1]) (T ++ [cH T n]) := by
 obtain ⟨a1, a2, a3⟩ := h.known n.p0
 obtain ⟨b1, b2, b3⟩ := h.known n.p1
 obtain ⟨s1, s2, s3⟩ := h.known n.source
 have push : ∀ k, k <= tb.length -> (cg D k).size <= 63 -> ∃ D', Rel tb D' (K ++ [k]) (T ++ [cg D k]) := fun k hk hs => ⟨D, h.push k hk hs⟩
 have p0 : ∃ D', Rel tb D' (K ++ [0]) (T ++ [Ty.n]) := push 0 (Nat.zero_le _) (by simp [cg, Ty.size])
 have hfs := J0 (ai T n.p0)
 have iF := J1 (ai T n.p0)
 have part : Bv (ai T n.p0) = cg D (fo tb (aq K n.p0)).a /\ Bw (ai T n.p0) = cg D (fo tb (aq K n.p0)).b /\ (fo tb (aq K n.p0)).a <= tb.length /\ (fo tb (aq K n.p0)).b <= tb.length := by
  by_cases hk : aq K n.p0 = 0
  ·rw [a1, hk]
   refine ⟨rfl, rfl, ?_, ?_⟩ <;> simp [fo]
  ·obtain ⟨p, q1, q2, q3, q4, q5⟩ := h.pair (aq K n.p0) hk a2
   rw [a1, q2, q5]
   exact ⟨rfl, rfl, by omega, by omega⟩
 unfold gM cH
 by_cases k2 : n.form = 2
 ·rw [if_pos k2, if_pos k2, s1]; exact push _ s2 (by rw [<- s1]; exact s3)
 rw [if_neg k2, if_neg k2]
 by_cases k12 : n.form = 12
 ·rw [if_pos k12, if_pos k12, a1]; exact push _ a2 (by rw [<- a1]; exact a3)
 rw [if_neg k12, if_neg k12]
 by_cases k3 : n.form = 3
 ·rw [if_pos k3, if_pos k3, b1]; exact push _ b2 (by rw [<- b1]; exact b3)
 rw [if_neg k3, if_neg k3]
 by_cases k7 : n.form = 7
 ·rw [if_pos k7, if_pos k7, b1]; exact push _ b2 (by rw [<- b1]; exact b3)
 rw [if_neg k7, if_neg k7]
 by_cases k11 : n.form = 11
 ·rw [if_pos k11, if_pos k11, b1]; exact push _ b2 (by rw [<- b1]; exact b3)
 rw [if_neg k11, if_neg k11]
 by_cases k4 : n.form = 4
 ·rw [if_pos k4, if_pos k4]
  obtain ⟨D', h1, h2, h3, _⟩ := h.UO n.region.toNat (aq K n.p0) (aq K n.p1) a2 b2 (by rw [<- a1]; exact a3) (by rw [<- b1]; exact b3)
  have D1 := hs k4
  refine ⟨D', ?_⟩
  have := h1.push _ h3 (by rw [h2, <- a1, <- b1]; simpa [Ty.size] using D1)
  rw [h2, <- a1, <- b1] at this
  exact this
 rw [if_neg k4, if_neg k4]
 by_cases k5 : n.form = 5
 ·rw [if_pos k5, if_pos k5, part.1]; exact push _ part.2.2.1 (by rw [<- part.1]; omega)
 rw [if_neg k5, if_neg k5]
 by_cases k6 : n.form = 6
 ·rw [if_pos k6, if_pos k6, part.2.1]; exact push _ part.2.2.2 (by rw [<- part.2.1]; omega)
 rw [if_neg k6, if_neg k6]
 exact p0
theorem P9 (r : Nat) (a b : Ty) (rg : Int) : (Ty.p r a b).has rg = (((r : Int) == rg) || a.has rg || b.has rg) := by
 unfold Ty.has
 simp only [Ty.xW, List.any_cons, List.any_append, Bool.or_assoc]
theorem uF {tb : List TP} {D : List Ty} {K : List Nat} {T : List Ty} (h : Rel tb D K T) (rg : Int) : ∀ (f k : Nat), k < f -> k <= tb.length -> gY tb f k rg = (cg D k).has rg
 | 0, k, h1, _ => by omega
 | f + 1, k, h1, h2 => by
  simp only [gY]
  by_cases hk : k = 0
  ·rw [if_pos (.inl hk), hk]; rfl
  ·rw [if_neg (by omega)]
   obtain ⟨p, q1, q2, q3, q4, q5⟩ := h.pair k hk h2
   rw [q5, q2, P9, uF h rg f p.a (by omega) (by omega), uF h rg f p.b (by omega) (by omega)]
theorem Rel.low {tb : List TP} {D : List Ty} {K : List Nat} {T : List Ty} (h : Rel tb D K T) : UK tb := by
 intro k
 by_cases hk : k < tb.length
 ·obtain ⟨p, q1, q2, q3, q4, q5⟩ := h.pair (k + 1) (by omega) (by omega)
  rw [q5]; omega
 ·unfold fo
  rw [if_neg (by omega), List.getElem?_eq_none (by omega)]
  exact ⟨Nat.zero_le _, Nat.zero_le _⟩
def oY (T : List Ty) (n : NR) : Nat :=
 if n.form = 7 \/ n.form = 11 then (if ai T n.p1 = ai T n.p2 then 0 else 9)
 else if n.form = 12 then (if (ai T n.p0).has n.region = true then 10 else 0)
 else 0
theorem Rf {tb : List TP} {D : List Ty} {K : List Nat} {T : List Ty} (h : Rel tb D K T) (n : NR) : UL tb K n = oY T n := by
 obtain ⟨a1, a2, a3⟩ := h.known n.p0
 obtain ⟨b1, b2, b3⟩ := h.known n.p1
 obtain ⟨c1, c2, c3⟩ := h.known n.p2
 unfold UL oY
 have Ys : ai T n.p1 = ai T n.p2 ↔ aq K n.p1 = aq K n.p2 := by rw [b1, c1]; exact h.Q2 b2 c2
 rw [uF h n.region _ _ (by omega) a2, <- a1]
 simp only [Ys]
def tM : List Ty -> List NR -> Nat × Nat
 | _, [] => (0, 0)
 | T, n :: r => if oY (T ++ [cH T n]) n ≠ 0 then (oY (T ++ [cH T n]) n, n.at_) else tM (T ++ [cH T n]) r
def iY : List Ty -> List NR -> Prop
 | _, [] => True
 | T, n :: r => (n.form = 4 -> (Ty.p 0 (ai T n.p0) (ai T n.p1)).size <= 63) /\ iY (T ++ [cH T n]) r
def bz : List Ty -> List NR -> List Ty
 | T, [] => T
 | T, n :: r => bz (T ++ [cH T n]) r
theorem kf : ∀ (a b : List NR) (T : List Ty), bz T (a ++ b) = bz (bz T a) b
 | [], _, _ => rfl
 | n :: r, b, T => by simp only [List.cons_append, bz]; exact kf r b _
theorem vD : ∀ (a b : List NR) (T : List Ty), iY T a -> iY (bz T a) b -> iY T (a ++ b)
 | [], _, _, _, h => h
 | n :: r, b, T, h, h' => by
  simp only [List.cons_append, iY] at h ⊢
  exact ⟨h.1, vD r b _ h.2 h'⟩
theorem oI : ∀ (a b : List NR) (T : List Ty), tM T (a ++ b) = if (tM T a).1 ≠ 0 then tM T a else tM (bz T a) b
 | [], _, _ => by simp [tM, bz]
 | n :: r, b, T => by
  have e1 : tM T (n :: (r ++ b)) = if oY (T ++ [cH T n]) n ≠ 0 then (oY (T ++ [cH T n]) n, n.at_) else tM (T ++ [cH T n]) (r ++ b) := rfl
  have e2 : tM T (n :: r) = if oY (T ++ [cH T n]) n ≠ 0 then (oY (T ++ [cH T n]) n, n.at_) else tM (T ++ [cH T n]) r := rfl
  by_cases h : oY (T ++ [cH T n]) n ≠ 0
  ·rw [if_pos h] at e1 e2; rw [List.cons_append, e1, e2, if_pos h]
  ·rw [if_neg h] at e1 e2; rw [List.cons_append, e1, e2, oI r b]; rfl
end Go.Proofs.YtpicaknklgccoaaGreatDoor
