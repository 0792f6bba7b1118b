import Derived.Test.YtpicaknklgccoaaGreatDoorS17
set_option maxHeartbeats 16000000
set_option maxRecDepth 100000
namespace Go.Proofs.YtpicaknklgccoaaGreatDoor
open Go.RowKit
def dR (E fs : List Nat) (ns : List NR) : List Int := ns.map (fun n => if n.form = 4 then lj fs (bg E n.at_) else -1)
theorem Ea (E fs : List Nat) (l : List NR) (n : NR) : dR E fs (l ++ [n]) = dR E fs l ++ [if n.form = 4 then lj fs (bg E n.at_) else -1] := by unfold dR; rw [List.map_append]; rfl
theorem x8 (w : World) (x1 : Option Addr) (n1 c1 : Nat) (x2 : Option Addr) (n2 c2 : Nat) (ns : List NR) (op : List Int) (hT : bh w (.slice x1 n1 c1) (.slice x2 n2 c2) ns op) (ho : vq ns op) (hl : ns.length <= 9000) (sj : ∀ n ∈ ns, n.small) (n0 : NR) (h0 : ns[ns.length - 1]? = some n0) (hB : n0.aO <= 9000) (hat : ∀ n ∈ ns, n.at_ < n0.aO) (hsz : iY [] (ns.map atR)) (E fs : List Nat) (hE : E = rq [] (List.range n0.aO) ns) (hfs : fs = aX E (bD ns op)) :
  Calls Tryz.prog 65 #[aK (.slice x1 n1 c1) (.slice x2 n2 c2)] w fun e w' => ∃ rv, e = .returned (.tuple #[rv, .int .i64 fs.length]) /\ w'.ownsRow w.heap.size 3 1 rv ns.length (fX (dR E fs ns)) /\ Below w.heap.size w w' := by
 have M7 : E.length = n0.aO := by rw [hE, FE, List.length_range]
 have hsh := fun (W : World) (hb : Below w.heap.size w W) => xY W x1 n1 c1 x2 n2 c2 ns op (hT.below hb) hl sj n0 h0 hB hat hsz
 rw [<- hE, <- M7] at hsh
 have hfi := fun (W : World) (hb : Below w.heap.size w W) (sb : Nat) (ev : Value) (hc : W.cell? ⟨sb, 2, none⟩ = some ev) (hr : W.ownsRow 0 3 1 ev E.length (cA E)) => D3 W sb ev _ _ E ns op (hT.below hb) ho hl hc hr (by omega) (fun n hn => by have := hat n hn; omega)
 rw [<- hfs] at hfi
 have hfl : fs.length <= 9000 := by have := nL E (bD ns op); rw [kF, ho.1] at this; rw [hfs]; omega
 have hlen := fun (w' : World) (hb : Below w.heap.size w w') => gx w' _ _ ns op (hT.below hb)
 have mi := fun (w' : World) (hb : Below w.heap.size w w') (k : Nat) (n : NR) (hk : ns[k]? = some n) => dZ w' _ _ ns op (hT.below hb) k n hk hl
 obtain ⟨i0, hi, hz0, hz1, hz2⟩ := info_parts Tryz.oB
 have HI : Hid _ := hi
 have pq : Hid _ := hz0
 have pz : Hid _ := hz1
 have pF : Hid _ := hz2
 obtain ⟨m, hm⟩ : ∃ m, m = ns.length := ⟨_, rfl⟩
 have HM : Hid _ := hm
 rw [<- hm] at hl hlen ⊢
 have hE9 : E.length <= 9000 := by omega
 have Vr : ∀ n ∈ ns, n.at_ <= 9000 := fun n hn => by have := hat n hn; omega
 unfold aK at hsh hfi hlen mi
 unfold ptr at hfi
 unfold aI at mi
 unfold aK
 have HSH : Hid _ := hsh
 have Hu : Hid _ := hfi
 have lH : Hid _ := hlen
 have DQ : Hid _ := mi
 have JR : Hid _ := Vr
 clear hi hz0 hz1 hz2 hsh hfi hlen mi hT ho sj h0 hsz hE hfs hat hm M7 hB Vr
 obtain ⟨WB, pY⟩ : ∃ WB, WB = w.alloc (.cells #[.slice x1 n1 c1, .slice x2 n2 c2] 59) := ⟨_, rfl⟩
 have dK : Hid (Below w.heap.size w WB) := (show Below w.heap.size w WB by rw [pY]; exact cz (Below.refl _ _) _)
 have oX : Hid (∀ wr, Below WB.heap.size WB wr -> wr.cell? ⟨w.heap.size, 0, none⟩ = some (.slice x1 n1 c1) /\ wr.cell? ⟨w.heap.size, 1, none⟩ = some (.slice x2 n2 c2) /\ w.heap.size < wr.heap.size) := by
  intro wr hb
  rw [pY] at hb
  exact cX hb
 have M5 : Hid _ := pY
 clear pY
 go_enter Tryz.func65, Tryz.ntmps65
 go_wp2_with fail
 rw [<- M5.out]
 refine Calls.mono (HSH.out WB dK.out) ?_
 rintro _ w1 ⟨pa, pn, pc, ta, tn, tc, ev, rfl, hb1, hr1, BK⟩
 obtain ⟨ea, ec, pI⟩ := aF hr1
 subst pI
 have hc1 := aj w1 (.cells #[.slice pa pn pc, .slice ta tn tc, .slice ea E.length ec] 186 (0, 0))
 have NW : Below w1.heap.size w1 (w1.alloc (.cells #[.slice pa pn pc, .slice ta tn tc, .slice ea E.length ec] 186)) := (Below.refl _ w1).alloc (Nat.le_refl _) _
 have NX : Below WB.heap.size WB (w1.alloc (.cells #[.slice pa pn pc, .slice ta tn tc, .slice ea E.length ec] 186)) := hb1.alloc hb1.size _
 have RE := aA hr1 NW
 obtain ⟨b0, b1, bl⟩ := oX.out _ NX
 have BL := dK.out.trans (NX.mono dK.out.size)
 have hfc := Hu.out _ BL w1.heap.size _ (by rw [aa hc1]; rfl) RE
 obtain ⟨c0, c1', TG⟩ : w1.cell? ⟨w.heap.size, 0, none⟩ = some (.slice x1 n1 c1) /\ w1.cell? ⟨w.heap.size, 1, none⟩ = some (.slice x2 n2 c2) /\ w.heap.size < w1.heap.size := oX.out _ hb1
 have YS := Nat.ne_of_lt TG
 have M8 : Hid _ := RE
 have dF : Hid _ := NX
 have xX : Hid _ := hc1
 clear hr1 hb1 BK NW NX hc1 RE BL HSH Hu b0 b1 bl
 go_wp2_with fail
 refine Calls.mono hfc ?_
 rintro _ w2 ⟨fv, rfl, ez, hb2⟩
 have dN : Hid _ := dF.out.trans (hb2.mono dF.out.size)
 have Vo : Hid _ := aA M8.out hb2
 have TT : Hid _ := (hb2.block _ (af xX.out)).trans xX.out
 have cj : Hid _ := ez
 have Ru : w1.heap.size < w2.heap.size := by have := hb2.size; simp at this; omega
 have Vs := dN.out.size
 clear hb2 ez hfc c0 c1' TG YS dF xX M8
 have e2 : w2.cell? ⟨w1.heap.size, 2, none⟩ = some (.slice ea E.length ec) := by rw [aa TT.out]; rfl
 have he2 := Vo.out
 have Vt : ∀ wr, Below w2.heap.size w2 wr -> ∀ p : Nat, p <= 10000 -> Calls Tryz.prog 106 #[.pointer (some ⟨w1.heap.size, 0, none⟩), .int .i64 p] wr fun v w' => v = .returned (.int .i64 (bg E p)) /\ w' = wr := fun wr hb p hp => oJ wr w1.heap.size 0 (.slice ea E.length ec) E p ((hb.cell (p := ⟨w1.heap.size, 2, none⟩) Ru).trans e2) (aA he2 hb) hE9 hp
 have RF : ∀ wr, Below w2.heap.size w2 wr -> ∀ x : Nat, Calls Tryz.prog 107 #[fv, .int .i64 x] wr fun v w' => v = .returned (.int .i64 (lj fs x)) /\ w' = wr := fun wr hb x => BM wr _ fv fs x (aA cj.out hb) hfl
 obtain ⟨fa, fc, TW⟩ := aF cj.out
 rw [TW] at RF
 have Rx : Hid _ := Vt
 have YT : Hid _ := RF
 clear Vt RF he2 e2
 subst TW
 go_wp2
 go_loopw [6, 7, 8, 9, 10] (fun v6 i _ _ _ wr => ∃ (k : Nat), k <= m /\ i = .int .i64 k /\ wr.ownsRow w2.heap.size 3 1 v6 k (fX (dR E fs (ns.take k))) /\ Below w2.heap.size w2 wr) (fun _ i _ _ _ _ => m - (intOf i).toNat)
 case atStart =>
  refine ⟨0, Nat.zero_le _, rfl, ⟨rfl, Or.inr ⟨w2.heap.size, 0, #[], rfl, Nat.le_refl _, ?_, Nat.le_refl _, by unfold maxLen; omega, rfl, rfl⟩⟩, (Below.refl _ w2).alloc (Nat.le_refl _) _⟩
  exact aj _ _
 case round =>
  obtain ⟨k, hk, rfl, hown, dw⟩ := hrel
  have Jw := dN.out.trans (dw.mono Vs)
  obtain ⟨b0, b1, bl⟩ := oX.out _ Jw
  have xV := dK.out.trans (Jw.mono dK.out.size)
  have gQ := lH.out _ xV
  have lJ := dw.size
  by_cases hlt : k < m
  ·have hkl : k < ns.length := by have := HM.out; omega
   obtain ⟨n, hn⟩ : ∃ n, ns[k]? = some n := ⟨ns[k], List.getElem?_eq_getElem hkl⟩
   have hat := JR.out n (List.mem_of_getElem? hn)
   have iF := Ea E fs (ns.take k) n
   rw [<- take_one ns k n hn] at iF
   have ld : Hid _ := iF
   have HN : Hid _ := hn
   have dS : Hid _ := hown
   have gW : Hid _ := dw
   clear hn iF hown hkl Jw xV
   go_wp2_with fail
   refine gQ.mono ?_
   rintro _ w3 ⟨rfl, hb3⟩
   have Vu := dw.trans (hb3.mono lJ)
   have RH := dN.out.trans (Vu.mono Vs)
   clear b0 b1 bl
   obtain ⟨b0, b1, bl⟩ := oX.out _ RH
   have hno := DQ.out w3 (dK.out.trans (RH.mono dK.out.size)) k n HN.out
   have iI : Hid _ := hb3
   clear Vu RH hb3 gQ dw
   go_wp2_with fail
   refine hno.mono ?_
   rintro _ w4 ⟨rfl, hb4⟩
   have BN : Below wr.heap.size wr w4 := iI.out.trans (hb4.mono iI.out.size)
   have YU : Below wr.heap.size wr (w4.alloc (bR n)) := BN.alloc BN.size (bR n)
   have lY : Below w2.heap.size w2 (w4.alloc (bR n)) := gW.out.trans (YU.mono lJ)
   have NY := Rx.out _ lY n.at_ (by omega)
   have Kl := YT.out _ lY (bg E n.at_)
   have NG : Hid _ := aA dS.out YU
   have Bu : Hid _ := lY
   have aaG := BN.size
   unfold bR xS at NY Kl NG Bu
   clear hb4 BN YU lY hno b0 b1 bl iI
   by_cases h4 : n.form = 4
   case' pos =>
    have q4 : ((n.form : Int) == 4) = true := aH (b := 4) h4
    have iF := ld.out
    rw [if_pos h4] at iF
    obtain ⟨RG, Vv⟩ : ∃ RG, RG = lj fs (bg E n.at_) := ⟨_, rfl⟩
    rw [<- Vv] at Kl iF
    have kI : Hid _ := iF
    generalize bg E n.at_ = ft at *
    clear iF ld h4 Vv
    go_wp2_with fail
    refine NY.mono ?_
    rintro _ _ ⟨rfl, rfl⟩
    go_wp2_with fail
    refine Kl.mono ?_
    rintro _ _ ⟨rfl, rfl⟩
    clear NY Kl
   case' neg =>
    have q4 : ((n.form : Int) == 4) = false := ah (b := 4) h4
    have iF := ld.out
    rw [if_neg h4] at iF
    obtain ⟨RG, Vv⟩ : ∃ RG : Int, RG = -1 := ⟨_, rfl⟩
    rw [<- Vv] at iF
    have kI : Hid _ := iF
    clear iF ld h4 NY Kl
   all_goals
    obtain ⟨W5, vR⟩ : ∃ W5, W5 = w4.alloc (.cells #[.int .i64 n.form, .int .i64 n.at_, .int .i64 n.aO, .int .i64 n.num, .string (bs n.word), .int .i64 n.region, .int .i64 n.source, .int .i64 n.p0, .int .i64 n.p1, .int .i64 n.p2] 160) := ⟨_, rfl⟩
    rw [<- vR] at NG Bu
    have NZ : W5.heap.size = w4.heap.size + 1 := by rw [vR]; simp
    have DX : Hid (Below w2.heap.size w2 (W5.alloc (.cells #[.int .i64 RG] 3))) := Bu.out.alloc Bu.out.size _
    have NH : Hid ((W5.alloc (.cells #[.int .i64 RG] 3)).ownsRow w2.heap.size 3 1 u6 k (fX (dR E fs (ns.take k)))) := aA NG.out (cz (Below.refl _ _) _)
    have xX : Hid (∀ (j : Nat) (u : Value), ([.int .i64 RG] : List Value)[j]? = some u -> (W5.alloc (.cells #[.int .i64 RG] 3)).cell? ((⟨w4.heap.size + 1, 0, none⟩ : Addr).add j) = some u) := by
     intro j u hj
     have hq := bH W5 [.int .i64 RG] 3 j
     rw [NZ] at hq
     rw [<- hj, <- hq]; first | done | rfl
    have vo : Hid (∀ u ∈ ([.int .i64 RG] : List Value), u.oneCell' = true) := by intro v hv; simp only [List.mem_singleton] at hv; subst hv; rfl
    subst vR
    have aaH : w2.heap.size <= w4.heap.size + 1 := by have := Bu.out.size; simp at this; omega
    clear NZ
    try subst Vv
    go_wp2_with (at_builtin; go_must (refine wpList_append_own _ rfl (.tmp 34) (.tmp 36) 42 rfl w2.heap.size 3 i0 _ 1 8 Tryz.oD HI.out pq.out pz.out pF.out rfl (by decide) u6 k (fX (dR E fs (ns.take k))) rfl NH.out ⟨w4.heap.size + 1, 0, none⟩ 1 1 [.int .i64 _] rfl rfl xX.out vo.out ?c3 ?c4 ?c5 ?_))
    case c3 => unfold maxLen; omega
    case c4 => omega
    case c5 => first | omega | (simp; omega)
    intro v' w7 hown' hgrow hnil
    have RI : Hid (Below w2.heap.size w2 w7) := (DX.out).grown hgrow DX.out.size (fun b hb => (World.ownsRow.lt NH.out b hb).1)
    have YV : Hid (w7.ownsRow w2.heap.size 3 1 v' (k + 1) (fX (dR E fs (ns.take (k + 1))))) := by
     show w7.ownsRow w2.heap.size 3 1 v' (k + 1) (fX (dR E fs (ns.take (k + 1))))
     rw [kI.out]
     unfold fX at hown' ⊢
     rw [List.map_append]
     exact hown'
    clear hown' hgrow hnil
    go_wp2
    go_roundw
    case rel => exact ⟨k + 1, by omega, by go_num, YV.out, RI.out⟩
    case measure => simp [intOf]; omega
  ·have FC : k = m := by omega
   have htk : ns.take k = ns := List.take_of_length_le (by have := HM.out; omega)
   rw [htk, FC] at hown
   have Dx : Hid _ := xV
   have dS : Hid _ := hown
   clear dw hown FC htk Jw
   go_wp2_with fail
   refine gQ.mono ?_
   rintro _ w3 ⟨rfl, hb3⟩
   have dF : Hid _ := Dx.out.trans (hb3.mono Dx.out.size)
   have P6 : Hid _ := aA dS.out hb3
   clear hb3 gQ b0 b1 bl
   go_wp2
   refine bodyPost_ret (v := .tuple #[u6, .int .i64 fs.length]) (by simp [results, Tryz.results65, go_sem]) rfl ⟨_, rfl, ?_, dF.out⟩
   exact cY P6.out (fun k hk => by have := dK.out.size; have := (World.ownsRow.lt P6.out k hk).1; omega)
def ig (T : List Ty) (ns : List NR) (n0 : NR) (c : Nat) : List Int := (List.range c).map fun r => eG T r (dz T r ns 0 n0.aO n0.at_).1 (dz T r ns 0 n0.aO n0.at_).2 ns 0
theorem Eb (T : List Ty) (ns : List NR) (n0 : NR) (c : Nat) : ig T ns n0 (c + 1) = ig T ns n0 c ++ [eG T c (dz T c ns 0 n0.aO n0.at_).1 (dz T c ns 0 n0.aO n0.at_).2 ns 0] := by
 unfold ig; rw [List.range_succ, List.map_append]; rfl
theorem BO (w : World) (x1 : Option Addr) (n1 c1 : Nat) (x2 : Option Addr) (n2 c2 : Nat) (ns : List NR) (op : List Int) (hT : bh w (.slice x1 n1 c1) (.slice x2 n2 c2) ns op) (hl : ns.length <= 9000) (sj : ∀ n ∈ ns, n.small) (n0 : NR) (h0 : ns[ns.length - 1]? = some n0) (rv : Value) (regs : List Int) (BP : w.ownsRow 0 3 1 rv regs.length (fX regs)) (hrl : regs.length = ns.length) (c : Nat) (hc : c <= 9000)
  (x9 : List NR) (h2 : ∀ (k : Nat) n r, ns[k]? = some n -> regs[k]? = some r -> x9.drop k = fC n r :: x9.drop (k + 1) /\ (n.form = 4 -> 0 <= r)) (TZ : x9.length = ns.length) (hsz : iY [] x9) :
  Calls Tryz.prog 66 #[aK (.slice x1 n1 c1) (.slice x2 n2 c2), rv, .int .i64 c] w fun e w' => ∃ av, e = .returned av /\ w'.ownsRow w.heap.size 3 1 av c (fX (ig (bz [] x9) ns n0 c)) /\ Below w.heap.size w w' := by
 obtain ⟨i0, hi, hz0, hz1, hz2⟩ := info_parts Tryz.oB
 have HI : Hid _ := hi
 have pq : Hid _ := hz0
 have pz : Hid _ := hz1
 have pF : Hid _ := hz2
 have hlen := fun (w' : World) (hb : Below w.heap.size w w') => gx w' _ _ ns op (hT.below hb)
 have mi := fun (w' : World) (hb : Below w.heap.size w w') (k : Nat) (n : NR) (hk : ns[k]? = some n) => dZ w' _ _ ns op (hT.below hb) k n hk hl
 obtain ⟨m, hm⟩ : ∃ m, m = ns.length := ⟨_, rfl⟩
 have lQ : 1 <= m := by have := (List.getElem?_eq_some_iff.1 h0).1; omega
 rw [<- hm] at hrl hlen TZ
 rw [hrl] at BP
 obtain ⟨rg, aaI, YW⟩ := fB BP (by omega)
 subst YW
 have RJ : rg < w.heap.size := (BP.lt rg rfl).2
 have hrc : ∀ (k : Nat) (r : Int), regs[k]? = some r -> w.cell? ⟨rg, k, none⟩ = some (.int .i64 r) := fun k r hk => by
  rw [BP.cellAt k (by have := (List.getElem?_eq_some_iff.1 hk).1; omega)]; unfold fX; rw [List.getElem?_map, hk]; rfl
 have hTB := fun (w' : World) (hb : Below w.heap.size w w') => hT.below hb
 have HM : Hid _ := hm
 have HRC : Hid _ := hrc
 have JT : Hid _ := hrl
 have Jt : Hid _ := hTB
 have Q7 : Hid _ := sj
 have HH2 : Hid _ := h2
 have H2L : Hid _ := TZ
 have Rg : Hid _ := hsz
 have HH0 : Hid _ := h0
 unfold aK at hlen mi
 unfold aI at mi
 have lH : Hid _ := hlen
 have DQ : Hid _ := mi
 have xN : m <= 9000 := by omega
 clear hi hz0 hz1 hz2 hlen mi hm hrl BP hrc hT hTB sj h2 TZ hsz h0
 obtain ⟨WB, pY⟩ : ∃ WB, WB = w.alloc (.cells #[.slice x1 n1 c1, .slice x2 n2 c2] 59) := ⟨_, rfl⟩
 have dK : Hid (Below w.heap.size w WB) := (show Below w.heap.size w WB by rw [pY]; exact cz (Below.refl _ _) _)
 have oX : Hid (∀ wr, Below WB.heap.size WB wr -> wr.cell? ⟨w.heap.size, 0, none⟩ = some (.slice x1 n1 c1) /\ wr.cell? ⟨w.heap.size, 1, none⟩ = some (.slice x2 n2 c2) /\ w.heap.size < wr.heap.size) := by
  intro wr hb
  rw [pY] at hb
  exact cX hb
 have UC : Hid (fA WB.heap.size 2 #[.slice x1 n1 c1, .slice x2 n2 c2, .slice none 0 0, .slice none 0 0] 191 (WB.alloc (.cells #[.slice x1 n1 c1, .slice x2 n2 c2, .slice none 0 0, .slice none 0 0] 191)) (.slice none 0 0) (.slice none 0 0) [] []) := ⟨aj _ _, rfl, rfl, World.ownsRow_nil _ _ _ _, World.ownsRow_nil _ _ _ _, by simp [Value.ownBlock], by simp [Value.ownBlock], fun g hg => by simp [Value.ownBlock] at hg⟩
 have zO : w.heap.size <= WB.heap.size := dK.out.size
 have M5 : Hid _ := pY
 have HWS : Hid (w.heap.size + 1 = WB.heap.size) := (show w.heap.size + 1 = WB.heap.size by rw [pY]; simp)
 clear pY
 unfold aK
 go_enter Tryz.func66, Tryz.ntmps66
 go_wp2
 rw [<- M5.out, HWS.out]
 go_loopw [8, 9] (fun i _ wr => ∃ (k : Nat) (pv tv : Value) (tb : List TP) (D : List Ty) (K : List Nat) (T : List Ty), k <= m /\ i = .int .i64 k /\ fA WB.heap.size 2 #[.slice x1 n1 c1, .slice x2 n2 c2, pv, tv] 191 wr pv tv tb K /\ Rel tb D K T /\ K.length = k /\ tb.length <= k /\ Hid (bz [] x9 = bz T (x9.drop k)) /\ iY T (x9.drop k) /\ Below WB.heap.size WB wr /\ WB.heap.size < wr.heap.size /\ (∀ g, pv.ownBlock = some g -> WB.heap.size <= g) /\ (∀ g, tv.ownBlock = some g -> WB.heap.size <= g)) (fun i _ _ => m - (intOf i).toNat)
 case atStart => exact ⟨0, _, _, [], [], [], [], Nat.zero_le _, rfl, UC.out, JO, rfl, Nat.le_refl _, (rfl : bz [] x9 = bz [] (x9.drop 0)), Rg.out, (Below.refl _ WB).alloc (Nat.le_refl _) _, by simp, by simp [Value.ownBlock], by simp [Value.ownBlock]⟩
 case round =>
  obtain ⟨k, pv, tv, tb, D, K, T, hk, rfl, hC, jE, DP, htl, HF, yE, dw, hbs, qP, FA⟩ := hrel
  have pX : Below w.heap.size w wr := dK.out.trans (dw.mono zO)
  obtain ⟨b0, b1, bl⟩ := oX.out _ dw
  have gQ := lH.out wr pX
  have Bp := dw.size
  by_cases hlt : k < m
  ·have hkl : k < ns.length := by have := HM.out; omega
   obtain ⟨n, hn⟩ : ∃ n, ns[k]? = some n := ⟨ns[k], List.getElem?_eq_getElem hkl⟩
   obtain ⟨r, hr⟩ : ∃ r, regs[k]? = some r := ⟨regs[k]'(by have := JT.out; omega), List.getElem?_eq_getElem _⟩
   obtain ⟨nn, BN⟩ := HH2.out k n r hn hr
   have dM := Q7.out n (List.mem_of_getElem? hn)
   have hst := HF.out
   rw [nn] at hst yE
   simp only [bz] at hst
   simp only [iY] at yE
   obtain ⟨D', BB⟩ := J2 jE (fC n r) yE.1
   have gX : Rel (gM tb K n r.toNat).2 D' (K ++ [(gM tb K n r.toNat).1]) (T ++ [cH T (fC n r)]) := BB
   have hok : Q1 tb K n := ⟨by omega, by omega, fun i => by have := (jE.known i).2.1; omega, fun j => by have := jE.Fx j; omega, ⟨by have := dM.1; omega, by have := dM.1; omega⟩, ⟨by have := dM.2.1; omega, by have := dM.2.1; omega⟩, ⟨by have := dM.2.2.1; omega, by have := dM.2.2.1; omega⟩, ⟨by have := dM.2.2.2; omega, by have := dM.2.2.2; omega⟩⟩
   have uj : (gM tb K n r.toNat).2.length <= k + 1 := by
    have hpl := lV tb r.toNat (aq K n.p0) (aq K n.p1)
    unfold gM
    repeat' split
    all_goals first | (simp only; omega) | omega
   have hadd := fun (w' : World) (hb : Below wr.heap.size wr w') => vm w' WB.heap.size 2 _ _ pv tv tb K n r r.toNat (fun h => by have := BN h; omega) (hC.below hb) hok
   have Hv : ∀ w', Below w.heap.size w w' -> w'.cell? ⟨rg, k, none⟩ = some (.int .i64 r) := fun w' hb => by rw [hb.cell (p := ⟨rg, k, none⟩) RJ]; exact HRC.out k r hr
   have yd : Hid _ := hadd
   have HCR : Hid _ := Hv
   have iQ : Hid _ := hst
   have Rh : Hid _ := yE.2
   have YX : Hid _ := gX
   have HN : Hid _ := hn
   have gW : Hid _ := dw
   have HC : Hid _ := hC
   have P4 : Hid _ := qP
   have YY : Hid _ := FA
   have UE : Hid _ := DP
   have P5 : Hid _ := uj
   unfold aI at yd
   clear hn hr nn BN dM hst yE BB gX hok uj hadd Hv HF hC jE DP htl dw qP FA hkl pX
   generalize gM tb K n r.toNat = X at *
   generalize T ++ [cH T (fC n r)] = T' at *
   go_wp2_with fail
   refine gQ.mono ?_
   rintro _ w1 ⟨rfl, hb1⟩
   have jr := gW.out.trans (hb1.mono Bp)
   clear b0 b1 bl
   obtain ⟨b0, b1, bl⟩ := oX.out _ jr
   have hno := DQ.out w1 (dK.out.trans (jr.mono zO)) k n HN.out
   have dF : Hid _ := hb1
   clear hb1 jr gQ
   go_wp2_with fail
   refine hno.mono ?_
   rintro _ w2 ⟨rfl, hb2⟩
   have ez : Below wr.heap.size wr w2 := dF.out.trans (hb2.mono dF.out.size)
   have rm := ez.alloc ez.size (bR n)
   have Hv := HCR.out _ (dK.out.trans ((gW.out.trans (rm.mono Bp)).mono zO))
   have hnb := aj w2 (bR n)
   obtain ⟨d0, d1, d2, d3, d4, d5, d6, d7, d8, d9⟩ := aC hnb
   have lg := af hnb
   obtain ⟨W3, hW3⟩ : ∃ W3, W3 = w2.alloc (bR n) := ⟨_, rfl⟩
   have aaJ : rg < W3.heap.size := by rw [hW3]; have := ez.size; have := gW.out.size; simp; omega
   rw [<- hW3] at rm Hv hnb lg d0 d1 d2 d3 d4 d5 d6 d7 d8 d9
   have Dy : Hid _ := rm
   have FB : Hid _ := hW3
   unfold bR xS at FB
   clear hb2 ez rm hno b0 b1 bl hnb hW3
   go_upto_region 6 with fail
   rw [<- FB.out]
   go_region_law (refine kH rfl 95 #[.pointer (some ⟨WB.heap.size, 2, none⟩), .agg #[.int .i64 n.form, .int .i64 n.at_, .int .i64 n.aO, .int .i64 n.num, .string (bs n.word), .int .i64 n.region, .int .i64 n.source, .int .i64 n.p0, .int .i64 n.p1, .int .i64 n.p2], .int .i64 r] ?_ ?_
                  ·go_simp
                  refine Calls.mono (yd.out _ ?_) ?_
                  ·repeat (first | with_reducible exact Dy.out | with_reducible refine sH ?_ | with_reducible refine fK ?_)
                  rintro e w4 ⟨rfl, YZ, Y0, gN, Rb⟩
                  refine ⟨_, rfl, ?_⟩)
   all_goals
    have Dz : Below WB.heap.size WB W3 := gW.out.trans (Dy.out.mono Bp)
    have Vg : WB.heap.size <= W3.heap.size := Dz.size
    obtain ⟨g1, g2, g3⟩ := gN.toBelow (B := WB.heap.size) (w0 := WB) (by repeat (first | with_reducible exact Dz | with_reducible refine sH ?_ | with_reducible refine fK ?_)) (Nat.le_refl _) (by exact Vg) P4.out YY.out
    have Ra := gN.size
    have Y1 : WB.heap.size < w4.heap.size := by have := af Rb.y; exact this
    have UH : Hid (fA WB.heap.size 2 #[.slice x1 n1 c1, .slice x2 n2 c2, YZ, Y0] 191 w4 YZ Y0 X.2 (K ++ [X.1])) := Rb
    have Q9 : Hid _ := g1
    have HG2 : Hid _ := g2
    have UG : Hid _ := g3
    clear gN Rb g1 g2 g3 Dz Hv d0 d1 d2 d3 d4 d5 d6 d7 d8 d9 lg Ra
    go_wp2
    go_roundw
    case rel => exact ⟨k + 1, YZ, Y0, X.2, D', _, T', by omega, by go_num, UH.out, YX.out, by simp [UE.out], P5.out, iQ.out, Rh.out, Q9.out, Y1, HG2.out, UG.out⟩
    case measure => simp [intOf]; omega
  ·have HTT : Hid (bz [] x9 = T) := by
    have hd : x9.drop k = [] := List.drop_eq_nil_of_le (by have := H2L.out; omega)
    have hst := HF.out
    rw [hd] at hst
    exact hst
   have HC : Hid _ := hC
   have Vw : Hid _ := jE
   have gW : Hid _ := dw
   have BL := pX
   clear hC jE HF yE dw qP FA
   go_wp2_with fail
   refine gQ.mono ?_
   rintro _ w1 ⟨rfl, hb1⟩
   have jr : Below WB.heap.size WB w1 := gW.out.trans (hb1.mono Bp)
   have hC1 := HC.out.below hb1
   have N0 : Below w.heap.size w w1 := dK.out.trans (jr.mono zO)
   have lS := Jt.out w1 N0
   have hab : ∀ wx, Below w1.heap.size w1 wx -> ∀ r : Nat, Calls Tryz.prog 108 #[.pointer (some ⟨WB.heap.size, 0, none⟩), .int .i64 r] wx fun v w' => v = .returned (.int .i64 (eG T r (dz T r ns 0 n0.aO n0.at_).1 (dz T r ns 0 n0.aO n0.at_).2 ns 0)) /\ Below wx.heap.size wx w' := fun wx hb r => Hl WB.heap.size wx x1 n1 c1 x2 n2 c2 pv tv tb K ns op D T ⟨hC1.below hb, lS.below hb⟩ Vw.out (by omega) (by omega) (by have := HM.out; omega) r n0 HH0.out
   have Nv : Hid _ := hab
   have N7 : Hid _ := N0
   have Y2 := N0.size
   clear hb1 jr hC1 lS hab N0 gQ b0 b1 bl pX HC Vw DP htl BL
   go_wp2
   go_loopw [10, 11, 12] (fun v10 i _ wx => ∃ (j : Nat), j <= c /\ i = .int .i64 j /\ wx.ownsRow w1.heap.size 3 1 v10 j (fX (ig T ns n0 j)) /\ Below w1.heap.size w1 wx) (fun _ i _ _ => c - (intOf i).toNat)
   case atStart =>
    refine ⟨0, Nat.zero_le _, rfl, ⟨rfl, Or.inr ⟨w1.heap.size, 0, #[], rfl, Nat.le_refl _, ?_, Nat.le_refl _, by unfold maxLen; omega, rfl, rfl⟩⟩, (Below.refl _ w1).alloc (Nat.le_refl _) _⟩
    exact aj _ _
   case round =>
    obtain ⟨j, hj, rfl, hown, hbx⟩ := hrel
    have hxs := hbx.size
    by_cases N8 : j < c
    ·have hac := Nv.out _ hbx j
     have iF := Eb T ns n0 j
     generalize eG T j (dz T j ns 0 n0.aO n0.at_).1 (dz T j ns 0 n0.aO n0.at_).2 ns 0 = RG at *
     have ld : Hid _ := iF
     have dS : Hid _ := hown
     have RL : Hid _ := hbx
     clear iF hown hbx
     go_wp2_with fail
     refine hac.mono ?_
     rintro _ w5 ⟨rfl, lY⟩
     have Qh : Below w1.heap.size w1 w5 := RL.out.trans (lY.mono hxs)
     have DX : Hid (Below w1.heap.size w1 (w5.alloc (.cells #[.int .i64 RG] 3))) := Qh.alloc Qh.size _
     have NH : Hid ((w5.alloc (.cells #[.int .i64 RG] 3)).ownsRow w1.heap.size 3 1 u10 j (fX (ig T ns n0 j))) := aA (aA dS.out lY) (cz (Below.refl _ _) _)
     have xX : Hid (∀ (i : Nat) (u : Value), ([.int .i64 RG] : List Value)[i]? = some u -> (w5.alloc (.cells #[.int .i64 RG] 3)).cell? ((⟨w5.heap.size, 0, none⟩ : Addr).add i) = some u) := by
      intro i u hi
      have hq := bH w5 [.int .i64 RG] 3 i
      rw [<- hi, <- hq]; first | done | rfl
     have vo : Hid (∀ u ∈ ([.int .i64 RG] : List Value), u.oneCell' = true) := by intro v hv; simp only [List.mem_singleton] at hv; subst hv; rfl
     have hw5 := Qh.size
     clear hac lY Qh
     go_wp2_with (at_builtin; go_must (refine wpList_append_own _ rfl (.tmp 45) (.tmp 47) 42 rfl w1.heap.size 3 i0 _ 1 8 Tryz.oD HI.out pq.out pz.out pF.out rfl (by decide) u10 j (fX (ig T ns n0 j)) rfl NH.out ⟨w5.heap.size, 0, none⟩ 1 1 [.int .i64 RG] rfl rfl xX.out vo.out ?c3 ?c4 ?c5 ?_))
     case c3 => unfold maxLen; omega
     case c4 => omega
     case c5 => first | omega | (simp; omega)
     intro v' w7 hown' hgrow hnil
     have RI : Hid (Below w1.heap.size w1 w7) := (DX.out).grown hgrow DX.out.size (fun b hb => (World.ownsRow.lt NH.out b hb).1)
     have YV : Hid (w7.ownsRow w1.heap.size 3 1 v' (j + 1) (fX (ig T ns n0 (j + 1)))) := by
      show w7.ownsRow w1.heap.size 3 1 v' (j + 1) (fX (ig T ns n0 (j + 1)))
      rw [ld.out]
      unfold fX at hown' ⊢
      rw [List.map_append]
      exact hown'
     clear hown' hgrow hnil
     go_wp2
     go_roundw
     case rel => exact ⟨j + 1, by omega, by go_num, YV.out, RI.out⟩
     case measure => simp [intOf]; omega
    ·have hjc : j = c := by omega
     subst hjc
     have dS : Hid _ := hown
     have RL : Hid _ := hbx
     clear hown hbx
     go_wp2
     go_ret
     refine ⟨_, rfl, ?_, N7.out.trans (RL.out.mono Y2)⟩
     rw [HTT.out]
     exact cY dS.out (fun k hk => by have := (World.ownsRow.lt dS.out k hk).1; omega)
theorem RM (L : Ly) (wb : Nat) (x1 : Option Addr) (n1 c1 : Nat) (x2 : Option Addr) (n2 c2 : Nat) (ns : List NR) (op : List Int) (p : Nat) (nm rg : List UInt8) (x : PT) (ih : yJ L wb (.slice x1 n1 c1) (.slice x2 n2 c2) ns op x) : Kh L wb (.slice x1 n1 c1) (.slice x2 n2 c2) ns op (.node p .new nm rg [x]) := by
 intro base w v tx hsh jU hwf hle mX hin aW
 simp only [fW, fD] at hsh
 obtain ⟨⟨n, hn, hf', hwd, oA, gu, uE⟩, hx, _⟩ := hsh
 have hf : n.form = 12 := hf'
 simp only [PT.bN, bG] at jU
 simp only [PT.wf, oG] at hwf
 simp only [PT.cnt, aB, Nat.add_zero] at hle mX hn
 have XP := dI x
 obtain ⟨M, hM⟩ : ∃ M : Nat, (((base + x.cnt : Nat) : Int) - 1) = (M : Int) := ⟨base + x.cnt - 1, by omega⟩
 have hMb : M <= 9000 := by have := aW.len; omega
 have Vx : n.p0 = (M : Int) := by rw [oA, <- hM]; rfl
 have hno := dZ w (.slice x1 n1 c1) (.slice x2 n2 c2) ns op (aW.tree w (Below.refl _ _)) (base + x.cnt) n hn aW.len
 have hbl := aW.len
 have hb := hin.blk
 have y0 : w.cell? ⟨wb, 0, none⟩ = some (.slice x1 n1 c1) := by rw [aa hb]; rfl
 have y1 : w.cell? ⟨wb, 1, none⟩ = some (.slice x2 n2 c2) := by rw [aa hb]; rfl
 have hcall := fun w' (h1 : kg L wb w' (.slice x1 n1 c1) (.slice x2 n2 c2) v tx) (h2 : oZ L wb w' (.slice x1 n1 c1) (.slice x2 n2 c2) ns op) => ih base w' v tx hx jU.2.1 hwf.2.1 (by omega) (by omega) h1 h2
 rw [hM] at hcall
 have HC : Hid _ := hcall
 have lR : Hid _ := hin
 have nP : Hid _ := aW
 have hlt := af hb
 unfold aK aI at hno
 rw [hf, Vx] at hno
 generalize n.p1 = m1 at hno
 generalize n.p2 = m2 at hno
 generalize n.region = m3 at hno
 generalize n.source = m4 at hno
 generalize n.num = m5 at hno
 have e1 : PT.xM L.regs L.news (.node p .new nm rg [x]) base = x.uJ L.regs L.news base := by simp [PT.xM, gF, PT.uJ]
 rw [e1]
 simp only [PT.cnt, aB, Nat.add_zero]
 rw [show (((base + (1 + x.cnt) : Nat) : Int) - 1) = ((base + x.cnt : Nat) : Int) from by omega]
 generalize base + x.cnt = K at *
 clear hb hin aW hcall hn hf' hf hwd oA gu uE hx Vx ih jU hwf mX e1
 go_enter Tryz.func110, Tryz.ntmps110
 go_wp2_with fail
 refine hno.mono ?_
 rintro _ w1 ⟨rfl, hb1⟩
 have hs1 := hb1.size
 go_wp2_with fail
 have hB := hb1.alloc hb1.size (.cells #[.int .i64 12, .int .i64 n.at_, .int .i64 n.aO, .int .i64 m5, .string (bs n.word), .int .i64 m3, .int .i64 m4, .int .i64 M, .int .i64 m1, .int .i64 m2] 160)
 refine (HC.out _ (lR.out.below hB) (nP.out.on (hB.mono (Nat.le_of_lt hlt)))).mono ?_
 rintro _ w3 ⟨v', rfl, hfr, o4⟩
 go_wp2_with fail
 refine bodyPost_end (v := .tuple #[]) (by simp [results, Tryz.results110, go_sem]) rfl ⟨v', rfl, (jF.ju v hB).trans hfr, o4⟩
end Go.Proofs.YtpicaknklgccoaaGreatDoor
