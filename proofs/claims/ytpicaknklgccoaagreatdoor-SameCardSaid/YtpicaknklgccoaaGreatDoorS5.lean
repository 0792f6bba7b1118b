import Derived.Test.YtpicaknklgccoaaGreatDoorS4
set_option maxHeartbeats 16000000
set_option maxRecDepth 100000
namespace Go.Proofs.YtpicaknklgccoaaGreatDoor
open Go.RowKit
theorem GP (s : ByteArray) (ae : Bool) (pb : Nat) (pB : NR -> PS -> Int × PS) (hs : s.size <= 9000) (w : World) (sv nv ov : Value) (st : PS) (h : ee s ae pb w sv nv ov st) (gB : BdA st)
  (Yo : st.l ≠ [] -> ∀ (w : World) (n : NR), ee s ae pb w sv nv ov st.tail -> Calls Tryz.prog 181 #[ptr pb, aI n] w fun v w' => v = .returned (.int .i64 (pB n st.tail).1) /\ ∃ fj bw fw, bu pb pb w w' sv nv ov fj bw fw /\ ee s ae pb w' fj bw fw (pB n st.tail).2) :
  Calls Tryz.prog 152 #[ptr pb] w fun v w' => v = .returned (.int .i64 (gT s.size pB st).1) /\
   ∃ fj bw fw, bu pb pb w w' sv nv ov fj bw fw /\ ee s ae pb w' fj bw fw (gT s.size pB st).2 := by
 have htk := vW s ae pb w sv nv ov st hs h
 have hfa := fun w a h => w8 s ae pb w sv nv ov st.tail a h
 have hfi := fun w u h => LM s ae pb w sv nv ov st.tail u (by show st.scope.length <= 9000; have := gB.1; omega) h
 have had := fun w n h => Gi s ae pb w sv nv ov st.tail n (by show st.nodes.length <= 9000; have := gB.2.1; omega) h
 have hne : (eM s.size st.l).kind = 2 -> st.l ≠ [] := by
  intro e e'; rw [e'] at e; simp [eM] at e
 have hsc : st.tail.scope = st.scope := rfl
 have hnd : st.tail.nodes = st.nodes := rfl
 rw [hsc] at hfi
 rw [hnd] at had
 have JE : Hid (gT s.size pB st = (let t := eM s.size st.l
  if t.kind = 5 then ((st.nodes.length : Int), st.tail.add { iP t with form := 1, num := t.num })
  else if t.kind = 4 then ((st.nodes.length : Int), st.tail.add { iP t with form := 2, word := t.word, source := bL st.scope t.word })
  else if t.kind = 2 then pB (iP t) st.tail
  else (-1, st.tail.fail t.at_))) := rfl
 obtain ⟨T, hT⟩ : ∃ T, T = eM s.size st.l := ⟨_, rfl⟩
 rw [<- hT] at htk JE hne
 obtain ⟨R, hR⟩ : ∃ R, R = gT s.size pB st := ⟨_, rfl⟩
 rw [<- hR] at JE ⊢
 unfold gV ptr at htk
 unfold ptr at hfa hfi had Yo
 unfold aI at had Yo
 have gW : Hid _ := Yo
 have Jy : Hid _ := hne
 have Hu : Hid _ := hfi
 have JS : Hid _ := hfa
 have HAD : Hid _ := had
 have xO := Dl
 clear hT h hR Yo hne hfi hfa had gB hsc hnd
 show Calls _ _ #[Value.pointer (some ⟨pb, 0, none⟩)] w _
 go_enter Tryz.func152, Tryz.ntmps152
 go_upto_region 2 with (go_at_call 153; refine Calls.mono htk ?_; rintro _ w1 ⟨rfl, hfr, hin⟩)
 go_cut [4] from 7 to 12 (fun t4 wx => Fm w1 T t4 wx)
 case first =>
  go_region_with (go_at_call 125; refine (xO _).mono ?_; rintro e w2 ⟨rfl, hb2⟩; (try (have hqa := Tu hb2; have Hp := af hqa; have aas := Nat.ne_of_lt Hp; obtain ⟨t0, t1, t2, t3, t4⟩ := fM hqa)); (try (have KL := Tt hb2; have Hp := af KL; have aas := Nat.ne_of_lt Hp; obtain ⟨t0, t1, t2, t3, t4⟩ := fM KL)); (try (have Ut := jv hb2; have N8 := af Ut; obtain ⟨c0, c1, c2, c3, c4, c5, c6, c7, c8, c9⟩ := GN Ut; obtain ⟨f0, f1, f2, f3, f4, f5, f6, f7, f8, f9⟩ := MO Ut)))
  all_goals (go_wp2_with fail; go_meet)
  all_goals first
   | exact Dm hb2
   | exact Dn hb2
 case rest =>
 obtain ⟨g, hg, rfl, hgb, hbc⟩ := hcut
 have hsz : w.heap.size <= w1.heap.size := hfr.size
 have hlt := hin.slt
 have e1 : (w1.alloc (lF T)).heap.size = w1.heap.size + 1 := by simp
 have TS : wc.heap[w1.heap.size]? = some (lF T) := by rw [hbc.block _ (by simp)]; exact aj _ _
 obtain ⟨t0, t1, t2, t3, t4⟩ := fM TS
 have hB : Bk pb g wc sv nv ov (bR (iP T)) := ⟨hgb, by have := hlt.2.2.2; omega, fun e => by have := hlt.1 _ e; omega, fun e => by have := hlt.2.1 _ e; omega, fun e => by have := hlt.2.2.1 _ e; omega⟩
 have hI : ee s ae pb wc sv nv ov st.tail := (hin.alloc (lF T)).below hbc
 have hF : bu pb pb w wc sv nv ov sv nv ov := (hfr.alloc (lF T)).trans (bu.below pb pb sv nv ov hbc)
 have aaX : w1.heap.size ≠ g := by omega
 have HB : Hid _ := hB
 have HI : Hid _ := hI
 have HF : Hid _ := hF
 have hgw := af hgb
 clear hgb hbc TS hB hI hF hlt hin hfr htk e1
 by_cases k5 : T.kind = 5
 ·have q5 : ((T.kind : Int) == 5) = true := aH (b := 5) k5
  obtain ⟨c0, c1, c2, c3, c4, c5, c6, c7, c8, c9⟩ := aC HB.out.b
  have f0 := ag HB.out.b 0
  have f3 := ag HB.out.b 3
  obtain ⟨a1, a2, a3⟩ := HB.out.set HI.out 0 (.int .i64 1)
  obtain ⟨b1, b2, b3⟩ := a3.set a2 3 (.int .i64 T.num)
  have tD := HAD.out _ { iP T with form := 1, num := T.num } b2
  have HR : Hid (R = ((st.nodes.length : Int), st.tail.add { iP T with form := 1, num := T.num })) := by
   have := JE.out; simp only [if_pos k5] at this; exact this
  have HG : Hid (bu pb g w _ sv nv ov sv nv ov) := ((HF.out.nb (nb := g)).trans a1).trans b1
  have xG : Hid _ := tD
  clear a1 a2 a3 b1 b2 b3 tD k5 JE gW Jy Hu JS HAD xO
  go_wp2_with fail
  refine Calls.mono xG.out ?_
  rintro _ w4 ⟨rfl, gy, gN, bQ⟩
  have G3 : Hid _ := (HG.out.trans (gN.nb (nb := g))).outer (by omega)
  have G4 : Hid _ := bQ
  clear gN bQ xG
  go_wp2
  go_ret
  rw [HR.out]
  exact ⟨rfl, _, _, _, G3.out, G4.out⟩
 have q5 : ((T.kind : Int) == 5) = false := ah (b := 5) k5
 by_cases k4 : T.kind = 4
 ·have q4 : ((T.kind : Int) == 4) = true := aH (b := 4) k4
  obtain ⟨c0, c1, c2, c3, c4, c5, c6, c7, c8, c9⟩ := aC HB.out.b
  have f0 := ag HB.out.b 0
  have f4 := ag HB.out.b 4
  have f6 := ag HB.out.b 6
  obtain ⟨a1, a2, a3⟩ := HB.out.set HI.out 0 (.int .i64 2)
  obtain ⟨b1, b2, b3⟩ := a3.set a2 4 (.string (bs T.word))
  have Xo := Hu.out _ T.word b2
  obtain ⟨d1, d2, d3⟩ := b3.set b2 6 (.int .i64 (bL st.scope T.word))
  have tD := HAD.out _ { iP T with form := 2, word := T.word, source := bL st.scope T.word } d2
  have HR : Hid (R = ((st.nodes.length : Int), st.tail.add { iP T with form := 2, word := T.word, source := bL st.scope T.word })) := by
   have := JE.out; simp only [if_neg k5, if_pos k4] at this; exact this
  have HG : Hid (bu pb g w _ sv nv ov sv nv ov) := (((HF.out.nb (nb := g)).trans a1).trans b1).trans d1
  have xG : Hid _ := tD
  have aat : Hid _ := Xo
  clear a1 a2 a3 b1 b2 b3 d1 d2 d3 tD Xo k5 k4 JE gW Jy Hu JS HAD xO
  go_wp2_with fail
  refine Calls.mono aat.out ?_
  rintro _ w3 ⟨rfl, rfl⟩
  go_wp2_with fail
  refine Calls.mono xG.out ?_
  rintro _ w4 ⟨rfl, gy, gN, bQ⟩
  have G3 : Hid _ := (HG.out.trans (gN.nb (nb := g))).outer (by omega)
  have G4 : Hid _ := bQ
  clear gN bQ xG
  go_wp2
  go_ret
  rw [HR.out]
  exact ⟨rfl, _, _, _, G3.out, G4.out⟩
 have q4 : ((T.kind : Int) == 4) = false := ah (b := 4) k4
 by_cases k2 : T.kind = 2
 ·have q2 : ((T.kind : Int) == 2) = true := aH (b := 2) k2
  obtain ⟨c0, c1, c2, c3, c4, c5, c6, c7, c8, c9⟩ := aC HB.out.b
  have jr := gW.out (Jy.out k2) _ (iP T) HI.out
  have HR : Hid (R = pB (iP T) st.tail) := by
   have := JE.out; simp only [if_neg k5, if_neg k4, if_pos k2] at this; exact this
  have Jm : Hid _ := jr
  clear jr k5 k4 k2 JE gW Jy Hu JS HAD xO
  go_wp2_with fail
  refine Calls.mono Jm.out ?_
  rintro _ w4 ⟨rfl, sv4, gy, ov4, gN, bQ⟩
  have G3 : Hid _ := HF.out.trans gN
  have G4 : Hid _ := bQ
  clear gN bQ Jm
  go_wp2
  go_ret
  rw [HR.out]
  exact ⟨rfl, _, _, _, G3.out, G4.out⟩
 ·have q2 : ((T.kind : Int) == 2) = false := ah (b := 2) k2
  have Jl := JS.out _ T.at_ HI.out
  have HR : Hid (R = (-1, st.tail.fail T.at_)) := by
   have := JE.out; simp only [if_neg k5, if_neg k4, if_neg k2] at this; exact this
  have Xp : Hid _ := Jl
  clear Jl k5 k4 k2 JE gW Jy Hu JS HAD xO
  go_wp2_with fail
  refine Calls.mono Xp.out ?_
  rintro _ w4 ⟨rfl, gN, bQ⟩
  have G3 : Hid _ := HF.out.trans gN
  have G4 : Hid _ := bQ
  clear gN bQ Xp
  go_wp2
  go_ret
  rw [HR.out]
  exact ⟨rfl, _, _, _, G3.out, G4.out⟩
end Go.Proofs.YtpicaknklgccoaaGreatDoor
