import Derived.Test.YtpicaknklgccoabGreatDoorS10
set_option maxHeartbeats 16000000
set_option maxRecDepth 100000
namespace Go.Proofs.YtpicaknklgccoabGreatDoor
open Go.RowKit
theorem Cz (w:World) (cb o:Nat) (A:Array Value) (T:TypeId) (pv tv:Value) (tb:List TP) (K:List Nat) (n:NR) (ri:Int) (r:Nat) (hr:n.form=4->ri=r) (h:fJ cb o A T w pv tv tb K) (ok:Ta tb K n) :
  Calls Tryz.prog 84 #[.pointer (some ⟨cb,o,none⟩),aI n,.int .i64 ri] w fun v w'=>v=.returned (.int .i64 (ic tb K n r).1)/\∃ mO,uB cb w w' pv tv mO tv/\fJ cb o (A.setIfInBounds o mO) T w' mO tv (ic tb K n r).2 K:=by
 have hbx:Below w.heap.size w (w.alloc (bU n)):=(Below.refl _ _).alloc (Nat.le_refl _) _
 have hin:=h.below hbx
 have hk:=fun (w':World) (hb:Below w.heap.size w w') (i:Int) (hi:-10<=i/\i<=10000)=>gN w' cb o tv K i (h.below hb).c1 (h.below hb).t ok.hK hi
 have pX:=gN (w.alloc (bU n)) cb o tv K n.p0 hin.c1 hin.t ok.hK ok.p0
 have hk1:=gN (w.alloc (bU n)) cb o tv K n.p1 hin.c1 hin.t ok.hK ok.p1
 have hat:=oT (w.alloc (bU n)) cb o pv tb (au K n.p0) hin.c0 hin.p (by have:=ok.hl;omega) (by have:=ok.kn n.p0;omega)
 have hsr:=fun (w':World) (hb:Below w.heap.size w w')=>gN w' cb o tv K n.source (h.below hb).c1 (h.below hb).t ok.hK ok.s
 have jj:=fun (w':World) (hb:Below w.heap.size w w')=>Jb w' cb o A T pv tv tb K r (au K n.p0) (au K n.p1) (h.below hb) ok.hl (ok.kn _) (ok.kn _) ⟨ok.sz _,ok.sz _⟩
 have dP:Hid _:=hbx
 have HH:Hid _:=h
 have iY:Hid (ic tb K n r=(if n.form=2 then (au K n.source,tb)
  else if n.form=12 then (au K n.p0,tb)
  else if n.form=3 then (au K n.p1,tb)
  else if n.form=7 then (au K n.p1,tb)
  else if n.form=11 then (au K n.p1,tb)
  else if n.form=4 then dh tb r (au K n.p0) (au K n.p1)
  else if n.form=5 then ((fD tb (au K n.p0)).a,tb)
  else if n.form=6 then ((fD tb (au K n.p0)).b,tb)
  else (0,tb))):=rfl
 obtain ⟨R,hR⟩:∃ R,R=ic tb K n r:=⟨_,rfl⟩
 rw [<- hR] at iY ⊢
 clear hR h hin hbx ok hk
 unfold uC at hat
 unfold aI
 unfold bU za at pX hk1 hat dP
 have Lu:Hid _:=pX
 have E7:Hid _:=hk1
 have Lv:Hid _:=hat
 have jR:Hid _:=hsr
 have Cf:Hid _:=jj
 clear pX hk1 hat hsr jj
 generalize au K n.p0=ka at *
 generalize au K n.p1=kb at *
 generalize au K n.source=ks at *
 generalize fD tb ka=P at *
 show Calls _ _ #[Value.pointer (some ⟨cb,o,none⟩),_,_] w _
 go_enter Tryz.func84,Tryz.ntmps84
 go_wp2_with fail
 refine Calls.mono Lu.out ?_
 rintro _ _ ⟨rfl,rfl⟩
 go_wp2_with fail
 refine Calls.mono E7.out ?_
 rintro _ _ ⟨rfl,rfl⟩
 go_wp2_with fail
 refine Calls.mono Lv.out ?_
 rintro _ w1 ⟨rfl,hb1⟩
 have hnb:w1.heap[w.heap.size]?=some (bU n):=by rw [hb1.block _ (by simp)];exact aj _ _
 obtain ⟨d0,d1,d2,d3,d4,d5,d6,d7,d8,d9⟩:=aC hnb
 have kN:=af hnb
 have hB:=(dP.out.trans (hb1.mono (by simp))).alloc (by have:=hb1.size;simp at this;omega) (.cells #[.int .i64 P.r,.int .i64 P.a,.int .i64 P.b,.int .i64 P.sz] 146)
 have HB:Hid _:=hB
 clear hb1 hB hnb
 by_cases k2:n.form=2
 ·skip
  have q2:((n.form:Int) == 2)=true:=aH (b:=2) k2
  have HR:Hid (R=(ks,tb)):=by have:=iY.out;simp only [if_pos k2] at this;exact this
  clear k2
  go_wp2_with fail
  refine Calls.mono (jR.out _ HB.out) ?_
  rintro _ _ ⟨rfl,rfl⟩
  go_wp2
  go_ret
  exact ⟨by rw [HR.out];rfl,pv,uB.below cb pv tv HB.out,by rw [HR.out];exact (HH.out.below HB.out).self⟩
 by_cases k12:n.form=12
 ·skip
  have q2:((n.form:Int) == 2)=false:=ah (b:=2) k2
  have zQ:((n.form:Int) == 12)=true:=aH (b:=12) k12
  have HR:Hid (R=(ka,tb)):=by have:=iY.out;simp only [if_neg k2,if_pos k12] at this;exact this
  clear k2 k12
  go_wp2
  go_ret
  exact ⟨by rw [HR.out];rfl,pv,uB.below cb pv tv HB.out,by rw [HR.out];exact (HH.out.below HB.out).self⟩
 by_cases k3:n.form=3
 ·skip
  have q2:((n.form:Int) == 2)=false:=ah (b:=2) k2
  have zQ:((n.form:Int) == 12)=false:=ah (b:=12) k12
  have q3:((n.form:Int) == 3)=true:=aH (b:=3) k3
  have HR:Hid (R=(kb,tb)):=by have:=iY.out;simp only [if_neg k2,if_neg k12,if_pos k3] at this;exact this
  clear k2 k12 k3
  go_wp2
  go_ret
  exact ⟨by rw [HR.out];rfl,pv,uB.below cb pv tv HB.out,by rw [HR.out];exact (HH.out.below HB.out).self⟩
 by_cases k7:n.form=7
 ·skip
  have q2:((n.form:Int) == 2)=false:=ah (b:=2) k2
  have zQ:((n.form:Int) == 12)=false:=ah (b:=12) k12
  have q3:((n.form:Int) == 3)=false:=ah (b:=3) k3
  have q7:((n.form:Int) == 7)=true:=aH (b:=7) k7
  have HR:Hid (R=(kb,tb)):=by have:=iY.out;simp only [if_neg k2,if_neg k12,if_neg k3,if_pos k7] at this;exact this
  clear k2 k12 k3 k7
  go_wp2
  go_ret
  exact ⟨by rw [HR.out];rfl,pv,uB.below cb pv tv HB.out,by rw [HR.out];exact (HH.out.below HB.out).self⟩
 by_cases k11:n.form=11
 ·skip
  have q2:((n.form:Int) == 2)=false:=ah (b:=2) k2
  have zQ:((n.form:Int) == 12)=false:=ah (b:=12) k12
  have q3:((n.form:Int) == 3)=false:=ah (b:=3) k3
  have q7:((n.form:Int) == 7)=false:=ah (b:=7) k7
  have zb:((n.form:Int) == 11)=true:=aH (b:=11) k11
  have HR:Hid (R=(kb,tb)):=by have:=iY.out;simp only [if_neg k2,if_neg k12,if_neg k3,if_neg k7,if_pos k11] at this;exact this
  clear k2 k12 k3 k7 k11
  go_wp2
  go_ret
  exact ⟨by rw [HR.out];rfl,pv,uB.below cb pv tv HB.out,by rw [HR.out];exact (HH.out.below HB.out).self⟩
 by_cases k4:n.form=4
 ·skip
  have q2:((n.form:Int) == 2)=false:=ah (b:=2) k2
  have zQ:((n.form:Int) == 12)=false:=ah (b:=12) k12
  have q3:((n.form:Int) == 3)=false:=ah (b:=3) k3
  have q7:((n.form:Int) == 7)=false:=ah (b:=7) k7
  have zb:((n.form:Int) == 11)=false:=ah (b:=11) k11
  have q4:((n.form:Int) == 4)=true:=aH (b:=4) k4
  have HR:Hid (R=dh tb r ka kb):=by have:=iY.out;simp only [if_neg k2,if_neg k12,if_neg k3,if_neg k7,if_neg k11,if_pos k4] at this;exact this
  have hri:=hr k4
  subst hri
  clear k2 k12 k3 k7 k11 k4
  go_wp2_with fail
  refine Calls.mono (Cf.out _ HB.out) ?_
  rintro _ w2 ⟨rfl,Zx,hfr,hin⟩
  have HF:Hid _:=(uB.below cb pv tv HB.out).trans hfr
  have HI:Hid _:=hin
  clear hfr hin
  generalize dh tb r ka kb=Q at *
  go_wp2
  go_ret
  exact ⟨by rw [HR.out];rfl,Zx,HF.out,by rw [HR.out];exact HI.out⟩
 by_cases k5:n.form=5
 ·skip
  have q2:((n.form:Int) == 2)=false:=ah (b:=2) k2
  have zQ:((n.form:Int) == 12)=false:=ah (b:=12) k12
  have q3:((n.form:Int) == 3)=false:=ah (b:=3) k3
  have q7:((n.form:Int) == 7)=false:=ah (b:=7) k7
  have zb:((n.form:Int) == 11)=false:=ah (b:=11) k11
  have q4:((n.form:Int) == 4)=false:=ah (b:=4) k4
  have q5:((n.form:Int) == 5)=true:=aH (b:=5) k5
  have HR:Hid (R=(P.a,tb)):=by have:=iY.out;simp only [if_neg k2,if_neg k12,if_neg k3,if_neg k7,if_neg k11,if_neg k4,if_pos k5] at this;exact this
  clear k2 k12 k3 k7 k11 k4 k5
  go_wp2
  go_ret
  exact ⟨by rw [HR.out];rfl,pv,uB.below cb pv tv HB.out,by rw [HR.out];exact (HH.out.below HB.out).self⟩
 by_cases k6:n.form=6
 ·skip
  have q2:((n.form:Int) == 2)=false:=ah (b:=2) k2
  have zQ:((n.form:Int) == 12)=false:=ah (b:=12) k12
  have q3:((n.form:Int) == 3)=false:=ah (b:=3) k3
  have q7:((n.form:Int) == 7)=false:=ah (b:=7) k7
  have zb:((n.form:Int) == 11)=false:=ah (b:=11) k11
  have q4:((n.form:Int) == 4)=false:=ah (b:=4) k4
  have q5:((n.form:Int) == 5)=false:=ah (b:=5) k5
  have q6:((n.form:Int) == 6)=true:=aH (b:=6) k6
  have HR:Hid (R=(P.b,tb)):=by have:=iY.out;simp only [if_neg k2,if_neg k12,if_neg k3,if_neg k7,if_neg k11,if_neg k4,if_neg k5,if_pos k6] at this;exact this
  clear k2 k12 k3 k7 k11 k4 k5 k6
  go_wp2
  go_ret
  exact ⟨by rw [HR.out];rfl,pv,uB.below cb pv tv HB.out,by rw [HR.out];exact (HH.out.below HB.out).self⟩
 have q2:((n.form:Int) == 2)=false:=ah (b:=2) k2
 have zQ:((n.form:Int) == 12)=false:=ah (b:=12) k12
 have q3:((n.form:Int) == 3)=false:=ah (b:=3) k3
 have q7:((n.form:Int) == 7)=false:=ah (b:=7) k7
 have zb:((n.form:Int) == 11)=false:=ah (b:=11) k11
 have q4:((n.form:Int) == 4)=false:=ah (b:=4) k4
 have q5:((n.form:Int) == 5)=false:=ah (b:=5) k5
 have q6:((n.form:Int) == 6)=false:=ah (b:=6) k6
 have HR:Hid (R=(0,tb)):=by have:=iY.out;simp only [if_neg k2,if_neg k12,if_neg k3,if_neg k7,if_neg k11,if_neg k4,if_neg k5,if_neg k6] at this;exact this
 clear k2 k12 k3 k7 k11 k4 k5 k6
 go_wp2
 go_ret
 exact ⟨by rw [HR.out];rfl,pv,uB.below cb pv tv HB.out,by rw [HR.out];exact (HH.out.below HB.out).self⟩
end Go.Proofs.YtpicaknklgccoabGreatDoor
