import Derived.Test.YtpicaknklgccoabGreatDoorV11
set_option maxHeartbeats 16000000
set_option maxRecDepth 100000
namespace Go.Proofs.YtpicaknklgccoabGreatDoor
open Go.RowKit
theorem DN (w:World) (cb o:Nat) (A:Array Value) (T:TypeId) (pv tv:Value) (tb:List TP) (K:List Nat) (n:NR) (ri:Int) (r:Nat) (hr:n.form=4->ri=r) (h:gj cb o A T w pv tv tb K) (ok:U5 tb K n) :
  Calls Tryz.prog 84 #[.pointer (some ⟨cb,o,none⟩),aK n,.int .i64 ri] w λv w'=>v=.returned (.int .i64 (iX tb K n r).1)/\∃ nS,vZ cb w w' pv tv nS tv/\gj cb o (A.setIfInBounds o nS) T w' nS tv (iX tb K n r).2 K:=by
 have hbx:Below w.heap.size w (w.alloc (cA n)):=(Below.refl _ _).alloc (Nat.le_refl _) _;have hin:=h.below hbx
 have hk:=λ(w':World) (hb:Below w.heap.size w w') (i:Int) (hi:-10<=i/\i<=10000)=>iG w' cb o tv K i (h.below hb).c1 (h.below hb).t ok.hK hi
 have ko:=iG (w.alloc (cA n)) cb o tv K n.p0 hin.c1 hin.t ok.hK ok.p0;have hk1:=iG (w.alloc (cA n)) cb o tv K n.p1 hin.c1 hin.t ok.hK ok.p1;have hat:=qK (w.alloc (cA n)) cb o pv tb (au K n.p0) hin.c0 hin.p (by have:=ok.hl;omega) (by have:=ok.kn n.p0;omega)
 have hsr:=λ(w':World) (hb:Below w.heap.size w w')=>iG w' cb o tv K n.source (h.below hb).c1 (h.below hb).t ok.hK ok.s
 have jN:=λ(w':World) (hb:Below w.heap.size w w')=>KF w' cb o A T pv tv tb K r (au K n.p0) (au K n.p1) (h.below hb) ok.hl (ok.kn _) (ok.kn _) ⟨ok.sz _,ok.sz _⟩
 have eE:Hid _:=hbx;have HH:Hid _:=h
 have jG:Hid (iX tb K n r=(if n.form=2 then (au K n.source,tb)
  else if n.form=12 then (au K n.p0,tb)
  else if n.form=3 then (au K n.p1,tb)
  else if n.form=7 then (au K n.p1,tb)
  else if n.form=11 then (au K n.p1,tb)
  else if n.form=4 then dH tb r (au K n.p0) (au K n.p1)
  else if n.form=5 then ((fW tb (au K n.p0)).a,tb)
  else if n.form=6 then ((fW tb (au K n.p0)).b,tb)
  else (0,tb))):=rfl
 obtain⟨R,hR⟩:∃ R,R=iX tb K n r:=⟨_,rfl⟩;rw[<- hR] at jG ⊢;clear hR h hin hbx ok hk;unfold we at hat;unfold aK;unfold cA AA at ko hk1 hat eE;have KJ:Hid _:=ko;have GL:Hid _:=hk1;have M7:Hid _:=hat;have kI:Hid _:=hsr;have Dt:Hid _:=jN;clear ko hk1 hat hsr jN;generalize au K n.p0=ka at *;generalize au K n.p1=kb at *;generalize au K n.source=ks at *;generalize fW tb ka=P at *
 show Calls _ _ #[Value.pointer (some ⟨cb,o,none⟩),_,_] w _
 go_enter Tryz.func84,Tryz.ntmps84
 go_wp2_with fail
 refine Calls.mono KJ.out ?_;rintro _ _ ⟨rfl,rfl⟩
 go_wp2_with fail
 refine Calls.mono GL.out ?_;rintro _ _ ⟨rfl,rfl⟩
 go_wp2_with fail
 refine Calls.mono M7.out ?_;rintro _ w1 ⟨rfl,hb1⟩
 have hnb:w1.heap[w.heap.size]?=some (cA n):=by rw[hb1.block _ (by simp)];exact aj _ _
 obtain⟨d0,d1,d2,d3,d4,d5,d6,d7,d8,d9⟩:=aC hnb;have kJ:=af hnb;have hB:=(eE.out.trans (hb1.mono (by simp))).alloc (by have:=hb1.size;simp at this;omega) (.cells #[.int .i64 P.r,.int .i64 P.a,.int .i64 P.b,.int .i64 P.sz] 146);have HB:Hid _:=hB;clear hb1 hB hnb
 by_cases k2:n.form=2
 ·skip
  have q2:((n.form:Int)==2)=true:=aJ (b:=2) k2
  have HR:Hid (R=(ks,tb)):=by have:=jG.out;simp only[if_pos k2] at this;exact this
  clear k2
  go_wp2_with fail
  refine Calls.mono (kI.out _ HB.out) ?_;rintro _ _ ⟨rfl,rfl⟩
  go_wp2
  go_ret
  exact⟨by rw[HR.out];rfl,pv,vZ.below cb pv tv HB.out,by rw[HR.out];exact (HH.out.below HB.out).self⟩
 by_cases k12:n.form=12
 ·skip
  have q2:((n.form:Int)==2)=false:=ah (b:=2) k2;have A5:((n.form:Int)==12)=true:=aJ (b:=12) k12
  have HR:Hid (R=(ka,tb)):=by have:=jG.out;simp only[if_neg k2,if_pos k12] at this;exact this
  clear k2 k12
  go_wp2
  go_ret
  exact⟨by rw[HR.out];rfl,pv,vZ.below cb pv tv HB.out,by rw[HR.out];exact (HH.out.below HB.out).self⟩
 by_cases k3:n.form=3
 ·skip
  have q2:((n.form:Int)==2)=false:=ah (b:=2) k2;have A5:((n.form:Int)==12)=false:=ah (b:=12) k12;have q3:((n.form:Int)==3)=true:=aJ (b:=3) k3
  have HR:Hid (R=(kb,tb)):=by have:=jG.out;simp only[if_neg k2,if_neg k12,if_pos k3] at this;exact this
  clear k2 k12 k3
  go_wp2
  go_ret
  exact⟨by rw[HR.out];rfl,pv,vZ.below cb pv tv HB.out,by rw[HR.out];exact (HH.out.below HB.out).self⟩
 by_cases k7:n.form=7
 ·skip
  have q2:((n.form:Int)==2)=false:=ah (b:=2) k2;have A5:((n.form:Int)==12)=false:=ah (b:=12) k12;have q3:((n.form:Int)==3)=false:=ah (b:=3) k3;have q7:((n.form:Int)==7)=true:=aJ (b:=7) k7
  have HR:Hid (R=(kb,tb)):=by have:=jG.out;simp only[if_neg k2,if_neg k12,if_neg k3,if_pos k7] at this;exact this
  clear k2 k12 k3 k7
  go_wp2
  go_ret
  exact⟨by rw[HR.out];rfl,pv,vZ.below cb pv tv HB.out,by rw[HR.out];exact (HH.out.below HB.out).self⟩
 by_cases k11:n.form=11
 ·skip
  have q2:((n.form:Int)==2)=false:=ah (b:=2) k2;have A5:((n.form:Int)==12)=false:=ah (b:=12) k12;have q3:((n.form:Int)==3)=false:=ah (b:=3) k3;have q7:((n.form:Int)==7)=false:=ah (b:=7) k7;have AB:((n.form:Int)==11)=true:=aJ (b:=11) k11
  have HR:Hid (R=(kb,tb)):=by have:=jG.out;simp only[if_neg k2,if_neg k12,if_neg k3,if_neg k7,if_pos k11] at this;exact this
  clear k2 k12 k3 k7 k11
  go_wp2
  go_ret
  exact⟨by rw[HR.out];rfl,pv,vZ.below cb pv tv HB.out,by rw[HR.out];exact (HH.out.below HB.out).self⟩
 by_cases k4:n.form=4
 ·skip
  have q2:((n.form:Int)==2)=false:=ah (b:=2) k2;have A5:((n.form:Int)==12)=false:=ah (b:=12) k12;have q3:((n.form:Int)==3)=false:=ah (b:=3) k3;have q7:((n.form:Int)==7)=false:=ah (b:=7) k7;have AB:((n.form:Int)==11)=false:=ah (b:=11) k11;have q4:((n.form:Int)==4)=true:=aJ (b:=4) k4
  have HR:Hid (R=dH tb r ka kb):=by have:=jG.out;simp only[if_neg k2,if_neg k12,if_neg k3,if_neg k7,if_neg k11,if_pos k4] at this;exact this
  have hri:=hr k4;subst hri;clear k2 k12 k3 k7 k11 k4
  go_wp2_with fail
  refine Calls.mono (Dt.out _ HB.out) ?_;rintro _ w2 ⟨rfl,pv2,hfr,hin⟩;have HF:Hid _:=(vZ.below cb pv tv HB.out).trans hfr;have HI:Hid _:=hin;clear hfr hin;generalize dH tb r ka kb=Q at *
  go_wp2
  go_ret
  exact⟨by rw[HR.out];rfl,pv2,HF.out,by rw[HR.out];exact HI.out⟩
 by_cases k5:n.form=5
 ·skip
  have q2:((n.form:Int)==2)=false:=ah (b:=2) k2;have A5:((n.form:Int)==12)=false:=ah (b:=12) k12;have q3:((n.form:Int)==3)=false:=ah (b:=3) k3;have q7:((n.form:Int)==7)=false:=ah (b:=7) k7;have AB:((n.form:Int)==11)=false:=ah (b:=11) k11;have q4:((n.form:Int)==4)=false:=ah (b:=4) k4;have q5:((n.form:Int)==5)=true:=aJ (b:=5) k5
  have HR:Hid (R=(P.a,tb)):=by have:=jG.out;simp only[if_neg k2,if_neg k12,if_neg k3,if_neg k7,if_neg k11,if_neg k4,if_pos k5] at this;exact this
  clear k2 k12 k3 k7 k11 k4 k5
  go_wp2
  go_ret
  exact⟨by rw[HR.out];rfl,pv,vZ.below cb pv tv HB.out,by rw[HR.out];exact (HH.out.below HB.out).self⟩
 by_cases k6:n.form=6
 ·skip
  have q2:((n.form:Int)==2)=false:=ah (b:=2) k2;have A5:((n.form:Int)==12)=false:=ah (b:=12) k12;have q3:((n.form:Int)==3)=false:=ah (b:=3) k3;have q7:((n.form:Int)==7)=false:=ah (b:=7) k7;have AB:((n.form:Int)==11)=false:=ah (b:=11) k11;have q4:((n.form:Int)==4)=false:=ah (b:=4) k4;have q5:((n.form:Int)==5)=false:=ah (b:=5) k5;have q6:((n.form:Int)==6)=true:=aJ (b:=6) k6
  have HR:Hid (R=(P.b,tb)):=by have:=jG.out;simp only[if_neg k2,if_neg k12,if_neg k3,if_neg k7,if_neg k11,if_neg k4,if_neg k5,if_pos k6] at this;exact this
  clear k2 k12 k3 k7 k11 k4 k5 k6
  go_wp2
  go_ret
  exact⟨by rw[HR.out];rfl,pv,vZ.below cb pv tv HB.out,by rw[HR.out];exact (HH.out.below HB.out).self⟩
 have q2:((n.form:Int)==2)=false:=ah (b:=2) k2;have A5:((n.form:Int)==12)=false:=ah (b:=12) k12;have q3:((n.form:Int)==3)=false:=ah (b:=3) k3;have q7:((n.form:Int)==7)=false:=ah (b:=7) k7;have AB:((n.form:Int)==11)=false:=ah (b:=11) k11;have q4:((n.form:Int)==4)=false:=ah (b:=4) k4;have q5:((n.form:Int)==5)=false:=ah (b:=5) k5;have q6:((n.form:Int)==6)=false:=ah (b:=6) k6
 have HR:Hid (R=(0,tb)):=by have:=jG.out;simp only[if_neg k2,if_neg k12,if_neg k3,if_neg k7,if_neg k11,if_neg k4,if_neg k5,if_neg k6] at this;exact this
 clear k2 k12 k3 k7 k11 k4 k5 k6
 go_wp2
 go_ret
 exact⟨by rw[HR.out];rfl,pv,vZ.below cb pv tv HB.out,by rw[HR.out];exact (HH.out.below HB.out).self⟩
end Go.Proofs.YtpicaknklgccoabGreatDoor
