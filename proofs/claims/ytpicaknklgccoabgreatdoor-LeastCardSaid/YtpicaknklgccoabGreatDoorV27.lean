import Derived.Test.YtpicaknklgccoabGreatDoorV26
set_option maxHeartbeats 4000000
set_option maxRecDepth 100000
namespace Go.Proofs.YtpicaknklgccoabGreatDoor
open Go.RowKit
theorem Beside.other {mb k s:Nat} {w w':World} {nv cv rv:Value} {o:Obj} (h:Beside mb k w nv cv rv o) (hb:Below s w w') (hk:k<s):Beside mb k w' nv cv rv o:=⟨by rw[hb.block k hk];exact h.b,h.ne,h.n,h.c,h.r⟩
theorem CN (mb B:Nat) (tn aS:Value) (fuel:Nat) (ns:List NR) (op:List Int) (n:NR) (fk:-1<=n.p1/\n.p1<=9000) (ca cb cc:Nat) (fa fb fc:MM->MV × MM) (ha:gV mb B tn aS fuel ns op n.p0 ca fa) (hb:gV mb B tn aS fuel ns op n.p1 cb fb) (hcc:cc<=20000) (hc:gV mb B tn aS fuel ns op n.p2 cc fc)
  (w:World) (nv cv rv:Value) (m:MM) (h:jJ mb B w tn aS fuel nv cv rv m ns op (ca+(cb+cc))) :
  Calls Tryz.prog 115 #[ptr mb,aK n] w (gG mb w tn aS fuel nv cv rv (cU n.p1 fc (fa m).1.n.toNat (fb (fa m).2).1 (fb (fa m).2).2)):=by
 obtain⟨N,hN⟩:∃ N:Obj,N=.cells #[.int .i64 n.form,.int .i64 n.at_,.int .i64 n.aL,.int .i64 n.num,.string (bs n.word),.int .i64 n.region,.int .i64 n.source,.int .i64 n.p0,.int .i64 n.p1,.int .i64 n.p2] 108:=⟨_,rfl⟩;obtain⟨R,hR⟩:∃ R:Obj,R=.cells #[.bool false,.int .i64 0] 122:=⟨_,rfl⟩;obtain⟨W1,hE⟩:∃ W1,W1=(w.alloc N).alloc R:=⟨_,rfl⟩
 have hW1:Below w.heap.size w W1:=by rw[hE];exact aD (aD (Below.refl _ _) _) _
 have h1:=h.below hW1;have qX:Beside mb w.heap.size W1 nv cv rv (cA n):=Beside.new h.i (by rw[hE,hN];exact aR _ (aj w _)) (Nat.le_refl _);have lX:Beside mb (w.heap.size+1) W1 nv cv rv (.cells #[.bool false,.int .i64 0] 122):=Beside.new h.i (by rw[hE,hR];have:=aj (w.alloc N) (.cells #[.bool false,.int .i64 0] 122);simpa using this) (by omega);have eH:Hid (bL mb mb w W1 nv cv rv nv cv rv):=bL.below mb mb nv cv rv hW1;have H1:Hid _:=h1;have kP:Hid _:=qX;have kI:Hid _:=lX
 have gr:w.heap.size<=w.heap.size+1:=by omega
 have fD:=ha W1 nv cv rv m (h1.less (by omega));have HA:Hid _:=fD.2;have HK:Hid _:=fD.1;obtain⟨res,hres⟩:∃ res,res=cU n.p1 fc (fa m).1.n.toNat (fb (fa m).2).1 (fb (fa m).2).2:=⟨_,rfl⟩;rw[<- hres];have jL:Hid _:=hres;clear hres;clear fD ha hW1 h1 qX lX h;unfold ptr at HA;unfold ptr aK
 go_enter Tryz.func115,Tryz.ntmps115
 subst hN;subst hR
 go_wp2_with fail
 rw[<- hE];refine Calls.mono HA.out ?_;rintro _ w2 ⟨rfl,cO,mC,kT,hf2,qq⟩;have dY:=kP.out.keep hf2;have gF:=kI.out.keep hf2;have h2:=H1.out.on (c':=(cb+cc)) hf2 qq HK.out.1 HK.out.2.2.inner (by omega);have jK:=HK.out.2.1;have cS:Hid _:=eH.out.trans hf2;clear hE hf2 qq kP kI H1 eH HA HK;generalize fa m=x at *;generalize w.heap.size+1=q at *;obtain⟨W3,jd⟩:∃ W3,W3=w2.alloc (.cells #[.bool x.1.c,.int .i64 x.1.n] 122):=⟨_,rfl⟩
 have hW3:Below w2.heap.size w2 W3:=by rw[jd];exact aD (Below.refl _ _) _
 have h3:=h2.below hW3;have hf3:bL mb mb w2 W3 cO mC kT cO mC kT:=bL.below mb mb cO mC kT hW3;have o8:Beside mb w2.heap.size W3 cO mC kT (.cells #[.bool x.1.c,.int .i64 x.1.n] 122):=Beside.new h2.i (by rw[jd];exact aj w2 _) (Nat.le_refl _);have ee:Hid _:=cS.out.trans hf3;have qt:Hid _:=dY.keep hf3;have fg:Hid _:=gF.keep hf3;have qu:Hid _:=o8;have sZ:Hid _:=jK;have H3:Hid _:=h3;obtain⟨c0,_,_,_,_,c5,_,c7,c8,c9⟩:=aC dY.b;have AL:=af dY.b;have hkb:=hb W3 cO mC kT x.2 (h3.less (by omega));have wM:Hid _:=hkb.2;have pj:Hid _:=hkb.1;have HLW:Hid (w.heap.size<w2.heap.size/\q<w2.heap.size):=⟨af dY.b,af gF.b⟩;have VZ:Hid (B<=w2.heap.size):=h2.env.s;clear h3 hf3 cS hW3 h2 dY gF jK hkb hb o8;unfold ptr at wM;unfold ml
 go_wp2_with fail
 rw[<- jd];refine Calls.mono wM.out ?_;rintro _ w4 ⟨rfl,iD,Bz,AQ,dE,hi4⟩;have nL:=qt.out.keep dE;have s6:=fg.out.keep dE;have vE:=qu.out.keep dE;have h4:=H3.out.on (c':=cc) dE hi4 pj.out.1 pj.out.2.2.inner (by omega);have LD:=pj.out.2.1;have kA:Hid _:=ee.out.trans dE;clear jd dE hi4 qt fg qu H3 ee wM pj c0 c5 c7 c8 c9 AL;generalize fb x.2=y at *;obtain⟨W5,wu⟩:∃ W5,W5=w4.alloc (.cells #[.bool y.1.c,.int .i64 y.1.n] 122):=⟨_,rfl⟩
 have yX:Below w4.heap.size w4 W5:=by rw[wu];exact aD (Below.refl _ _) _
 have h5:=h4.below yX;have eY:bL mb mb w4 W5 iD Bz AQ iD Bz AQ:=bL.below mb mb iD Bz AQ yX;have qw:=s6.keep eY;obtain⟨V1,V2⟩:=yT vE.b;obtain⟨d0,_,_,_,_,d5,_,d7,d8,d9⟩:=aC nL.b;have Im:=af nL.b;have LF:=af vE.b;have AR:=nL.keep eY;have LG:=vE.keep eY;have ZH:Beside mb w4.heap.size W5 iD Bz AQ (.cells #[.bool y.1.c,.int .i64 y.1.n] 122):=Beside.new h4.i (by rw[wu];exact aj w4 _) (Nat.le_refl _);have hqp:q<w4.heap.size:=af s6.b;have hpl:w2.heap.size<w4.heap.size:=LF;have hNl:w.heap.size<w4.heap.size:=Im;have hN2:w.heap.size<w2.heap.size:=HLW.out.1;have QA:q<w2.heap.size:=HLW.out.2;have ZG:=sZ.out;unfold MV.bd at ZG;have acX:-30000<=x.1.n/\x.1.n<=30000:=ZG;have HC:Hid _:=hc;have V4:Hid _:=fk;have H5:Hid _:=h5;have gB:Hid _:=kA.out.trans eY;have ZI:Hid _:=AR;have ZJ:Hid _:=LG;have ZK:Hid _:=ZH;have dM:Hid _:=qw;have ZL:Hid _:=LD;unfold ml
 go_upto_region 3 with fail
 rw[<- wu];clear AR LG ZH qw h5 h4 eY kA wu yX nL vE s6 V1 V2 d0 d5 d7 d8 d9 Im LF sZ LD hc fk ZG HLW;generalize w2.heap.size=p at *;generalize w4.heap.size=s at *;obtain⟨T,hT⟩:∃ T,T=x.1.n.toNat:=⟨_,rfl⟩;rw[<- hT] at jL
 go_wp2_with fail
 go_loopw [7] (λi wr=>∃ (j:Nat) (v:MV) (mj:MM) (QE QF QG:Value),j<=T/\i=.int .i64 j/\Beside mb w.heap.size wr QE QF QG (cA n)/\Beside mb q wr QE QF QG (.cells #[.bool false,.int .i64 0] 122)/\Beside mb p wr QE QF QG (.cells #[.bool x.1.c,.int .i64 x.1.n] 122)/\Beside mb s wr QE QF QG (.cells #[.bool v.c,.int .i64 v.n] 122) /\
   bL mb mb w wr nv cv rv QE QF QG/\v.bd/\jJ mb B wr tn aS fuel QE QF QG mj ns op (if mj.fault=0 then cc else 0)/\res=cU n.p1 fc (T-j) v mj) (λi _=>T-(intOf i).toNat)
 case atStart =>
  refine⟨0,y.1,y.2,iD,Bz,AQ,Nat.zero_le _,rfl,ZI.out,dM.out,ZJ.out,ZK.out,gB.out,ZL.out,H5.out.less ?_,by rw[jL.out,Nat.sub_zero]⟩
  split <;> omega
 case round =>
  obtain⟨j,v,mj,QE,QF,QG,hj,rfl,qX,lX,hsX,hsV,hf,hv,hst,hr⟩:=hrel;have kP:Hid _:=qX;have kI:Hid _:=lX;have HSX:Hid _:=hsX;have HSV:Hid _:=hsV;have HF:Hid _:=hf;have HV:Hid _:=hv;have jO:Hid _:=hst;have HR:Hid _:=hr;obtain⟨V1,V2⟩:=yT hsX.b;obtain⟨vc0,vc1⟩:=yT hsV.b;obtain⟨_,_,y4,_⟩:=bK hst.i.y;obtain⟨_,_,_,_,_,_,_,d7,d8,d9⟩:=aC qX.b;have l1:=af qX.b;have l2:=af hsX.b;have l3:=af hsV.b;have l4:=af hst.i.y;clear qX lX hsX hsV hf hv hst hr jL ZI dM ZJ ZK gB ZL H5
  by_cases hex:j<T/\mj.fault=0
  ·obtain⟨hjT,hfz⟩:=hex
   have hjx:(j:Int)<x.1.n:=by omega
   rw[hfz] at y4
   have Ou:jJ mb B wr tn aS fuel QE QF QG mj ns op cc:=by have:=jO.out;rw[if_pos hfz] at this;exact this
   have aO:=EG mb wr tn aS fuel QE QF QG mj n.p1 v (by have:=V4.out;omega) (by rw[Ou.nl];exact Ou.env.len) Ou.i;have D5:Hid _:=aO;have V5:Hid _:=Ou;have HFZ:Hid _:=hfz;clear aO Ou jO;unfold ptr ml at D5
   go_wp2_with fail
   refine Calls.mono D5.out ?_;rintro _ w6 ⟨rfl,yu,QD⟩;have h6:=V5.out.on (c':=cc) yu QD (MM.xh V5.out.bd n.p1 v HV.out) (ow mj n.p1 v) (by omega);have hkc:=HC.out w6 QE QF QG _ h6;have XT:Hid _:=hkc.2;have vz:Hid _:=hkc.1;have H6:Hid _:=h6;have XI:Hid _:=HF.out.trans yu;have RM:=kP.out.keep yu;have ZM:Hid _:=RM;have EU:Hid _:=kI.out.keep yu;have ZN:Hid _:=HSX.out.keep yu;have ZO:Hid _:=HSV.out.keep yu;obtain⟨_,_,_,_,_,_,_,e7,e8,e9⟩:=aC RM.b;have k1:=af RM.b;clear yu QD h6 hkc RM D5 kP kI HSX HSV HF V5 d7 d8 d9 V1 V2 vc0 vc1 y4 l1 l2 l3 l4;unfold ptr at XT
   go_wp2_with fail
   refine Calls.mono XT.out ?_;rintro _ w7 ⟨rfl,YY,cv7,rv7,ju,ku⟩;have LH:=ZO.out.keep ju;have abB:Hid _:=ZM.out.keep ju;have abC:Hid _:=EU.out.keep ju;have abD:Hid _:=ZN.out.keep ju;have abE:Hid _:=LH;have HF7:Hid _:=XI.out.trans ju;have HI7:Hid _:=ku;have abF:Hid _:=ju;obtain⟨vd0,vd1⟩:=yT LH.b;have u0:w7.frozen? ⟨s,0,none⟩=false:=ag LH.b 0;have u1:w7.frozen? ⟨s,1,none⟩=false:=ag LH.b 1;have k2:=af LH.b;clear ju ku LH ZM EU ZN ZO XI XT e7 e8 e9 k1;generalize hz:fc (mj.name n.p1 v)=z at *;unfold ml
   go_wp2
   go_roundw
   case rel =>
    have Gw:=abE.out;have yY:=H6.out.on (c':=0) abF.out HI7.out vz.out.1 vz.out.2.2.inner (by omega);have ZP:Below s w7 ((w7.setCell ⟨s,0,none⟩ (.bool z.1.c)).setCell ⟨s,1,none⟩ (.int .i64 z.1.n)):=aw (aw (Below.refl _ _) ⟨s,0,none⟩ (Nat.le_refl _) _) ⟨s,1,none⟩ (Nat.le_refl _) _;have hi8:=(HI7.out.beside Gw.ne Gw.n Gw.c Gw.r 0 (.bool z.1.c)).beside Gw.ne Gw.n Gw.c Gw.r 1 (.int .i64 z.1.n);have hB:=yY.env.b
    have hs8:w.heap.size<=s:=by omega
    refine⟨j+1,z.1,z.2,YY,cv7,rv7,hjT,by go_num,abB.out.other ZP hNl,abC.out.other ZP hqp,abD.out.other ZP hpl,⟨aA (aA Gw.b 0 _) 1 _,Gw.ne,Gw.n,Gw.c,Gw.r⟩,HF7.out.upto (ZP.mono hs8),vz.out.2.1,?_,?_⟩
    ·have Ov:=vz.out.2.2.op
     have yA:=H6.out.ob;have hrl:=H6.out.rl;have LI:=vz.out.2.2.st;have hrg:=vz.out.2.2.rg;have TU:=vz.out.1.steps;refine⟨hi8,vz.out.1,⟨yY.env.b,by have:=yY.env.s;simp only[World.setCell,Array.size_modify];omega,yY.env.n,yY.env.c,yY.env.r,λw' hw'=>yY.env.tree w' ((ZP.mono (by have:=VZ.out;omega)).trans hw'),yY.env.len⟩,yY.r1,?_,?_,yY.nl,yY.fu⟩
     ·split <;> omega
     ·split
      ·rename_i h0
       rw[if_pos h0] at Ov;omega
      ·rename_i h0
       rw[if_neg h0] at Ov;omega
    ·rw[HR.out,show T-j=(T-(j+1))+1 from by omega]
     simp only[cU];rw[if_neg (by simp[HFZ.out]),hz]
   case measure=>simp[intOf];omega
  ·have V6:res=(v,mj):=by
    rw[HR.out]
    by_cases hjT:j<T
    ·have hfz:mj.fault≠0:=λe=>hex ⟨hjT,e⟩
     rw[show T-j=(T-(j+1))+1 from by omega];simp only[cU];rw[if_pos hfz]
    ·rw[show T-j=0 from by omega];rfl
   subst V6;have RN:=kI.out
   have x0:wr.cell? ⟨q,0,none⟩=some (.bool false):=by rw[aa RN.b];rfl
   have x1:wr.cell? ⟨q,1,none⟩=some (.int .i64 0):=by rw[aa RN.b];rfl
   have g0:wr.frozen? ⟨q,0,none⟩=false:=ag RN.b 0;have g1:wr.frozen? ⟨q,1,none⟩=false:=ag RN.b 1;have CL:=af RN.b;clear RN HR
   by_cases hjx:(j:Int)<x.1.n
   ·have hfz:mj.fault≠0:=λe=>hex ⟨by omega,e⟩
    have hfb:((mj.fault:Int)==0)=false:=wm hfz;clear hex hfz
    go_wp2
    have aY:=kI.out;have ku:=(jO.out.i.beside aY.ne aY.n aY.c aY.r 0 (.bool v.c)).beside aY.ne aY.n aY.c aY.r 1 (.int .i64 v.n);have ju:=(HF.out.upto (aw (aw (Below.refl _ _) ⟨q,0,none⟩ gr (.bool v.c)) ⟨q,1,none⟩ gr (.int .i64 v.n)));refine bodyPost_ret (v:=.agg #[.bool v.c,.int .i64 v.n]) (by simp[results,Tryz.results115,go_sem,x0,x1]) rfl ⟨rfl,_,_,_,ju,ku⟩
   ·clear hex
    go_wp2
    have aY:=kI.out;have ku:=(jO.out.i.beside aY.ne aY.n aY.c aY.r 0 (.bool v.c)).beside aY.ne aY.n aY.c aY.r 1 (.int .i64 v.n);have ju:=(HF.out.upto (aw (aw (Below.refl _ _) ⟨q,0,none⟩ gr (.bool v.c)) ⟨q,1,none⟩ gr (.int .i64 v.n)));refine bodyPost_ret (v:=.agg #[.bool v.c,.int .i64 v.n]) (by simp[results,Tryz.results115,go_sem,x0,x1]) rfl ⟨rfl,_,_,_,ju,ku⟩
end Go.Proofs.YtpicaknklgccoabGreatDoor
