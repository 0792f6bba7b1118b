import Derived.Test.YtpicaknklgccoaaGreatDoorK29
import Derived.Test.YtpicaknklgccoaaGreatDoorK4
import Derived.Deep.Light
set_option maxHeartbeats 20000000
set_option maxRecDepth 100000
namespace Go.Proofs.YtpicaknklgccoaaGreatDoor
open Tryz
open Go.RowKit
theorem Ld(o)(hok:Hh o)(hl:o.length<=9000)(i)(gt S cb p j a:Nat)(t u)(k)(w)(hin:X0 o gt S cb p j a w)(ht:o[p]?=some t)(hu:o[p+1]?=some u)(hp:p+1<o.length)(aeL:j<=p)(acX:a<=p)(hwk:fY k i≠[])(h1:t.c=.opn)(h2:u.s=k.bytes)(nm rg)(H)(r)(T:Ed (AG o) (fY k i) (o.drop (p+2)) nm rg H r):Calls prog 102 #[ptr cb] w (Ol o gt S cb p j a w (.node t.at_ k nm rg H) ((o.drop p).length-r.length)):=by
 obtain⟨hne,hc,Z⟩:=hin;have c0:cg w cb 0 (.slice (some ⟨gt,0,none⟩) o.length S):=dR hc rfl;have c1:cg w cb 1 (.int .i64 p):=dR hc rfl;have c2:cg w cb 2 (.int .i64 j):=dR hc rfl;have c3:cg w cb 3 (.int .i64 a):=dR hc rfl;have f1:w.frozen? ⟨cb,1,none⟩=false:=aK hc 1;have f2:w.frozen? ⟨cb,2,none⟩=false:=aK hc 2;have f3:w.frozen? ⟨cb,3,none⟩=false:=aK hc 3;obtain⟨t0,t1,t2⟩:=Ak Z ht;obtain⟨u0,u1,u2⟩:=Ak Z hu;rw[h2]at u0;have DQ:=aG hc;have hgt:=(Z.lt gt rfl).2;have acO:cb≠gt:=λh=>hne h.symm;have HC:Hid (w.heap[cb]?=some (.cells (fO (.slice (some ⟨gt,0,none⟩) o.length S) p j a) 181 (0,0))):=hc;have HTK:Hid (w.ownsRow 0 177 3 (.slice (some ⟨gt,0,none⟩) o.length S) o.length (o.flatMap fg)):=Z;have q1:((bs t.c.bytes).toList==[78,85,77,66,69,82])=false:=by rw[h1,bo];decide
 have q2:((bs t.c.bytes).toList==[78,65,77,69])=false:=by rw[h1,bo];decide
 have HP:Hid _:=T;obtain⟨d,hd⟩:∃d:Nat,d=if k=.pair then 1 else 0:=⟨_,rfl⟩;have hd1:d<=1:=by rw[hd];split<;>omega
 have HD:Hid _:=hd;have Fu:((bs k.bytes).toList==[112,97,105,114])=(d==1):=by rw[bo,hd];cases k<;>decide
 clear h1 hc Z ht hu h2 T hd;unfold ptr;go_in;go_wp2;go_region;go_wp2;go_region;go_wp2;go_region;go_upto_if 78 with fail
 go_cut [] from 6 to 85 (λwc=>wc.heap[cb]?=some (.cells (fO (.slice (some ⟨gt,0,none⟩) o.length S) (p+2) (j+1) (a+d)) 181 (0,0))/\
   wc.heap[w.heap.size]?=some (.cells (dJ k.bytes t.at_ [] 0 (.slice none 0 0) j 0 a) 82 (0,0))/\
   wc.heap[w.heap.size+1]?=some (.cells #[.string (bs t.s),.int .i64 t.at_,.string (bs t.c.bytes)] 177 (0,0))/\w.grownBy wc (some cb)/\wc.heap.size=w.heap.size+2)
 case first=>
  as_aux_lemma=>
  clear t0 t1 t2 u0 u1 u2 q1 q2;have hpd:(d==1)=true\/(d==1)=false:=by cases (d==1)<;>simp
  rcases hpd with hpd|hpd
  ·have Y6:d=1:=by simpa using hpd
   have HD2:Hid (d=1):=Y6;clear Y6;go_wp2;go_meet
   case rel=>
    obtain⟨g1,g2,g3⟩:=acV HC.out;rw[HD2.out];exact Nf (.cells (dJ k.bytes t.at_ [] 0 (.slice none 0 0) j 0 a) 82 (0,0)) (.cells #[.string (bs t.s),.int .i64 t.at_,.string (bs t.c.bytes)] 177 (0,0)) g1 g2 g3 rfl rfl rfl rfl
  ·have Y6:d≠1:=by simpa using hpd
   have hd3:d=0:=by omega
   have HD2:Hid (d=0):=hd3;clear Y6 hd3;go_wp2;go_meet
   case rel=>
    obtain⟨g1,g2,g3⟩:=aaH HC.out;rw[HD2.out];exact Nf (.cells (dJ k.bytes t.at_ [] 0 (.slice none 0 0) j 0 a) 82 (0,0)) (.cells #[.string (bs t.s),.int .i64 t.at_,.string (bs t.c.bytes)] 177 (0,0)) g1 g2 g3 rfl rfl rfl rfl
 case rest=>
  as_aux_lemma=>
  obtain⟨r1,r2,r3,r4,r5⟩:=hcut;have Xw:cb≠w.heap.size:=by omega
  have htc:cb≠w.heap.size+1:=by omega
  have HN:Hid (Sb o i gt S cb j a d k t.at_ nm rg H r w w.heap.size (w.heap.size+1) p (fY k i).length wc):=
   ⟨[],fY k i,p+2,nm,rg,[],[],H,[],.slice none 0 0,[],_,_,_,rfl,by omega,hwk,rfl,HP.out,rfl,rfl,rfl,rfl,by simp,λ_=>rfl,λ_=>rfl,by simp[aU];omega,by simp[eS];omega,
    by simpa [aU,eS] using r1,r2,r3,r4,wD,λg hg=>by simp[Value.ownBlock]at hg,by simp[fZ]⟩
  have aeM:gt≠w.heap.size:=by omega
  have acY:gt≠w.heap.size+1:=by omega
  clear c0 c1 c2 c3 f1 f2 f3 t0 t1 t2 u0 u1 u2 q1 q2 Fu r1 r2 r3 r4 r5;go_wp2;go_loopg [5] (fY k i).length (λn _ wr=>Sb o i gt S cb j a d k t.at_ nm rg H r w w.heap.size (w.heap.size+1) p n wr)
  case atStart=>exact HN.out
  case round=>
   as_aux_lemma=>
   obtain⟨done,ws,q,Sg,J8,v,Y5,aaL,y,Y,bl,T0,T1,T2,rfl,hpq,Q,RY,T,hnm,hrg,Xx,hdk,hn1,J4,hrx,hb1,hb2,hcc,B,J,hgr,GV,hkb,hkt⟩:=hrel;have aaM:=VT HTK.out hgr hne;have c0:cg wr cb 0 (.slice (some ⟨gt,0,none⟩) o.length S):=dR hcc rfl;have c1:cg wr cb 1 (.int .i64 q):=dR hcc rfl;have f1:wr.frozen? ⟨cb,1,none⟩=false:=aK hcc 1;have x0:cg wr w.heap.size 0 (.string (bs k.bytes)):=dR B rfl;have x2:cg wr w.heap.size 2 (.string (bs v)):=dR B rfl;have x4:cg wr w.heap.size 4 Y:=dR B rfl;have x3:cg wr w.heap.size 3 (.int .i64 (aQ Y5)):=dR B rfl;have x6:cg wr w.heap.size 6 (.int .i64 0):=dR B rfl;have y2:wr.frozen? ⟨w.heap.size,2,none⟩=false:=aK B 2;have y3:wr.frozen? ⟨w.heap.size,3,none⟩=false:=aK B 3;have y4:wr.frozen? ⟨w.heap.size,4,none⟩=false:=aK B 4;have y6:wr.frozen? ⟨w.heap.size,6,none⟩=false:=aK B 6;have z0:cg wr (w.heap.size+1) 0 T0:=dR J rfl;have z1:cg wr (w.heap.size+1) 1 T1:=dR J rfl;have z2:cg wr (w.heap.size+1) 2 T2:=dR J rfl;have g0:wr.frozen? ⟨w.heap.size+1,0,none⟩=false:=aK J 0;have g1:wr.frozen? ⟨w.heap.size+1,1,none⟩=false:=aK J 1;have g2:wr.frozen? ⟨w.heap.size+1,2,none⟩=false:=aK J 2;have hsz:=hgr.size;have hxs:=aG B;have hts:=aG J;refine fw hcc B J λU HXX HTT=>?_;have HGR:Hid (w.grownBy wr (some cb)):=hgr;have N:Hid (wr.ownsRow 0 63 1 Y y.length (bl.map ptr)):=GV;refine bY hkb hkt λO HKT=>?_;have L:Hid (wr.ownsRow 0 177 3 (.slice (some ⟨gt,0,none⟩) o.length S) o.length (o.flatMap fg)):=aaM;have l:Hid (nm=v++Sg/\rg=Y5++J8/\H=y++aaL/\(Wt.name∈done->v≠[])/\(Wt.name∉done->v=[])/\(Wt.region∉done->Y5=[])/\y.length=sU done/\fY k i=done++ws):=⟨hnm,hrg,Xx,hn1,J4,hrx,hdk,RY⟩;clear hcc B J hgr GV hkb hkt aaM hnm hrg Xx hn1 J4 hrx hdk RY HN HP HC;have c2:cg wr cb 2 (.int .i64 (j+1+aU y:Nat)):=dR U.out rfl;obtain⟨lq,D⟩:∃lq,o.drop q=lq:=⟨_,rfl⟩;rw[D]at T;obtain⟨wz,m⟩:=ez ws;rw[<-m]at T;cases T with
   |nil=>exact absurd m.symm Q
   |@close C F rr _ _ _ _ z f=>
    as_aux_lemma=>
    obtain⟨A,hq,G⟩:=rM D;obtain⟨a0,a1,a2⟩:=Ak L.out A;have Xy:((bs C.c.bytes).toList==[41])=true:=by rw[z,bo];decide
    refine fw f G m λHR V M=>?_;clear z f A D G m z0 z1 z2 g0 g1 g2 x0 x2 x3 x4 y2 y3 y4;go_wp2;go_region;go_wp2;go_ret;go_light;exact Sd DQ U.out HXX.out HGR.out N.out O.out HKT.out l.out M.out HR.out V.out HD.out (by omega) hq rfl rfl rfl rfl
   |@name C F rr _ nm2 _ _ z f=>
    as_aux_lemma=>
    obtain⟨A,hq,G⟩:=rM D;obtain⟨a0,a1,a2⟩:=Ak L.out A;have Xy:((bs C.c.bytes).toList==[41])=false:=by rw[z,bo];decide
    have hq3:((bs C.c.bytes).toList==[82,69,71,73,79,78])=false:=by rw[z,bo];decide
    have hq4:((bs C.c.bytes).toList==[78,65,77,69])=true:=by rw[z,bo];decide
    have hwn:=Bs (by rw[m];exact l.out.2.2.2.2.2.2.2);have J5:v=[]:=l.out.2.2.2.2.1 hwn.2.1;have aeN:((bs v).toList.isEmpty)=true:=by rw[J5,bR];rfl
    have aaN:C.s≠[]:=hok.wB C (aq A) z;refine fw f G m λHR V M=>?_;have HTS:Hid (C.s≠[]):=aaN;have hkl:((bs k.bytes).toList==[108,101,116])=decide (k=.dV):=by rw[bo];cases k<;>decide
    have Y7:((bs k.bytes).toList==[108,111,111,112])=decide (k=.loop):=by rw[bo];cases k<;>decide
    have W:F.length<ws.length:=by rw[<-m];simp
    have hdl:=l.out.2.2.2.2.2.2.1;obtain⟨va,vc,E⟩:∃va vc,Y=.slice va y.length vc:=by
     rcases N.out.2 with⟨h,h'⟩|⟨g,cap,cur,h,_⟩
     ·exact⟨none,0,by rw[h,h']⟩
     ·exact⟨_,_,h⟩
    rw[E]at x4;have I:Hid _:=E;have K:(decide (k=.dV)=true/\y.length=0)\/(decide (k=.dV)=false/\decide (k=.loop)=true/\y.length=1):=by
     rcases hwn.1 with⟨h,h'⟩|⟨h,h'⟩
     ·exact aD ⟨by rw[h];rfl,by omega⟩
     ·exact aE ⟨by rw[h];rfl,by rw[h];rfl,by omega⟩
    clear z f A D G m hwn J5 aaN E hdl x3 y3 y4 y6 x6 Q;rcases K with⟨e1,e2⟩|⟨e1,e2,e3⟩
    ·rw[e1]at hkl;have e2':((y.length:Int)==0)=true:=by rw[e2];rfl
     clear e1 e2 Y7;go_wp2;go_region;go_wp2;go_region;go_wp2;go_roundg F.length
     case measure=>exact W
     case rel=>
      go_light;exact EG DQ Xw htc U.out HXX.out HTT.out HGR.out N.out O.out HKT.out l.out M.out HR.out V.out HTS.out hb1 hb2 hpq rfl rfl rfl rfl
    ·rw[e1]at hkl;rw[e2]at Y7;have e3':((y.length:Int)==1)=true:=by rw[e3];rfl
     clear e1 e2 e3;go_wp2;go_region;go_wp2;go_region;go_wp2;go_roundg F.length
     case measure=>exact W
     case rel=>
      go_light;exact EG DQ Xw htc U.out HXX.out HTT.out HGR.out N.out O.out HKT.out l.out M.out HR.out V.out HTS.out hb1 hb2 hpq rfl rfl rfl rfl
   |@region C F rr _ _ rg2 _ z f=>
    as_aux_lemma=>
    obtain⟨A,hq,G⟩:=rM D;obtain⟨a0,a1,a2⟩:=Ak L.out A;have Xy:((bs C.c.bytes).toList==[41])=false:=by rw[z,bo];decide
    have hq3:((bs C.c.bytes).toList==[82,69,71,73,79,78])=true:=by rw[z,bo];decide
    have hsl:=hok.uj C (aq A) z;have hval:=Eg (bs C.s);rw[iE]at hval;refine fw f G m λHR V M=>?_;have W:F.length<ws.length:=by rw[<-m];simp
    clear z f A D G m x0 x2 x4 y2 y4 y6 x6 Q;go_wp2;go_region;go_wp2;go_region;go_wp2_with (go_at_call 134;refine (hval _ (by rw[eB];exact hsl)).mono ?_;rintro e w' ⟨rfl,rfl⟩);go_roundg F.length
    case measure=>exact W
    case rel=>
     go_light;exact IV DQ Xw htc U.out HXX.out HTT.out HGR.out N.out O.out HKT.out l.out M.out HR.out V.out hb1 hb2 hpq rfl rfl rfl rfl
   |@e e' F l' rr _ _ _ _ hgood f=>
    as_aux_lemma=>
    obtain⟨hg1,P,⟨C,r',hlt,Y8⟩,⟨un,hun,acZ⟩,hgc⟩:=hgood;have R:=D;rw[hlt]at D;obtain⟨A,hq,G⟩:=rM D;obtain⟨a0,a1,a2⟩:=Ak L.out A;have Xy:((bs C.c.bytes).toList==[41])=false:=by rcases Y8 with h|h|h<;>(rw[h,bo];decide)
    have hq3:((bs C.c.bytes).toList==[82,69,71,73,79,78])=false:=by rcases Y8 with h|h|h<;>(rw[h,bo];decide)
    have hkl:((bs k.bytes).toList==[108,101,116])=decide (k=.dV):=by rw[bo];cases k<;>decide
    have Y7:((bs k.bytes).toList==[108,111,111,112])=decide (k=.loop):=by rw[bo];cases k<;>decide
    have YM:=UI (by rw[m];exact l.out.2.2.2.2.2.2.2);have W:F.length<ws.length:=by rw[<-m];simp
    have hdl:=l.out.2.2.2.2.2.2.1;obtain⟨va,vc,E⟩:∃va vc,Y=.slice va y.length vc:=by
     rcases N.out.2 with⟨h,h'⟩|⟨g,cap,cur,h,_⟩
     ·exact⟨none,0,by rw[h,h']⟩
     ·exact⟨_,_,h⟩
    have hL:lq.length=o.length-q:=by rw[<-R];simp
    have hrl:rr.length=lq.length-un:=by rw[hun];simp
    have Y9:rr=o.drop (q+(lq.length-rr.length)):=by
     rw[hrl,show lq.length-(lq.length-un)=un from by omega,<-lg,R];exact hun
    have HUS:Hid _:=Y9;have hu1:j+1+aU y+e'.cnt<=q+(lq.length-rr.length):=by omega
    have hu2:a+d+eS y+e'.dn<=q+(lq.length-rr.length):=by omega
    refine fw f m E λHR M I=>?_;have aeO:y.length<=9000:=by have:=xX y;omega
    have hca:∀W1:World,X0 o gt S cb q (j+1+aU y) (a+d+eS y) W1->Calls prog 102 #[.pointer (some ⟨cb,0,none⟩)] W1 (Ol o gt S cb q (j+1+aU y) (a+d+eS y) W1 e' (lq.length-rr.length)):=
     λW1 h=>hgc gt S cb q _ _ W1 R (by omega) (by omega) h
    have HL:Hid (Xy=Xy):=rfl;obtain⟨i0,hi,hz0,hz1,hz2⟩:=cI vA;refine fT hi hz0 hz1 hz2 λHI y8 za ze=>?_
    have K:((bs C.c.bytes).toList==[78,65,77,69])=false\/
      (((bs C.c.bytes).toList==[78,65,77,69])=true/\(bs v).toList.isEmpty=false)\/
      (((bs C.c.bytes).toList==[78,65,77,69])=true/\(bs v).toList.isEmpty=true/\decide (k=.dV)=false/\decide (k=.loop)=false)\/
      (((bs C.c.bytes).toList==[78,65,77,69])=true/\(bs v).toList.isEmpty=true/\decide (k=.dV)=false/\decide (k=.loop)=true/\((y.length:Int)==1)=false):=by
     by_cases hn:((bs C.c.bytes).toList==[78,65,77,69])=true
     ·cases hx:(bs v).toList.isEmpty with
      |false=>exact aE (aD ⟨hn,rfl⟩)
      |true=>
       have J5:v=[]:=by rw[bR,iE]at hx;simpa using hx
       have hnd:Wt.name∉done:=λh=>l.out.2.2.2.1 h J5;rcases YM with h|⟨h1,h2⟩
       ·exact absurd h hnd
       ·by_cases hkk:k=.loop
        ·exact aE (aE (aE ⟨hn,rfl,cd h1,dZ hkk,by have:=h2 hkk;rw[aH];omega⟩))
        ·exact aE (aE (aD ⟨hn,rfl,cd h1,cd hkk⟩))
     ·exact aD (by simpa using hn)
    rw[E]at x4;clear hgc A D R G m YM f hdl hlt Y8 hun acZ Y9 hL hrl E hi hz0 hz1 hz2 hg1 P x3 y2 y3 y6 x6 Q HL;have hem:=acW (G:=C) (z:=(((wr.setCell ⟨w.heap.size+1,0,none⟩ (.string (bs C.s))).setCell ⟨w.heap.size+1,1,none⟩ (.int .i64 C.at_)).setCell ⟨w.heap.size+1,2,none⟩ (.string (bs C.c.bytes))).drew.drew) htc U.out HXX.out HTT.out HGR.out N.out O.out HKT.out L.out hne acY rfl rfl rfl rfl;have X:Hid _:=hem;clear hem;rcases K with hn|⟨hn,hx⟩|⟨hn,hx,hk1,hk2⟩|⟨hn,hx,hk1,hk2,hk3⟩
    all_goals
     as_aux_lemma=>
      first|(rw[hk1]at hkl;rw[hk2]at Y7;clear hk1 hk2)|clear hkl Y7
      go_wp2;go_region;go_wp2;go_region;go_wp2_with fail;refine (hca _ X.out.inn).mono ?_;rintro e w2 ⟨b',rfl,hc2,P,s6⟩;unfold ptr;have hsx:=aG X.out.x;have hx2:w2.heap[w.heap.size]?=some (.cells (dJ k.bytes t.at_ v (aQ Y5) Y j 0 a) 82 (0,0)):=by
       rw[P.block _ hsx (λe=>Xw (by cases e;rfl))];exact X.out.x
      have x42:w2.cell? ⟨w.heap.size,4,none⟩=some (.slice va y.length vc):=by rw[aI hx2,<-I.out];rfl
      have aeP:=P.size;have ac0:w.heap.size<w2.heap.size:=aG hx2;have hnk:∀b,b<w.heap.size+2->Y.ownBlock≠some b:=λb hb e=>by have:=O.out b e;omega
      have aaO:w2.ownsRow 0 63 1 Y y.length (bl.map ptr):=bO X.out.ow (λg hg=>P.block g (X.out.ow.lt g hg).2 (λe=>hnk cb (by omega) (by cases e;exact hg)));have ac1:Hid (w2.ownsRow 0 63 1 (.slice va y.length vc) y.length (bl.map ptr)):=by rw[<-I.out];exact aaO
      have GU:Hid _:=hc2;have HG2:Hid (World.grownBy _ w2 (some cb)):=P;refine fw s6 hx2 hnk λHT2 HX2 HNK=>?_;clear hc2 P s6 hx2 aaO hnk hsx;go_wp2_with (at_builtin;go_must (refine mV _ rfl (.tmp 182) (.tmp 184) 76 rfl 63 i0 _ 1 8 sj HI.out y8.out za.out ze.out rfl (by decide) (.slice va y.length vc) y.length (bl.map ptr) rfl (ac1.out.alloc _) ⟨w2.heap.size,0,none⟩ 1 1 [ptr b'] rfl rfl (VU w2 (ptr b') _) (VV b') (by decide) (by unfold maxLen;omega) (by omega) ?_));intro g cap w3 zk UY hgg;have hx3:w3.heap[w.heap.size]?=some (.cells (dJ k.bytes t.at_ v (aQ Y5) Y j 0 a) 82 (0,0)):=by
       rw[UY.block _ (by simp;omega) (λe=>HNK.out w.heap.size (by omega) (by rw[I.out];exact e.symm)),cV _ _ _ ac0];exact HX2.out
      have x43:cg w3 w.heap.size 4 Y:=dR hx3 rfl;have y43:w3.frozen? ⟨w.heap.size,4,none⟩=false:=aK hx3 4;have AZ:Hid (w3.ownsRow 0 63 1 (.slice (some ⟨g,0,none⟩) (y.length+1) cap) (y.length+1) (bl.map ptr++[ptr b'])):=zk;have YX:Hid ((w2.alloc (.cells #[ptr b'] 63)).grownBy w3 Y.ownBlock):=by rw[I.out];exact UY
      have aaP:Y.ownBlock=some g\/(w2.alloc (.cells #[ptr b'] 63)).heap.size<=g:=by rw[I.out];simpa using hgg
      have HGG:Hid (Y.ownBlock=some g\/(w2.alloc (.cells #[ptr b'] 63)).heap.size<=g):=aaP;clear zk UY hgg aaP hx3;go_wp2;go_roundg F.length
      case measure=>exact W
      case rel=>
       go_light;exact aaJ DQ X.out O.out l.out M.out HR.out HUS.out hu1 hu2 hpq GU.out HG2.out HT2.out YX.out AZ.out HGG.out rfl rfl rfl rfl
