import Derived.Test.YtpicaknklgccoaaGreatDoorK55
import Derived.Deep.AppendLies
set_option maxHeartbeats 8000000
set_option maxRecDepth 100000
namespace Go.Proofs.YtpicaknklgccoaaGreatDoor
open Tryz
open Go.RowKit
variable {w b y:Nat}{a:List Nat}{c:Nat -> Int -> Prop}{d:PT}{v:World}
theorem GJ{n:Nat}(h:v.ownsRow y 3 1 (.slice (some ⟨w,0,none⟩) n b) n (dM a))(d:a.length=n)(k:Nat)(c:k<n):v.cell? ⟨w,k,none⟩=some (.int .i64 ((a.getD k 0:Nat):Int)):=by
 subst d;rw[sQ h k c];simp[List.getD,aa c]
theorem GK{n:Nat}(h:v.ownsRow y 3 1 (.slice (some ⟨w,0,none⟩) n b) n (dM a))(k x:Nat):(v.setCell ⟨w,k,none⟩ (.int .i64 (x:Nat))).ownsRow y 3 1 (.slice (some ⟨w,0,none⟩) n b) n (dM (a.set k x)):=by
 have:=Bp h k (.int .i64 (x:Nat));rw[show dM (a.set k x)=(dM a).set k (.int .i64 (x:Nat)) by simp[dM]];exact this
def Mf(n i:Nat):List Nat:=List.range i++List.replicate (n-i) 0
theorem WE(n i:Nat)(h:i<=n):(Mf n i).length=n:=by simp[Mf];omega
theorem WG(n i:Nat)(h:i<n):Mf n (i+1)=(Mf n i).set i i:=by
 unfold Mf;rw[ik _ _ (by rw[di];exact bS),di,cx,show n-i=(n-(i+1))+1 by omega,List.replicate_succ,gZ];simp
theorem JR{P:List Nat->Prop}(s)(w)(e)(f)(E:e.cnt<=9000)(hwf:e.wf)(XU:e.eO)(hnn:gL e)(ab9:e.dn<=100)(hit:∀z,bg w z->nV z)(hP0:P (List.range e.dn))(hI:∀c,P c->ShI e f e.dn c)(hSm:∀c,P c->∀x∈c,x<e.dn)(hR:∀c,P c->ShI e f e.dn (mF c e.dn).1)(hS:∀c x y,P c->nB (f c) (e.subs 0 0)=some (x,y)->P (D6 (min x y) (max x y) c)/\max x y∈c/\x≠y)(hlen:∀c,P c->nB (f c) (e.subs 0 0)=none->(e.JI (mF c e.dn).1 (r7 (e.du 0 0) (f (mF c e.dn).1) (mF c e.dn).2) 0 0).length<=180000000)(hst:∀z,bg w z->Calls prog 33 #[.string s,.bool false] z λv w'=>∃b yb y,v=.returned (.tuple #[.pointer (some ⟨b,0,none⟩),.pointer (some ⟨yb,0,none⟩),.int .i64 0,.int .i64 y])/\bg z w'/\gS w' (λk=>k<w'.heap.size) e 0 0 b):Calls prog 17 #[.string s] w λv w'=>∃c,P c/\nB (f c) (e.subs 0 0)=none/\v=.returned (.tuple #[.string (bs (e.JI (mF c e.dn).1 (r7 (e.du 0 0) (f (mF c e.dn).1) (mF c e.dn).2) 0 0)),.int .i64 0])/\bg w w':=by
 obtain⟨i0,hi,hz0,hz1,hz2⟩:=cI iJ;refine fT hi hz0 hz1 hz2 λHI y8 za ze=>?_;obtain⟨j0,hj,hy0,hy1,Uq⟩:=cI Mc;refine xW hj hy0 hy1 Uq hwf XU hnn hit hI λHJ HY0 HY1 HY2 Us HTM HNN SE HIC=>?_;refine wC hSm hR hS hst hlen hP0 λNc HR HS vL HLN HP0=>?_;clear hi hz0 hz1 hz2 hj hy0 hy1 Uq hwf XU hnn hit hI hSm hR hS hst hlen hP0;go_in;go_wp2_with fail;refine (vL _ fp).mono ?_;rintro _ z ⟨b,yb,y,rfl,hb1,rA⟩;refine bY hb1 rA λDU HT1=>?_;have hpa:=sF e b _ z E rA;unfold ptr at hpa;have hlast:z.cell? ⟨b,6,none⟩=some (.int .i64 ((e.cnt-1:Nat):Int)):=by
  obtain⟨op,nm,n,kv,hb⟩:=CD rA;rw[aI hb];simp[dJ]
 have ad0:b<z.heap.size:=by
  obtain⟨op,nm,n,kv,hb⟩:=CD rA;exact aG hb
 have aca:Hid _:=hlast;clear hb1 rA hlast;go_wp2_with fail;refine hpa.mono ?_;rintro _ w2 ⟨gp,afh,vsp,rfl,hb2,_,_⟩;have xN:Hid _:=hb2;obtain⟨n,hn⟩:=ez e.dn;rw[<-hn];have HN:Hid _:=hn;have aek:n<=100:=by omega
 clear hpa hb2 hn ab9;go_wp2_with (first|(at_make;go_must (refine ic _ rfl (.tmp 31) (.tmp 31) 42 rfl z.heap.size 3 i0 _ 1 gM HI y8 za .i64 .i64 _ _ n rfl rfl rfl rfl ?m1 ?m2 ?m3 ?_)))
 case m1=>rw[ze.out];omega
 case m2=>unfold maxLen;omega
 case m3=>exact xN.out.size
 intro w3 zk Y;have hb3:bg w2 w3:=⟨Y.os,Y.tape,Y.output,Y.size,λk N=>Y.block k N (by simp)⟩;obtain⟨gc,hgc⟩:=ez w2.heap.size;have AZ:Hid (w3.ownsRow z.heap.size 3 1 (.slice (some ⟨gc,0,none⟩) n n) n (dM (Mf n 0))):=by
  rw[hgc,show dM (Mf n 0)=(madeCells #[Value.int .i64 0] n).toList from by rw[NL];simp[dM,Mf]];exact zk
 have ad1:z.heap.size<=gc:=by have:=xN.size;omega
 rw[<-hgc];have GZ:Hid (bg z w3):=(show Below _ _ _ from xN.trans (hb3.mono xN.size));clear zk Y hb3 hgc;go_wp2;go_loopw [10] (λi wr=>∃j:Nat,j<=n/\i=.int .i64 j/\bg z wr/\wr.ownsRow z.heap.size 3 1 (.slice (some ⟨gc,0,none⟩) n n) n (dM (Mf n j))) (λi _=>n-(intOf i).toNat)
 case atStart=>exact⟨0,ld,rfl,GZ.out,AZ.out⟩
 case round=>
  obtain⟨j,hj,rfl,a,d⟩:=hrel;have O:Hid _:=a;have Z:Hid (wr.ownsRow z.heap.size 3 1 (.slice (some ⟨gc,0,none⟩) n n) n (dM (Mf n j))):=d;have hgl:=(d.lt gc rfl).2;by_cases ZO:j<n
  ·have hcv:=GJ d (WE n j hj) j ZO;generalize (Mf n j).getD j 0=cv at hcv;have hfr:=ve d j;have W9:Hid (Mf n (j+1)=(Mf n j).set j j):=WG n j ZO;clear a d;go_wp2;go_roundw
   case rel=>
    refine⟨j+1,by omega,by go_num,gV O ad1,?_⟩;rw[W9.out];exact GK Z j j
   case measure=>simp[intOf];omega
  ·have ad2:j=n:=by omega
   have R:Mf n j=List.range e.dn:=by rw[ad2,<-HN.out];simp[Mf]
   rw[R]at d;have hsh:=L3 (P:=P) z wr e f b n gc n (List.range e.dn) E Us (by omega) HT1 a d HP0 (by rw[HN.out];exact HIC) HS;clear R d a Z O;go_wp2_with fail;refine hsh.mono ?_;rintro _ w4 ⟨c,rfl,hpc,acb,MY,hb4⟩;refine bY hpc acb λHPC acd=>?_;have HO4:Hid (w4.ownsRow z.heap.size 3 1 (.slice (some ⟨gc,0,none⟩) n n) n (dM c)):=MY;have IU:Hid _:=hb4;have GR:c.length=n:=by rw[HN.out];exact (HIC c hpc).len
   have ace:=(MY.lt gc rfl).2;clear hsh hpc acb MY hb4;go_wp2_with (first|(at_make;go_must (refine ic _ rfl (.tmp 45) (.tmp 45) 42 rfl z.heap.size 3 i0 _ 1 gM HI y8 za .i64 .i64 _ _ n rfl rfl rfl rfl ?m1 ?m2 ?m3 ?_)))
   case m1=>rw[ze.out];omega
   case m2=>unfold maxLen;omega
   case m3=>exact IU.out.size
   intro w5 Hp QE;have GY:bg w4 w5:=⟨QE.os,QE.tape,QE.output,QE.size,λk N=>QE.block k N (by simp)⟩;obtain⟨gr,hgr⟩:=ez w4.heap.size;have RI:Hid (w5.ownsRow z.heap.size 3 1 (.slice (some ⟨gr,0,none⟩) n n) n (dM (E3 c n 0))):=by
    rw[hgr,show dM (E3 c n 0)=(madeCells #[Value.int .i64 0] n).toList from by rw[NL];simp[dM,E3,mF]];exact Hp
   have acf:w4.heap.size<=gr:=by omega
   rw[<-hgr];have QL:Hid _:=GY;clear Hp QE GY hgr;go_wp2;go_loopw [12,13] (λvk i wr=>∃j:Nat,j<=n/\i=.int .i64 j/\vk=.int .i64 ((mF c j).2:Nat)/\bg w4 wr/\wr.ownsRow z.heap.size 3 1 (.slice (some ⟨gr,0,none⟩) n n) n (dM (E3 c n j))) (λ_ i _=>n-(intOf i).toNat)
   case atStart=>exact⟨0,ld,rfl,rfl,QL.out,RI.out⟩
   case round=>
    obtain⟨q,hq,rfl,rfl,a,d⟩:=hrel;have O:Hid _:=a;have Z:Hid (wr.ownsRow z.heap.size 3 1 (.slice (some ⟨gr,0,none⟩) n n) n (dM (E3 c n q))):=d;have afi:=(d.lt gr rfl).2;have afj:=by have:=a.size;omega
    have ad3:=Md c q;by_cases Uv:q<n
    ·have c1:=(a.cell (p:=⟨gc,q,none⟩) ace).trans (GJ HO4 GR q Uv);have hfr:=ve d q;have c2:=GJ d (NY c n q hq) q Uv;have hcn:c.getD q 0<n:=by
      have:c.getD q 0∈c:=by rw[List.getD,aa (by omega)];exact bZ _
      rw[HN.out];exact Nc c HPC _ this
     generalize (E3 c n q).getD q 0=z2 at c2;by_cases hcq:c.getD q 0=q
     ·have Qq:Hid _:=WD c n q Uv hcq;rw[hcq]at c1;generalize (mF c q).2=kq at*;clear a d hcq;go_wp2;go_roundw
      case rel=>exact⟨q+1,by omega,by go_num,by rw[Qq.out.2];go_num,gV O.out acf,by rw[Qq.out.1];exact GK Z.out q kq⟩
      case measure=>simp[intOf];omega
     ·have Qq:Hid _:=Z4 c n q Uv hcq;have c3:=GJ d (NY c n q hq) (c.getD q 0) hcn;generalize (E3 c n q).getD (c.getD q 0) 0=z3 at*;generalize c.getD q 0=cq at*;have hne:((cq:Int)==(q:Int))=false:=by simp;omega
      have HKQ:Hid ((mF c q).2=(mF c (q+1)).2):=Qq.2.symm;generalize (mF c q).2=kq at*;clear a d hcq;go_wp2;go_roundw
      case rel=>exact⟨q+1,by omega,by go_num,by rw[HKQ.out],gV O.out acf,by rw[Qq.out.1];exact GK Z.out q z3⟩
      case measure=>simp[intOf];omega
    ·have Ws:q=n:=by omega
     have R:E3 c n q=(mF c e.dn).1:=by rw[Ws,<-HN.out];simp[E3]
     have XV:(mF c q).2=(mF c e.dn).2:=by rw[Ws,HN.out]
     rw[R]at d;rw[XV]at ad3⊢;have hsi:=HR c HPC;have L:=IU.trans (a.mono IU.size);have hlr:(mF c e.dn).1.length=n:=by rw[tP,HN.out]
     have Z5:=d;rw[<-hlr]at Z5;have hty:=vN (um z (mF c e.dn).1 hsi.sm) (by omega) e Us b _ _ wr HT1 E L Z5 (by rw[hlr,HN.out];exact bS) ⟨_,_,_,rfl⟩;rw[hlr]at hty;unfold ptr at hty;have ad4:Hid _:=HLN c HPC acd;have hrk:∀x∈(mF c e.dn).1,x<=999:=λx hx=>by have:=hsi.sm x hx;omega
     have HRK:Hid _:=hrk;generalize hRK:(mF c e.dn).1=RK at*;generalize hKK:(mF c e.dn).2=K at*;have acg:Hid (RK=(mF c e.dn).1/\K=(mF c e.dn).2):=⟨hRK.symm,hKK.symm⟩;have HSI:Hid _:=hsi;clear R XV d Z5 a Z O hsi hrk hRK hKK;go_wp2_with fail;refine hty.mono ?_;rintro _ H ⟨yb7,nv7,tv7,ov7,rfl,_,hb7,M⟩;have ZQ:Hid (LX H yb7 (f RK)):=NK M HSI.of (by rw[HSI.out.tl];exact fj e);have hc7:=M.c;rw[hlr]at hc7;have HC7:Hid (H.ownsRow z.heap.size 3 1 (.slice (some ⟨gr,0,none⟩) n n) n (dM RK)):=hc7;have S:Hid (bg z H):=M.b0;have hl7:=(M.b0.cell (p:=⟨b,6,none⟩) ad0).trans aca;have afk:=by have:=M.b0.size;omega
     have WW:=fj e;obtain⟨m,hm⟩:=ez e.cnt;rw[<-hm]at hl7 E WW;have HM:Hid _:=hm;clear hty M hb7 hm hc7;go_wp2_with (first|(at_make;go_must (refine ic _ rfl (.tmp 81) (.tmp 81) 80 rfl H.heap.size 42 j0 _ 1 TQ HJ HY0 HY1 .i64 .i64 _ _ m rfl rfl ?l1 ?l2 ?m1 ?m2 ?m3 ?_)))
     case l1=>omega
     case l2=>omega
     case m1=>rw[HY2.out];omega
     case m2=>unfold maxLen;omega
     case m3=>exact bS
     intro w8 ho8 Ur;have QI:bg H w8:=⟨Ur.os,Ur.tape,Ur.output,Ur.size,λk N=>Ur.block k N (by simp)⟩;obtain⟨I,hgn⟩:=ez H.heap.size;have Z6:(e.du 0 0).length=m:=by rw[HM.out];exact gA e 0 0
     have U:∀r,(r7 (e.du 0 0) (f RK) r).length=m:=λr=>by rw[GI];exact Z6
     have A:Hid _:=U;have HO8:Hid (N0 H.heap.size w8 I (r7 (e.du 0 0) (f RK) 0) (List.replicate m (.slice none 0 0))):=by
      refine⟨?_,λi l hl=>?_,λi j g u v h1 h2 h3 h4=>?_⟩
      ·rw[U 0,hgn,<-NL];exact ho8
      ·simp only[r7]at hl;rw[eQ]at hl;split at hl
       ·cases hl;refine⟨.slice none 0 0,by rw[eQ,ah (by omega)],wD,by simp[Value.ownBlock]⟩
       ·cases hl
      ·rw[eQ]at h1;split at h1
       ·cases h1;simp[Value.ownBlock]at h3
       ·cases h1
     have ad5:H.heap.size<=I:=by omega
     rw[<-hgn];have HB8:Hid _:=QI;clear ho8 Ur QI hgn U;obtain⟨D,hrl⟩:=ez (e.du 0 0);obtain⟨J,hTY⟩:=ez (f RK);rw[<-hrl,<-hTY]at HO8 A;rw[<-hrl]at Z6;have HE:Hid (D=e.du 0 0/\J=f RK):=⟨hrl,hTY⟩;have ael:K<=100:=by omega
     have HHM:Hid (∀(r:Nat)(wx:World),bg H wx->Calls prog 40 #[.pointer (some ⟨b,0,none⟩),.pointer (some ⟨yb7,0,none⟩),.int .i64 r] wx λv w'=>∃p,v=.returned (.pointer p)/\bg wx w'/\((p=none/\r7 D J (r+1)=r7 D J r)\/∃Q id l,p=some ⟨Q,0,none⟩/\(r7 D J r)[id]?=some l/\r7 D J (r+1)=(r7 D J r).set id (l++[r])/\Q<z.heap.size/\cg z Q 5 (.int .i64 id))):=by
      intro r wx hbx;have ad6:=S.trans (hbx.mono S.size);have hox:LX wx yb7 (f RK):=by
       obtain⟨h1,go,oc,h2,h3,h4⟩:=ZQ;have:=hbx.size;exact⟨by omega,go,oc,(hbx.cell (p:=⟨yb7,3,none⟩) h1).trans h2,by omega,λk T N=>(hbx.cell (p:=⟨go,k,none⟩) h3).trans (h4 k T N)⟩
      refine (TE z wx e (f RK) b yb7 r HSI.fit (by rw[<-HM.out];exact E) HSI.tl HT1 ad6 hox).mono ?_;rintro v w' ⟨p,rfl,sY,hp⟩;refine⟨p,rfl,sY,?_⟩;rw[<-hrl,<-hTY,<-HM.out,<-Z6]at hp;have B:r7 D J (r+1)=match TS D J r with|none=>r7 D J r|some id=>(r7 D J r).set id ((r7 D J r).getD id []++[r]):=rfl
      unfold TS at B;cases hh:Aa D (tN J r D) D.length with
      |none=>
       rw[hh]at hp B;exact .inl ⟨hp,B⟩
      |some i=>
       rw[hh]at hp B;obtain⟨Q,rr,rfl,hir,hrec⟩:∃Q r,p=some ⟨Q,0,none⟩/\D[i]?=some r/\isRec z Q r:=hp;simp only[jR,hir,cf]at B;obtain⟨_,_,_,a5,_,ad7⟩:=gF hrec;have ach:rr.id<m:=by
        have hmem:=aq hir;rw[hrl,gO,cM]at hmem;obtain⟨x,hx,hxe⟩:=hmem;have hsi:=mS e 0 0 x hx;have Mx:=fj x.1;have hri:rr.id=x.2.1:=by rw[<-hxe];obtain⟨t,i1,i2⟩:=x;cases t<;>rfl
        rw[HM.out];omega
       refine .inr ⟨Q,rr.id,(r7 D J r).getD rr.id [],rfl,?_,B,ad7,a5⟩;rw[List.getD,aa (by rw[A.out];exact ach)];rfl
     clear hrl hTY;go_wp2;go_loopw [16] (λi wr=>∃(r:Nat)(vs:List Value),r<=K/\i=.int .i64 r/\bg H wr/\N0 H.heap.size wr I (r7 D J r) vs) (λi _=>K-(intOf i).toNat)
     case atStart=>exact⟨0,_,ld,rfl,HB8.out,HO8.out⟩
     case round=>
      obtain⟨r,vs,hr,rfl,a,hnm⟩:=hrel;refine bY a hnm λO HNM=>?_;clear hnm;by_cases hrK:r<K
      ·have hhm:=HHM r wr a;clear a;go_wp2_with fail;refine hhm.mono ?_;rintro _ C ⟨p,rfl,hb9,hp9⟩;have HB9:Hid (bg H C):=(show Below _ _ _ from O.trans (hb9.mono O.size));have V:Hid (N0 H.heap.size C I (r7 D J r) vs):=(show N0 _ _ _ _ _ from HNM.below hb9);clear hhm hb9;rcases hp9 with⟨rfl,J5⟩|⟨Q,id,l,rfl,hl,J5,ad8,aci⟩
       ·have HNX:Hid _:=J5;clear J5;go_wp2;go_roundw
        case rel=>exact⟨r+1,vs,by omega,by go_num,HB9.out,by rw[HNX.out];exact V.out⟩
        case measure=>simp[intOf];omega
       ·have HNX:Hid _:=J5;have Z7:bg z C:=S.trans (HB9.mono S.size);have a5:=(Z7.cell (p:=⟨Q,5,none⟩) ad8).trans aci;have acj:Q<C.heap.size:=by have:=Z7.size;omega
        have ach:id<m:=by have:=(ae.1 hl).1;rw[A.out]at this;exact this
        obtain⟨v,hv,Vz,hvg⟩:=V.at_ id l hl;have W:=V.row;have hcell:C.cell? ⟨I,id,none⟩=some v:=by rw[W.cellAt id (by rw[A.out];omega)];exact hv
        have X:I<C.heap.size:=(W.lt I rfl).2;have hfr:=ve W id;have aem:l.length<=100:=by have:=(Me D J r l (aq hl)).1;omega
        refine bY hl hv λHL HV=>?_;have YH:Hid (C.ownsRow H.heap.size 3 1 v l.length (dM l)):=Vz;clear J5 Z7 hl hv Vz W aci;go_wp2;have HW:Hid (∀o:Obj,(C.drew.alloc o).ownsRow H.heap.size 3 1 v l.length (dM l)):=λo=>(show World.ownsRow C.drew _ _ _ _ _ _ from YH).alloc o;have HVG:Hid _:=hvg;have HNC:Hid (∀(j:Nat)(u:Value),[Value.int .i64 (r:Nat)][j]?=some u->(C.drew.alloc (.cells [Value.int .i64 (r:Nat)].toArray 3)).cell? (Addr.add ⟨C.heap.size,0,none⟩ j)=some u):=λj u hj=>by rw[<-hj];exact dQ C.drew _ _ _
        have HVL:Hid (∀k,v.ownBlock=some k->H.heap.size<=k):=λk N=>(YH.lt k N).1;have ad9:some Q≠v.ownBlock:=by
         intro h;have h1:=HVL Q h.symm;have h2:=S.size;omega
        have ack:some I≠v.ownBlock:=λh=>HVG h.symm;have h97:H.heap.size<=C.heap.size:=HB9.size;have UG:Hid (∀o:Obj,bg C (C.drew.alloc o)):=λo=>bV (l6 fp) o;have HLT:Hid (∀(o:Obj)(k:Nat),k<C.heap.size->k<(C.drew.alloc o).heap.size):=λo k N=>cT N (UG o).size;have HX:Hid (∀o:Obj,(C.drew.alloc o).cell? ⟨Q,5,none⟩=some (.int .i64 id)/\(C.drew.alloc o).cell? ⟨I,id,none⟩=some v/\(C.drew.alloc o).frozen? ⟨I,id,none⟩=false):=λo=>⟨((UG o).cell (p:=⟨Q,5,none⟩) acj).trans a5,((UG o).cell (p:=⟨I,id,none⟩) X).trans hcell,(World.frozen?_of_block ((UG o).block I X)).trans hfr⟩;have aea:Hid (∀(o:Obj)(g2 F:Nat)(wX:World),wX.ownsRow H.heap.size 3 1 (.slice (some ⟨g2,0,none⟩) (l.length+1) F) (l.length+1) (dM l++[.int .i64 (r:Nat)])->(C.drew.alloc o).grownBy wX v.ownBlock->(v.ownBlock=some g2\/g2=C.heap.size+1)->bg H (wX.setCell ⟨I,id,none⟩ (.slice (some ⟨g2,0,none⟩) (l.length+1) F))/\N0 H.heap.size (wX.setCell ⟨I,id,none⟩ (.slice (some ⟨g2,0,none⟩) (l.length+1) F)) I (r7 D J (r+1)) (vs.set id (.slice (some ⟨g2,0,none⟩) (l.length+1) F))):=by
         intro o g2 F wX ho hg hat;have sY:bg H (C.drew.alloc o):=HB9.trans ((UG o).mono HB9.size);refine⟨gV (sY.grown hg sY.size (λk N=>HVL k N)) ad5,?_⟩;rw[HNX.out];refine N0.add (V.below (UG o)) HL HV hg ho (hat.imp (λh=>h) (λh=>?_));have e1:(C.drew.alloc o).heap.size=C.drew.heap.size+1:=by simp
         rw[h,e1];exact bS
        clear hvg;go_region_law ((refine step_append_lies _ (by rfl) _ _ _ (by rfl) H.heap.size 3 i0 _ 1 8 gM HI y8 za ze rfl (by decide) v l.length (dM l) (by rfl) (HW _) ⟨C.heap.size,0,none⟩ 1 1 [.int .i64 (r:Nat)] (by rfl) (by rfl) HNC (by intro u hu;simp at hu;subst hu;rfl) (by decide) (by unfold maxLen;omega) (by omega) (by simp[World.drew];omega) (C.heap.size+1) (by simp[World.drew]) ?_;intro g2 F wX XW G hat hlt;have x1:cg wX Q 5 (.int .i64 id):=(G.cell_far ⟨Q,5,none⟩ (HLT _ Q acj) ad9).trans (HX _).1;have x2:cg wX I id v:=(G.cell_far ⟨I,id,none⟩ (HLT _ I X) ack).trans (HX _).2.1;have x3:wX.frozen? ⟨I,id,none⟩=false:=(G.frozen_far ⟨I,id,none⟩ (HLT _ I X) ack).trans (HX _).2.2))
        all_goals
         have BJ:Hid _:=aea _ g2 F wX XW G hat;clear XW G hat hlt x1 x2 x3;go_wp2;go_roundw
         case rel=>exact⟨r+1,_,by omega,by go_num,BJ.out.1,BJ.out.2⟩
         case measure=>simp[intOf];omega
      ·have aeb:r=K:=by omega
       subst aeb;have L:bg z wr:=S.trans (a.mono S.size);have hTr:gS wr (λk=>k<wr.heap.size) e 0 0 b:=gS.keep (λk N=>cT N L.size) (λk N=>L.block k N) _ _ _ _ HT1;have acm:Gy wr (.slice (some ⟨gr,0,none⟩) n n) RK:=by
        have h7:=bO HC7 (λk N=>a.block k (HC7.lt k N).2);have hl2:=hlr;rw[show n=RK.length from hl2.symm]at h7⊢;obtain⟨va,vc,e1,e2⟩:=vX h7;refine⟨va,vc,e1,λj x hx=>?_⟩;obtain⟨hj,hx'⟩:=ae.1 hx;obtain⟨g,f1,f2,f3⟩:=e2 j hj;exact⟨g,f1,f2,by rw[<-hx'];exact f3⟩
       have hNw:=HNM.nw (by rw[A.out];exact E) (λl hl=>by have:=Me D J r l hl;exact⟨by omega,λx hx=>by have:=this.2 x hx;omega⟩);rw[A.out]at hNw;have Nq:Hid (bg w wr):=(show Below _ _ _ from DU.trans (L.mono DU.size));have GW:=Qu wr (SE wr Nq) RK (r7 D J r) _ _ acm HRK hNw e HNN 0 0 b _ (by rw[<-HM.out];exact E) HTM Us (by rw[A.out,HM.out];omega) (by rw[hlr,HN.out];omega) (by rw[HE.out.1,HE.out.2];exact ad4) hTr wr fp;unfold ptr at GW;clear a L hTr acm hNw;go_wp2_with fail;refine GW.mono ?_;rintro _ w10 ⟨rfl,acn⟩;have aec:Hid (bg w w10):=(show Below _ _ _ from Nq.trans (acn.mono Nq.size));have HTX:Hid (e.JI RK (r7 D J r) 0 0=e.JI (mF c e.dn).1 (r7 (e.du 0 0) (f (mF c e.dn).1) (mF c e.dn).2) 0 0):=(show _=_ by rw[HE.out.1,HE.out.2,<-acg.out.1,<-acg.out.2]);clear GW acn;generalize e.JI RK (r7 D J r) 0 0=tx at*;go_wp2;refine au (v:=.tuple #[.string (bs tx),.int .i64 0]) (by simp[results,results17,go_sem]) rfl ⟨c,HPC,acd,by rw[HTX.out],aec⟩
theorem join_min{q:Nat->Nat}(h:∀x,q (cZ a x)=q x)(i:w<a.length)(j:b<a.length)(e:q w=q b):∀x,q (cZ (oq a w b) x)=q x:=λx=>by
 rw[sP a w b i j];unfold UE;have d:q (cZ a w)=q (cZ a b):=by rw[h,h];exact e
 have f:q (min (cZ a w) (cZ a b))=q (max (cZ a w) (cZ a b)):=by
  by_cases c:cZ a w<=cZ a b
  ·rw[dL c,iK c];exact d
  ·have g:cZ a b<=cZ a w:=by omega
   rw[iL g,je g];exact d.symm
 split
 ·rename_i k;rw[f,<-k];exact h x
 ·exact h x
theorem Af{q}:∀(a b:Ty)(E:List Nat),(∀x,q (cZ E x)=q x)->rD E.length a->rD E.length b->fH q a=fH q b->∀x,q (cZ (gu E a b) x)=q x
 |.n,_,_,h,_,_,_=>by simp[gu];exact h
 |.p _ _ _,.n,_,h,_,_,_=>by simp[gu];exact h
 |.p r a b,.p s c d,E,h,h1,h2,e=>by
  simp[gu];split
  ·exact h
  ·obtain⟨f,g,i⟩:=h1.p;obtain⟨j,k,l⟩:=h2.p;simp[fH,Ty.p.injEq]at e;refine Af b d _ (Af a c _ (join_min h f j e.1) ?_ ?_ e.2.1) ?_ ?_ e.2.2
   ·rw[iG];exact g
   ·rw[iG];exact k
   ·rw[fL,iG];exact i
   ·rw[fL,iG];exact l
theorem GL{q}:∀(c:List NR)(T:List Ty)(E:List Nat),(∀t∈T,rD E.length t)->(∀n∈c,n.at_<E.length)->Qm q T (c.map atR)->(∀x,q (cZ E x)=q x)->∀x,q (cZ (xH T E c) x)=q x
 |[],_,_,_,_,_,h=>h
 |n::r,T,E,i,d,e,h=>by
  have b:∀t∈T++[iz T (atR n)],rD E.length t:=λt a=>by
   rcases aA.1 a with a|a
   ·exact i t a
   ·simp only[ax]at a;subst a;exact Dl i _ (by simpa [atR] using d n (by simp))
  simp[xH];by_cases f:n.form=7\/n.form=11
  ·rw[ah f];refine GL r _ _ ?_ ?_ e.2 (Af _ _ E h (kN b _) (kN b _) (e.1 f))
   ·rw[fL];exact b
   ·rw[fL];exact λm g=>d m (by simp[g])
  ·rw[ag f];exact GL r _ _ b (λm g=>d m (by simp[g])) e.2 h
theorem TT(c):∀(b:List NR)(T:List Ty),(∀(i:Nat) n,b[i]?=some n->oG (T.length+i) n)->(∀(i:Nat) n,b[i]?=some n->n.form=7\/n.form=11->fH c (aP (eE T b) n.p1)=fH c (aP (eE T b) n.p2))->Qm c T b
 |[],_,_,_=>trivial
 |m::r,T,e,f=>by
  obtain⟨X,h1,_⟩:=vZ r (T++[iz T m]);have a:oG T.length m:=by simpa using e 0 m (by simp)
  refine⟨λg=>?_,TT c r _ (λk x d=>?_) (λk x d=>?_)⟩
  ·have:=f 0 m (by simp) g;simp[eE]at this;rw[h1,aB,fM a.2.1,fM a.2.2.1]at this;rw[fM a.2.1,fM a.2.2.1];exact this
  ·have:=e (k+1) x (by simpa using d);rw[aj,bG,show T.length+1+k=T.length+(k+1) by omega];exact this
  ·have:=f (k+1) x (by simpa using d);simp[eE]at this;exact this
def MM.ext(a:List MR)(d:Nat)(m:MM):MM:={m with regs:=m.regs++a,opened:=m.opened+d}
inductive wu(R:Nat->Int->Prop): PT->PT->Prop
 |num {p q:Nat} {s s':List UInt8} (h:aQ s=aQ s'):wu R (.num p s) (.num q s')
 |name {p q:Nat} {s:List UInt8}:wu R (.name p s) (.name q s)
 |dV {p q:Nat} {nm rg J8:List UInt8} {a b a' b':PT} (ha:wu R a a') (hb:wu R b b'):wu R (.node p .dV nm rg [a,b]) (.node q .dV nm J8 [a',b'])
 |pair {p q:Nat} {nm Sg rg J8:List UInt8} {a b a' b':PT} (hr:R p (aQ J8)) (ha:wu R a a') (hb:wu R b b'):wu R (.node p .pair nm rg [a,b]) (.node q .pair Sg J8 [a',b'])
 |fst {p q:Nat} {nm Sg rg J8:List UInt8} {a a':PT} (ha:wu R a a'):wu R (.node p .fst nm rg [a]) (.node q .fst Sg J8 [a'])
 |snd {p q:Nat} {nm Sg rg J8:List UInt8} {a a':PT} (ha:wu R a a'):wu R (.node p .snd nm rg [a]) (.node q .snd Sg J8 [a'])
 |lv {p q:Nat} {nm Sg rg J8:List UInt8} {a b c a' b' c':PT} (ha:wu R a a') (hb:wu R b b') (hc:wu R c c'):wu R (.node p .lv nm rg [a,b,c]) (.node q .lv Sg J8 [a',b',c'])
 |two {p q:Nat} {k:Kw} {nm Sg rg J8:List UInt8} {a b a' b':PT} (hk:k=.add\/k=.sub\/k=.less) (ha:wu R a a') (hb:wu R b b'):wu R (.node p k nm rg [a,b]) (.node q k Sg J8 [a',b'])
 |loop {p q:Nat} {nm rg J8:List UInt8} {a b c a' b' c':PT} (ha:wu R a a') (hb:wu R b b') (hc:wu R c c'):wu R (.node p .loop nm rg [a,b,c]) (.node q .loop nm J8 [a',b',c'])
 |new {q:Nat} {nm rg:List UInt8} {e a':PT} (ha:wu R e a'):wu R e (.node q .new nm rg [a'])
abbrev Pl(a:Nat->Nat):PT->PT->Prop:=wu (λp v=>v=(a p:Int))
mutual
def PT.pc:PT->Nat
 |.num _ _=>1
 |.name _ _=>1
 |.node _ k _ _ a=>(if k=.new then 0 else 1)+QM a
def QM:List PT->Nat
 |[]=>0
 |t::r=>t.pc+QM r
end
mutual
def PT.QN:PT->Nat->List (Int×Nat×Nat)
 |.num _ _,_=>[]
 |.name _ _,_=>[]
 |.node _ k _ c a,b=>(if k=.new then [(aQ c,b,QM a)] else [])++Eb a b
def Eb:List PT->Nat->List (Int×Nat×Nat)
 |[],_=>[]
 |t::r,b=>t.QN b++Eb r (b+t.pc)
end
theorem wu.pc{e}(h:wu c e d):d.pc=e.cnt:=by
 induction h with
 |num _=>rfl
 |name=>rfl
 |dV _ _ a b=>simp[PT.pc,QM,PT.cnt,aU,a,b]
 |pair _ _ _ a b=>simp[PT.pc,QM,PT.cnt,aU,a,b]
 |fst _ a=>simp[PT.pc,QM,PT.cnt,aU,a]
 |snd _ a=>simp[PT.pc,QM,PT.cnt,aU,a]
 |lv _ _ _ a b f=>simp[PT.pc,QM,PT.cnt,aU,a,b,f]
 |two g _ _ a b=>rcases g with rfl|rfl|rfl<;>simp[PT.pc,QM,PT.cnt,aU,a,b]
 |loop _ _ _ a b f=>simp[PT.pc,QM,PT.cnt,aU,a,b,f]
 |new _ a=>simp[PT.pc,QM,a]
theorem iV{b:Type}{a c:List b}{x:b}(h:(a++c)[w]?=some x):(w<a.length/\a[w]?=some x)\/(a.length<=w/\c[w-a.length]?=some x):=by
 by_cases e:w<a.length
 ·rw[ak e]at h;exact aD ⟨e,h⟩
 ·rw[aw (by omega)]at h;exact aE ⟨by omega,h⟩
mutual
def PT.wy:PT->Nat->List (Nat×Nat)
 |.num _ _,b=>[(b,1)]
 |.name _ _,b=>[(b,1)]
 |.node _ _ _ _ a,b=>(b,1+aU a)::tW a b
def tW:List PT->Nat->List (Nat×Nat)
 |[],_=>[]
 |t::r,b=>t.wy b++tW r (b+t.cnt)
end
theorem E4(t:PT)(b:Nat):(b,t.cnt)∈t.wy b:=by cases t<;>simp[PT.wy,PT.cnt]
theorem wu.wy{e}(h:wu c e d):∀(b:Nat)(k:Int)(x y:Nat),(k,x,y)∈d.QN b->(x,y)∈e.wy b:=by
 induction h with
 |num _=>intro b k x y a;simp[PT.QN]at a
 |name=>intro b k x y a;simp[PT.QN]at a
 |dV i l f g=>
  intro b k x y a;simp only[PT.QN,Eb,reduceCtorEq,aT,bC,aN,aA,i.pc]at a;simp[PT.wy,tW];rcases a with a|a
  ·exact aE (aD (f _ _ _ _ a))
  ·exact aE (aE (g _ _ _ _ a))
 |pair _ i l f g=>
  intro b k x y a;simp only[PT.QN,Eb,reduceCtorEq,aT,bC,aN,aA,i.pc]at a;simp[PT.wy,tW];rcases a with a|a
  ·exact aE (aD (f _ _ _ _ a))
  ·exact aE (aE (g _ _ _ _ a))
 |fst _ f=>
  intro b k x y a;simp only[PT.QN,Eb,reduceCtorEq,aT,bC,aN]at a;simp[PT.wy,tW];exact aE (f _ _ _ _ a)
 |snd _ f=>
  intro b k x y a;simp only[PT.QN,Eb,reduceCtorEq,aT,bC,aN]at a;simp[PT.wy,tW];exact aE (f _ _ _ _ a)
 |lv i l m f g j=>
  intro b k x y a;simp only[PT.QN,Eb,reduceCtorEq,aT,bC,aN,aA,i.pc,l.pc]at a;simp[PT.wy,tW];rcases a with a|a|a
  ·exact aE (aD (f _ _ _ _ a))
  ·exact aE (aE (aD (g _ _ _ _ a)))
  ·exact aE (aE (aE (j _ _ _ _ a)))
 |two n i l f g=>
  intro b k x y a;have o:∀k:Kw,k=.add\/k=.sub\/k=.less->k≠.new:=by intro k h;rcases h with rfl|rfl|rfl<;>decide
  simp[PT.QN,Eb,ag (o _ n),i.pc]at a;simp[PT.wy,tW];rcases a with a|a
  ·exact aE (aD (f _ _ _ _ a))
  ·exact aE (aE (g _ _ _ _ a))
 |loop i l m f g j=>
  intro b k x y a;simp only[PT.QN,Eb,reduceCtorEq,aT,bC,aN,aA,i.pc,l.pc]at a;simp[PT.wy,tW];rcases a with a|a|a
  ·exact aE (aD (f _ _ _ _ a))
  ·exact aE (aE (aD (g _ _ _ _ a)))
  ·exact aE (aE (aE (j _ _ _ _ a)))
 |new i f=>
  intro b k x y a;simp only[PT.QN,Eb,bT,aN,cQ,bf,fE,QM,az,i.pc]at a;rcases a with⟨_,rfl,rfl⟩|a
  ·exact E4 _ _
  ·exact f _ _ _ _ a
mutual
theorem N7:∀(t:PT)(e:List NR)(g j b:Nat),fo t e g j->∀x y,(x,y)∈t.wy b->b<=x/\x+y<=b+t.cnt/\∀i,x<=i->i<x+y->∃m n,e[i-b]?=some m/\e[x+y-1-b]?=some n/\n.at_<=m.at_/\m.dH<=n.dH
 |.num p _,e,g,j,b,h,x,y,d=>by
  simp only[PT.wy,ax,fE]at d;obtain⟨rfl,rfl⟩:=d;simp only[fo]at h;obtain⟨n,rfl,_⟩:=h;refine⟨bS,bS,λi h1 h2=>⟨n,n,?_,?_,bS,bS⟩⟩
  ·rw[show i-x=0 by omega];rfl
  ·rw[show x+1-1-x=0 by omega];rfl
 |.name p _,e,g,j,b,h,x,y,d=>by
  simp only[PT.wy,ax,fE]at d;obtain⟨rfl,rfl⟩:=d;simp only[fo]at h;obtain⟨n,rfl,_⟩:=h;refine⟨bS,bS,λi h1 h2=>⟨n,n,?_,?_,bS,bS⟩⟩
  ·rw[show i-x=0 by omega];rfl
  ·rw[show x+1-1-x=0 by omega];rfl
 |.node p _ _ _ f,e,g,j,b,h,x,y,d=>by
  simp only[fo]at h;obtain⟨k,n,rfl,h1,h2,h3,I,J⟩:=h;have E:=eG.len h3;simp only[PT.wy,bf,fE]at d;rcases d with⟨rfl,rfl⟩|d
  ·refine⟨bS,bS,λi s B=>?_⟩;have D:(k++[n])[x+(1+aU f)-1-x]?=some n:=by
    rw[show x+(1+aU f)-1-x=k.length by omega,aw bS,cx];rfl
   by_cases l:i-x<k.length
   ·have F:(k++[n])[i-x]?=some k[i-x]:=by rw[ak l,aa l]
    have:=eG.NV h3 _ (bZ l);exact⟨_,n,F,D,by omega,by omega⟩
   ·refine⟨n,n,?_,D,bS,bS⟩;rw[show i-x=k.length by omega,aw bS,cx];rfl
  ·obtain⟨s,B,u⟩:=JS f k _ _ b h3 x y d;refine⟨s,by simp only[PT.cnt];omega,λi v w=>?_⟩;obtain⟨m,z,o,q,A⟩:=u i v w;exact⟨m,z,by rw[ak (ae.1 o).1];exact o,by rw[ak (ae.1 q).1];exact q,A⟩
theorem JS:∀(C:List PT)(e:List NR)(g j b:Nat),eG C e g j->∀x y,(x,y)∈tW C b->b<=x/\x+y<=b+aU C/\∀i,x<=i->i<x+y->∃m n,e[i-b]?=some m/\e[x+y-1-b]?=some n/\n.at_<=m.at_/\m.dH<=n.dH
 |[],_,_,_,_,_,x,y,d=>by simp[tW]at d
 |t::r,e,g,j,b,h,x,y,d=>by
  simp only[eG]at h;obtain⟨a,c,G,rfl,h1,h2⟩:=h;have H:=fo.len h1;simp only[tW,aA]at d;rcases d with d|d
  ·obtain⟨s,B,u⟩:=N7 t a _ _ b h1 x y d;refine⟨s,by simp only[aU];omega,λi v w=>?_⟩;obtain⟨m,z,o,q,A⟩:=u i v w;exact⟨m,z,by rw[ak (ae.1 o).1];exact o,by rw[ak (ae.1 q).1];exact q,A⟩
  ·obtain⟨s,B,u⟩:=JS r c _ _ (b+t.cnt) h2 x y d;refine⟨by omega,by simp only[aU];omega,λi v w=>?_⟩;obtain⟨m,z,o,q,A⟩:=u i v w;refine⟨m,z,?_,?_,A⟩
   ·rw[aw (by omega),show i-b-a.length=i-(b+t.cnt) by omega];exact o
   ·rw[aw (by omega),show x+y-1-b-a.length=x+y-1-(b+t.cnt) by omega];exact q
end
theorem Dy:∀{g:List PT}{e:List NR}{b d:Nat},eG g e b d->b<=d
 |[],e,b,d,h=>by simp[eG]at h;exact h.2
 |t::r,e,b,d,h=>by
  obtain⟨a,c,i,rfl,h1,h2⟩:=h;obtain⟨j,f,_⟩:=sR h1;have:=fo.NV h1 j (aq f);have:=Dy h2;omega
mutual
theorem JT(d):∀(t:PT)(l:List NR)(i j b:Nat),fo t l i j->WC d l b->((fe d (opn t b)).map (·.at_)).Pairwise (·<·)/\∀n∈fe d (opn t b),i<=n.at_/\n.at_<j
 |.num p _,l,i,j,b,h,o=>by
  simp only[fo]at h;obtain⟨n,rfl,h1,h2,h3,E⟩:=h;have:=o 0 n rfl;rw[az]at this;simp[opn,fe,this];omega
 |.name p _,l,i,j,b,h,o=>by
  simp only[fo]at h;obtain⟨n,rfl,h1,h2,h3,E⟩:=h;have:=o 0 n rfl;rw[az]at this;simp[opn,fe,this];omega
 |.node p k H I g,l,i,j,b,h,o=>by
  simp only[fo]at h;obtain⟨F,n,rfl,h1,h2,h3,E,Q⟩:=h;have v:=eG.len h3;have J:d[b+aU g]?=some n:=by
   have:=o F.length n (by rw[aw bS,cx];rfl)
   rwa [v]at this
  obtain⟨w,q⟩:=E5 d g F _ _ b h3 o.left;have e:fe d (opn (.node p k H I g) b)=n::fe d (pF g b):=by
   simp only[opn,fe,bK,bL,J,dF]
  rw[e];refine⟨?_,λm f=>?_⟩
  ·simp only[bK,jq];refine⟨λx z=>?_,w⟩;obtain⟨m,f,rfl⟩:=cM.1 z;have:=q m f;omega
  ·rcases bf.1 f with f|f
   ·subst f;omega
   ·have:=q m f;omega
theorem E5(d):∀(A:List PT)(l:List NR)(i j b:Nat),eG A l i j->WC d l b->((fe d (pF A b)).map (·.at_)).Pairwise (·<·)/\∀n∈fe d (pF A b),i<=n.at_/\n.at_<j
 |[],_,_,_,_,_,_=>by simp[pF,fe]
 |t::r,l,i,j,b,h,o=>by
  simp only[eG]at h;obtain⟨a,c,s,rfl,h1,h2⟩:=h;have B:=fo.len h1;obtain⟨w,q⟩:=JT d t a _ _ b h1 o.left;have u:=o.right;rw[B]at u;obtain⟨K,G⟩:=E5 d r c _ _ (b+t.cnt) h2 u;have e:fe d (pF (t::r) b)=fe d (opn t b)++fe d (pF r (b+t.cnt)):=by simp only[pF,fe,bz]
  have L:i<=s:=by
   obtain⟨M,C,_⟩:=sR h1;have:=fo.NV h1 M (aq C);omega
  rw[e];refine⟨?_,λm f=>?_⟩
  ·rw[bz,jW];refine⟨w,K,λx z y N=>?_⟩;obtain⟨m,f,rfl⟩:=cM.1 z;obtain⟨O,D,rfl⟩:=cM.1 N;have:=q m f;have:=G O D;omega
  ·rcases aA.1 f with f|f
   ·have:=q m f;have P:s<=j:=Dy h2;omega
   ·have:=G m f;omega
end
theorem wu.mono{K}{e}(h:wu c e d):∀(s:List NR)(k r:Nat),fo e s k r->(∀x v,k<=x->x<r->c x v->K x v)->wu K e d:=by
 have f:∀{t:PT}{a:List NR}{k u:Nat},fo t a k u->k<u:=λ{t a k u} h=>by
  obtain⟨L,J,_⟩:=sR h;have:=fo.NV h L (aq J);omega
 induction h with
 |num h=>intros;exact .num h
 |name=>intros;exact .name
 |dV _ _ b i=>
  intro s k r l g;obtain⟨y,n,rfl,h1,h2,⟨z,A,B,rfl,j,⟨G,H,I,rfl,m,_,C⟩⟩,D,E⟩:=l;have:=f j;have:=f m;exact .dV (b _ _ _ j (λx v o p=>g x v (by omega) (by omega))) (i _ _ _ m (λx v o p=>g x v (by omega) (by omega)))
 |pair M _ _ b i=>
  intro s k r l g;obtain⟨y,n,rfl,h1,h2,⟨z,A,B,rfl,j,⟨G,H,I,rfl,m,_,C⟩⟩,D,E⟩:=l;have:=f j;have:=f m;exact .pair (g _ _ (by omega) (by omega) M) (b _ _ _ j (λx v o p=>g x v (by omega) (by omega))) (i _ _ _ m (λx v o p=>g x v (by omega) (by omega)))
 |fst _ b=>
  intro s k r l g;obtain⟨y,n,rfl,h1,h2,⟨z,A,B,rfl,j,_,C⟩,D,E⟩:=l;exact .fst (b _ _ _ j (λx v o p=>g x v (by omega) (by omega)))
 |snd _ b=>
  intro s k r l g;obtain⟨y,n,rfl,h1,h2,⟨z,A,B,rfl,j,_,C⟩,D,E⟩:=l;exact .snd (b _ _ _ j (λx v o p=>g x v (by omega) (by omega)))
 |lv _ _ _ b i w=>
  intro s k r l g;obtain⟨y,n,rfl,h1,h2,⟨z,A,B,rfl,j,⟨G,H,I,rfl,m,⟨N,O,P,rfl,F,_,C⟩⟩⟩,D,E⟩:=l;have:=f j;have:=f m;have:=f F;exact .lv (b _ _ _ j (λx v o p=>g x v (by omega) (by omega))) (i _ _ _ m (λx v o p=>g x v (by omega) (by omega))) (w _ _ _ F (λx v o p=>g x v (by omega) (by omega)))
 |two Q _ _ b i=>
  intro s k r l g;obtain⟨y,n,rfl,h1,h2,⟨z,A,B,rfl,j,⟨G,H,I,rfl,m,_,C⟩⟩,D,E⟩:=l;have:=f j;have:=f m;exact .two Q (b _ _ _ j (λx v o p=>g x v (by omega) (by omega))) (i _ _ _ m (λx v o p=>g x v (by omega) (by omega)))
 |loop _ _ _ b i w=>
  intro s k r l g;obtain⟨y,n,rfl,h1,h2,⟨z,A,B,rfl,j,⟨G,H,I,rfl,m,⟨N,O,P,rfl,F,_,C⟩⟩⟩,D,E⟩:=l;have:=f j;have:=f m;have:=f F;exact .loop (b _ _ _ j (λx v o p=>g x v (by omega) (by omega))) (i _ _ _ m (λx v o p=>g x v (by omega) (by omega))) (w _ _ _ F (λx v o p=>g x v (by omega) (by omega)))
 |new _ b=>
  intro s k r l g;exact .new (b s k r l g)
