import Derived.Test.YtpicaknklgccoaaGreatDoorK52
set_option maxHeartbeats 8000000
set_option maxRecDepth 100000
namespace Go.Proofs.YtpicaknklgccoaaGreatDoor
open Tryz
open Go.RowKit
open Go.Lib (decDigits)
variable {w:Ty}{a:Nat}
theorem Dr:∀a b:List PT,eS (a++b)=eS a+eS b
 |[],b=>by simp[eS]
 |t::r,b=>by simp[eS,Dr r b];omega
theorem L8(A)(hit:nV A)(RK)(Y)(cv nv)(hc:Gy A cv RK)(hRK:∀x∈RK,x<=999)(hN:JK A nv Y)(p:Nat)(k)(l rg)(a)(hkn:k≠.new)(ih:∀x∈a,JL A RK Y cv nv x):JL A RK Y cv nv (.node p k l rg a):=by
 intro id c b F yx ht hwf hid hsi E hT w N;have hT':=hT;obtain⟨GY,hb7⟩:cg A b 5 (.int .i64 id)/\A.cell? ⟨b,7,none⟩=some (.int .i64 c):=by
  simp only[gS]at hT';obtain⟨_,kv,z,hb,_⟩:=hT';exact⟨dR hb rfl,dR hb rfl⟩
 obtain⟨va,vc,⟨y0,y2,y4⟩,O,_⟩:=lL hT;have hk:∀(j:Nat) x,a[j]?=some x->∃s M,va=some ⟨s,0,none⟩/\s<A.heap.size/\cg A s j (ptr M)/\gS A F x (id+1+aU (a.take j)) ((c+if k=.pair then 1 else 0)+eS (a.take j)) M:=λj x hx=>by
  simp only[gS]at hT;obtain⟨hFb,kv,z,hb,hF,GV,I⟩:=hT;obtain⟨M,hbx,Uo⟩:=fZ.at _ _ _ _ I j x hx;have hlt:=(ae.1 hx).1;have abO:kv=.slice va a.length vc:=by
   rw[aI hb]at y4;simpa [dJ] using y4
  obtain⟨s,P⟩:∃s,va=some ⟨s,0,none⟩:=by
   have h:=GV.2;rw[abO]at h;rcases h with⟨h,h'⟩|⟨g,cap,cur,h,_⟩
   ·omega
   ·simp only[bN]at h;exact⟨_,h.1⟩
  have hkc:A.cell? ⟨s,j,none⟩=some (ptr M):=by
   have h:A.ownsRow 0 63 1 (.slice (some ⟨s,0,none⟩) a.length vc) a.length (z.map ptr):=by rw[<-P,<-abO];exact GV
   rw[h.cellAt j (by omega)];simp[hbx]
  exact⟨s,M,P,aR _ _ hkc,hkc,Uo⟩
 obtain⟨ca,abN,rfl,G⟩:=hc;obtain⟨g,cap,rfl,hg,hrow⟩:=hN.row;simp only[PT.cnt]at hid yx;simp only[PT.dn]at hsi;simp only[PT.eO]at ht;simp only[PT.wf]at hwf;obtain⟨q,Z⟩:∃q,Y[id]?=some q:=⟨_,aa (by omega)⟩;obtain⟨rv,hrv,na,adP,rfl,H⟩:=hrow id q Z;obtain⟨adN,abP⟩:=hN.sm q (aq Z);have aej:=hN.len;have hgd:Y.getD id []=q:=by rw[aZ,Z];rfl
 obtain⟨n,I⟩:=ez (D7 RK Y a (id+1) (c+if k=.pair then 1 else 0));have htl:n.length=a.length:=by rw[I,JJ]
 obtain⟨d,t⟩:=ez (40::(k.bytes++(if k=.pair then [32,35]++decDigits (RK.getD c 0) else [])));obtain⟨C,hC⟩:=ez (40::(k.bytes++((if k=.pair then [32,35]++decDigits (RK.getD c 0) else [])++(gB k l 0 n++[41]))));simp only[PT.JI,hgd,<-I,<-hC]at E⊢;have hCl:=bw (JG q C) E;have hfin:pY d k l n a.length++[41]=C:=by
  rw[hC,t];unfold pY;rw[<-htl,fR];simp
 have abQ:d.length+(gB k l 0 n).length+1=C.length:=by rw[hC,t];simp only[aj,aF,bn];omega
 have Td:=λj=>Wu d k l n j;have hkl:=by have:=xX a;omega
 have B:∀W,bg A W->cg W b 0 (.string (bs k.bytes))/\cg W b 2 (.string (bs l))/\cg W b 4 (.slice va a.length vc)/\cg W b 5 (.int .i64 id)/\cg W b 7 (.int .i64 c)/\cg W g id (.slice na q.length adP)/\b<W.heap.size/\g<W.heap.size:=λW V=>by
  have:=V.size;exact⟨(V.cell (p:=⟨b,0,none⟩) O).trans y0,(V.cell (p:=⟨b,2,none⟩) O).trans y2,(V.cell (p:=⟨b,4,none⟩) O).trans y4,(V.cell (p:=⟨b,5,none⟩) O).trans GY,(V.cell (p:=⟨b,7,none⟩) O).trans hb7,(V.cell (p:=⟨g,id,none⟩) hg).trans hrv,by omega,by omega⟩
 have hrc:∀W,bg A W->∀(m:Nat)(hm:m<q.length),∃(x gx:Nat),q[m]?=some x/\x<=999/\na=some ⟨gx,0,none⟩/\gx<W.heap.size/\cg W gx m (.int .i64 x):=λW V m hm=>by
  obtain⟨gx,e1,e2,e3⟩:=H m q[m] (aa hm);have:=V.size;exact⟨q[m],gx,aa hm,abP _ (bZ hm),e1,by omega,(V.cell (p:=⟨gx,m,none⟩) e2).trans e3⟩
 have h1:((bs k.bytes).toList==[110,117,109,98,101,114])=false:=by rw[bo];cases k<;>decide
 have h2:((bs k.bytes).toList==[110,97,109,101])=false:=by rw[bo];cases k<;>decide
 have h3:((bs k.bytes).toList==[110,101,119])=false:=by rw[bo];cases k<;>first|decide|exact absurd rfl hkn
 obtain⟨bp,hbp⟩:∃bp,((bs k.bytes).toList==[112,97,105,114])=bp:=⟨_,rfl⟩;obtain⟨z,hl⟩:∃z,((bs k.bytes).toList==[108,101,116])=z:=⟨_,rfl⟩;obtain⟨Q,ho⟩:∃Q,((bs k.bytes).toList==[108,111,111,112])=Q:=⟨_,rfl⟩;have hP:bp=decide (k=.pair):=by rw[<-hbp,bo];cases k<;>decide
 have hL:z=decide (k=.dV):=by rw[<-hl,bo];cases k<;>decide
 have hO:Q=decide (k=.loop):=by rw[<-ho,bo];cases k<;>decide
 have hLO:¬(z=true/\Q=true):=by rw[hL,hO];cases k<;>simp
 have hall:∀j,(hj:j<a.length)->∀w',bg A w'->∃(s M:Nat)(X:List UInt8),va=some ⟨s,0,none⟩/\s<w'.heap.size/\cg w' s j (.pointer (some ⟨M,0,none⟩))/\n[j]?=some X/\X.length<=180000000/\
   Calls prog 41 #[.pointer (some ⟨M,0,none⟩),.slice ca RK.length abN,.slice (some ⟨g,0,none⟩) Y.length cap] w' (λe w''=>e=.returned (.string (bs X))/\bg w' w''):=by
  intro j hj w' hw';have hx:=aa hj;obtain⟨s,M,QH,P,hc,Uo⟩:=hk j _ hx;have hm:=bZ hj;have J:=NN RK Y a (id+1) (c+if k=.pair then 1 else 0) j _ hx;rw[<-I]at J;have hmt:=EZ k l n 0 _ (aq J);have hs:=hw'.size;have c1:=j1 a (j+1);have c2:eS (a.take (j+1))<=eS a:=by
   have:=congrArg eS (fX (j+1) a);rw[Dr]at this;omega
  rw[bQ hj]at c1 c2;rw[lU]at c1;rw[Dr]at c2;simp only[eS,az]at c2;exact⟨s,M,_,QH,by omega,(hw'.cell (p:=⟨s,j,none⟩) P).trans hc,J,by omega,ih _ hm _ _ M F (by omega) (sL ht.2 _ hm) (s7 hwf.2 _ hm) (by omega) (by omega) (by omega) Uo w' hw'⟩
 have hkb:k.bytes.length<=4:=by cases k<;>decide
 have hz':∀j,(bs (pY d k l n j)).size<=180000000:=λj=>by rw[eB];have:=Td j;omega
 obtain⟨x0,x2,x4,x5,x7,xg,xb,xgl⟩:=B w N;refine xW hall hfin hL hO hz' B hrc hit N λR BJ HL HO HZ HC HR SE D=>?_;have r:=N.size;have HLN:Hid _:=E;have adO:id<Y.length:=by omega
 have z1:(ByteArray.mk #[40]).size=1:=rfl;have z2:(bs k.bytes).size<=4:=by rw[eB];exact hkb
 have z3:(bs l).size<=9000:=by rw[eB];exact ht.1
 have zS:(ByteArray.mk #[40]++bs k.bytes).size<=5:=by rw[aX];omega
 have zH:(ByteArray.mk #[32,35]).size=2:=rfl;have zU:(ByteArray.mk #[40]++bs k.bytes++ByteArray.mk #[32,35]).size<=7:=by rw[aX];omega
 have e0:bp=true->∃(y gy:Nat),y<=999/\c<RK.length/\ca=some ⟨gy,0,none⟩/\gy<w.heap.size/\cg w gy c (.int .i64 y)/\ByteArray.mk #[40]++bs k.bytes++ByteArray.mk #[32,35]++bs (decDigits y)=bs (pY d k l n 0):=by
  intro h;rw[hP,bW]at h;rw[ah h]at hsi;have S:c<RK.length:=by omega
  obtain⟨gy,e1,e2,e3⟩:=G c RK[c] (aa S);refine⟨RK[c],gy,hRK _ (bZ S),S,e1,by omega,(N.cell (p:=⟨gy,c,none⟩) e2).trans e3,?_⟩;rw[show ByteArray.mk #[40]=bs [40] from rfl,show ByteArray.mk #[32,35]=bs [32,35] from rfl,eM,eM,eM,t,ah h];have:RK.getD c 0=RK[c]:=by rw[aZ,aa S];rfl
  rw[this];simp[pY,gB]
 have e1:bp=false->ByteArray.mk #[40]++bs k.bytes=bs (pY d k l n 0):=by
  intro h;rw[hP,gT]at h;rw[show ByteArray.mk #[40]=bs [40] from rfl,eM,t,ag h];simp[pY,gB]
 refine bY e0 e1 λE0 E1=>?_;clear hall hfin hL hO hP hz' B hrc hit N E e0 e1 hT hT' hk ih ht hwf GY hb7 y0 y2 y4 hrow hrv H I t hC Td abQ hgd hN Z abP hsi hid G hRK hCl;show Calls _ _ #[Value.pointer (some ⟨b,0,none⟩),_,_] w _;go_in;cases bp
 case' false=>
  refine bY (E1 rfl) (aM w.heap.size w) λee Nq=>?_;clear E0 E1
 case' true=>
  obtain⟨y,gy,hy9,S,rfl,QF,hcy,he⟩:=E0 rfl;have ee:Hid _:=he;have zR:(bs (decDigits y)).size<=3:=by rw[eB];exact Dn y hy9
  have HIY:Hid _:=SE y w (by omega) D;clear E0 E1 he;go_wp2_with fail;refine ay HIY ?_;rintro _ w1 ⟨rfl,hb1⟩;have Nq:Hid _:=hb1;obtain⟨x0',x2',x4',x5',x7',xg',xb',ae6⟩:=HC w1 (D.trans (hb1.mono r));clear hb1 HIY
 all_goals
  go_wp2_with fail;go_loopw [7,8] (λv i wr=>∃j:Nat,j<=a.length/\i=.int .i64 j/\v=.string (bs (pY d k l n j))/\bg w wr) (λ_ i _=>a.length-(intOf i).toNat)
  case atStart=>exact⟨0,by omega,rfl,by rw[<-ee.out],Nq.out⟩
  case round=>
   obtain⟨j,hj,rfl,rfl,o⟩:=hrel;obtain⟨q0,q2,q4,q5,q7,qg,qb,qgl⟩:=HC wr (D.trans (o.mono r));have zA:=HZ j;have z4:(ByteArray.mk #[32]).size=1:=rfl;have z5:(ByteArray.mk #[41]).size=1:=rfl;have K:Hid _:=o;clear o ee Nq;by_cases hlt:j<a.length
   ·obtain⟨s,M,X,rfl,P,hck,J,adQ,T⟩:=R j hlt wr (D.trans (K.mono r));have zB:(bs (pY d k l n j)++ByteArray.mk #[32]).size<=180000001:=by rw[aX];omega
    have zC:(bs (pY d k l n j)++ByteArray.mk #[32]++bs l).size<=180009001:=by rw[aX];omega
    have zD:(bs (pY d k l n j)++ByteArray.mk #[32]++bs l++ByteArray.mk #[32]).size<=180009002:=by rw[aX];omega
    have zE:(bs X).size<=180000000:=by rw[eB];exact adQ
    have hs:=Qn d k l n j X J;have eN:((z=true/\j=0)\/(Q=true/\j=1))->bs (pY d k l n j)++ByteArray.mk #[32]++bs l++ByteArray.mk #[32]++bs X=bs (pY d k l n (j+1)):=by
     intro f;rw[HL.out,HO.out,bW,bW]at f;rw[hs,show ByteArray.mk #[32]=bs [32] from rfl,eM,eM,eM,eM];unfold lK;rw[ah f];simp
    have eP:¬((z=true/\j=0)\/(Q=true/\j=1))->bs (pY d k l n j)++ByteArray.mk #[32]++bs X=bs (pY d k l n (j+1)):=by
     intro f;rw[HL.out,HO.out,bW,bW]at f;rw[hs,show ByteArray.mk #[32]=bs [32] from rfl,eM,eM];unfold lK;rw[ag f];simp
    have VL:Hid _:=T;have HEP:Hid ((((z=true/\j=0)\/(Q=true/\j=1))/\bs (pY d k l n j)++ByteArray.mk #[32]++bs l++ByteArray.mk #[32]++bs X=bs (pY d k l n (j+1)))\/(¬((z=true/\j=0)\/(Q=true/\j=1))/\bs (pY d k l n j)++ByteArray.mk #[32]++bs X=bs (pY d k l n (j+1)))):=by
     by_cases f:(z=true/\j=0)\/(Q=true/\j=1)
     ·exact aD ⟨f,eN f⟩
     ·exact aE ⟨f,eP f⟩
    clear eN eP hs J T HL HO HZ R;rcases HEP.out with⟨f,he⟩|⟨f,he⟩
    ·have HEE:Hid _:=he;clear he HEP;have hbq:(z=true/\((j:Int)==0)=true)\/(z=false/\Q=true/\((j:Int)==1)=true):=by
      rcases f with⟨h1,h2⟩|⟨h1,h2⟩
      ·exact aD ⟨h1,by rw[h2];rfl⟩
      ·right;refine⟨?_,h1,by rw[h2];rfl⟩;cases z with
       |false=>rfl
       |true=>exact absurd ⟨rfl,h1⟩ hLO
     clear f hLO;rcases hbq with⟨rfl,hqj⟩|⟨rfl,rfl,hqj⟩
     all_goals
      go_wp2_with fail;refine ay VL ?_;rintro _ w2 ⟨rfl,u⟩;have U:Hid _:=K.trans (u.mono K.size);clear u VL;go_wp2;go_roundw
      case rel=>exact⟨j+1,by omega,by go_num,by rw[<-HEE.out],U.out⟩
      case measure=>simp[intOf];omega
    ·have HEE:Hid _:=he;have abR:=λh=>f (aD h);have hno:=λh=>f (aE h);clear he HEP f;have qj0:j≠0->((j:Int)==0)=false:=λh=>by rw[aH];omega
     have qj1:j≠1->((j:Int)==1)=false:=λh=>by rw[aH];omega
     cases z<;>cases Q<;>first|exact absurd ⟨rfl,rfl⟩ hLO|skip
     all_goals
      clear hLO
      first
      | (have WZ:j≠0:=λh=>abR ⟨rfl,h⟩
         have q6:=qj0 WZ)
      | (have hj1:j≠1:=λh=>hno ⟨rfl,h⟩
         have q6:=qj1 hj1)
      |skip
      clear abR hno qj0 qj1;go_wp2_with fail;refine ay VL ?_;rintro _ w2 ⟨rfl,u⟩;have U:Hid _:=K.trans (u.mono K.size);clear u VL;go_wp2;go_roundw
      case rel=>exact⟨j+1,by omega,by go_num,by rw[<-HEE.out],U.out⟩
      case measure=>simp[intOf];omega
   ·have hjk:j=a.length:=by omega
    subst hjk;have HFJ:Hid (bs (pY d k l n a.length)++ByteArray.mk #[41]=bs C):=by rw[<-BJ.out,<-eM];rfl
    clear R HL HO HZ BJ;go_wp2_with fail;rw[HFJ.out];clear HFJ;go_loopw [7,9] (λv i wr=>∃j:Nat,j<=q.length/\i=.int .i64 ((j:Int)-1)/\v=.string (bs (lp (q.drop j) C))/\bg w wr) (λ_ i _=>(intOf i+1).toNat)
    case atStart=>exact⟨q.length,bS,by go_num,by rw[mw];rfl,K.out⟩
    case round=>
     obtain⟨j,hj,rfl,rfl,o⟩:=hrel;obtain⟨_,_,_,z5',_,zg',zb',ae7⟩:=HC wr (D.trans (o.mono r));have zl:(bs (lp (q.drop j) C)).size<=180000000:=by rw[eB];exact bw (xJ q C j) HLN
     have L:Hid _:=o;clear o;cases j with
     |zero=>
      go_wp2;go_ret;exact⟨by rw[iA];rfl,L⟩
     |succ m=>
      obtain⟨x,gx,hx,hx9,rfl,hgx,Mx⟩:=HR wr (D.trans (L.mono r)) m (by omega);have hix:=SE x wr (by omega) (D.trans (L.mono r));have hnt:=JH q C m x hx;have hE:ByteArray.mk #[40,110,101,119,32,35]++bs (decDigits x)++ByteArray.mk #[32]++bs (lp (q.drop (m+1)) C)++ByteArray.mk #[41]=bs (lp (q.drop m) C):=by
       rw[show ByteArray.mk #[40,110,101,119,32,35]=bs [40,110,101,119,32,35] from rfl,show ByteArray.mk #[32]=bs [32] from rfl,show ByteArray.mk #[41]=bs [41] from rfl,eM,eM,eM,eM,hnt];simp
      refine bY hE hix λHE HIX=>?_;have z1:(ByteArray.mk #[40,110,101,119,32,35]).size=6:=rfl;have z2:(bs (decDigits x)).size<=3:=by rw[eB];exact Dn x hx9
      have z3:(ByteArray.mk #[32]).size=1:=rfl;have z4:(ByteArray.mk #[41]).size=1:=rfl;have zA:(ByteArray.mk #[40,110,101,119,32,35]++bs (decDigits x)).size<=9:=by rw[aX];omega
      have zB:(ByteArray.mk #[40,110,101,119,32,35]++bs (decDigits x)++ByteArray.mk #[32]).size<=10:=by rw[aX];omega
      have zC:(ByteArray.mk #[40,110,101,119,32,35]++bs (decDigits x)++ByteArray.mk #[32]++bs (lp (q.drop (m+1)) C)).size<=180000010:=by rw[aX];omega
      clear hE hix hnt hx;have HJ:Hid (m+1<=q.length):=hj;go_wp2_with fail;refine ay HIX ?_;rintro _ w2 ⟨rfl,u⟩;have U:Hid _:=L.trans (u.mono L.size);clear u HIX L;go_wp2;go_roundw
      case rel=>exact⟨m,by have:=HJ.out;omega,by go_num,by rw[<-HE.out],U.out⟩
      case measure=>simp[intOf]
theorem o9{id p:Nat}{x}(d:x.2.e=0)(b:x.1.bare=w)(c:w.size<=63)(f:x.2.at_=a):(fin id p x).2.e=0/\(fin id p x).1.bare=w/\w.size<=63/\(fin id p x).2.at_=a:=by
 have g:x.1.size<=63:=by rw[<-gq,b];exact c
 unfold fin;have:¬(x.2.e=0/\63<x.1.size):=by omega
 simp[ag this];exact⟨d,b,c,f⟩
theorem qE{A B}(h:w.bare=.p a A B):∃q u v,w=.p q u v/\u.bare=A/\v.bare=B:=by
 cases w with
 |n=>simp[Ty.bare]at h
 |p q u v=>simp[Ty.bare,Ty.p.injEq]at h;exact⟨q,u,v,rfl,h.2.1,h.2.2⟩
theorem pP(h:w.bare=.n):w=.n:=by cases w with
 |n=>rfl
 |p q u v=>simp[Ty.bare]at h
theorem WT.find{G:dc}{e}(h:WT G e w):∀(cls:List Nat)(id d:Nat)(f:dc)(i:gH),mc f=G->(∀x∈f,x.2.size<=63)->i.e=0->(aV cls e id d f i).2.e=0/\(aV cls e id d f i).1.bare=w/\w.size<=63/\(aV cls e id d f i).2.at_=i.at_:=by
 induction h with
 |num=>intro cls id d f i _ _ m;simp[aV];exact o9 m rfl (by simp[Ty.size]) rfl
 |name h=>
  intro cls id d f i j l m;simp[aV];rw[<-j,vD]at h;cases H:look f _ with
  |none=>rw[H]at h;simp at h
  |some U=>
   rw[H]at h;simp at h;have Z:U.size<=63:=by
    unfold look at H;cases O:f.reverse.find? (λx=>x.1==_) with
    |none=>rw[O]at H;simp at H
    |some z=>
     rw[O]at H;simp at H;have:=dU O;rw[<-H];exact l z (List.mem_reverse.1 this)
   exact o9 m h (by rw[<-h,gq];exact Z) rfl
 |dV J N g o=>
  intro cls id d f i j l m;obtain⟨p,r,D,t⟩:=g cls (id+1) d f i j l m;rename_i P _ a b A B;obtain⟨E,y,I,F⟩:=o cls (id+1+a.cnt) (d+a.dn) (f++[(P,(aV cls a (id+1) d f i).1)]) (aV cls a (id+1) d f i).2 (by rw[oM,j,r]) (by
   intro x C;rcases aA.1 C with C|C
   ·exact l x C
   ·simp only[ax]at C;subst C;rw[<-gq,r];exact D) p
  exact o9 E y I (F.trans t)
 |pair J N Q g o=>
  intro cls id d f i j l m;simp only[aV,bT,cP,ag (show Kw.pair≠.dV by decide),ag (show Kw.pair≠.loop by decide)];rename_i a b A B;obtain⟨p,r,D,t⟩:=g cls (id+1) (d+1) f i j l m;obtain⟨E,y,I,F⟩:=o cls (id+1+a.cnt) (d+1+a.dn) f _ j l p;rw[ag (by rw[E];simp)];simp[dz];exact o9 E (by simp[Ty.bare,r,y]) Q (F.trans t)
 |fst J g=>
  intro cls id d f i j l m;simp only[aV,cP,ag (show Kw.fst≠.dV by decide),ag (show Kw.fst≠.loop by decide),ag (show Kw.fst≠.pair by decide),az];obtain⟨p,r,D,t⟩:=g cls (id+1) d f i j l m;rw[ag (by rw[p];simp)];obtain⟨q,u,v,e,V,W⟩:=qE r;rw[e];simp[Ty.size]at D;exact o9 p V (by omega) t
 |snd J g=>
  intro cls id d f i j l m;simp only[aV,cP,ag (show Kw.snd≠.dV by decide),ag (show Kw.snd≠.loop by decide),ag (show Kw.snd≠.pair by decide),az];obtain⟨p,r,D,t⟩:=g cls (id+1) d f i j l m;rw[ag (by rw[p];simp)];obtain⟨q,u,v,e,V,W⟩:=qE r;rw[e];simp[Ty.size]at D;exact o9 p W (by omega) t
 |lv J N hc g o K=>
  intro cls id d f i j l m;simp only[aV,cP,ag (show Kw.lv≠.dV by decide),ag (show Kw.lv≠.loop by decide),ag (show Kw.lv≠.pair by decide),az];rename_i a b c w;obtain⟨p,r,D,t⟩:=g cls (id+1) d f i j l m;obtain⟨E,y,I,F⟩:=o cls (id+1+a.cnt) (d+a.dn) f _ j l p;obtain⟨M,R,c3,S⟩:=K cls (id+1+a.cnt+b.cnt) (d+a.dn+b.dn) f _ j l E;rw[ag (by rw[M];simp)];simp[dz];rw[ah ⟨pP r,by rw[y,R]⟩];exact o9 M y I (S.trans (F.trans t))
 |two X J N g o=>
  intro cls id d f i j l m;rename_i k _ _ a b;have L:k≠.dV/\k≠.loop/\k≠.pair:=by rcases X with rfl|rfl|rfl<;>decide
  simp only[aV,cP,ag L.1,ag L.2.1,ag L.2.2,az];obtain⟨p,r,D,t⟩:=g cls (id+1) d f i j l m;obtain⟨E,y,I,F⟩:=o cls (id+1+a.cnt) (d+a.dn) f _ j l p;rw[ag (by rw[E];simp)];have hm:∀(Y:Nat)(A B:Ty)(s:gH),A=.n->B=.n->dz cls k Y d [A,B] s=(.n,s):=by
   rintro Y _ _ s rfl rfl;rcases X with rfl|rfl|rfl<;>simp[dz]
  rw[hm _ _ _ _ (pP r) (pP y)];exact o9 E rfl (by simp[Ty.size]) (F.trans t)
 |loop J N hc g o K=>
  intro cls id d f i j l m;simp only[aV,df,bT,ag (show Kw.loop≠.dV by decide)];rename_i P _ a b c w;obtain⟨p,r,D,t⟩:=g cls (id+1) d f i j l m;obtain⟨E,y,I,F⟩:=o cls (id+1+a.cnt) (d+a.dn) f _ j l p;obtain⟨M,R,c3,S⟩:=K cls (id+1+a.cnt+b.cnt) (d+a.dn+b.dn) (f++[(P,(aV cls b (id+1+a.cnt) (d+a.dn) f (aV cls a (id+1) d f i).2).1)]) _ (by rw[oM,j,y]) (by
   intro x C;rcases aA.1 C with C|C
   ·exact l x C
   ·simp only[ax]at C;subst C;rw[<-gq,y];exact I) E
  rw[ag (by rw[M];simp)];simp[dz];rw[ah ⟨pP r,by rw[y,R]⟩];exact o9 M y I (S.trans (F.trans t))
 |new J g=>
  intro cls id d f i j l m;simp only[aV,cP,ag (show Kw.new≠.dV by decide),ag (show Kw.new≠.loop by decide),ag (show Kw.new≠.pair by decide),az];obtain⟨p,r,D,t⟩:=g cls (id+1) d f i j l m;rw[ag (by rw[p];simp)];exact o9 p r D t
theorem ZR{e}(h:WT [] e w)(b:e.dn<=100):cK e=(0,0):=by
 unfold cK;have a:=h.find (List.range e.dn) 0 0 [] (qo e) rfl (by simp) rfl;rw[ag (by omega),a.1,a.2.2.2];rfl
def NP:List Int->Nat->Int->PT->PT
 |[],_,_,t=>t
 |a::l,r,i,t=>if a=i then .node 0 .new [] (35::decDigits r) [NP l (r+1) i t] else NP l (r+1) i t
def rgW(a:List Int)(i:Nat):List UInt8:=if rU a i=-1 then [] else 35::decDigits (rU a i).toNat
mutual
def PT.abS(a c:List Int):PT->Nat->PT
 |.num _ s,_=>.num 0 (decDigits (aQ s).toNat)
 |.name _ s,_=>.name 0 s
 |.node _ k e _ d,b=>.node 0 k e (rgW a (b+aU d)) (abT a c d b)
def abT(a c:List Int):List PT->Nat->List PT
 |[],_=>[]
 |t::r,b=>NP c 0 ((b+t.cnt:Nat)-1:Int) (PT.abS a c t b)::abT a c r (b+t.cnt)
end
def PT.lay(c a:List Int)(t:PT)(b:Nat):PT:=NP a 0 ((b+t.cnt:Nat)-1:Int) (t.abS c a b)
def LyT(a:List Int)(b:List NR):Prop:=∀(i:Nat)(n:NR),b[i]?=some n->(n.form=4->0<=rU a i/\rU a i<=999)/\(n.form≠4->rU a i=-1)
structure Qo(fb:Nat)(w:World)(nv ov pv tv:Value)(tb:List TP)(K:List Nat)(ns:List NR)(op:List Int): Prop where
 c:lM fb 2 #[nv,ov,pv,tv] 191 w pv tv tb K
 t:ew w nv ov ns op
theorem Qo.below{w b}{d e f g}{i}{K}{j}{k}(h:Qo a w d e f g i K j k)(l:bg w b):Qo a b d e f g i K j k:=⟨h.c.below l,h.t.below l⟩
theorem wI(a:Nat)(w)(m n k l)(b)(K)(o)(q)(D)(T)(h:Qo a w m n k l b K o q)(f:Rel b D K T)(r:b.length<=9000)(s:K.length<=9000)(i d:Nat)(B:i<=9000):Calls prog 137 #[ptr a,.int .i64 i,.int .i64 d] w λv u=>v=.returned (.bool ((aP T i).has d))/\bg w u:=by
 obtain⟨x,z,C⟩:=f.known i;have e:=wH a 2 k b r f.low d (b.length+1) (bt K i) (by omega) (by omega) w h.c.c0 h.c.p;rw[Bj f d _ _ (by omega) z,<-x]at e;have g:=nu w a 2 l K i h.c.c1 h.c.t s (by omega);have A:=aG h.c.y;generalize bt K i=E at*;generalize (aP T i).has d=F at*;show Calls _ _ #[Value.pointer (some ⟨a,0,none⟩),_,_] w _;go_in;go_wp2_with fail;refine ay g ?_;rintro _ _ ⟨rfl,rfl⟩;go_wp2_with fail;refine ay e ?_;rintro _ G ⟨rfl,j⟩;go_wp2;go_ret;exact⟨rfl,j⟩
def jo(T:List Ty)(c:Nat):List NR->Nat->Nat->Nat->Nat×Nat
 |[],_,a,b=>(a,b)
 |n::r,i,a,b=>if (aP T i).has c=true then jo T c r (i+1) (if n.at_<a then n.at_ else a) (if b<n.dH then n.dH else b) else jo T c r (i+1) a b
def ju(T:List Ty)(c a b:Nat):List NR->Nat->Int
 |[],_=>-1
 |n::r,i=>if n.at_<=a/\b<=n.dH/\(aP T i).has c=false then (i:Int) else ju T c a b r (i+1)
theorem TF(O:Nat)(w)(U)(V W:Nat)(X)(Y Z:Nat)(pv tv)(tb)(K)(o)(op)(D)(T)(h:Qo O w (.slice U V W) (.slice X Y Z) pv tv tb K o op)(hR:Rel tb D K T)(hl:tb.length<=9000)(hK:K.length<=9000)(E:o.length<=9000)(A:Nat)(f)(h0:o[o.length-1]?=some f):Calls prog 136 #[ptr O,.int .i64 A] w λv u=>v=.returned (.tuple #[.int .i64 (jo T A o 0 f.dH f.at_).1,.int .i64 (jo T A o 0 f.dH f.at_).2])/\bg w u:=by
 obtain⟨m,hm⟩:=ez o.length;have hm1:1<=m:=by have:=(ae.1 h0).1;omega
 have hfl:=aG h.c.y;have hCC:∀j,bg w j->cg j O 0 (.slice U V W)/\cg j O 1 (.slice X Y Z)/\O<j.heap.size:=λj l=>by
  have:=(h.below l).c.y;exact⟨dR this rfl,dR this rfl,aG this⟩
 have hRO:∀j,bg w j->Calls prog 68 #[.agg #[.slice U V W,.slice X Y Z]] j λv u=>v=.returned (.int .i64 ((m-1:Nat):Int))/\bg w u/\bg j u:=λj l=>by
  refine (yC j _ _ o op (h.below l).t E).mono ?_;rintro _ u ⟨rfl,r⟩;exact⟨by congr 2;omega,l.trans (r.mono l.size),r⟩
 have F:∀j,bg w j->∀(k:Nat)(n:NR),o[k]?=some n->Calls prog 94 #[.agg #[.slice U V W,.slice X Y Z],.int .i64 k] j λv u=>v=.returned (dK n)/\bg w u/\bg j u:=λj l k n hk=>by
  refine (kS j _ _ o op (h.below l).t k n hk E).mono ?_;rintro _ u ⟨rfl,r⟩;exact⟨rfl,l.trans (r.mono l.size),r⟩
 have ZS:=λj l=>F j l (m-1) f (by rw[hm];exact h0);have hLE:∀j,bg w j->Calls prog 93 #[.agg #[.slice U V W,.slice X Y Z]] j λv u=>v=.returned (.int .i64 m)/\bg w u:=λj l=>by
  have:=mY j _ _ o op (h.below l).t;rw[<-hm]at this;refine this.mono ?_;rintro _ u ⟨rfl,r⟩;exact⟨rfl,l.trans (r.mono l.size)⟩
 have hME:∀j,bg w j->∀i:Nat,i<m->Calls prog 137 #[.pointer (some ⟨O,0,none⟩),.int .i64 i,.int .i64 A] j λv u=>v=.returned (.bool ((aP T i).has A))/\bg w u:=λj l i hi=>by
  refine (wI O j _ _ pv tv tb K o op D T (h.below l) hR hl hK i A (by omega)).mono ?_;rintro _ u ⟨rfl,r⟩;exact⟨rfl,l.trans (r.mono l.size)⟩
 obtain⟨R,MN⟩:=ez (jo T A o 0 f.dH f.at_);rw[<-MN];unfold dK at ZS F;refine Mt hCC hRO F ZS hLE hME hm MN λG V6 HNO HN0 Uz XN HM FM=>?_;obtain⟨b0,b1,bl⟩:=hCC w fp;rw[<-hm]at E;clear hCC hRO F ZS hLE hME h hR hm MN h0;show Calls _ _ #[Value.pointer (some ⟨O,0,none⟩),_] w _;go_in;go_upto_region 1 with fail;go_cut [6] from 11 to 20 (λt6 wx=>∃q,t6=.pointer (some ⟨q,0,none⟩)/\wx.heap[q]?=some (gG f)/\w.heap.size<=q/\bg w wx)
 case first=>
  go_region_law (first
   | (refine qB rfl 68 #[.agg #[.slice U V W,.slice X Y Z]] ?_ ?_
      ·go_simp
      refine ay (V6 _ ?_) ?_
      ·repeat (first|with_reducible exact aM _ _|with_reducible refine bV ?_ _|with_reducible refine l6 ?_|with_reducible refine gD ?_)
      rintro e w2 ⟨rfl,s,Fy⟩;obtain⟨b0,b1,bl⟩:=G _ s;have P:=s.size
      try (have hz:w2.heap[w.heap.size]?=some (.cells nz 160 (0,0)):=(Fy.block _ (by simp)).trans (bD _ _))
      refine⟨_,rfl,?_⟩)
   | (refine qB rfl 94 #[.agg #[.slice U V W,.slice X Y Z],.int .i64 ((m-1:Nat):Int)] ?_ ?_
      ·go_simp
      refine ay (HN0 _ ?_) ?_
      ·repeat (first|with_reducible exact aM _ _|with_reducible exact s|with_reducible refine bV ?_ _|with_reducible refine l6 ?_|with_reducible refine gD ?_)
      rintro e w3 ⟨rfl,x,Q⟩
      try (have H:w3.heap[w2.heap.size]?=some (.cells nz 160 (0,0)):=(Q.block _ (by simp)).trans (bD _ _))
      try (have I:w3.heap[w.heap.size]?=some (.cells nz 160 (0,0)):=(Q.block _ (aG hz)).trans hz)
      try (obtain⟨z0,z1,z2,z3,z4,z5,z6,z7,z8,z9⟩:=yO H;obtain⟨f0,f1,f2,f3,f4,f5,f6,f7,f8,f9⟩:=Bo H;have hzl:=aG H)
      try (obtain⟨z0,z1,z2,z3,z4,z5,z6,z7,z8,z9⟩:=yO I;obtain⟨f0,f1,f2,f3,f4,f5,f6,f7,f8,f9⟩:=Bo I;have hzl:=aG I)
      refine⟨_,rfl,?_⟩))
  all_goals (go_wp2_with fail;go_meet)
  all_goals first
   |(have hE:=Gv (.int .i64 f.form) (.int .i64 f.at_) (.int .i64 f.dH) (.int .i64 f.num) (.string (bs f.word)) (.int .i64 f.region) (.int .i64 f.source) (.int .i64 f.p0) (.int .i64 f.p1) (.int .i64 f.p2) x P H;exact⟨_,rfl,hE.1,P,hE.2⟩)
   |(have hE:=Gv (.int .i64 f.form) (.int .i64 f.at_) (.int .i64 f.dH) (.int .i64 f.num) (.string (bs f.word)) (.int .i64 f.region) (.int .i64 f.source) (.int .i64 f.p0) (.int .i64 f.p1) (.int .i64 f.p2) x bS I;exact⟨_,rfl,hE.1,bS,hE.2⟩)
   |exact⟨_,rfl,bD _ _,x.size,bV x _⟩
   |skip
 case rest=>
  obtain⟨q,rfl,hq,hsq,hbc⟩:=hcut;obtain⟨d0,d1,d2,_⟩:=cD hq;have hql:=aG hq;have HBC:Hid _:=hbc;clear hq hbc b0 b1 V6 HN0;go_wp2;go_loopw [7,8,9,10] (λfa be i _ wr=>∃(k a b:Nat),k<=m/\i=.int .i64 k/\fa=.int .i64 a/\be=.int .i64 b/\Hid (jo T A o 0 f.dH f.at_=jo T A (o.drop k) k a b)/\bg w wr) (λ_ _ i _ _=>m-(intOf i).toNat)
  case atStart=>exact⟨0,f.dH,f.at_,ld,rfl,rfl,rfl,(rfl:jo T A o 0 f.dH f.at_=jo T A (o.drop 0) 0 f.dH f.at_),HBC.out⟩
  case round=>
   obtain⟨k,a,b,hk,rfl,rfl,rfl,HF,B⟩:=hrel;obtain⟨b0,b1,bl⟩:=G _ B;have J:=Uz _ B;by_cases hlt:k<m
   ·have L:k<o.length:=by have:=HM.out;omega
    obtain⟨n,E⟩:∃n,o[k]?=some n:=⟨o[k],aa L⟩;have xQ:o.drop k=n::o.drop (k+1):=by
     rw[aW L];rw[aa L]at E;simp only[ai]at E;rw[E]
    have d:=HF;rw[xQ]at d;simp only[jo]at d;refine bY d E λM HN=>?_;clear d xQ E HF B L;go_wp2_with fail;refine J.mono ?_;rintro _ w1 ⟨rfl,z⟩;have hme:=XN w1 z k hlt;clear J b0 b1 bl;obtain⟨b0,b1,bl⟩:=G _ z;have DU:Hid _:=z;clear z;go_wp2_with fail;refine hme.mono ?_;rintro _ w2 ⟨rfl,s⟩;clear hme b0 b1 bl;obtain⟨b0,b1,bl⟩:=G _ s;have hno:=HNO w2 s k n HN;have xN:Hid _:=s;clear s;cases N:(aP T (k:Int)).has A with
    |false=>
     have d:=M;rw[N,ag (by decide)]at d;have g:Hid _:=d;clear d M hno N;go_wp2;go_roundw
     case rel=>exact⟨k+1,a,b,by omega,by go_num,rfl,rfl,g.out,xN.out⟩
     case measure=>simp[intOf];omega
    |true=>
     have d:=M;rw[N,ah rfl]at d;have g:Hid _:=d;clear d M N;go_wp2_with fail;refine hno.mono ?_;rintro _ w3 ⟨rfl,x,_⟩;have C:Hid _:=bV x (gG n);unfold gG DS at C;clear x hno;by_cases S:n.at_<a
     ·have qa:(n.at_:Int)<(a:Int):=by omega
      by_cases l:b<n.dH
      ·have qb:(b:Int)<(n.dH:Int):=by omega
       have d:=g;rw[ah S,ah l]at d;have p:Hid _:=d;clear d g S l;go_wp2;go_roundw
       case rel=>exact⟨k+1,n.at_,n.dH,by omega,by go_num,rfl,rfl,p.out,C.out⟩
       case measure=>simp[intOf];omega
      ·have qb:¬(b:Int)<(n.dH:Int):=by omega
       have d:=g;rw[ah S,ag l]at d;have p:Hid _:=d;clear d g S l;go_wp2;go_roundw
       case rel=>exact⟨k+1,n.at_,b,by omega,by go_num,rfl,rfl,p.out,C.out⟩
       case measure=>simp[intOf];omega
     ·have qa:¬(n.at_:Int)<(a:Int):=by omega
      by_cases l:b<n.dH
      ·have qb:(b:Int)<(n.dH:Int):=by omega
       have d:=g;rw[ag S,ah l]at d;have p:Hid _:=d;clear d g S l;go_wp2;go_roundw
       case rel=>exact⟨k+1,a,n.dH,by omega,by go_num,rfl,rfl,p.out,C.out⟩
       case measure=>simp[intOf];omega
      ·have qb:¬(b:Int)<(n.dH:Int):=by omega
       have d:=g;rw[ag S,ag l]at d;have p:Hid _:=d;clear d g S l;go_wp2;go_roundw
       case rel=>exact⟨k+1,a,b,by omega,by go_num,rfl,rfl,p.out,C.out⟩
       case measure=>simp[intOf];omega
   ·have HRA:Hid (R=(a,b)):=by
     have hd:o.drop k=[]:=bF (by have:=HM.out;omega);have d:=HF;rw[hd]at d;rw[FM.out,d];exact rfl
    have Ps:Hid _:=B;clear B HF;go_wp2_with fail;refine J.mono ?_;rintro _ w1 ⟨rfl,z⟩;have DU:Hid _:=z;clear z J;go_wp2;refine au (v:=.tuple #[.int .i64 a,.int .i64 b]) (by simp[results,results136,go_sem]) rfl ⟨by rw[HRA.out],DU⟩
theorem Qp(B:Nat)(w)(O)(P Q:Nat)(S)(U V:Nat)(pv tv)(W)(K)(b)(X)(D)(T)(h:Qo B w (.slice O P Q) (.slice S U V) pv tv W K b X)(hR:Rel W D K T)(hl:W.length<=9000)(hK:K.length<=9000)(hn:b.length<=9000)(j:Nat)(G)(h0:b[b.length-1]?=some G):Calls prog 108 #[ptr B,.int .i64 j] w λv x=>v=.returned (.int .i64 (ju T j (jo T j b 0 G.dH G.at_).1 (jo T j b 0 G.dH G.at_).2 b 0))/\bg w x:=by
 obtain⟨m,hm⟩:=ez b.length;have Y:∀d,bg w d->d.cell? ⟨B,0,none⟩=some (.slice O P Q)/\d.cell? ⟨B,1,none⟩=some (.slice S U V)/\B<d.heap.size:=λd e=>by
  have:=(h.below e).c.y;exact⟨dR this rfl,dR this rfl,aG this⟩
 have H:∀d,bg w d->∀(k:Nat)(n:NR),b[k]?=some n->Calls prog 94 #[.agg #[.slice O P Q,.slice S U V],.int .i64 k] d λv x=>v=.returned (dK n)/\bg w x:=λd e k n hk=>by
  refine (kS d _ _ b X (h.below e).t k n hk hn).mono ?_;rintro _ x ⟨rfl,q⟩;exact⟨rfl,e.trans (q.mono e.size)⟩
 have Z:∀d,bg w d->Calls prog 93 #[.agg #[.slice O P Q,.slice S U V]] d λv x=>v=.returned (.int .i64 m)/\bg w x:=λd e=>by
  have:=mY d _ _ b X (h.below e).t;rw[<-hm]at this;refine this.mono ?_;rintro _ x ⟨rfl,q⟩;exact⟨rfl,e.trans (q.mono e.size)⟩
 have hME:∀d,bg w d->∀i:Nat,i<m->Calls prog 137 #[.pointer (some ⟨B,0,none⟩),.int .i64 i,.int .i64 j] d λv x=>v=.returned (.bool ((aP T i).has j))/\bg w x:=λd e i hi=>by
  refine (wI B d _ _ pv tv W K b X D T (h.below e) hR hl hK i j (by omega)).mono ?_;rintro _ x ⟨rfl,q⟩;exact⟨rfl,e.trans (q.mono e.size)⟩
 have r:=TF B w O P Q S U V pv tv W K b X D T h hR hl hK hn j G h0;obtain⟨z,A,hsp⟩:∃z A,jo T j b 0 G.dH G.at_=(z,A):=⟨_,_,rfl⟩;rw[hsp]at r⊢;simp only at r⊢;obtain⟨R,I⟩:=ez (ju T j z A b 0);rw[<-I];unfold dK at H;unfold ptr at r;refine Ms Y H Z hME r hm I λVL HNO Uz XN HSP HM FM=>?_;rw[<-hm]at hn;clear Y H Z hME h hR hm I h0 r hsp;show Calls _ _ #[Value.pointer (some ⟨B,0,none⟩),_] w _;go_in;go_wp2_with fail;refine ay HSP ?_;rintro _ w0 ⟨rfl,hb0⟩;have HB0:Hid _:=hb0;clear hb0 HSP;go_wp2;go_loopw [7,8] (λi _ wr=>∃(k:Nat),k<=m/\i=.int .i64 k/\Hid (ju T j z A b 0=ju T j z A (b.drop k) k)/\bg w wr) (λi _ _=>m-(intOf i).toNat)
 case atStart=>exact⟨0,ld,rfl,(rfl:ju T j z A b 0=ju T j z A (b.drop 0) 0),HB0.out⟩
 case round=>
  obtain⟨k,hk,rfl,HF,C⟩:=hrel;obtain⟨b0,b1,bl⟩:=VL _ C;have E:=Uz _ C;by_cases hlt:k<m
  ·have F:k<b.length:=by have:=HM.out;omega
   obtain⟨n,s⟩:∃n,b[k]?=some n:=⟨b[k],aa F⟩;have xQ:b.drop k=n::b.drop (k+1):=by
    rw[aW F];rw[aa F]at s;simp only[ai]at s;rw[s]
   have a:=HF;rw[xQ]at a;simp only[ju]at a;refine bY a s λl HN=>?_;clear a xQ s HF C F;go_wp2_with fail;refine E.mono ?_;rintro _ w1 ⟨rfl,o⟩;have hno:=HNO w1 o k n HN;clear E b0 b1 bl;obtain⟨b0,b1,bl⟩:=VL _ o;clear o;go_wp2_with fail;refine hno.mono ?_;rintro _ w2 ⟨rfl,hb2⟩;have J:=bV hb2 (gG n);have f:=XN _ J k hlt;have L:Hid _:=J;unfold gG DS at f L;clear hno hb2 J b0 b1 bl;by_cases N:n.at_<=z
   ·have qa:(n.at_:Int)<=(z:Int):=by omega
    by_cases e:A<=n.dH
    ·have qb:(A:Int)<=(n.dH:Int):=by omega
     have a:=l;cases p:(aP T (k:Int)).has j with
     |false=>
      rw[p]at f;rw[ah ⟨N,e,p⟩]at a;have HA:Hid (R=(k:Int)):=(show R=(k:Int) by rw[FM.out,a]);clear a l p N e;go_wp2_with fail;refine f.mono ?_;rintro _ w4 ⟨rfl,u⟩;have M:Hid _:=u;clear u f;go_wp2;go_ret;exact⟨by rw[HA.out];first|done|rfl,M⟩
     |true=>
      rw[p]at f;rw[ag (λh=>by rw[p]at h;exact absurd h.2.2 (by decide))]at a;have g:Hid _:=a;clear a l p N e;go_wp2_with fail;refine f.mono ?_;rintro _ w4 ⟨rfl,u⟩;have M:Hid _:=u;clear u f;go_wp2;go_roundw
      case rel=>exact⟨k+1,by omega,by go_num,g.out,M.out⟩
      case measure=>simp[intOf];omega
    ·have qb:¬(A:Int)<=(n.dH:Int):=by omega
     have a:=l;rw[ag (λh=>e h.2.1)]at a;have g:Hid _:=a;clear a l N e f;go_wp2;go_roundw
     case rel=>exact⟨k+1,by omega,by go_num,g.out,L.out⟩
     case measure=>simp[intOf];omega
   ·have qa:¬(n.at_:Int)<=(z:Int):=by omega
    have a:=l;rw[ag (λh=>N h.1)]at a;have g:Hid _:=a;clear a l N f;go_wp2;go_roundw
    case rel=>exact⟨k+1,by omega,by go_num,g.out,L.out⟩
    case measure=>simp[intOf];omega
  ·have HRA:Hid (R=-1):=by
    have hd:b.drop k=[]:=bF (by have:=HM.out;omega);have a:=HF;rw[hd]at a;rw[FM.out,a];exact rfl
   clear HF C;go_wp2_with fail;refine E.mono ?_;rintro _ w1 ⟨rfl,o⟩;have DU:Hid _:=o;clear o E;go_wp2;go_ret;exact⟨by rw[HRA.out];first|done|rfl,DU⟩
