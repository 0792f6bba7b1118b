import Derived.Test.YtpicaknklgccoaaGreatDoorK17
set_option maxHeartbeats 4000000
set_option maxRecDepth 100000
namespace Go.Proofs.YtpicaknklgccoaaGreatDoor
open Tryz
open Go.RowKit
variable {w x:Nat}{a:MM}{b:List (Nat × Nat)}{c:RS}{d z:MV}{y:jF}{v u:RV}{K:Int}{L:PT}{P:dc}{T:Ty}{N M:Vl}{Y:World}
theorem KZ(f)(k:Nat)(v)(a)(h:a.e≠0):eZ f k v a=(v,a):=by
 cases k with
 |zero=>rfl
 |succ k=>simp only[eZ];rw[ah h]
theorem Im(f)(k:Nat)(v)(a)(h:a.e=0):eZ f (k+1) v a=eZ f k (f v a).1 (f v a).2:=by
 simp only[eZ];rw[ag (by simpa using h)]
theorem K0(D a:Nat)(p:Nat)(N rg)(x y z)(G:dc)(T)(hwx:WT G x .n)(Xi:WT G y T)(VD:WT (G++[(N,T)]) z T)(GW:x.eO)(hty:y.eO)(htz:z.eO)(hfx:x.wf)(hfy:y.wf)(hfz:z.wf)(Pc:oA Y D a x G)(KS:oA Y D a y G)(ihz:oA Y D a z (G++[(N,T)])):Yp Y D a (.node p .loop N rg [x,y,z]) G:=by
 intro id site b F g hp C ov wv tv GS w hT J hH t O he hq;obtain⟨gk,vc,bx,bb,bc,FH,Cp,KQ,Cq,Yz,RM,L,rA,s6,Vr⟩:=Vp hT;have hne:b≠D:=by have:=J.pq;have:=L.hb;omega
 have QF:=by have:=J.pq;have:=L.hg;omega
 simp only[PT.cnt,aU]at O;obtain⟨f,hfd⟩:∃f:RV->RS->RV×RS,f=λv C=>rW a z ((N,v)::g) C:=⟨_,rfl⟩;have yT:rW a (.node p .loop N rg [x,y,z]) g C=eZ f (rW a x g {C with steps:=C.steps+1}).1.num.toNat (rW a y g (rW a x g {C with steps:=C.steps+1}).2).1 (rW a y g (rW a x g {C with steps:=C.steps+1}).2).2:=by
  rw[hfd]
  conv=>lhs;unfold rW
  rw[ag (by simp),sB he hq];simp only[reduceCtorEq,aT,bT,pZ]
 rw[yT];have X:=O.step hq;have hr1:=th a hwx g {C with steps:=C.steps+1} GW (λ_=>t);have h1:=λm=>Pc FH Cp bx F g hp {C with steps:=C.steps+1} ov wv tv GS _ rA (J.drew m).OQ (hH.keep (J.ym m) uf) (λ_=>t) (λ_=>X.le (by omega));have Z:=λe=>X.on x g hfx he (by omega) e;generalize rW a x g {C with steps:=C.steps+1}=r1 at*;have xO:=th a Xi g r1.2 hty (λ_=>t);have h2:=λu A B o I (E:fP Y I D u A B o a r1.2) (hH2:BC I o g hp)=>KS KQ Cq bb F g hp r1.2 u A B o I s6 E hH2 (λ_=>t) (λe=>(Z e).le (by omega));have Q9:=λe=>(Z (xO.1 e).1).on y g hfy (xO.1 e).1 (by omega) e;generalize rW a y g r1.2=r2 at*;obtain⟨k,hk,hk0,hk9⟩:=su hr1;obtain⟨K,rfl⟩:∃K:Nat,k=K:=⟨k.toNat,by omega⟩;have RN:r1.1.num.toNat=K:=by rw[hk];simp[RV.num]
 rw[RN]
 have h3:∀(v:RV)(l:RS)(P:Option Addr)(u A B:Value)(o:List Nat)(I:World),(l.e=0->v.has T)->(l.e=0->DD a (1+(x.cnt+(y.cnt+(z.cnt+0)))) l)->fP Y I D u A B o a l->BC I o ((N,v)::g) P->
   Calls prog 43 #[ptr D,ptr bc,.pointer P] I (rB Y D a I o (f v l)):=by
  intro v l P u A B o I hv H E hH2;rw[hfd];exact ihz Yz RM bc F ((N,v)::g) P l u A B o I Vr E hH2 (λe=>t.snoc (hv e)) (λe=>(H e).le (by omega))
 have h4:∀(v:RV)(l:RS),l.e=0->(l.e=0->v.has T)->(l.e=0->DD a (1+(x.cnt+(y.cnt+(z.cnt+0)))) l)->((f v l).2.e=0->(f v l).1.has T)/\((f v l).2.e=0->DD a (1+(x.cnt+(y.cnt+(z.cnt+0)))) (f v l).2):=by
  intro v l h0 hv H;rw[hfd];exact⟨λe=>((th a VD ((N,v)::g) l htz (λe=>t.snoc (hv e))).1 e).2,λe=>(H h0).on z _ hfz h0 (by omega) e⟩
 have q:=L.on J.b0;have x0:=q.c0;have x4:=q.c4;have ML:=q.ck 0 bx rfl;have Rp:=q.hb;have Rq:=q.hg;have qn:((bs Kw.loop.bytes).toList==[110,101,119])=false:=by rw[bo];decide
 have q0:((bs Kw.loop.bytes).toList==[110,117,109,98,101,114])=false:=by rw[bo];decide
 have q1:((bs Kw.loop.bytes).toList==[110,97,109,101])=false:=by rw[bo];decide
 have q2:((bs Kw.loop.bytes).toList==[108,101,116])=false:=by rw[bo];decide
 have q3:((bs Kw.loop.bytes).toList==[105,102])=false:=by rw[bo];decide
 have q4:((bs Kw.loop.bytes).toList==[108,111,111,112])=true:=by rw[bo];decide
 have y3:=J.c.1;have y4:=J.c.2.1;have hpl:=J.c.2.2.2.2;have y6:=J.c6 he;have f4:=aK J.y 4;have q9:((C.steps:Int)==(a:Int))=false:=by rw[aH];omega
 have Yx:=O.s;have Xg:=O.f;have OI:r2.2.e=0->r2.1.has T:=λe=>(xO.1 e).2;have HI:=λm=>J.ym m;unfold ptr at h1 h2 h3;show Calls _ _ #[Value.pointer (some ⟨D,0,none⟩),Value.pointer (some ⟨b,0,none⟩),_] w _;go_in;go_wp2_with fail;go_quiet (fail);go_wp2_with fail;refine ay (h1 _) ?_;rintro _ I ⟨nb,u,A,B,o,rfl,QC,BH,rR,E⟩;have hiw:=(HI _).trans rR;have q:=L.on E.b0;have z4:=q.c4;have QG:=q.ck 1 bb rfl;have Rs:=q.hb;have Ut:=q.hg;rw[hk]at QC;go_wp2_with fail;refine (h2 u A B o I E (hH.keep hiw BH)).mono ?_;rintro _ w3 ⟨vb3,ov3,wv3,DK,Ru,rfl,hv3,zk,J6,hP3⟩;have HN3:w3.heap[nb]?=some (.cells (Fv (K:Int) none none none) 132 (0,0)):=J6.v _ _ QC;have AZ:=eD BH zk;have HI3:=hiw.trans J6;have HH3:=hH.keep (hiw.trans J6) (eD BH zk);go_wp2_with fail;go_loopw [11,12] (λvv i wr=>∃(j:Nat)(v:RV)(d:RS)(vb:Nat)(Q R S:Value)(r:List Nat),j<=K/\i=.int .i64 j/\vv=.pointer (some ⟨vb,0,none⟩)/\eZ f K r2.1 r2.2=eZ f (K-j) v d/\(d.e=0->v.has T)/\(d.e=0->DD a (1+(x.cnt+(y.cnt+(z.cnt+0)))) d)/\zm wr r v vb/\Ru <+: r/\mK w3 wr/\fP Y wr D Q R S r a d) (λ_ i _=>K-(intOf i).toNat)
 case atStart=>exact⟨0,r2.1,r2.2,vb3,ov3,wv3,DK,Ru,by omega,rfl,rfl,rfl,OI,Q9,hv3,uf,mK.refl _,hP3⟩
 case round=>
  obtain⟨j,v,d,vb4,Q,R,S,r,hj,rfl,rfl,htu,hv,H,hv4,MY,U,M⟩:=hrel;have e6:=M.c.2.2.2.1;have aeI:=M.c.2.2.2.2;have hnb:=U.v _ _ HN3;have n0:cg wr nb 0 (.int .i64 K):=dR hnb rfl;have xP:=aG hnb;have q:=L.on M.b0;have u2:=q.c2;have u4:=q.c4;have uk2:=q.ck 2 bc rfl;have ul1:=q.hb;have ul2:=q.hg;have HOU:rB Y D a w GS (v,d) (.returned (.pointer (some ⟨vb4,0,none⟩))) wr:=⟨vb4,Q,R,S,r,rfl,hv4,eD AZ MY,HI3.trans U,M⟩;by_cases WZ:j=K
  ·have HE:eZ f (K-j) v d=(v,d):=by rw[show K-j=0 by omega];exact rfl
   have hjk:((j:Int)<(K:Int))=False:=by simp;omega
   subst WZ;go_wp2;go_ret;rw[htu,HE];exact HOU
  ·have hjk:(j:Int)<(K:Int):=by omega
   by_cases V:d.e=0
   ·have qe:((d.e:Int)==0)=true:=by rw[V];rfl
    have HE:Hid (eZ f (K-j) v d=eZ f (K-(j+1)) (f v d).1 (f v d).2):=by
     rw[show K-j=(K-(j+1))+1 by omega];exact Im f _ v d V
    have H5:=h4 v d V hv H;have HIO:=And.intro U MY;have hun:∀W,bg wr W/\W.heap[wr.heap.size]?=some (.cells #[.string (bs N),.pointer (some ⟨vb4,0,none⟩),.pointer hp] 134 (0,0))->Calls prog 43 #[.pointer (some ⟨D,0,none⟩),.pointer (some ⟨bc,0,none⟩),.pointer (some ⟨wr.heap.size,0,none⟩)] W (rB Y D a wr r (f v d)):=by
     intro W hW;refine (h3 v d _ Q R S r W hv H (M.grow hW.1) (Ib (HH3.keep U MY) hv4 hW)).mono (λe w' h=>?_);exact h.pre (mK.below hW.1) uf
    go_wp2;go_region_with (go_at_call 43;refine (hun _ ?_).mono ?_;exact yn rfl rfl rfl rfl;intro e w5 h5;obtain⟨vb5,rfl,HO⟩:=h5.two;clear h5)
    all_goals
     go_wp2;go_roundw
     case rel=>
      obtain⟨vb6,ov5,wv5,tv5,RH,hee,hv5,Hp,KY,hP5⟩:=HO;cases hee;exact⟨j+1,(f v d).1,(f v d).2,vb5,ov5,wv5,tv5,RH,by omega,by go_num,rfl,by rw[htu,HE.out],H5.1,H5.2,hv5,eD HIO.2 Hp,HIO.1.trans KY,hP5⟩
     case measure=>simp[intOf];omega
   ·have qe:((d.e:Int)==0)=false:=by rw[aH];omega
    have HE:=KZ f (K-j) v d V;go_wp2;go_ret;rw[htu,HE];exact HOU
open Go.Lib (decDigits)
theorem Pn(j c:Nat)(h:WT P L T):L.eO->L.wf->oA Y j c L P:=by
 induction h with
 |num=>intro _ _;exact nW (λ_ _ _ _=>by simp) (OT j c _ _ _)
 |name Q=>intro _ _;exact nW (λ_ _ _ _=>by simp) (KR j c _ _ _)
 |dV k n g i=>
  intro d f;simp only[PT.eO,gJ]at d;simp only[PT.wf,rH]at f;exact nW (λ_ _ _ _=>by simp) (O9 j c _ _ _ _ _ _ _ k d.2.1 f.2.1 (g d.2.1 f.2.1) (i d.2.2.1 f.2.2.1))
 |@pair P p R S a b A B k n y g i=>
  intro d f;simp only[PT.eO,gJ]at d;simp only[PT.wf,rH]at f;refine nW (λ_ _ _ _=>by simp) (rL j c _ _ _ _ _ _ (by decide) (by decide) (by decide) (by decide) (Il j c _ _ _ _ _ _ f.2.1 f.2.2.1 (g d.2.1 f.2.1) (i d.2.2.1 f.2.2.1) (λl r e=>?_)));apply iI;intro v;rw[pT c b l r v]at e;exact v e
 |fst k g=>
  intro d f;simp only[PT.eO,gJ]at d;simp only[PT.wf,rH]at f;exact nW (λ_ _ _ _=>by simp) (rL j c _ _ _ _ _ _ (by decide) (by decide) (by decide) (by decide) (Ce j c _ (.inl rfl) _ _ _ _ _ _ k d.2.1 (g d.2.1 f.2.1)))
 |snd k g=>
  intro d f;simp only[PT.eO,gJ]at d;simp only[PT.wf,rH]at f;exact nW (λ_ _ _ _=>by simp) (rL j c _ _ _ _ _ _ (by decide) (by decide) (by decide) (by decide) (Ce j c _ (.inr rfl) _ _ _ _ _ _ k d.2.1 (g d.2.1 f.2.1)))
 |lv k n x g i m=>
  intro d f;simp only[PT.eO,gJ]at d;simp only[PT.wf,rH]at f;exact nW (λ_ _ _ _=>by simp) (Rt j c _ _ _ _ _ _ _ k d.2.1 f.2.1 (g d.2.1 f.2.1) (i d.2.2.1 f.2.2.1) (m d.2.2.2.1 f.2.2.2.1))
 |two z k n g i=>
  intro d f;simp only[PT.eO,gJ]at d;simp only[PT.wf,rH]at f;have C:=g d.2.1 f.2.1;have D:=i d.2.2.1 f.2.2.1;rcases z with rfl|rfl|rfl<;>exact nW (λ_ _ _ _=>by simp) (rL j c _ _ _ _ _ _ (by decide) (by decide) (by decide) (by decide) (Pb j c _ (by simp) _ _ _ _ _ k n d.2.1 d.2.2.1 f.2.1 C D))
 |loop k n x g i m=>
  intro d f;simp only[PT.eO,gJ]at d;simp only[PT.wf,rH]at f;exact nW (λ_ _ _ _=>by simp) (K0 j c _ _ _ _ _ _ _ _ k n x d.2.1 d.2.2.1 d.2.2.2.1 f.2.1 f.2.2.1 f.2.2.2.1 (g d.2.1 f.2.1) (i d.2.2.1 f.2.2.1) (m d.2.2.2.1 f.2.2.2.1))
 |new k g=>
  intro d f;simp only[PT.eO,gJ]at d;simp only[PT.wf,rH]at f;exact Pa j c _ _ _ _ _ (λid o b F l E r H I J s w K M N q u O=>Pj j c _ _ _ _ _ f.2.1 (g d.2.1 f.2.1) id o b F l E r H I J s w K M N q u O)
def RV.vl:RV->Vl
 |.n k=>.n k.toNat
 |.p a b _=>.p a.vl b.vl
def iF:RV->RS->List UInt8×RS
 |.n k,c=>(decDigits k.toNat,c)
 |.p a b h,c=>
  if (c.used (.p a b h)).e≠0 then ([],c.used (.p a b h))
  else (91::((iF a (c.used (.p a b h))).1++(32::((iF b (iF a (c.used (.p a b h))).2).1++[93]))),(iF b (iF a (c.used (.p a b h))).2).2)
theorem vK:∀(v:RV)(c:RS){T:Ty},v.has T->(iF v c).1.length<=7*T.size+4
 |.n k,c,.n,h=>by
  simp[RV.has]at h;simp[iF,Ty.size];have:=nU k.toNat (by omega);omega
 |.p a b d,c,.p r A B,h=>by
  unfold iF;split
  ·simp
  ·have h1:=vK a (c.used (.p a b d)) h.1;have h2:=vK b (iF a (c.used (.p a b d))).2 h.2;simp[Ty.size];omega
 |.n _,_,.p _ _ _,h=>by simp[RV.has]at h
 |.p _ _ _,_,.n,h=>by simp[RV.has]at h
theorem VE(x y):bs (91::(x++(32::(y++[93]))))=ByteArray.mk #[91]++bs x++ByteArray.mk #[32]++bs y++ByteArray.mk #[93]:=by
 apply ByteArray.ext;simp[bs]
theorem Cr{Z}(hit:nV Z)(E f:Nat)(L M N)(j):∀(v:RV)(T:Ty)(d:RS)(m:Nat)(w:World),v.has T->T.size<=63->zm w j v m->fP Z w E L M N j f d->Calls prog 44 #[ptr E,ptr m] w λe w'=>e=.returned (.string (bs (iF v d).1))/\mK w w'/\fP Z w' E L M N j f (iF v d).2
 |.n k,T,d,m,w,z,O,q,F=>by
  cases T with
  |p r A B=>simp[RV.has]at z
  |n=>
  simp only[RV.has]at z;simp only[zm]at q;obtain⟨n,rfl⟩:∃n:Nat,k=n:=⟨k.toNat,by omega⟩;have v0':cg w m 0 (.int .i64 n):=dR q rfl;have v1':cg w m 1 (.pointer none):=dR q rfl;have hvl:=aG q;have hi:=hit n w (by omega) F.b0;have hE:iF (.n (n:Int)) d=(decDigits n,d):=by simp only[iF,bL]
  show Calls _ _ #[Value.pointer (some ⟨E,0,none⟩),Value.pointer (some ⟨m,0,none⟩)] w _;go_in;go_wp2_with fail;refine hi.mono ?_;rintro _ w2 ⟨rfl,l⟩;go_wp2;go_ret;rw[hE];exact⟨rfl,mK.below l,F.grow l⟩
 |.p a b hh,T,d,m,w,z,O,q,F=>by
  cases T with
  |n=>simp[RV.has]at z
  |p r A B=>
  have C:=Hx E f L M N j d w (.p a b hh) m F q;simp only[RV.has]at z;simp only[zm]at q;simp only[Ty.size]at O;obtain⟨ba,bb,o,s,hob,QH,hvb⟩:=q;have v1':cg w m 1 (.pointer (some ⟨ba,0,none⟩)):=dR s rfl;have hvl:=aG s;have iha:=λd w q F=>Cr hit E f L M N j a A d ba w z.1 (by omega) q F;have ihb:=λd w q F=>Cr hit E f L M N j b B d bb w z.2 (by omega) q F;refine pd QH hvb s iha ihb λG P H I Q=>?_;have hla:=λd=>vK a d z.1;have hlb:=λd=>vK b d z.2;refine bY hla hlb λJ S=>?_;obtain⟨R,hR⟩:=ez (iF (.p a b hh) d);rw[<-hR];have Y:Hid _:=hR;unfold ptr at C;show Calls _ _ #[Value.pointer (some ⟨E,0,none⟩),Value.pointer (some ⟨m,0,none⟩)] w _;go_in;go_wp2_with fail;refine C.mono ?_;rintro _ w2 ⟨rfl,g,i⟩;obtain⟨u,t⟩:=ez (d.used (.p a b hh));rw[<-t]at i;have e6:=i.c.2.2.2.1;have hpl:=i.c.2.2.2.2;by_cases U:u.e=0
  ·have qe:((u.e:Int) !=0)=false:=by rw[U];rfl
   have D:R=(91::((iF a u).1++(32::((iF b (iF a u).2).1++[93]))),(iF b (iF a u).2).2):=by
    rw[Y.out];conv=>lhs;unfold iF
    rw[<-t,ag (λh=>h U)]
   have l:=g.v _ _ H;have z1:cg w2 m 1 (.pointer (some ⟨ba,0,none⟩)):=dR l rfl;have zl:=aG l;have V:=I u w2 (G.keep g uf) i;have FN:=J u;generalize iF a u=x at*;have FM:=D;unfold ptr at V;clear i D l U t Y C I G J;go_wp2_with fail;refine V.mono ?_;rintro _ w3 ⟨rfl,K,hP3⟩;have W:=K.v _ _ (g.v _ _ H);have y2:cg w3 m 2 (.pointer (some ⟨bb,0,none⟩)):=dR W rfl;have yl:=aG W;have X:=Q x.2 w3 (P.keep (g.trans K) uf) hP3;have hlm:=S x.2;generalize iF b x.2=y at*;have HI3:=g.trans K;unfold ptr at X;go_wp2_with fail;refine X.mono ?_;rintro _ w4 ⟨rfl,hi4,hP4⟩;have HI4:=HI3.trans hi4;have t1:(ByteArray.mk #[91]).size=1:=rfl;have t0:(bs x.1).size<=1000:=by rw[eB];omega
   have t2:(ByteArray.mk #[91]++bs x.1).size<=1001:=by rw[aX,t1];omega
   have t3:(ByteArray.mk #[32]).size=1:=rfl;have t4:(ByteArray.mk #[91]++bs x.1++ByteArray.mk #[32]).size<=1002:=by rw[aX,t3];omega
   have t5:(bs y.1).size<=1000:=by rw[eB];omega
   have t6:(ByteArray.mk #[91]++bs x.1++ByteArray.mk #[32]++bs y.1).size<=2002:=by rw[aX];omega
   have t7:(ByteArray.mk #[93]).size=1:=rfl;go_wp2;go_ret;rw[FM];refine⟨?_,HI4,hP4⟩;simp only;rw[VE];rfl
  ·have qe:((u.e:Int) !=0)=true:=by simp;omega
   have D:R=([],u):=by
    rw[Y.out];conv=>lhs;unfold iF
    rw[<-t,ah U]
   refine bY i g λHP2 HI2=>?_;clear i g U t Y C I G Q P J S H;go_wp2;go_ret;rw[D];exact⟨rfl,HI2,HP2⟩
theorem Cs(f)(k:Nat)(v)(a)(h:a.e≠0):(turns f k v a).2=a:=by
 cases k with
 |zero=>rfl
 |succ k=>simp only[turns];rw[ah h]
theorem pH(i:Int)(f)(k:Nat)(v)(m)(h:m.fault≠0):(j7 i f k v m).2=m:=by
 cases k with
 |zero=>rfl
 |succ k=>simp only[j7];rw[ah h]
theorem gL.kids{p:Nat}{k}{b c}{a}(h:gL (.node p k b c a)):k≠.new/\∀x∈a,gL x:=by
 cases h with
 |node d h=>exact⟨d,h⟩
theorem Rl.name(h:Rl y a)(i:Int)(v):Rl y (a.name i v):=⟨h.1,by rw[(wV a i v).1];exact h.2⟩
theorem zF(k:Sm w y a)(h:oC a.cells (.p N M) d):(a.use d).2=a/\oC a.cells N (a.use d).1.a/\oC a.cells M (a.use d).1.b:=by
 obtain⟨o,i,c,l,g,q,s⟩:=h;have t:=(ae.1 g).1;have f:=k.h c (aq g);have u:a.cells.getD d.n.toNat c0=c:=by rw[l,bL,aZ,g];rfl
 have j:a.nj c=true:=by unfold MM.nj;rw[f.1,k.r];simp[f.2]
 have e:a.use d=(c,a):=by
  unfold MM.use;rw[ag (by rw[o,l];simp;omega),u,ah j]
 rw[e];exact⟨rfl,q,s⟩
theorem K1(g:Sm w y a)(n:oC a.cells N d)(q:oC a.cells M z):Sm w {y with cells:=y.cells+1} (a.ep K d z).2/\oC (a.ep K d z).2.cells (.p N M) (a.ep K d z).1:=by
 have j:a.home K=0:=by unfold MM.home;rw[g.r];rfl
 have t:a.regs[a.home K]?=some ⟨-1,0,y.cells⟩:=by rw[j,g.r];rfl
 have A:=g.l;have B:=g.o;have x:=g.c;have e:a.ep K d z=(⟨true,a.cells.length⟩,{a with regs:=a.regs.set 0 ⟨-1,0,y.cells+1⟩,cells:=a.cells++[⟨d,z,0,0⟩],live:=a.live+1,most:=a.live+1}):=by
  unfold MM.ep;rw[t,j];rw[ah (by omega)]
 rw[e];refine⟨⟨g.e,g.f,g.s,g.le,by simp[x],by simp[g.r],by simp only;omega,by simp only;omega,?_⟩,?_⟩
 ·intro c i;simp only[aA,ax]at i;rcases i with i|rfl
  ·exact g.h c i
  ·exact⟨rfl,rfl⟩
 ·simp only[oC];exact⟨trivial,a.cells.length,⟨d,z,0,0⟩,rfl,by simp,n.mono,q.mono⟩
theorem aaB(d:Nat){G:dc}(h:WT G L T):gL L->∀(o:Sc)(f:Nat)(m:MM)(g:ni)(l:jF),L.DP->ER m.named m.cells o g G f->f+L.cnt<=m.named.length->Sm d l m->zx d (ev d L g l) (mW d L o f m) T:=by
 induction h with
 |num=>
  intro D o f m g l s z J r;simp[PT.DP]at s;exact lY r (λr=>aD ⟨r,by simp[oC];omega,by simp[Vl.has];omega⟩)
 |name hlk=>
  intro D o f m g l s z J r;simp[ev,mW];refine lY r (λr=>aD ⟨r,?_⟩);obtain⟨i,v,h1,h2,h3,h4,h5⟩:=z _ _ hlk;unfold MM.look;simp only[h1];rw[ag (by omega),bL,aZ,h3];exact⟨h4,h5⟩
 |@dV G p I Q a b A B R Y w F=>
  intro D o f m g l s z J r;have C:=D.kids.2;simp[PT.cnt,aU]at J;simp only[ev,Ao,mW,KG,bT,reduceCtorEq,aT];refine lY r (λr=>?_);have H:=jr d R o f {m with steps:=m.steps+1} s.2.1 z.ef (by simp only;omega);have h1:=w (C a (by simp)) o f {m with steps:=m.steps+1} g {l with steps:=l.steps+1} s.2.1 z (by simp only;omega) r;generalize mW d a o f {m with steps:=m.steps+1}=x at H h1⊢;have hca:=fj a;have K:x.2.named.length=m.named.length:=H.1.len;rw[show (((f+a.cnt:Nat):Int)-1)=((f+a.cnt-1:Nat):Int) from by omega];rcases h1 with⟨h1,h2,h3⟩|q
  ·have M:=ER.on (K:={m with steps:=m.steps+1}) z H.1 bS;have N:=M.snoc (nm:=I) (j:=f+a.cnt-1) (by omega) (by omega) h2 h3;rw[show f+a.cnt-1+1=f+a.cnt from by omega]at N;have O:=mQ x.2 (f+a.cnt-1) x.1 f a.cnt (by omega);exact F (C b (by simp)) _ (f+a.cnt) _ _ _ s.2.2.1 N (by rw[O.len,K];omega) (h1.name _ _)
  ·exact O3 (C b (by simp)) _ _ _ (q.name _ _) _
 |@pair G p I Q a b A B R Y hsz w F=>
  intro D o f m g l s z J r;have C:=D.kids.2;simp[PT.cnt,aU]at J;have V:ev d (.node p .pair I Q [a,b]) g l=begun d l (λl=>if (ev d b g (ev d a g l).2).2.e≠0 then (.n 0,(ev d b g (ev d a g l).2).2) else mM .pair [(ev d a g l).1,(ev d b g (ev d a g l).2).1] (ev d b g (ev d a g l).2).2):=by
   simp only[ev,lJ,reduceCtorEq,aT];rfl
  rw[V];simp only[mW,qh,bT,reduceCtorEq,aT];refine lY r (λr=>?_);have H:=jr d R o f {m with steps:=m.steps+1} s.2.1 z.ef (by simp only;omega);have h1:=w (C a (by simp)) o f {m with steps:=m.steps+1} g {l with steps:=l.steps+1} s.2.1 z (by simp only;omega) r;generalize mW d a o f {m with steps:=m.steps+1}=x at H h1⊢;generalize ev d a g {l with steps:=l.steps+1}=y at h1⊢;have K:x.2.named.length=m.named.length:=H.1.len;rcases h1 with⟨h1,h2,h3⟩|q
  ·have M:=(ER.on (K:={m with steps:=m.steps+1}) z H.1 bS).up (show f<=f+a.cnt by omega);have Z:=jr d Y o (f+a.cnt) x.2 s.2.2.1 M.ef (by omega);have E:=F (C b (by simp)) o (f+a.cnt) x.2 g y.2 s.2.2.1 M (by omega) h1;rcases E with⟨E,k2,k3⟩|q
   ·rw[ag (λD=>D E.e)];simp[mM];have hc:=K1 (K:=aQ Q) E (h2.on Z.1) k2;exact aD ⟨hc.1,hc.2,by simp[Vl.has];exact⟨h3,k3⟩⟩
   ·rw[ah (by rw[q.1];decide)];refine aE ⟨q.1,?_⟩;have:∀(m:MM) k v u,(m.ep k v u).2.fault=m.fault:=λm k v u=>by unfold MM.ep;split<;>rfl
    rw[this];exact q.2
  ·rw[yj d b g y.2 (by rw[q.1];decide),vJ d b (C b (by simp)) _ _ _ (by rw[q.2];decide)];rw[ah (by rw[q.1];decide)];refine aE ⟨q.1,?_⟩;have:∀(m:MM) k v u,(m.ep k v u).2.fault=m.fault:=λm k v u=>by unfold MM.ep;split<;>rfl
   rw[this];exact q.2
 |@fst G p I Q a A B R w=>
  intro D o f m g l s z J r;have C:=D.kids.2;simp[PT.cnt,aU]at J;have V:ev d (.node p .fst I Q [a]) g l=begun d l (λl=>if (ev d a g l).2.e≠0 then (.n 0,(ev d a g l).2) else mM .fst [(ev d a g l).1] (ev d a g l).2):=by
   simp only[ev,lJ,reduceCtorEq,aT];rfl
  rw[V];simp only[mW,qh,bT,reduceCtorEq,aT];refine lY r (λr=>?_);have h1:=w (C a (by simp)) o f {m with steps:=m.steps+1} g {l with steps:=l.steps+1} s.2.1 z (by simp only;omega) r;generalize mW d a o f {m with steps:=m.steps+1}=x at h1⊢;generalize ev d a g {l with steps:=l.steps+1}=y at h1⊢;rcases h1 with⟨h1,h2,h3⟩|q
  ·rw[ag (λD=>D h1.e)];obtain⟨S,y2⟩:=y;cases S with
   |n k=>simp[Vl.has]at h3
   |p u v=>
    have hu:=zF h1 h2;rw[hu.1];exact aD ⟨h1,hu.2.1,h3.1⟩
  ·rw[ah (by rw[q.1];decide)];refine aE ⟨q.1,?_⟩;have:(x.2.use x.1).2.fault=x.2.fault:=by
    unfold MM.use;split
    ·rfl
    ·simp only;split
     ·rfl
     ·rw[qz _ _ (by rw[q.2];decide)]
   rw[this];exact q.2
 |@snd G p I Q a A B R w=>
  intro D o f m g l s z J r;have C:=D.kids.2;simp[PT.cnt,aU]at J;have V:ev d (.node p .snd I Q [a]) g l=begun d l (λl=>if (ev d a g l).2.e≠0 then (.n 0,(ev d a g l).2) else mM .snd [(ev d a g l).1] (ev d a g l).2):=by
   simp only[ev,lJ,reduceCtorEq,aT];rfl
  rw[V];simp only[mW,qh,reduceCtorEq,aT];refine lY r (λr=>?_);have h1:=w (C a (by simp)) o f {m with steps:=m.steps+1} g {l with steps:=l.steps+1} s.2.1 z (by simp only;omega) r;generalize mW d a o f {m with steps:=m.steps+1}=x at h1⊢;generalize ev d a g {l with steps:=l.steps+1}=y at h1⊢;rcases h1 with⟨h1,h2,h3⟩|q
  ·rw[ag (λD=>D h1.e)];obtain⟨S,y2⟩:=y;cases S with
   |n k=>simp[Vl.has]at h3
   |p u v=>
    have hu:=zF h1 h2;rw[hu.1];exact aD ⟨h1,hu.2.2,h3.2⟩
  ·rw[ah (by rw[q.1];decide)];refine aE ⟨q.1,?_⟩;have:(x.2.use x.1).2.fault=x.2.fault:=by
    unfold MM.use;split
    ·rfl
    ·simp only;split
     ·rfl
     ·rw[qz _ _ (by rw[q.2];decide)]
   rw[this];exact q.2
 |@lv G p I Q a b c T R Y hc w F W=>
  intro D o f m g l s z J r;have C:=D.kids.2;simp[PT.cnt,aU]at J;simp only[ev,DM,mW,Yu,bT,reduceCtorEq,aT];refine lY r (λr=>?_);have H:=jr d R o f {m with steps:=m.steps+1} s.2.1 z.ef (by simp only;omega);have h1:=w (C a (by simp)) o f {m with steps:=m.steps+1} g {l with steps:=l.steps+1} s.2.1 z (by simp only;omega) r;generalize mW d a o f {m with steps:=m.steps+1}=x at H h1⊢;generalize ev d a g {l with steps:=l.steps+1}=y at h1⊢;have K:x.2.named.length=m.named.length:=H.1.len;rcases h1 with⟨h1,h2,h3⟩|q
  ·have M:=ER.on (K:={m with steps:=m.steps+1}) z H.1 bS;obtain⟨S,y2⟩:=y;cases S with
   |p u v=>simp[Vl.has]at h3
   |n k=>
    simp[oC]at h2;split
    ·rename_i hz;simp[Vl.num]at hz;rw[ah (show x.1.n≠0 by omega)];exact F (C b (by simp)) o (f+a.cnt) x.2 g _ s.2.2.1 (M.up (by omega)) (by omega) h1
    ·rename_i hz;simp[Vl.num]at hz;rw[ag (show ¬x.1.n≠0 by omega)];exact W (C c (by simp)) o (f+a.cnt+b.cnt) x.2 g _ s.2.2.2.1 (M.up (by omega)) (by omega) h1
  ·have e1:(if y.1.num≠0 then ev d b g y.2 else ev d c g y.2)=(.n 0,y.2):=by split<;>exact yj d _ g y.2 (by rw[q.1];decide)
   have e2:(if x.1.n≠0 then mW d b o (f+a.cnt) x.2 else mW d c o (f+a.cnt+b.cnt) x.2)=(v0,x.2):=by
    split
    ·exact vJ d b (C b (by simp)) _ _ _ (by rw[q.2];decide)
    ·exact vJ d c (C c (by simp)) _ _ _ (by rw[q.2];decide)
   rw[e1,e2];exact aE q
 |@two G p k I Q a b X R Y w F=>
  intro D o f m g l s z J r;have C:=D.kids.2;simp[PT.cnt,aU]at J;have e:mW d (.node p k I Q [a,b]) o f m=jj d m (λm=>(⟨false,qI k (mW d a o f m).1.n (mW d b o (f+a.cnt) (mW d a o f m).2).1.n⟩,(mW d b o (f+a.cnt) (mW d a o f m).2).2)):=by
   rcases X with rfl|rfl|rfl<;>simp only[mW,qh,reduceCtorEq,aT]
  have V:ev d (.node p k I Q [a,b]) g l=begun d l (λl=>if (ev d b g (ev d a g l).2).2.e≠0 then (.n 0,(ev d b g (ev d a g l).2).2) else mM k [(ev d a g l).1,(ev d b g (ev d a g l).2).1] (ev d b g (ev d a g l).2).2):=by
   rcases X with rfl|rfl|rfl<;>(simp only[ev,lJ,reduceCtorEq,aT];rfl)
  rw[e,V];refine lY r (λr=>?_);have H:=jr d R o f {m with steps:=m.steps+1} s.2.1 z.ef (by simp only;omega);have h1:=w (C a (by simp)) o f {m with steps:=m.steps+1} g {l with steps:=l.steps+1} s.2.1 z (by simp only;omega) r;generalize mW d a o f {m with steps:=m.steps+1}=x at H h1⊢;generalize ev d a g {l with steps:=l.steps+1}=y at h1⊢;have K:x.2.named.length=m.named.length:=H.1.len;rcases h1 with⟨h1,h2,h3⟩|q
  ·have M:=(ER.on (K:={m with steps:=m.steps+1}) z H.1 bS).up (show f<=f+a.cnt by omega);have E:=F (C b (by simp)) o (f+a.cnt) x.2 g y.2 s.2.2.1 M (by omega) h1;generalize mW d b o (f+a.cnt) x.2=x' at E⊢;generalize ev d b g y.2=y' at E⊢;rcases E with⟨E,k2,k3⟩|q
   ·rw[ag (λD=>D E.e)];obtain⟨S,y2⟩:=y;obtain⟨z1,z2⟩:=y';cases S with
    |p u v=>simp[Vl.has]at h3
    |n i=>
     cases z1 with
     |p u v=>simp[Vl.has]at k3
     |n j=>
      simp[oC]at h2 k2;refine aD ?_;rcases X with rfl|rfl|rfl
      ·simp only[mM,Vl.num,qI,bT];refine⟨E,?_,by simp[Vl.has];omega⟩;simp[oC];rw[dD (by omega)];omega
      ·simp only[mM,Vl.num,qI,bT,reduceCtorEq,aT];refine⟨E,?_,by simp[Vl.has];omega⟩;simp[oC];rw[dD (by omega)];omega
      ·simp only[mM,qI,reduceCtorEq,aT];by_cases U:i<j
       ·have hq:x.1.n<x'.1.n:=by omega
        exact⟨E,by simp[oC,Vl.num,U,hq],by simp[Vl.has,Vl.num,U]⟩
       ·have hq:¬x.1.n<x'.1.n:=by omega
        exact⟨E,by simp[oC,Vl.num,U,hq],by simp[Vl.has,Vl.num,U]⟩
   ·rw[ah (by rw[q.1];decide)];exact aE q
  ·rw[yj d b g y.2 (by rw[q.1];decide),vJ d b (C b (by simp)) _ _ _ (by rw[q.2];decide)];rw[ah (by rw[q.1];decide)];exact aE q
 |@loop G p I Q a b c T R Y hc w F W=>
  intro D o f m g l s z J r;have C:=D.kids.2;simp[PT.cnt,aU]at J;simp only[ev,s8,mW,B6,bT,reduceCtorEq,aT];refine lY r (λr=>?_);have H:=jr d R o f {m with steps:=m.steps+1} s.2.1 z.ef (by simp only;omega);have h1:=w (C a (by simp)) o f {m with steps:=m.steps+1} g {l with steps:=l.steps+1} s.2.1 z (by simp only;omega) r;generalize mW d a o f {m with steps:=m.steps+1}=x at H h1⊢;generalize ev d a g {l with steps:=l.steps+1}=y at h1⊢;have K:x.2.named.length=m.named.length:=H.1.len;rcases h1 with⟨h1,h2,h3⟩|q
  ·have M:=ER.on (K:={m with steps:=m.steps+1}) z H.1 bS;have Z:=jr d Y o (f+a.cnt) x.2 s.2.2.1 (M.up (by omega)).ef (by omega);have E:=F (C b (by simp)) o (f+a.cnt) x.2 g y.2 s.2.2.1 (M.up (by omega)) (by omega) h1;generalize mW d b o (f+a.cnt) x.2=x' at Z E⊢;generalize ev d b g y.2=y' at E⊢;have YN:=Z.1.len.trans K;have DQ:=fj b;rw[show (((f+a.cnt+b.cnt:Nat):Int)-1)=((f+a.cnt+b.cnt-1:Nat):Int) from by omega];rcases E with⟨E,k2,k3⟩|q
   ·have RN:x.1.n.toNat=y.1.num:=by
     obtain⟨S,y2⟩:=y;cases S with
     |p u v=>simp[Vl.has]at h3
     |n k=>simp[oC]at h2;simp[Vl.num];omega
    rw[RN];refine Ex (P:=λm'=>ER m'.named m'.cells o g G f/\m'.named.length=m.named.length) (λst' m' v u hP hs' hr' ht'=>?_) _ _ _ _ _ ⟨M.on Z.1 (by omega),YN⟩ E k2 k3;have N:=ER.snoc (nm:=I) (j:=f+a.cnt+b.cnt-1) (ER.up hP.1 (show f<=f+a.cnt+b.cnt-1 by omega)) bS (by omega) hr' ht';rw[show f+a.cnt+b.cnt-1+1=f+a.cnt+b.cnt from by omega]at N;have O:=mQ m' (f+a.cnt+b.cnt-1) u (f+a.cnt+b.cnt-1) 1 (by omega);have hg':=jr d hc _ (f+a.cnt+b.cnt) _ s.2.2.2.1 N.ef (by rw[O.len];omega);refine⟨W (C c (by simp)) _ (f+a.cnt+b.cnt) _ _ _ s.2.2.2.1 N (by rw[O.len];omega) (hs'.name _ _),ER.on (hP.1.on O (by omega)) hg'.1 (by omega),hg'.1.len.trans (O.len.trans hP.2)⟩
   ·have e1:=Cs (λv l=>ev d c (g++[(I,v)]) l) y.1.num y'.1 y'.2 (by rw[q.1];decide);have e2:=pH (((f+a.cnt+b.cnt-1:Nat):Int)) (λm=>mW d c (o++[(I,((f+a.cnt+b.cnt-1:Nat):Int))]) (f+a.cnt+b.cnt) m) x.1.n.toNat x'.1 x'.2 (by rw[q.2];decide);exact aE ⟨by rw[e1];exact q.1,by rw[e2];exact q.2⟩
  ·rw[yj d b g y.2 (by rw[q.1];decide),vJ d b (C b (by simp)) _ _ _ (by rw[q.2];decide)];exact aE ⟨by rw[Cs (λv l=>ev d c (g++[(I,v)]) l) y.1.num (.n 0) y.2 (by rw[q.1];decide)];exact q.1,by rw[pH ((((f+a.cnt+b.cnt:Nat):Int)-1)) (λm=>mW d c (o++[(I,(((f+a.cnt+b.cnt:Nat):Int)-1))]) (f+a.cnt+b.cnt) m) x.1.n.toNat v0 x.2 (by rw[q.2];decide)];exact q.2⟩
 |new _ _=>
  intro D;exact absurd rfl D.kids.1
def nn(d:List MC)(e:List (Nat×Nat)):RV->MV->Prop
 |.n k,v=>v.c=false/\v.n=k
 |.p a b h,v=>v.c=true/\∃(i:Nat)(c:MC),v.n=i/\d[i]?=some c/\e[h]?=some (c.home,c.lA)/\nn d e a c.a/\nn d e b c.b
theorem Io{a:Type}{l b:List a}(h:l <+: b){x:a}(c:l[w]?=some x):b[w]?=some x:=by
 obtain⟨t,rfl⟩:=h;rw[ak (ae.1 c).1];exact c
theorem nn.mono{e d}{k f}(g:e <+: d)(j:k <+: f):∀{x:RV}{v:MV},nn e k x v->nn d f x v
 |.n _,_,h=>h
 |.p a b q,_,h=>by
  obtain⟨h1,i,c,h2,h3,l,m,o⟩:=h;exact⟨h1,i,c,h2,Io g h3,Io j l,nn.mono g j m,nn.mono g j o⟩
theorem Ext.pre{d}(h:Ext a d w x):a.cells <+: d.cells:=by
 obtain⟨l,e⟩:=h.cells;exact⟨l,e.symm⟩
theorem nn.fits{e}:∀{x:RV}{T:Ty}{v:MV},nn e b x v->x.has T->Fits e T v
 |.n k,.n,v,h,f=>by simp[nn]at h;simp[RV.has]at f;simp[Fits];exact⟨h.1,by omega,by omega⟩
 |.p a d q,.p _ A B,v,h,f=>by
  obtain⟨g,i,c,j,l,_,m,o⟩:=h;exact aE ⟨g,i,c,j,l,m.fits f.1,o.fits f.2⟩
 |.n _,.p _ _ _,_,_,f=>by simp[RV.has]at f
 |.p _ _ _,.n,_,_,f=>by simp[RV.has]at f
def ig:Int×Int->List Int->Int×Int
 |p,[]=>p
 |p,x::r=>ig (p.1+x,if p.2<p.1+x then p.1+x else p.2) r
theorem oR:∀(t:List Int)(p:Int×Int)(x:Int),ig p (t++[x])=((ig p t).1+x,if (ig p t).2<(ig p t).1+x then (ig p t).1+x else (ig p t).2)
 |[],p,x=>rfl
 |y::t,p,x=>by simp[ig];exact oR t _ x
theorem Ip:∀(t:List Int)(p:Int×Int),p.1<=p.2->(ig p t).1<=(ig p t).2
 |[],p,h=>h
 |y::t,p,h=>by
  refine Ip t _ ?_;split<;>omega
structure Be(fuel:Nat)(sp:List (Nat×Nat))(st:RS)(m:MM): Prop where
 e:st.e=0
 f:m.fault=0
 s:m.steps=st.steps
 le:st.steps<=fuel
 c:m.cells.length=st.cells
 n:sp.length=st.ops.length
 r0:∃c,m.regs[0]?=some ⟨-1,0,c⟩
 rl:m.regs.length=st.opn.length+1
 r:∀(j h:Nat),st.opn[j]?=some h->∃o s,st.ops[h]?=some o/\o.ended=false/\sp[h]?=some (j+1,s)/\m.regs[j+1]?=some ⟨o.uj,s,o.cells⟩
 w:∀h∈st.ky,∃o,st.ops[h]?=some o/\o.ended=false/\sp[h]?=some (0,0)
 al:∀(h:Nat)(o:RO),st.ops[h]?=some o->o.ended=false->(∃j:Nat,st.opn[j]?=some h)\/h∈st.ky
 dd:∀(h:Nat)(o:RO)(x:Nat×Nat),st.ops[h]?=some o->o.ended=true->sp[h]?=some x->∀(q:Nat)(r:MR),m.regs[q]?=some r->r.lA≠x.2
 rd:∀(q q':Nat)(r r':MR),m.regs[q]?=some r->m.regs[q']?=some r'->r.lA=r'.lA->q=q'
 ro:∀(q:Nat)(r:MR),m.regs[q]?=some r->r.lA<m.opened
 so:∀(h:Nat)(x:Nat×Nat),sp[h]?=some x->x.2<m.opened
 l:m.live=(ig (0,0) st.dq).1
 mo:m.most=(ig (0,0) st.dq).2
theorem Be.name{d:Nat}{g}(h:Be d b g a)(i:Int)(v):Be d b g (a.name i v):=by
 unfold MM.name;split
 ·exact⟨h.e,h.f,h.s,h.le,h.c,h.n,h.r0,h.rl,h.r,h.w,h.al,h.dd,h.rd,h.ro,h.so,h.l,h.mo⟩
 ·exact h
theorem Iq{i:Nat}(g:Be i b c a){d}(e:b[x]?=some (d.home,d.lA)):∃o,c.ops[x]?=some o/\a.nj d=!o.ended:=by
 have q:x<c.ops.length:=by rw[<-g.n];exact (ae.1 e).1
 refine⟨c.ops[x],aa q,?_⟩;have l:=aa q;generalize c.ops[x]=o at l⊢;cases k:o.ended with
 |false=>
  unfold MM.nj;rcases g.al x o l k with⟨j,t⟩|u
  ·obtain⟨v,s,_,_,f,y⟩:=g.r j x t;rw[e]at f;simp at f;rw[f.1,y,f.2];simp
  ·obtain⟨v,_,_,f⟩:=g.w x u;rw[e]at f;simp at f;obtain⟨A,p⟩:=g.r0;rw[f.1,p,f.2];simp
 |true=>
  unfold MM.nj;cases z:a.regs[d.home]? with
  |none=>simp
  |some r=>
   have:=g.dd x o _ l k e d.home r z;simp;exact this
theorem xe(l:Be w b c a)(y:nn a.cells b (.p v u x) d):nn a.cells b v (a.use d).1.a/\nn a.cells b u (a.use d).1.b/\((c.used (.p v u x)=c/\(a.use d).2=a)\/((c.used (.p v u x)).e=13/\(a.use d).2.fault=13)):=by
 obtain⟨z,i,g,r,s,q,A,B⟩:=y;have C:=(ae.1 s).1;have D:a.cells.getD d.n.toNat c0=g:=by rw[r,bL,aZ,s];rfl
 have e:a.use d=(g,if a.nj g=true then a else a.stop 13):=by
  unfold MM.use;rw[ag (by rw[z,r];simp;omega),D]
 obtain⟨o,t,k⟩:=Iq l q;rw[e];refine⟨A,B,?_⟩;cases j:o.ended with
 |false=>
  refine aD ⟨?_,?_⟩
  ·unfold RS.used;simp only;rw[ag (by rw[t];simp[j])]
  ·simp only;rw[ah (by rw[k,j];rfl)]
 |true=>
  refine aE ⟨?_,?_⟩
  ·unfold RS.used;simp only;rw[ah ⟨l.e,by rw[t];simp[j]⟩]
  ·simp only;rw[ag (by rw[k,j];decide)];unfold MM.stop;rw[ah l.f]
theorem EC{e:Nat}{i}{a}{m}(h:Be e i a m)(b:Int):∀n,n<=a.opn.length->((a.opn.take n).reverse.find? (a.J2 b)=none/\rJ m.regs b n=0)\/∃j d,a.opn[j]?=some d/\(a.opn.take n).reverse.find? (a.J2 b)=some d/\rJ m.regs b n=j+1
 |0,_=>aD ⟨rfl,rfl⟩
 |n+1,q=>by
  have f:n<a.opn.length:=by omega
  have c:=aa f;rw[x8 f];generalize a.opn[n]=d at c⊢;obtain⟨o,s,k,_,_,l⟩:=h.r n d c;have p:a.J2 b d=(some o.uj==some b):=by unfold RS.J2;rw[k];rfl
  unfold rJ;rw[l,p];by_cases g:o.uj=b
  ·rw[ah (by simp[g]),ah (by simp[g])];exact aE ⟨n,d,c,rfl,rfl⟩
  ·rw[ag (by simp[g]),ag (by simp[g])];exact EC h b n (by omega)
theorem FP{v:Nat}(g:Be v b c a)(p:Int):∃A,b <+: A/\Be v A (c.gm p).2 a/\((∃j,(c.gm p).2.opn[j]?=some (c.gm p).1/\a.home p=j+1)\/((c.gm p).1∈(c.gm p).2.ky/\a.home p=0)):=by
 have K:a.home p=rJ a.regs p c.opn.length:=by unfold MM.home;rw[g.rl];rfl
 have J:=EC g p c.opn.length bS;rw[fR]at J;rw[K];rcases J with⟨h1,h2⟩|⟨j,k,h1,h2,h3⟩
 ·cases F:c.ky.find? (c.J2 p) with
  |some i=>
   have e:c.gm p=(i,c):=by unfold RS.gm RS.sW;rw[h1,F]
   rw[e];exact⟨b,uf,g,aE ⟨dU F,h2⟩⟩
  |none=>
   have e:c.gm p=(c.ops.length,{c with ops:=c.ops++[⟨p,0,false⟩],ky:=c.ky++[c.ops.length]}):=by unfold RS.gm RS.sW;rw[h1,F]
   rw[e];have B:∀{h:Nat}{o:RO},c.ops[h]?=some o->(c.ops++[⟨p,0,false⟩])[h]?=some o:=λt=>Io (dm _ _) t;have C:∀{h:Nat}{o:Nat×Nat},b[h]?=some o->(b++[(0,0)])[h]?=some o:=λt=>Io (dm _ _) t;have y:∀{h:Nat}{o:RO},(c.ops++[⟨p,0,false⟩])[h]?=some o->c.ops[h]?=some o\/(h=c.ops.length/\o=⟨p,0,false⟩):=by
    intro h o t;by_cases D:h<c.ops.length
    ·rw[ak D]at t;exact aD t
    ·have:h=c.ops.length:=by have:=(ae.1 t).1;simp at this;omega
     subst this;simp at t;exact aE ⟨rfl,t.symm⟩
   have L:0<a.opened:=by
    obtain⟨d,M⟩:=g.r0;exact g.ro 0 _ M
   refine⟨b++[(0,0)],dm _ _,⟨g.e,g.f,g.s,g.le,g.c,by simp[g.n],g.r0,g.rl,?_,?_,?_,?_,g.rd,g.ro,?_,g.l,g.mo⟩,aE ⟨by simp,h2⟩⟩
   ·intro j h N;obtain⟨o,s,G,H,I,O⟩:=g.r j h N;exact⟨o,s,B G,H,C I,O⟩
   ·intro h E;simp only[aA,ax]at E;rcases E with E|rfl
    ·obtain⟨o,G,H,I⟩:=g.w h E;exact⟨o,B G,H,C I⟩
    ·exact⟨⟨p,0,false⟩,by simp,rfl,by rw[<-g.n];simp⟩
   ·intro h o t u;rcases y t with t|⟨rfl,rfl⟩
    ·rcases g.al h o t u with h1|h1
     ·exact aD h1
     ·exact aE (by simp[h1])
    ·exact aE (by simp)
   ·intro h o x t u z q r P;rcases y t with t|⟨rfl,rfl⟩
    ·have D:h<b.length:=by rw[g.n];exact (ae.1 t).1
     rw[ak D]at z;exact g.dd h o x t u z q r P
    ·simp at u
   ·intro h x z;by_cases D:h<b.length
    ·rw[ak D]at z;exact g.so h x z
    ·have:h=b.length:=by have:=(ae.1 z).1;simp at this;omega
     subst this;simp at z;subst z;exact L
 ·have e:c.gm p=(k,c):=by unfold RS.gm RS.sW;rw[h2]
  rw[e];exact⟨b,uf,g,aD ⟨j,h1,h3⟩⟩
theorem K2{F:Nat}(t:Be F b c a)(hi:(∃j,c.opn[j]?=some x/\a.home K=j+1)\/(x∈c.ky/\a.home K=0))(ha:nn a.cells b v d)(hb:nn a.cells b u z):Be F b (c.one x) (a.ep K d z).2/\nn (a.ep K d z).2.cells b (.p v u x) (a.ep K d z).1:=by
 obtain⟨r,O,G,W⟩:∃r,a.regs[a.home K]?=some r/\b[x]?=some (a.home K,r.lA)/\∀o,c.ops[x]?=some o->(∃j,c.opn[j]?=some x/\a.home K=j+1)->r=⟨o.uj,r.lA,o.cells⟩:=by
  rcases hi with⟨j,P,Q⟩|⟨X,Q⟩
  ·obtain⟨o,s,M,R,C,N⟩:=t.r j x P;rw[Q];exact⟨_,N,C,λD S _=>by rw[M]at S;cases S;rfl⟩
  ·obtain⟨o,M,R,C⟩:=t.w x X;obtain⟨g,T⟩:=t.r0;rw[Q];exact⟨_,T,C,λD _ ⟨j,_,P⟩=>by omega⟩
 have ef:a.ep K d z=(⟨true,a.cells.length⟩,{a with regs:=a.regs.set (a.home K) {r with cells:=r.cells+1},cells:=a.cells++[⟨d,z,a.home K,r.lA⟩],live:=a.live+1,most:=if a.most<a.live+1 then a.live+1 else a.most}):=by unfold MM.ep;rw[O]
 rw[ef];have I:=(ae.1 O).1;generalize a.home K=p at*;have y:∀{q:Nat}{U:MR},(a.regs.set p {r with cells:=r.cells+1})[q]?=some U->∃r0,a.regs[q]?=some r0/\r0.lA=U.lA:=by
  intro q U E;by_cases e:p=q
  ·subst e;rw[bh I]at E;cases E;exact⟨r,O,rfl⟩
  ·rw[bI e]at E;exact⟨U,E,rfl⟩
 have H:∀{h:Nat}{o:RO},(c.ops.modify x (λo=>{o with cells:=o.cells+1}))[h]?=some o->∃D,c.ops[h]?=some D/\D.ended=o.ended:=by
  intro h o A;rw[eJ]at A;cases E:c.ops[h]? with
  |none=>rw[E]at A;simp at A
  |some D=>
   rw[E]at A;simp at A;exact⟨D,rfl,by rw[<-A];split<;>rfl⟩
 have B:∀{h:Nat}{o:RO},c.ops[h]?=some o->(c.ops.modify x (λo=>{o with cells:=o.cells+1}))[h]?=some (if x=h then {o with cells:=o.cells+1} else o):=by
  intro h o A;rw[eJ,A];rfl
 refine⟨⟨t.e,t.f,t.s,t.le,by simp[RS.one,t.c],by simp[RS.one,t.n],?_,by simp[RS.one,t.rl],?_,?_,?_,?_,?_,?_,t.so,?_,?_⟩,?_⟩
 ·obtain⟨g,T⟩:=t.r0;by_cases e:p=0
  ·subst e;rw[O]at T;cases T;exact⟨g+1,by simp only;rw[bh I]⟩
  ·exact⟨g,by simp only;rw[bI e];exact T⟩
 ·intro j h P;obtain⟨o,s,M,R,C,N⟩:=t.r j h P;refine⟨_,s,B M,by split<;>exact R,C,?_⟩;by_cases e:x=h
  ·subst e;have hp:p=j+1/\r.lA=s:=by rw[G]at C;simp at C;exact C
   rw[ah rfl,<-hp.1,bh I];rw[<-hp.1,O]at N;simp at N;rw[N]
  ·rw[ag e];have Y:p≠j+1:=by
    intro hpe;rcases hi with⟨j',Z,Q⟩|⟨_,Q⟩
    ·have:j'=j:=by omega
     subst this;have V:c.opn[j']?=some h:=P;rw[Z]at V;cases V;exact e rfl
    ·omega
   rw[bI Y];exact N
 ·intro h X;obtain⟨o,M,R,C⟩:=t.w h X;exact⟨_,B M,by split<;>exact R,C⟩
 ·intro h o A J;obtain⟨D,h1,h2⟩:=H A;exact t.al h D h1 (h2.trans J)
 ·intro h o k A J hx q U E;obtain⟨D,h1,h2⟩:=H A;obtain⟨r1,h3,h4⟩:=y E;rw[<-h4];exact t.dd h D k h1 (h2.trans J) hx q r1 h3
 ·intro q q' r1 r2 h1 h2 h3;obtain⟨L,a1,a2⟩:=y h1;obtain⟨r2',b1,b2⟩:=y h2;exact t.rd q q' L r2' a1 b1 (by rw[a2,b2];exact h3)
 ·intro q r1 h1;obtain⟨L,a1,a2⟩:=y h1;rw[<-a2];exact t.ro q L a1
 ·simp[RS.one];rw[oR,t.l]
 ·simp[RS.one];rw[oR,t.l,t.mo]
 ·simp only[nn];refine⟨trivial,a.cells.length,⟨d,z,p,r.lA⟩,rfl,by simp,G,ha.mono (dm _ _) uf,hb.mono (dm _ _) uf⟩
theorem Ir(g:Be w b c a)(f:Int)(h:nn a.cells b v d)(i:nn a.cells b u z):∃e,b <+: e/\Be w e (tS f v u c).2 (a.ep f d z).2/\nn (a.ep f d z).2.cells e (tS f v u c).1 (a.ep f d z).1:=by
 obtain⟨e,h1,h2,h3⟩:=FP g f;have:=K2 h2 h3 (h.mono uf h1) (i.mono uf h1);exact⟨e,h1,this⟩
theorem DR{y:Nat}(i:Be y b c a)(p:Int):Be y (b++[(c.opn.length+1,a.opened)]) (c.opened p) (a.opn p):=by
 have B:∀{h:Nat}{o:RO},c.ops[h]?=some o->(c.ops++[⟨p,0,false⟩])[h]?=some o:=λg=>Io (dm _ _) g;have C:∀{h:Nat}{o:Nat×Nat},b[h]?=some o->(b++[(c.opn.length+1,a.opened)])[h]?=some o:=λg=>Io (dm _ _) g;have D:∀{h:Nat}{o:MR},a.regs[h]?=some o->(a.regs++[⟨p,a.opened,0⟩])[h]?=some o:=λg=>Io (dm _ _) g;have z:∀{h:Nat}{o:RO},(c.ops++[⟨p,0,false⟩])[h]?=some o->c.ops[h]?=some o\/(h=c.ops.length/\o=⟨p,0,false⟩):=by
  intro h o g;by_cases t:h<c.ops.length
  ·rw[ak t]at g;exact aD g
  ·have:h=c.ops.length:=by have:=(ae.1 g).1;simp at this;omega
   subst this;simp at g;exact aE ⟨rfl,g.symm⟩
 have k:∀{q:Nat}{r:MR},(a.regs++[⟨p,a.opened,0⟩])[q]?=some r->a.regs[q]?=some r\/(q=a.regs.length/\r=⟨p,a.opened,0⟩):=by
  intro h o g;by_cases t:h<a.regs.length
  ·rw[ak t]at g;exact aD g
  ·have:h=a.regs.length:=by have:=(ae.1 g).1;simp at this;omega
   subst this;simp at g;exact aE ⟨rfl,g.symm⟩
 refine⟨i.e,i.f,i.s,i.le,i.c,by simp[RS.opened,i.n],?_,by simp[RS.opened,MM.opn,i.rl],?_,?_,?_,?_,?_,?_,?_,i.l,i.mo⟩
 ·obtain⟨d,L⟩:=i.r0;exact⟨d,D L⟩
 ·intro j h A;simp[RS.opened]at A;by_cases t:j<c.opn.length
  ·rw[ak t]at A;obtain⟨o,s,E,F,G,M⟩:=i.r j h A;exact⟨o,s,B E,F,C G,D M⟩
  ·have:j=c.opn.length:=by have:=(ae.1 A).1;simp at this;omega
   subst this;simp at A;subst A;refine⟨⟨p,0,false⟩,a.opened,by simp[RS.opened],rfl,by rw[<-i.n];simp,?_⟩;simp[MM.opn];rw[<-i.rl];simp
 ·intro h H;obtain⟨o,E,F,G⟩:=i.w h H;exact⟨o,B E,F,C G⟩
 ·intro h o g u;rcases z g with g|⟨rfl,rfl⟩
  ·rcases i.al h o g u with⟨j,A⟩|H
   ·exact aD ⟨j,Io (dm _ _) A⟩
   ·exact aE H
  ·exact aD ⟨c.opn.length,by simp[RS.opened]⟩
 ·intro h o x g u v q r I;rcases z g with g|⟨rfl,rfl⟩
  ·have t:h<b.length:=by rw[i.n];exact (ae.1 g).1
   rw[ak t]at v;rcases k I with I|⟨_,rfl⟩
   ·exact i.dd h o x g u v q r I
   ·have:=i.so h x v;simp only;omega
  ·simp at u
 ·intro q J r K h1 h2 h3;rcases k h1 with h1|⟨E,rfl⟩
  ·rcases k h2 with h2|⟨_,rfl⟩
   ·exact i.rd q J r K h1 h2 h3
   ·have:=i.ro q r h1;simp only at h3;omega
  ·rcases k h2 with h2|⟨F,rfl⟩
   ·have:=i.ro J K h2;simp only at h3;omega
   ·omega
 ·intro q r h1;simp[MM.opn];rcases k h1 with h1|⟨_,rfl⟩
  ·have:=i.ro q r h1;omega
  ·simp
 ·intro h x v;simp[MM.opn];by_cases t:h<b.length
  ·rw[ak t]at v;have:=i.so h x v;omega
  ·have:h=b.length:=by have:=(ae.1 v).1;simp at this;omega
   subst this;simp at v;subst v;simp
theorem Iu{E:Nat}{l}(k:Be E b c a)(K:c.opn=l++[x]):Be E b (c.shut x) a.fin:=by
 have M:c.opn[l.length]?=some x:=by rw[K];simp
 obtain⟨o,s,T,e2,N,U⟩:=k.r l.length x M;have O:a.regs.length=l.length+2:=by rw[k.rl,K];simp
 have G:a.regs.getLast?=some ⟨o.uj,s,o.cells⟩:=by
  rw[jY,O];exact U
 have V:a.fin={a with live:=a.live-o.cells,regs:=a.regs.dropLast}:=by unfold MM.fin;rw[G]
 rw[V];have p:∀{q:Nat}{r:MR},a.regs.dropLast[q]?=some r->q<l.length+1/\a.regs[q]?=some r:=by
  intro q r D;have h1:=(ae.1 D).1;rw[List.length_dropLast]at h1;have h2:q<l.length+1:=by omega
  rw[lF,ah (by omega)]at D;exact⟨h2,D⟩
 have v:∀{q:Nat}{r:MR},q<l.length+1->a.regs[q]?=some r->a.regs.dropLast[q]?=some r:=by
  intro q r h1 D;rw[lF,ah (by omega)];exact D
 have F:∀{h:Nat}{o:RO},(c.ops.modify x (λo=>{o with ended:=true}))[h]?=some o->∃t,c.ops[h]?=some t/\o=if x=h then {t with ended:=true} else t:=by
  intro h o u;rw[eJ]at u;cases D:c.ops[h]? with
  |none=>rw[D]at u;simp at u
  |some t=>
   rw[D]at u;simp at u;exact⟨t,rfl,u.symm⟩
 have y:∀{h:Nat}{o:RO},x≠h->c.ops[h]?=some o->(c.ops.modify x (λo=>{o with ended:=true}))[h]?=some o:=by
  intro h o z u;rw[eJ,u];simp[z]
 refine⟨k.e,k.f,k.s,k.le,k.c,by simp[RS.shut,k.n],?_,?_,?_,?_,?_,?_,?_,?_,k.so,?_,?_⟩
 ·obtain⟨d,W⟩:=k.r0;exact⟨d,v (by omega) W⟩
 ·simp[RS.shut];rw[K];simp;omega
 ·intro j h A;simp only[RS.shut]at A⊢;rw[K,eX]at A;have H:=(ae.1 A).1;have P:c.opn[j]?=some h:=by rw[K,ak H];exact A
  obtain⟨t,X,I,B,J,Y⟩:=k.r j h P;have z:x≠h:=by
   intro e;subst e;rw[N]at J;simp at J;omega
  exact⟨t,X,y z I,B,J,v (by omega) Y⟩
 ·intro h Q;obtain⟨t,I,B,J⟩:=k.w h Q;have z:x≠h:=by
   intro e;subst e;rw[N]at J;simp at J
  exact⟨t,y z I,B,J⟩
 ·intro h t u C;obtain⟨Z,I,B⟩:=F u;by_cases e:x=h
  ·rw[ah e]at B;rw[B]at C;simp at C
  ·rw[ag e]at B;subst B;rcases k.al h t I C with⟨j,A⟩|Q
   ·refine aD ⟨j,?_⟩;simp[RS.shut];rw[K]at A⊢;rw[eX];by_cases H:j<l.length
    ·rw[ak H]at A;exact A
    ·have:j=l.length:=by have:=(ae.1 A).1;simp at this;omega
     subst this;simp at A;exact absurd A e
   ·exact aE Q
 ·intro h t g u C R q r D;obtain⟨hq1,L⟩:=p D;obtain⟨Z,I,B⟩:=F u;by_cases e:x=h
  ·subst e;rw[N]at R;cases R;intro S;have:=k.rd q (l.length+1) r _ L U S;omega
  ·rw[ag e]at B;subst B;exact k.dd h t g I C R q r L
 ·intro q q' r r' h1 h2 h3;exact k.rd q q' r r' (p h1).2 (p h2).2 h3
 ·intro q r h1;exact k.ro q r (p h1).2
 ·simp[RS.shut];rw[oR,k.l,T];simp;omega
 ·have:=Ip c.dq (0,0) (by simp);simp[RS.shut];rw[oR,k.mo,T];simp only[cf,dF];rw[ag (by omega)]
