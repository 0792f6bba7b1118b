import Derived.Test.YtpicaknklgccoaaGreatDoorK47
set_option maxHeartbeats 16000000
set_option maxRecDepth 100000
namespace Go.Proofs.YtpicaknklgccoaaGreatDoor
open Tryz
open Go.RowKit
variable {w d:Nat}{a c:List NR}{b:List Rec}{x M:List Ty}{y N:List Nat}{u K:List (List UInt8)}{L P:List (Nat × List UInt8)}{T:List (PT × Nat × Nat)}{Y:Rec}{R:Value}{I:World}
theorem A3(w)(nv ov)(d)(op)(h:ew w nv ov d op)(ho:CA d op)(hl:d.length<=9000)(FZ:∀n∈d,n.small)(hrg:∀n∈d,0<=n.region)(hsz:oV [] d):Calls prog 90 #[cG nv ov] w λv z=>v=.returned (.tuple #[.int .i64 (DF [] d).1,.int .i64 (DF [] d).2])/\bg w z:=by
 have u:=λ(z:World)(V:bg w z)=>mY z nv ov d op (h.below V);have x:=λ(z:World)(V:bg w z)(k:Nat)(n:NR)(hk:d[k]?=some n)=>kS z nv ov d op (h.below V) k n hk hl;obtain⟨a0,C,e0⟩:=cm h.nd;obtain⟨a1,E,e1⟩:=cm h.op;rw[ho.1]at e1;obtain⟨m,hm⟩:=ez d.length;rw[<-hm]at e0 e1 hl;subst e0;subst e1;unfold cG at u x;unfold cG;unfold dK at x;rw[<-hm]at u;refine wC u x hm FZ hrg hsz λub K9 HM Nc HRG HSZ=>?_;obtain⟨ans,G⟩:=ez (DF [] d);rw[<-G];have HA:Hid _:=G;clear u x ho h hm G FZ hrg hsz;have Lb:bg w (w.alloc (.cells #[.slice a0 m C,.slice a1 m E] 59)):=(aM _ w).alloc bS _;have VP:Hid _:=Lb;clear Lb;obtain⟨f,L⟩:=ez (w.alloc (.cells #[.slice a0 m C,.slice a1 m E] 59));have HBB:Hid (∀wr,bg f wr->cg wr w.heap.size 0 (.slice a0 m C)/\cg wr w.heap.size 1 (.slice a1 m E)/\w.heap.size<wr.heap.size):=by
  intro wr V;rw[L]at V;exact jb V
 have H:Hid (bg w f):=by rw[L];exact VP
 have HC0:Hid (FU f.heap.size (f.alloc (.cells #[.slice none 0 0,.slice none 0 0] 156)) (.slice none 0 0) (.slice none 0 0) [] []):=⟨bD _ _,wD,wD,by simp[Value.ownBlock],by simp[Value.ownBlock],λg hg=>by simp[Value.ownBlock]at hg⟩;have M:w.heap.size<=f.heap.size:=H.size;have Z:Hid _:=L;clear L VP;go_in;go_wp2;rw[<-Z.out];have W:w.heap.size+1=f.heap.size:=by rw[Z.out];simp
 rw[W];clear W Z;go_loopw [5,6,7] (λi _ _ wr=>∃k:Nat,k<=m/\i=.int .i64 k/\∃pv tv B D K T,FU f.heap.size wr pv tv B K/\Rel B D K T/\K.length=k/\B.length<=k/\DF [] d=DF T (d.drop k)/\oV T (d.drop k)/\bg f wr/\f.heap.size<wr.heap.size/\(∀g,pv.ownBlock=some g->f.heap.size<=g)/\(∀g,tv.ownBlock=some g->f.heap.size<=g)) (λi _ _ _=>m-(intOf i).toNat)
 case atStart=>exact⟨0,by omega,rfl,_,_,[],[],[],[],HC0.out,R9,rfl,by simp,by simp,HSZ.out,(aM _ f).alloc bS _,by simp,by simp[Value.ownBlock],by simp[Value.ownBlock]⟩
 case round=>
  obtain⟨k,hk,rfl,pv,tv,B,D,K,T,hC,l,K8,htl,a,A,o,hbs,pq,Nd⟩:=hrel;have U4:bg w wr:=H.trans (o.mono M);obtain⟨x0,x1,xl⟩:=HBB _ o;have N:=ub wr U4;have O:=o.size;by_cases hlt:k<m
  ·have P:k<d.length:=by have:=HM.out;omega
   obtain⟨n,hn⟩:∃n,d[k]?=some n:=⟨d[k],aa P⟩;have b:=Nc n (aq hn);have adA:=HRG n (aq hn);have xQ:d.drop k=n::d.drop (k+1):=by
    rw[aW P];rw[aa P]at hn;simp only[ai]at hn;rw[hn]
   rw[xQ]at a A;simp only[DF]at a;simp only[oV]at A;obtain⟨r,hr⟩:=ez n.region.toNat;obtain⟨D',c⟩:=Tn l n A.1;rw[<-hr]at c;have I:YU B K n:=⟨by omega,by omega,λi=>by have:=(l.known i).2.1;omega,λj=>by have:=l.M8 j;omega,⟨by have:=b.1;omega,by have:=b.1;omega⟩,⟨by have:=b.2.1;omega,by have:=b.2.1;omega⟩,⟨by have:=b.2.2.1;omega,by have:=b.2.2.1;omega⟩,⟨by have:=b.2.2.2;omega,by have:=b.2.2.2;omega⟩⟩;have hpl:=sG B r (bt K n.p0) (bt K n.p1);have X:(nI B K n r).2.length<=k+1:=by
    unfold nI
    repeat' split
    all_goals first|(simp only;omega)|omega
   have hvf:=ZG c n;have hkn:=(c.known n.p0).2.1;have Y:=c.low;have q:=λ(z:World)(V:bg wr z)=>Nb z f.heap.size pv tv B K n n.region r (λ_=>by omega) (hC.below V) I;have s:=λ(z:World)(FW Hn:Value)(hC':FU f.heap.size z FW Hn (nI B K n r).2 (K++[(nI B K n r).1]))=>Gt z f.heap.size FW Hn (nI B K n r).2 (K++[(nI B K n r).1]) n hC' Y (by omega) (by simp;omega) hkn I.p0 I.p1 I.p2;rw[hvf]at s;generalize DE (T++[iz T n]) n=F at*;unfold ptr dK at q s;refine xW q s hn a A.2 c o hC pq λVQ Yk HN HCK ZH VS J HC Xj=>?_;refine fw Nd K8 X λLc HKL HTL=>?_;clear hn b adA xQ a A I q l c hC o pq Nd P K8 htl s X hpl hvf hkn Y hr;go_wp2_with fail;refine N.mono ?_;rintro _ w1 ⟨rfl,t⟩;obtain⟨d0,d1,dl⟩:=HBB _ (J.trans (t.mono O));have hno:=K9 w1 (H.trans ((J.trans (t.mono O)).mono M)) k n HN;have Q:Hid _:=t;clear t N x0 x1;go_wp2_with fail;refine hno.mono ?_;rintro _ w2 ⟨rfl,hb2⟩;have R:bg wr w2:=Q.trans (hb2.mono Q.size);have J7:=R.alloc R.size (gG n);have q:=VQ _ J7;have QB:Hid _:=J7;have acS:=R.size;clear hb2 R hno d0 d1 J7 VQ;unfold gG DS at q;go_wp2_with fail;refine q.mono ?_;rintro _ w3 ⟨rfl,Uw,DK,y,Ux⟩;have S:w3.heap[w2.heap.size]?=some (gG n):=by
    rw[y.blk w2.heap.size (by simp) (by omega) (λe=>by have:=(HC.out.lt.1 _ e);omega) (λe=>by have:=(HC.out.lt.2.1 _ e);omega)];exact bD _ _
   have Py:bg f (w2.alloc (gG n)):=J.trans (QB.mono O);obtain⟨g1,g2,g3⟩:=y.toBelow Py bS (by simp;omega) Xj Lc;have YW:=y.size;have acT:f.heap.size<w3.heap.size:=by simp at YW;omega
   have s:=Yk w3 Uw DK Ux;obtain⟨d0,d1,d2,d3,d4,d5,d6,d7,d8,d9⟩:=cD S;have xP:=aG S;refine pd Ux g1 g2 g3 S λVB Ow HG2 YX Xv=>?_;clear y Ux S Py g1 g2 g3 q QB Yk;go_wp2_with fail;refine s.mono ?_;rintro _ w4 ⟨rfl,U⟩;have c1:w4.cell? ⟨w2.heap.size,1,none⟩=some (.int .i64 n.at_):=by rw[U.cell (p:=⟨w2.heap.size,1,none⟩) xP];exact d1
   have IU:Hid _:=U;have YY:=U.size;clear U s d0 d1 d2 d3 d4 d5 d6 d7 d8 d9;by_cases hf:F=0
   ·have q2:((F:Int) !=0)=false:=by simp;omega
    have a:=HCK;rw[ag (by omega)]at a;refine bY (VB.below IU.out) a λHC4 Y2=>?_;clear hf a VB;go_wp2;go_roundw
    case rel=>exact⟨k+1,by omega,by go_num,Uw,DK,_,D',_,_,HC4.out,VS.out,by simp[HKL.out],HTL.out,Y2.out,ZH.out,Ow.out.trans (IU.out.mono (by omega)),by omega,HG2.out,YX.out⟩
    case measure=>simp[intOf];omega
   ·have q2:((F:Int) !=0)=true:=by simp;omega
    have a:=HCK.out;rw[ah hf]at a;have R6:Hid (ans=(F,n.at_)):=by rw[HA.out];exact a
    clear hf a;go_wp2;go_quiet (fail);go_wp2;refine au (v:=.tuple #[.int .i64 F,.int .i64 n.at_]) (by simp[results,results90,go_sem]) rfl ⟨by rw[R6.out],?_⟩;exact (H.out.trans ((Ow.out.trans (IU.out.mono (by omega))).mono M)).trans ⟨rfl,rfl,rfl,bS,λ_ _=>rfl⟩
  ·have R6:Hid (ans=(0,0)):=by
    have hd:d.drop k=[]:=bF (by have:=HM.out;omega);rw[hd]at a;rw[HA.out,a];exact rfl
   have J:Hid _:=o;clear o hC l a pq Nd A;go_wp2_with fail;refine N.mono ?_;rintro _ w1 ⟨rfl,t⟩;have Q:Hid _:=H.out.trans ((J.out.trans (t.mono O)).mono M);clear t N;go_wp2;refine au (v:=.tuple #[.int .i64 0,.int .i64 0]) (by simp[results,results90,go_sem]) rfl ⟨by rw[R6.out];rfl,Q.out⟩
def zW(a:List NR)(b:List Int):Nat×Nat:=
 if (iZ (fe a b) []).2.1≠0 then (iZ (fe a b) []).2
 else if (rX (iZ (fe a b) []).1 (fe a b)).1≠0 then rX (iZ (fe a b) []).1 (fe a b)
 else DF [] a
theorem zX:∀(l a:List NR),(iZ l a).1.length<=a.length+l.length
 |[],a=>by simp[iZ]
 |n::r,a=>by
  simp[iZ];split
  ·split
   ·simp only;omega
   ·have:=zX r (a++[n]);simp at this;omega
  ·have:=zX r a;omega
theorem C8(w)(s t)(a)(c)(h:ew w s t a c)(r:CA a c)(H:a.length<=9000)(u:∀n∈a,n.small)(x:∀n∈a,0<=n.region)(y:oV [] a):Calls prog 56 #[cG s t] w λv e=>v=.returned (.tuple #[.int .i64 (zW a c).1,.int .i64 (zW a c).2])/\bg w e:=by
 have z:=λ(e:World)(A:bg w e)=>LP e s t a c (h.below A) r H;have B:(iZ (fe a c) []).1.length<=9000:=by
  have:=zX (fe a c) [];rw[pO,r.1]at this;simp at this;omega
 have l:=λ(e:World)(A:bg w e)(I:Value)(k:Nat)(C:e.ownsRow k 160 10 I (iZ (fe a c) []).1.length ((iZ (fe a c) []).1.flatMap xd))=>Jt e s t I a c _ k (h.below A) r H C B;have o:=λ(e:World)(A:bg w e)=>A3 e s t a c (h.below A) r H u x y;obtain⟨U,D,R⟩:=cm h.nd;obtain⟨V,E,J⟩:=cm h.op;rw[r.1]at J;obtain⟨m,S⟩:=ez a.length;rw[<-S]at R J H;subst R;subst J;obtain⟨b,d⟩:=ez (zW a c);rw[<-d];unfold zW at d;have T:Hid _:=d;unfold cG at z l o;unfold cG;have K:=l;have L:=o;have F:bg w (w.alloc (.cells #[.slice U m D,.slice V m E] 59)):=(aM _ w).alloc bS _;clear l o r h S d u x y B;generalize iZ (fe a c) []=N at*;generalize rX N.1 (fe a c)=O at*;generalize DF [] a=P at*;go_in;go_wp2_with fail;refine (z _ F).mono ?_;rintro _ W ⟨I,rfl,p,f⟩;obtain⟨b0,b1,bl⟩:=jb f;have g:=F.trans (f.mono (by simp));by_cases h1:N.2.1=0
 ·have X:((N.2.1:Int) !=0)=false:=by rw[h1];rfl
  have i:Hid (b=if O.1≠0 then O else P):=(show b=_ by rw[T.out,ag (by omega)]);go_wp2_with fail;refine (K W g I _ p).mono ?_;rintro _ Y ⟨rfl,G⟩;obtain⟨c0,c1,cl⟩:=jb (f.trans (G.mono f.size));have j:=g.trans (G.mono g.size);by_cases h2:O.1=0
  ·have Z:((O.1:Int) !=0)=false:=by rw[h2];rfl
   have q:b=P:=(show b=_ by rw[i.out,ag (by omega)]);go_wp2_with fail;refine (L Y j).mono ?_;rintro _ w3 ⟨rfl,M⟩;have Q:=j.trans (M.mono j.size);go_wp2;refine au (v:=.tuple #[.int .i64 P.1,.int .i64 P.2]) (by simp[results,results56,go_sem]) rfl ⟨by rw[q],Q⟩
  ·have Z:((O.1:Int) !=0)=true:=by simp;omega
   have q:b=O:=(show b=_ by rw[i.out,ah h2]);go_wp2;refine au (v:=.tuple #[.int .i64 O.1,.int .i64 O.2]) (by simp[results,results56,go_sem]) rfl ⟨by rw[q],j⟩
 ·have X:((N.2.1:Int) !=0)=true:=by simp;omega
  have i:b=N.2:=(show b=_ by rw[T.out,ah h1]);go_wp2;refine au (v:=.tuple #[.int .i64 N.2.1,.int .i64 N.2.2]) (by simp[results,results56,go_sem]) rfl ⟨by rw[i],g⟩
def ue(a:List Rec)(P:Rec->Bool):Nat->Option Nat
 |0=>none
 |k+1=>match a[k]? with
  |some r=>if P r&&pV a (ue a P k) r then some k else ue a P k
  |none=>ue a P k
theorem vU(a)(b:Int):∀k,ml a b k=ue a (λr=>oF r&&(r.n==b)) k
 |0=>rfl
 |k+1=>by
  simp[ml,Nz,ue,vU a b k];cases a[k]? with
  |none=>rfl
  |some r=>rfl
theorem NC(a):∀k,LL a k=ue a (wq a) k
 |0=>rfl
 |k+1=>by
  simp[LL,ue,NC a k,rP];cases a[k]? with
  |none=>rfl
  |some r=>simp only;cases wq a r<;>simp
theorem Ju(a):∀k,xC a k=ue a (lP a) k
 |0=>rfl
 |k+1=>by
  simp[xC,ue,Ju a k,rP];cases a[k]? with
  |none=>rfl
  |some r=>simp only;cases lP a r<;>simp
theorem Bl(c)(P):∀k,k<=c.length->(∀i,ue c P k=some i->∃r,c[i]?=some r/\P r=true/\∀j d,j<k->c[j]?=some d->P d=true->r.id<=d.id)/\(ue c P k=none->∀j d,j<k->c[j]?=some d->P d=false)
 |0,_=>⟨λi h=>by simp[ue]at h,λ_ j d h=>by omega⟩
 |k+1,x=>by
  obtain⟨h1,h2⟩:=Bl c P k (by omega);have g:c[k]?=some c[k]:=aa (by omega);simp only[ue];rw[g];simp only;cases o:P c[k] with
  |false=>
   refine⟨λi l=>?_,λm j d p a=>?_⟩
   ·obtain⟨r,q,t,s⟩:=h1 i l;refine⟨r,q,t,λj d p a f=>?_⟩;by_cases e:j=k
    ·subst e;rw[g]at a;cases a;rw[o]at f;cases f
    ·exact s j d (by omega) a f
   ·by_cases e:j=k
    ·subst e;rw[g]at a;cases a;exact o
    ·exact h2 m j d (by omega) a
  |true=>
   simp;cases w:ue c P k with
   |none=>
    refine⟨λi l=>?_,λm=>by cases m⟩;cases l;refine⟨c[k],g,o,λj d p a f=>?_⟩;by_cases e:j=k
    ·subst e;rw[g]at a;cases a;exact bS
    ·have:=h2 w j d (by omega) a;rw[this]at f;cases f
   |some b=>
    obtain⟨u,q,t,s⟩:=h1 b w;have v:pV c (some b) c[k]=decide (c[k].id<u.id):=by simp[pV,q]
    rw[v];by_cases n:c[k].id<u.id
    ·rw[ah (by simpa using n)];refine⟨λi l=>?_,λm=>by cases m⟩;cases l;refine⟨c[k],g,o,λj d p a f=>?_⟩;by_cases e:j=k
     ·subst e;rw[g]at a;cases a;exact bS
     ·have:=s j d (by omega) a f;omega
    ·rw[ag (by simpa using n)];refine⟨λi l=>?_,λm=>by cases m⟩;cases l;refine⟨u,q,t,λj d p a f=>?_⟩;by_cases e:j=k
     ·subst e;rw[g]at a;cases a;omega
     ·exact s j d (by omega) a f
structure Al(rl:List Rec)(ns lst:List NR): Prop where
 f2:∀z∈rl.zip ns,lst[z.1.id]?=some z.2
 f3:∀r∈rl,∃n,(r,n)∈rl.zip ns
 f1:∀(k:Nat)(n:NR),lst[k]?=some n->∃r,(r,n)∈rl.zip ns/\r.id=k
 br:∀z∈rl.zip ns,Bri z.1 z.2
 b:∀x∈rl.zip ns,∀y∈rl.zip ns,(x.1.id<y.1.id↔x.2.at_<y.2.at_)/\(y.1.id<=x.1.last↔y.2.at_<x.2.dH)
theorem LQ{q}{n}(c:a[w]?=some n)(g:q n=true)(h:∀j f,j<w->a[j]?=some f->q f=false):a.find? q=some n:=by
 have b:=(ae.1 c).1;have:a=a.take w++(n::a.drop (w+1)):=by
  conv=>lhs;rw[<-fX w a]
  rw[aW b];rw[aa b]at c;rw[dx c]
 rw[this,List.find?_append];have i:(a.take w).find? q=none:=by
  rw[kI];intro x m;obtain⟨j,o,d⟩:=eY.1 m;have e:j<w:=by simp at o;omega
  have:=h j x e (by rw[<-d,List.getElem_take,aa]);rw[this];simp
 rw[i,dw,g];rfl
theorem C9(h:Al b a c)(P)(q)(d:∀z∈b.zip a,P z.1=q z.2):(ue b P b.length=none->c.find? q=none)/\∀i,ue b P b.length=some i->∃r n,b[i]?=some r/\c.find? q=some n/\(r,n)∈b.zip a:=by
 obtain⟨h1,h2⟩:=Bl b P b.length bS;refine⟨λx=>?_,λi y=>?_⟩
 ·rw[kI];intro n A;obtain⟨k,B,o⟩:=eY.1 A;obtain⟨r,f,_⟩:=h.f1 k n (by rw[aa B,o]);have C:=(kE f).1;obtain⟨j,p,s⟩:=eY.1 C;have:=h2 x j r p (by rw[aa p,s]);have e:=d _ f;rw[<-e,this];simp
 ·obtain⟨r,v,D,E⟩:=h1 i y;obtain⟨n,f⟩:=h.f3 r (aq v);refine⟨r,n,v,?_,f⟩;have e:=d _ f;refine LQ (h.f2 _ f) (by rw[<-e];exact D) ?_;intro j F t u;have p:j<r.id:=t;obtain⟨w,g,hid⟩:=h.f1 j F u;have G:=d _ g;rw[<-G];cases H:P w with
  |false=>rfl
  |true=>
   obtain⟨I,l,m⟩:=eY.1 (kE g).1;have:=E I w l (by rw[aa l,m]) H;omega
def zY(n:NR):Bool:=n.form==12
def LR(a:Int)(n:NR):Bool:=zY n&&(n.region==a)
theorem Tp(h:Al b a c)(g:Int):∀z∈b.zip a,(oF z.1&&(z.1.n==g))=LR g z.2:=by
 intro z i;have f:=h.br z i;unfold LR zY oF;by_cases d:z.2.form=12
 ·have:=f.nw.1 d;rw[this,d,f.rg (.inl d)];rfl
 ·have h1:(z.2.form==12)=false:=by simpa using d
  have h2:(z.1.op==[110,101,119])=false:=by
   rw[aH];intro e;exact d (f.nw.2 e)
  rw[h1,h2];rfl
theorem rQ(l:List NR)(b:Int):pX (l.filter zY) b=l.find? (LR b):=by
 unfold pX LR;rw[List.find?_filter]
 congr 1
 funext a
 cases zY a<;>cases (a.region==b)<;>rfl
theorem Jv(h:Al b a c)(d:Int):(ml b d b.length=none->pX (c.filter zY) d=none)/\∀o,ml b d b.length=some o->∃r n,b[o]?=some r/\pX (c.filter zY) d=some n/\(r,n)∈b.zip a:=by
 rw[vU,rQ];exact C9 h _ _ (Tp h d)
def Da(a:List NR)(n:NR):Bool:=(n.form==4)&&match pX a n.region with
 |some o=>decide (n.at_<o.at_)||decide (o.dH<=n.at_)
 |none=>false
theorem EU(a):∀l:List NR,rX a l=match l.find? (Da a) with
  |some n=>(8,n.at_)
  |none=>(0,0)
 |[]=>rfl
 |n::r=>by
  have d:=EU a r;simp[rX];rw[dw];by_cases b:n.form=4
  ·have c:(n.form==4)=true:=by simpa using b
   rw[ah b];cases f:pX a n.region with
   |none=>
    have:Da a n=false:=by unfold Da;rw[c,f];rfl
    rw[this];exact d
   |some o=>
    have:Da a n=(decide (n.at_<o.at_)||decide (o.dH<=n.at_)):=by unfold Da;rw[c,f];rfl
    rw[this];simp only;by_cases e:n.at_<o.at_\/o.dH<=n.at_
    ·rw[ah e];have:(decide (n.at_<o.at_)||decide (o.dH<=n.at_))=true:=by simpa using e
     rw[this]
    ·rw[ag e];have:(decide (n.at_<o.at_)||decide (o.dH<=n.at_))=false:=by simp;omega
     rw[this];exact d
  ·have c:(n.form==4)=false:=by simpa using b
   have:Da a n=false:=by unfold Da;rw[c];rfl
   rw[ag b,this];exact d
theorem abE{g}(h:Al g a c):∀z∈g.zip a,lP g z.1=Da (c.filter zY) z.2:=by
 intro z l;have m:=h.br z l;by_cases i:z.2.form=4
 ·have f:D2 z.1=true:=by unfold D2;rw[m.pr.1 i];rfl
  have p:(z.2.form==4)=true:=by simpa using i
  obtain⟨t,u⟩:=Jv h z.1.n;unfold lP Da;rw[p,m.rg (.inr i)];cases q:ml g z.1.n g.length with
  |none=>rw[t q];rfl
  |some o=>
   obtain⟨k,j,v,w,r⟩:=u o q;rw[w];simp only;rw[v];simp only;rw[f];have s:=(h.b _ l _ r).1;have x:=(h.b _ r _ l).2;simp only at s x;have y:decide (z.1.id<k.id)=decide (z.2.at_<j.at_):=by simp[s]
   have A:decide (k.last<z.1.id)=decide (j.dH<=z.2.at_):=by
    by_cases d:z.2.at_<j.dH
    ·simp[show ¬k.last<z.1.id by omega,show ¬j.dH<=z.2.at_ by omega]
    ·simp[show k.last<z.1.id by omega,show j.dH<=z.2.at_ by omega]
   rw[y,A]
 ·have p:(z.2.form==4)=false:=by simpa using i
  have f:D2 z.1=false:=by
   unfold D2;rw[aH];intro e;exact i (m.pr.2 e)
  unfold lP Da;rw[p,f];split
  ·split<;>rfl
  ·rfl
def Tq(a:List NR)(n:NR):Bool:=zY n&&a.any (λm=>LR n.region m&&decide (m.at_<n.at_))
theorem adB{i}(h:Al i a c):∀z∈i.zip a,wq i z.1=Tq c z.2:=by
 intro z p;have A:=h.br z p;by_cases d:z.2.form=12
 ·have q:oF z.1=true:=by unfold oF;rw[A.nw.1 d];rfl
  have l:zY z.2=true:=by unfold zY;simpa using d
  have u:=A.rg (.inl d);obtain⟨M,N⟩:=Jv h z.1.n;have f:LR z.1.n z.2=true:=by unfold LR;rw[l,u];simp
  have B:=aq (h.f2 z p);unfold wq Tq;rw[l,u];cases t:ml i z.1.n i.length with
  |none=>
   have:=M t;rw[rQ,kI]at this;exact absurd f (this z.2 B)
  |some o=>
   obtain⟨C,O,D,E,J⟩:=N o t;simp only;rw[D];rw[q];simp;rw[rQ]at E;have v:=List.find?_some E;have K:=(h.b _ J _ p).1;have P:=(h.b _ p _ J).1;simp only at K P;by_cases e:z.1.id=C.id
   ·have r:(z.1.id !=C.id)=false:=by rw[e];simp
    rw[r];symm;rw[List.any_eq_false];intro m Q;simp only[cu,bW,not_and];intro F R
    obtain⟨k,T,G⟩:=eY.1 Q;obtain⟨U,g,hid⟩:=h.f1 k m (by rw[aa T,G]);have H:=(h.b _ g _ p).1;simp only at H;have V:=Tp h z.1.n _ g;rw[vU]at t;obtain⟨j,x,s⟩:=eY.1 (kE g).1;obtain⟨W,y,X,I⟩:=(Bl i _ i.length bS).1 o t;rw[D]at y;cases y;have:=I j U x (by rw[aa x,s]) (by rw[V];exact F);omega
   ·have r:(z.1.id !=C.id)=true:=by simpa using e
    rw[r];symm;rw[List.any_eq_true];refine⟨O,dU E,?_⟩;rw[v];simp;rw[vU]at t;obtain⟨W,y,X,I⟩:=(Bl i _ i.length bS).1 o t;rw[D]at y;cases y;obtain⟨j,x,s⟩:=eY.1 (kE p).1;have:=I j z.1 x (by rw[aa x,s]) (by rw[Tp h z.1.n _ p];exact f);exact K.1 (by omega)
 ·have l:zY z.2=false:=by unfold zY;simpa using d
  have q:oF z.1=false:=by
   unfold oF;rw[aH];intro e;exact d (A.nw.2 e)
  unfold wq Tq;rw[l,q];split
  ·split<;>rfl
  ·rfl
theorem Db(c)(u:c.Pairwise (λa b=>a.at_<b.at_)):∀(k f:List NR),c=f++k->(k.find? (Tq c)=none->iZ k (f.filter zY)=(c.filter zY,0,0))/\∀n,k.find? (Tq c)=some n->(iZ k (f.filter zY)).2=(7,n.at_)
 |[],f,e=>by
  rw[aN]at e;subst e;exact⟨λ_=>rfl,λn h=>by simp at h⟩
 |n::r,f,e=>by
  have p:=Db c u r (f++[n]) (by rw[e];simp);have j:Tq c n=(zY n&&(pX (f.filter zY) n.region).isSome):=by
   unfold Tq
   congr 1
   rw[rQ];have v:=u;rw[e,jW]at v;obtain⟨_,l,s⟩:=v;rw[jq]at l;apply jd.2;rw[List.any_eq_true,List.find?_isSome];constructor
   ·rintro⟨m,g,q⟩;simp at q;rw[e]at g;rcases aA.1 g with g|g
    ·exact⟨m,g,q.1⟩
    ·rcases bf.1 g with rfl|g
     ·omega
     ·have:=l.1 m g;omega
   ·rintro⟨m,g,q⟩;refine⟨m,by rw[e];exact List.mem_append_left _ g,?_⟩;rw[q];simpa using s m g n (by simp)
  rw[dw];simp[iZ];by_cases i:n.form=12
  ·have d:zY n=true:=by unfold zY;simpa using i
   rw[ah i];cases w:(pX (f.filter zY) n.region).isSome with
   |true=>
    have o:Tq c n=true:=by rw[j,d,w];rfl
    rw[o];exact⟨λh=>(by cases h),λm h=>(by cases h;rfl)⟩
   |false=>
    have o:Tq c n=false:=by rw[j,d,w];rfl
    rw[o];have t:(f++[n]).filter zY=f.filter zY++[n]:=by rw[gX];simp[d]
    rw[t]at p;simpa using p
  ·have d:zY n=false:=by unfold zY;simpa using i
   have o:Tq c n=false:=by rw[j,d];rfl
   rw[ag i,o];have t:(f++[n]).filter zY=f.filter zY:=by rw[gX];simp[d]
   rw[t]at p;exact p
theorem Al.sorted(h:Al b a c):c.Pairwise (λd e=>d.at_<e.at_):=by
 rw[gh];intro i j k l m;obtain⟨r,n,hid⟩:=h.f1 i _ (aa k);obtain⟨o,f,g⟩:=h.f1 j _ (aa l);have:=(h.b _ n _ f).1;simp only at this;exact this.1 (by omega)
theorem Qi(h:Al b a c):(if (iZ c []).2.1≠0 then (iZ c []).2 else rX (iZ c []).1 c)=gR b:=by
 obtain⟨k,l⟩:=C9 h (wq b) (Tq c) (adB h);obtain⟨m,o⟩:=C9 h (lP b) (Da (c.filter zY)) (abE h);obtain⟨q,s⟩:=Db c h.sorted c [] rfl;unfold gR;rw[NC,Ju];cases g:ue b (wq b) b.length with
 |some i=>
  obtain⟨r,n,d,e,f⟩:=l i g;have:=s n e;simp at this;rw[this];simp[d];have:=(h.br _ f).p;simp only at this;simp[this]
 |none=>
  have:=q (k g);simp at this;rw[this];simp only;rw[ag (by decide),EU];cases j:ue b (lP b) b.length with
  |none=>rw[m j]
  |some i=>
   obtain⟨r,n,d,e,f⟩:=o i j;rw[e];have:=(h.br _ f).p;simp only at this;simp[d,this]
theorem u7(s)(w)(k:s.size<=9000)(e)(i:PE true (tokens s.data.toList) e []):Calls prog 42 #[.string s] w λv j=>∃b c d f g h a,v=.returned (.tuple #[cG (.slice b c d) (.slice f g h),.int .i64 (cK e).1,.int .i64 (cK e).2])/\bg w j/\ew j (.slice b c d) (.slice f g h) a (opn e 0)/\NA [] e 0 a/\fo e a (posOf s.size (tokens s.data.toList)) s.size:=by
 refine (wF s w k e i).mono ?_;rintro _ _ ⟨b,c,d,f,g,h,a,h1,h2,h3,l,m⟩;exact⟨b,c,d,f,g,h,a,h1,h2,h3,l,m▸C4 i (xD _)⟩
theorem tM(s)(w)(x y:Nat)(j:x≠0)(a:∀w,Calls prog 42 #[.string s] w λv b=>∃c d e f g h,v=.returned (.tuple #[cG (.slice c d e) (.slice f g h),.int .i64 x,.int .i64 y])/\bg w b):Calls prog 30 #[.string s] w λv b=>v=.returned (.tuple #[.int .i64 x,.int .i64 y])/\bg w b:=by
 unfold cG at a;have q:((x:Int) !=0)=true:=by simp;omega
 go_in;go_wp2_with fail;refine (a _).mono ?_;rintro _ k ⟨c,d,e,f,g,h,rfl,i⟩;go_wp2;refine au (v:=.tuple #[.int .i64 x,.int .i64 y]) (by simp[results,results30,go_sem]) rfl ⟨rfl,i.alloc i.size _⟩
theorem Jw(s)(w)(e)(y:Nat)(a:Nat×Nat)(k:∀w,Calls prog 42 #[.string s] w λv c=>∃d f g h i j b,v=.returned (.tuple #[cG (.slice d f g) (.slice h i j),.int .i64 0,.int .i64 y])/\bg w c/\ew c (.slice d f g) (.slice h i j) b (opn e 0)/\NA [] e 0 b/\fo e b (posOf s.size (tokens s.data.toList)) s.size)(l:∀(c:World)(d:Option Addr)(f g:Nat)(h:Option Addr)(i j:Nat)(b:List NR),ew c (.slice d f g) (.slice h i j) b (opn e 0)->NA [] e 0 b/\fo e b (posOf s.size (tokens s.data.toList)) s.size->Calls prog 56 #[cG (.slice d f g) (.slice h i j)] c λv o=>v=.returned (.tuple #[.int .i64 a.1,.int .i64 a.2])/\bg c o):Calls prog 30 #[.string s] w λv c=>v=.returned (.tuple #[.int .i64 a.1,.int .i64 a.2])/\bg w c:=by
 unfold cG at k l;go_in;go_wp2_with fail;refine (k _).mono ?_;rintro _ p ⟨d,f,g,h,i,j,b,rfl,x,z,q⟩;have m:bg p (p.alloc (.cells #[.slice d f g,.slice h i j] 59)):=(aM _ p).alloc bS _;have r:=l _ d f g h i j b (z.below m) q;have n:=x.trans (m.mono x.size);go_wp2_with fail;refine ay r ?_;rintro _ A ⟨rfl,t⟩;have u:=n.trans (t.mono n.size);go_wp2;refine au (v:=.tuple #[.int .i64 a.1,.int .i64 a.2]) (by simp[results,results30,go_sem]) rfl ⟨rfl,u⟩
theorem xE(s)(w)(x y:Nat)(e:x≠0)(b:∀a,bg w a->Calls prog 33 #[.string s,.bool true] a λv c=>∃p q,v=.returned (.tuple #[.pointer p,.pointer q,.int .i64 x,.int .i64 y])/\bg a c):Calls prog 78 #[.string s] w λv c=>v=.returned (.tuple #[.int .i64 x,.int .i64 y])/\bg w c:=by
 have f:((x:Int) !=0)=true:=by simp;omega
 go_in;go_wp2_with fail;refine (b _ fp).mono ?_;rintro _ a ⟨p,q,rfl,d⟩;go_wp2;refine au (v:=.tuple #[.int .i64 x,.int .i64 y]) (by simp[results,results78,go_sem]) rfl ⟨rfl,d⟩
mutual
theorem Dc:∀(t:PT)(id c:Nat),((t.subs id c).map (·.2.1)).Nodup
 |.num _ _,id,c=>by simp[PT.subs]
 |.name _ _,id,c=>by simp[PT.subs]
 |.node p k j l d,id,c=>by
  simp only[PT.subs,bz,bK,eH];rw[List.nodup_append];refine⟨AU d _ _,by simp,?_⟩;intro a e b f;obtain⟨x,g,rfl⟩:=cM.1 e;have:=qC d _ _ x g;rw[ax]at f;omega
theorem AU:∀(h:List PT)(id c:Nat),((fG h id c).map (·.2.1)).Nodup
 |[],_,_=>by simp[fG]
 |t::r,id,c=>by
  simp only[fG,bz];rw[List.nodup_append];refine⟨Dc t _ _,AU r _ _,?_⟩;intro a e b f;obtain⟨x,g,rfl⟩:=cM.1 e;obtain⟨y,i,rfl⟩:=cM.1 f;have h1:=mS t _ _ x g;have h2:=qC r _ _ y i;have:=fj x.1;omega
end
theorem sO(x):(dA x).id=x.2.1:=by obtain⟨t,a,b⟩:=x;cases t<;>rfl
theorem Dd(t:PT)(id a:Nat){f:Rec}(g:(t.du id a)[w]?=some Y)(k:(t.du id a)[d]?=some f)(h:Y.id=f.id):w=d:=by
 have o:((t.du id a).map (·.id)).Nodup:=by
  rw[gO,dO];have:((λ(Y:Rec)=>Y.id) ∘ dA)=(λ(x:PT×Nat×Nat)=>x.2.1):=by funext x;exact sO x
  rw[this];exact Dc t id a
 have c:=(ae.1 g).1;have e:=(ae.1 k).1;have l:((t.du id a).map (·.id))[w]'(by simpa using c)=Y.id:=by
  rw[jS];rw[aa c]at g;rw[dx g]
 have m:((t.du id a).map (·.id))[d]'(by simpa using e)=f.id:=by
  rw[jS];rw[aa e]at k;rw[dx k]
 have n:=gh.1 o;rcases lD w d with b|b|b
 ·exact absurd (by rw[l,m,h]) (n w d (by simpa using c) (by simpa using e) b)
 ·exact b
 ·exact absurd (by rw[l,m,h]) (n d w (by simpa using e) (by simpa using c) b)
theorem Jx{b}{n}(h1:b[w]?=some (d:Int))(h2:a[d]?=some n):(fe a b)[w]?=some n:=by
 unfold fe;rw[aC,h1];simp[h2]
theorem l9{n}(h1:b[w]?=some Y)(h2:a[w]?=some n):(Y,n)∈b.zip a:=
 aq (i:=w) (by rw[kB];exact⟨h1,h2⟩)
theorem LS{z}(h:z∈b.zip a):∃j:Nat,b[j]?=some z.1/\a[j]?=some z.2:=by
 obtain⟨j,c⟩:=cB h;exact⟨j,kB.1 c⟩
theorem Tr{e}{f}(c:NA [] e 0 f)(g:fo e f w d):Al (e.du 0 0) f (fe f (opn e 0)):=by
 have A:=c.len;have u:=gA e 0 0;have o:=(g.good 0 0).2;refine⟨?_,?_,?_,c.XO 0 0,o.b⟩
 ·intro z p;obtain⟨j,h1,h2⟩:=LS p;have B:=o.a z p;obtain⟨v,r,h,l,m⟩:=vT e 0 0 0 z.1.id (by omega);have:v=j:=Dd e 0 0 l h1 (by omega);subst this;rw[bJ]at h;exact Jx h h2
 ·intro r x;obtain⟨j,q⟩:=cB x;have i:=(ae.1 q).1;exact⟨_,l9 q (aa (by omega))⟩
 ·intro k n s;have i:=(ae.1 s).1;rw[pO,(EI c).1]at i;obtain⟨j,r,h,l,m⟩:=vT e 0 0 0 k (by omega);rw[bJ]at h m;have y:=(ae.1 l).1;have t:f[j]?=some f[j]:=aa (by omega);have:=Jx h t;rw[s]at this;refine⟨r,?_,m⟩;rw[dx this];exact l9 l t
theorem ZI{e}(c:NA [] e 0 a)(b:fo e a w d)(f:DF [] a=pN x (e.subs 0 0)):zW a (opn e 0)=o8 e x:=by
 unfold zW o8;rw[<-(Qi (Tr c b)),f];generalize iZ (fe a (opn e 0)) []=N;by_cases h1:N.2.1≠0
 ·rw[ah h1,ah h1,ah h1]
 ·rw[ag h1,ag h1]
def ra(T:List Ty):dc->Sc->Prop
 |[],[]=>True
 |x::e,y::s=>x.1=y.1/\0<=y.2/\T[y.2.toNat]?=some x.2/\ra T e s
 |_,_=>False
theorem ra.app{T}:∀{e a:dc}{s b:Sc},ra T e s->ra T a b->ra T (e++a) (s++b)
 |[],_,[],_,_,h=>h
 |_::_,_,_::_,_,h,c=>⟨h.1,h.2.1,h.2.2.1,ra.app h.2.2.2 c⟩
 |[],_,_::_,_,h,_=>h.elim
 |_::_,_,[],_,h,_=>h.elim
theorem ra.rev{T}:∀{e:dc}{s:Sc},ra T e s->ra T e.reverse s.reverse
 |[],[],_=>trivial
 |_::_,_::_,h=>by
  rw[iv,iv];exact ra.app (ra.rev h.2.2.2) ⟨h.1,h.2.1,h.2.2.1,trivial⟩
 |[],_::_,h=>h.elim
 |_::_,[],h=>h.elim
theorem ra.more{T a}:∀{e:dc}{s:Sc},ra T e s->ra (T++a) e s
 |[],[],_=>trivial
 | _::_,_::_,h=>⟨h.1,h.2.1,by
   have h3:=h.2.2.1;rw[ak (ae.1 h3).1];exact h3,ra.more h.2.2.2⟩
 |[],_::_,h=>h.elim
 |_::_,[],h=>h.elim
theorem ra.find{T}(w):∀{e:dc}{s:Sc},ra T e s->(e.find? (λx=>x.1==w)=none/\s.find? (λx=>x.1==w)=none)\/(∃x y,e.find? (λx=>x.1==w)=some x/\s.find? (λx=>x.1==w)=some y/\0<=y.2/\T[y.2.toNat]?=some x.2)
 |[],[],_=>aD ⟨rfl,rfl⟩
 |x::_,y::_,h=>by
  rw[dw,dw,<-h.1];by_cases b:(x.1==w)=true
  ·rw[b];exact aE ⟨x,y,rfl,rfl,h.2.1,h.2.2.1⟩
  ·have a:(x.1==w)=false:=by simpa using b
   rw[a];exact ra.find w h.2.2.2
 |[],_::_,h=>h.elim
 |_::_,[],h=>h.elim
theorem ra.look{e:dc}{s}(h:ra x e s)(w):(look e w=none/\gb s w=-1)\/(∃t,look e w=some t/\gb s w≠-1/\aP x (gb s w)=t):=by
 rcases h.rev.find w with⟨h1,h2⟩|⟨a,y,h1,h2,h3,b⟩
 ·left;unfold Go.Proofs.YtpicaknklgccoaaGreatDoor.look gb;rw[h1,h2];exact⟨rfl,rfl⟩
 ·right;refine⟨a.2,?_,?_,?_⟩
  ·unfold Go.Proofs.YtpicaknklgccoaaGreatDoor.look;rw[h1];rfl
  ·unfold gb;rw[h2];simp only;omega
  ·unfold gb aP;rw[h2];simp only;rw[ah h3,b];rfl
theorem De(c):∀(a b:List (PT×Nat×Nat)),pN c (a++b)=if (pN c a).1≠0 then pN c a else pN c b
 |[],_=>by simp[pN]
 |x::r,b=>by
  have d:pN c (x::(r++b))=if jO c x≠0 then (jO c x,x.1.UD) else pN c (r++b):=rfl
  have e:pN c (x::r)=if jO c x≠0 then (jO c x,x.1.UD) else pN c r:=rfl
  by_cases h:jO c x≠0
  ·rw[ah h]at d e;rw[aS,d,e,ah h]
  ·rw[ag h]at d e;rw[aS,d,e,De c r b]
structure Jy(T:List Ty)(c:Nat)(ns:List NR)(T':List Ty)(of of':List (List UInt8))(id:Nat)(xs:List (PT×Nat×Nat)): Prop where
 run:eE T ns=T++T'
 len:T'.length=c
 sz:oV T ns
 out:∀k,k<id\/id+c<=k->of'[k]?=of[k]?
 ZJ:of'.length=of.length
 inn:∀k,id<=k->k<id+c->∃U:Ty,U.fit/\of'[k]?=some U.txt
 pl:∀TY:List Ty,(∀k,id<=k->k<id+c->of'[k]?=some (iP TY k).txt)->DF T ns=pN TY xs
theorem Jy.nil(T)(a)(id:Nat):Jy T 0 [] [] a a id []:=
 ⟨by simp[eE],rfl,trivial,λ_ _=>rfl,rfl,λk h1 h2=>by omega,λ_ _=>rfl⟩
theorem Jy.app{b}{e}{id:Nat}{f}(h:Jy x w a M u K id T)(g:Jy (x++M) d c b K e (id+w) f):Jy x (w+d) (a++c) (M++b) u e id (T++f):=by
 refine⟨?_,?_,?_,?_,?_,?_,?_⟩
 ·rw[zV,h.run,g.run,aB]
 ·rw[aj,h.len,g.len]
 ·exact C6 _ _ _ h.sz (by rw[h.run];exact g.sz)
 ·intro k i;rw[g.out k (by omega),h.out k (by omega)]
 ·rw[g.ZJ,h.ZJ]
 ·intro k h1 h2;by_cases i:k<id+w
  ·obtain⟨U,m,n⟩:=h.inn k h1 i;exact⟨U,m,by rw[g.out k (by omega)];exact n⟩
  ·exact g.inn k (by omega) (by omega)
 ·intro j l;rw[Gu,De,h.run,h.pl j (λk h1 h2=>by rw[<-g.out k (by omega)];exact l k h1 (by omega)),g.pl j (λk h1 h2=>l k (by omega) (by omega))]
theorem Jy.root{id:Nat}(h:Jy x w a M u K (id+1) T)(n)(U)(b)(j:iz (x++M) n=U)(m:U.fit)(q:n.form=4->(Ty.p 0 (aP (x++M) n.p0) (aP (x++M) n.p1)).size<=63)(hid:id<u.length)(g:n.at_=b.1.UD)(r:∀d:List Ty,(∀k,id+1<=k->k<id+1+w->K[k]?=some (iP d k).txt)->DE (x++M++[U]) n=jO d b):Jy x (1+w) (a++[n]) (M++[U]) u (K.set id U.txt) id (T++[b]):=by
 have i:∀k,k≠id->(K.set id U.txt)[k]?=K[k]?:=λk l=>bI (λe=>l e.symm);have s:(K.set id U.txt)[id]?=some U.txt:=by rw[bh (by rw[h.ZJ];exact hid)]
 refine⟨?_,?_,?_,?_,?_,?_,?_⟩
 ·rw[zV,h.run];simp[eE,j]
 ·rw[aj,h.len];simp;omega
 ·exact C6 _ _ _ h.sz (by rw[h.run];exact⟨q,trivial⟩)
 ·intro k l;rw[i k (by omega),h.out k (by omega)]
 ·rw[cO,h.ZJ]
 ·intro k h1 h2;by_cases e:k=id
  ·subst e;exact⟨U,m,s⟩
  ·obtain⟨V,t,v⟩:=h.inn k (by omega) (by omega);exact⟨V,t,by rw[i k e];exact v⟩
 ·intro d y;have f:∀k,id+1<=k->k<id+1+w->K[k]?=some (iP d k).txt:=λk h1 h2=>by rw[<-i k (by omega)];exact y k (by omega) (by omega)
  rw[Gu,De,h.run,h.pl d f];simp only[DF,pN,j,r d f,g]
theorem Df(id p:Nat)(x):(fin id p x).1=x.1/\(fin id p x).2.of=x.2.of.set id x.1.txt/\((fin id p x).2.e=0->x.2.e=0/\x.1.size<=63):=by
 unfold fin;refine⟨rfl,?_,?_⟩
 ·split
  ·unfold gY;split<;>rfl
  ·rfl
 ·simp only;split
  ·rename_i h;unfold gY;rw[ah h.1];intro a;simp at a
  ·rename_i h;intro a;exact⟨a,by omega⟩
def yM(cls:List Nat)(l:List (Nat×List UInt8))(a:Nat):Prop:=∀(i:Nat)(x:Nat×List UInt8),l[i]?=some x->cls.getD (a+i) 0=(aQ x.2).toNat
theorem yM.left{cls}(h:yM cls (L++P) w):yM cls L w:=
 λi x c=>h i x (by rw[ak (ae.1 c).1];exact c)
theorem yM.right{cls}(h:yM cls (L++P) w):yM cls P (w+L.length):=by
 intro i x c;have:=h (L.length+i) x (by rw[aw (by omega),cJ];exact c);rw[aY];exact this
theorem LU{t}(U)(h:x[w]?=some t):aP (x++U) (w:Int)=t:=
 xk (by rw[ak (ae.1 h).1];exact h)
theorem Dg:dX .dV=3:=by decide
theorem yN:dX .pair=4:=by decide
theorem Dh:dX .fst=5:=by decide
theorem Di:dX .snd=6:=by decide
theorem EV:dX .lv=7:=by decide
theorem ZK:dX .add=8:=by decide
theorem ZL:dX .sub=9:=by decide
theorem Wn:dX .less=10:=by decide
theorem vV:dX .loop=11:=by decide
theorem LV:dX .new=12:=by decide
theorem Ts(cls)(k)(p h id:Nat)(L F)(d)(o)(s)(T)(H:Nat)(m:d.length=(j5 k).length)(w:o.length=(j5 k).length)(I:s.e=0)(v:k=.pair->cls.getD h 0=(aQ F).toNat)(f:Nat)(M:∀(j:Nat)(t:Ty),o[j]?=some t->∃i:Nat,(cz d f).getD j (-1)=(i:Int)/\T[i]?=some t)(J:(dr cls k p h o s).2.e=0)(K:(dr cls k p h o s).1.size<=63):(dr cls k p h o s).2=s/\iz T ⟨dX k,p,H,0,L,aQ F,-1,(cz d f).getD 0 (-1),(cz d f).getD 1 (-1),(cz d f).getD 2 (-1)⟩=(dr cls k p h o s).1/\(dX k=4->(Ty.p 0 (aP T ((cz d f).getD 0 (-1))) (aP T ((cz d f).getD 1 (-1)))).size<=63)/\∀(G:List Ty)(U:Ty),(∀(j:Nat)(t:Ty),o[j]?=some t->iP G (id+1+aU (d.take j))=t)->DE (T++[U]) ⟨dX k,p,H,0,L,aQ F,-1,(cz d f).getD 0 (-1),(cz d f).getD 1 (-1),(cz d f).getD 2 (-1)⟩=jO G (.node p k L F d,id,h):=by
 have y:∀(j:Nat)(t:Ty),o[j]?=some t->aP T ((cz d f).getD j (-1))=t/\∀U,aP (T++[U]) ((cz d f).getD j (-1))=t:=by
  intro j t N;obtain⟨i,h1,h2⟩:=M j t N;rw[h1];exact⟨xk h2,λU=>LU [U] h2⟩
 have bad:∀(e q:Nat)(s:gH),s.e=0->e≠0->(gY s e q).e≠0:=by
  intro e q s h1 h2;unfold gY;rw[ah h1];exact h2
 have l:=y 0;have g:=y 1;have u:=y 2;generalize (cz d f).getD 0 (-1)=P at*;generalize (cz d f).getD 1 (-1)=Q at*;cases k
 case dV=>
  match o,w,d,m,g with
  |[A,B],_,[a,b],_,g=>simp[dr,iz,Dg,DE,jO,(g B rfl).1]
 case pair=>
  match o,w,d,m,l,g with
  |[A,B],_,[a,b],_,l,g=>
   have e:dr cls .pair p h [A,B] s=(.p (aQ F).toNat A B,s):=by simp only[dr,dz,v rfl];rfl
   rw[e]at K⊢;refine⟨rfl,by simp[iz,yN,(l A rfl).1,(g B rfl).1],λ_=>?_,λG U _=>by simp[DE,yN,jO]⟩;rw[(l A rfl).1,(g B rfl).1];exact K
 case fst=>
  match o,w,d,m,l with
  |[.p r A B],_,[a],_,l=>simp[dr,dz,iz,Dh,DE,jO,(l _ rfl).1,D3]
  |[.n],_,[a],_,_=>exact absurd J (by simp[dr,dz];exact bad _ _ _ I (by decide))
 case snd=>
  match o,w,d,m,l with
  |[.p r A B],_,[a],_,l=>simp[dr,dz,iz,Di,DE,jO,(l _ rfl).1,D4]
  |[.n],_,[a],_,_=>exact absurd J (by simp[dr,dz];exact bad _ _ _ I (by decide))
 case lv=>
  match o,w,d,m,g,u with
  |[A,B,C],_,[a,b,c],_,g,u=>
   by_cases v:A=.n/\B.bare=C.bare
   ·have e:dr cls .lv p h [A,B,C] s=(B,s):=by simp only[dr,dz];rw[ah v];rfl
    rw[e];refine⟨rfl,by simp[iz,EV,(g B rfl).1],by simp[EV],?_⟩;intro G U z;have x:=z 1 B rfl;have D:=z 2 C rfl;simp[List.take,aU]at x D;rw[<-aY]at D;simp only[DE,EV,jO,(g B rfl).2,(u C rfl).2,x,D];by_cases E:B=C<;>simp[E]
   ·exact absurd J (by simp[dr,dz];rw[ag v];exact bad _ _ _ I (by decide))
 case loop=>
  match o,w,d,m,g,u with
  |[A,B,C],_,[a,b,c],_,g,u=>
   by_cases v:A=.n/\B.bare=C.bare
   ·have e:dr cls .loop p h [A,B,C] s=(B,s):=by simp only[dr,dz];rw[ah v];rfl
    rw[e];refine⟨rfl,by simp[iz,vV,(g B rfl).1],by simp[vV],?_⟩;intro G U z;have x:=z 1 B rfl;have D:=z 2 C rfl;simp[List.take,aU]at x D;rw[<-aY]at D;simp only[DE,vV,jO,(g B rfl).2,(u C rfl).2,x,D];by_cases E:B=C<;>simp[E]
   ·exact absurd J (by simp[dr,dz];rw[ag v];exact bad _ _ _ I (by decide))
 case new=>
  match o,w,d,m,l with
  |[A],_,[a],_,l=>
   refine⟨rfl,by simp[dr,dz,iz,LV,(l A rfl).1],by simp[LV],?_⟩;intro G U z;have x:=z 0 A rfl;simp[List.take,aU]at x;simp only[DE,LV,jO,(l A rfl).2,x];by_cases O:A.has (aQ F)=true<;>simp[O]
 all_goals
  match o,w,d,m with
  |[A,B],_,[a,b],_=>
   by_cases v:A=.n/\B=.n
   ·simp[dr,dz];rw[ah v];simp[iz,ZK,ZL,Wn,DE,jO]
   ·exact absurd J (by simp[dr,dz];rw[ag v];exact bad _ _ _ I (by decide))
theorem LW(a:List PT)(j:Nat)(b:j<a.length):aU (a.take j)+a[j].cnt<=aU a:=by
 have h:=j1 a (j+1);rw[bQ b,lU]at h;exact h
theorem D5(a:List PT):aU (a.take 0)=0:=by simp[aU]
mutual
theorem lab(cls)(J:∀x∈cls,x<1000):∀(t:PT)(f:Sc)(E:List NR)(d:dc)(m:gH)(T:List Ty)(id c:Nat),NA f t T.length E->ra T d f->lG d m->yM cls t.tE c->id+t.cnt<=m.of.length->(aV cls t id c d m).2.e=0->∃H,Jy T t.cnt E H m.of (aV cls t id c d m).2.of id (t.subs id c)/\H[t.cnt-1]?=some (aV cls t id c d m).1/\(aV cls t id c d m).2.of[id]?=some (aV cls t id c d m).1.txt
 |.num p s,f,E,d,m,T,id,c,z,I,F,v,hid,u=>by
  simp only[NA]at z;subst z;simp only[PT.cnt]at hid;simp only[aV]at u⊢;obtain⟨K,R,S⟩:=Df id p (Ty.n,m);rw[K,R];refine⟨[.n],?_,rfl,bh (show id<m.of.length by omega)⟩;have:=Jy.root (Jy.nil T m.of (id+1)) ⟨1,p,p+s.length,aQ s,[],0,-1,-1,-1,-1⟩ .n (.num p s,id,c) (by simp[iz]) oz (by simp) (by omega) rfl (λTY _=>by simp[DE,jO]);exact this
 |.name p s,f,E,d,m,T,id,c,z,I,F,v,hid,u=>by
  simp only[NA]at z;subst z;have o:=iD cls J (.name p s) id c d m F;simp only[PT.cnt]at hid;simp only[aV]at u o⊢;rcases I.look s with⟨h1,h2⟩|⟨t,h1,h2,h3⟩
  ·rw[h1]at u;simp only at u;obtain⟨_,_,S⟩:=Df id p (Ty.n,gY m 4 p);have:=(S u).1;unfold gY at this;split at this
   ·simp at this
   ·rename_i U;exact absurd this U
  ·rw[h1]at u o⊢;simp only at u o⊢;obtain⟨K,R,S⟩:=Df id p (t,m);have w:=o.1;rw[K]at w;rw[K,R];refine⟨[t],?_,rfl,bh (show id<m.of.length by omega)⟩;have:=Jy.root (Jy.nil T m.of (id+1)) ⟨2,p,p+s.length,0,s,0,gb f s,-1,-1,-1⟩ t (.name p s,id,c) (by simp[iz,h3]) w (by simp) (by omega) rfl (λTY _=>by simp[DE,jO]);exact this
 |.node p k q V g,f,E,d,m,T,id,c,z,I,F,v,hid,u=>by
  simp only[NA]at z;obtain⟨ks,dH,W,rfl⟩:=z;have Z:=W.YQ;have o:=iD cls J (.node p k q V g) id c d m F;simp only[PT.cnt]at hid;simp only[PT.tE]at v;have B:(tV cls q g (j5 k) (id+1) (c+if k=.pair then 1 else 0) d .n m).1.length=(j5 k).length:=FR cls q g (j5 k) _ _ _ _ _ Z;have hcr:yM cls (pJ g) (c+if k=.pair then 1 else 0):=by
   have:=v.right;by_cases L:k=.pair
   ·simpa [L] using this
   ·simpa [L] using this
  have hK:=abF cls J q g (j5 k) f ks d .n m T (id+1) (c+if k=.pair then 1 else 0) W I F oz (by simp[Ty.size]) (λe=>by revert e;cases k<;>simp[j5]) hcr (by omega);rw[ID cls p k q V g id c d .n m Z]at u o⊢;generalize tV cls q g (j5 k) (id+1) (c+if k=.pair then 1 else 0) d .n m=x at hK B u o⊢;have G:x.2.e=0:=by
   have:=((Df id p _).2.2 u).1;by_cases U:x.2.e≠0/\k≠.dV
   ·rw[ah U]at this;exact this
   ·rw[ag U]at this;by_cases L:k=.dV
    ·subst L;simpa [dr] using this
    ·exact iI λh=>U ⟨h,L⟩
  have M:¬(x.2.e≠0/\k≠.dV):=λh=>h.1 G;rw[ag M]at u o⊢;obtain⟨H,N,hP⟩:=hK G;obtain⟨K,R,S⟩:=Df id p (dr cls k p c x.1 x.2);obtain⟨g1,g2⟩:=S u;obtain⟨m1,m2,m3,m4⟩:=Ts cls k p c id q V g x.1 x.2 (T++H) dH (by rw[Z]) B G (λL=>by
   subst L;have:=v 0 (p,V) (by simp);simpa using this) T.length (λj t ht=>by obtain⟨i,i1,i2,_⟩:=hP j t ht;exact⟨i,i1,i2⟩) g1 g2
  have w:=o.1;rw[K]at w;rw[K,R,m1];have hol:id<x.2.of.length:=by rw[N.ZJ];omega
  refine⟨H++[(dr cls k p c x.1 x.2).1],?_,?_,by rw[bh hol]⟩
  ·have:=Jy.root N _ _ (.node p k q V g,id,c) m2 w m3 (by omega) rfl (λTY hT=>m4 TY _ (λj t ht=>by
    obtain⟨i,_,_,i3⟩:=hP j t ht;have Q:j<g.length:=by rw[<-Z,<-B];exact (ae.1 ht).1
    have hcj:aU (g.take j)<aU g:=by
     have h1:=LW g j Q;have h2:=fj g[j];omega
    have:=hT (id+1+aU (g.take j)) (by omega) (by omega);rw[i3]at this;exact (Gl (dx this)).symm))
   simpa [PT.cnt,PT.subs] using this
  ·have hl:=N.len;rw[aw (by simp[PT.cnt];omega)];simp[PT.cnt,hl]
theorem abF(cls)(J:∀x∈cls,x<1000)(q):∀(C:List PT)(bs:List Bool)(f:Sc)(E:List NR)(d:dc)(l:Ty)(m:gH)(T:List Ty)(id c:Nat),j6 f q C bs T.length E->ra T d f->lG d m->l.fit->l.size<=63->(bs.head?=some true->0<T.length/\T[T.length-1]?=some l)->yM cls (pJ C) c->id+aU C<=m.of.length->(tV cls q C bs id c d l m).2.e=0->∃H,Jy T (aU C) E H m.of (tV cls q C bs id c d l m).2.of id (fG C id c)/\∀(j:Nat)(t:Ty),(tV cls q C bs id c d l m).1[j]?=some t->∃i:Nat,(cz C T.length).getD j (-1)=(i:Int)/\(T++H)[i]?=some t/\(tV cls q C bs id c d l m).2.of[id+aU (C.take j)]?=some t.txt
 |[],bs,f,E,d,l,m,T,id,c,z,_,_,_,_,_,_,_,_=>by
  simp only[j6]at z;obtain⟨rfl,rfl⟩:=z;simp only[tV,aU,fG];exact⟨[],Jy.nil _ _ _,λj t h=>by simp at h⟩
 |_::_,[],_,_,_,_,_,_,_,_,z,_,_,_,_,_,_,_,_=>by simp[j6]at z
 |a::r,b::bs,f,E,d,l,m,T,id,c,z,I,F,Fu,My,hp3,v,hid,u=>by
  simp only[j6]at z;obtain⟨na,nc,h1,h2,rfl⟩:=z;have hr':ra T (if b then d++[(q,l)] else d) (if b then f++[(q,(T.length:Int)-1)] else f):=by
   cases b with
   |false=>exact I
   |true=>
    obtain⟨hT0,O⟩:=hp3 rfl;refine I.app ⟨rfl,?_,?_,trivial⟩
    ·show (0:Int)<=(T.length:Int)-1;omega
    ·show T[((T.length:Int)-1).toNat]?=_;rw[show ((T.length:Int)-1).toNat=T.length-1 from by omega];exact O
  have X:lG (if b then d++[(q,l)] else d) m:=by
   cases b with
   |false=>exact F
   |true=>
    constructor
    ·intro x A;rcases aA.1 A with A|A
     ·exact F.1 x A
     ·rw[ax]at A;subst A;exact Fu
    ·intro G x A;rcases aA.1 A with A|A
     ·exact F.2 G x A
     ·rw[ax]at A;subst A;exact My
  simp only[aU]at hid;simp only[pJ]at v;have hA:=lab cls J a (if b then f++[(q,(T.length:Int)-1)] else f) na (if b then d++[(q,l)] else d) m T id c h1 hr' X v.left (by omega);have hR:=iD cls J a id c (if b then d++[(q,l)] else d) m X;simp only[tV]at u⊢;generalize aV cls a id c (if b then d++[(q,l)] else d) m=x at hA hR u⊢;have G:x.2.e=0:=iI λh=>by
   have hs:=Cw cls q r bs (id+a.cnt) (c+a.dn) d x.1 x.2 h;rw[hs.1]at u;exact h u
  obtain⟨T1,N,O,hof⟩:=hA G;have P:(T++T1).length=T.length+a.cnt:=by simp[N.len]
  have WW:=fj a;have Y:m.e=0:=(hR.2.1 G).1;have D:(T++T1)[T.length+a.cnt-1]?=some x.1:=by
   rw[aw (by omega),show T.length+a.cnt-1-T.length=a.cnt-1 from by omega];exact O
  have hB:=abF cls J q r bs f nc d x.1 x.2 (T++T1) (id+a.cnt) (c+a.dn) (by rw[P];exact h2) I.more (F.on (λ_=>Y)) hR.1 (hR.2.1 G).2 (λ_=>⟨by omega,by rw[P];exact D⟩) (by have:=v.right;rwa [lj]at this) (by rw[N.ZJ];omega);generalize tV cls q r bs (id+a.cnt) (c+a.dn) d x.1 x.2=y at hB u⊢;obtain⟨T2,hM,hP2⟩:=hB u;refine⟨T1++T2,?_,?_⟩
  ·simp only[aU,fG];exact N.app hM
  ·intro j t Q;cases j with
   |zero=>
    simp only[aL,ai]at Q;subst Q;refine⟨T.length+a.cnt-1,?_,?_,?_⟩
    ·simp only[cz,bB];omega
    ·rw[<-aB,ak (by omega)];exact D
    ·rw[D5,az,hM.out id (by omega)];exact hof
   |succ j=>
    simp only[cE]at Q;obtain⟨i,i1,i2,i3⟩:=hP2 j t Q;rw[P]at i1;refine⟨i,?_,by rw[<-aB];exact i2,?_⟩
    ·simp only[cz,bM];exact i1
    ·simp only[cY,aU];rw[<-aY];exact i3
end
theorem Jz(e)(g)(l:NA [] e 0 g)(h3:e.Bf)(r:(aV (mR e) e 0 0 [] (qo e)).2.e=0):oV [] g/\∃j:List Ty,j.length=e.cnt/\(∀T∈j,T.fit)/\(aV (mR e) e 0 0 [] (qo e)).2.of=j.map Ty.txt/\DF [] g=pN j (e.subs 0 0):=by
 have m:(qo e).of.length=e.cnt:=by simp[qo]
 obtain⟨w,b,_,_⟩:=lab (mR e) (Jd h3) e [] g [] (qo e) [] 0 0 l trivial ⟨λx c=>by simp at c,λ_ x c=>by simp at c⟩ (λi x c=>by
  rw[bJ];unfold mR;rw[aZ,aC,c];rfl) (by omega) r
 refine⟨b.sz,?_⟩;generalize (aV (mR e) e 0 0 [] (qo e)).2.of=q at b;have d:∀k:Nat,∃U:Ty,U.fit/\(k<e.cnt->q[k]?=some U.txt):=by
  intro k;by_cases a:k<e.cnt
  ·obtain⟨U,s,t⟩:=b.inn k ld (by omega);exact⟨U,s,λ_=>t⟩
  ·exact⟨.n,oz,λh=>absurd h a⟩
 have u:q.length=e.cnt:=by rw[b.ZJ,m]
 let f:Nat->Ty:=λk=>Classical.choose (d k)
 have o:=λk=>Classical.choose_spec (d k);have p:∀k,k<e.cnt->iP ((List.range e.cnt).map f) k=f k:=by
  intro k a;unfold iP;rw[aC,iC a];rfl
 refine⟨(List.range e.cnt).map f,by simp,?_,?_,?_⟩
 ·intro T v;obtain⟨k,_,rfl⟩:=cM.1 v;exact (o k).1
 ·apply fD;intro k;by_cases a:k<e.cnt
  ·rw[(o k).2 a,aC,aC,iC a];rfl
  ·rw[bH (by omega),bH (by simp;omega)]
 ·refine b.pl _ (λk _ h2=>?_);rw[bJ]at h2;rw[p k h2];exact (o k).2 h2
mutual
theorem NA.rgn:∀{e:Sc}{t:PT}{f:Nat}{g:List NR},NA e t f g->t.Bf->∀n∈g,0<=n.region
 |_,.num p s,_,_,h,_,n,d=>by simp only[NA]at h;subst h;rw[ax]at d;subst d;exact Int.le_refl _
 |_,.name p s,_,_,h,_,n,d=>by simp only[NA]at h;subst h;rw[ax]at d;subst d;exact Int.le_refl _
 |_,.node p k i q j,_,_,h,h3,n,d=>by
  simp only[NA]at h;obtain⟨u,m,o,rfl⟩:=h;simp only[PT.Bf]at h3;rcases aA.1 d with d|d
  ·exact o.rgn h3.2 n d
  ·rw[ax]at d;subst d;simp only;omega
theorem j6.rgn:∀{e:Sc}{i:List UInt8}{l:List PT}{bs:List Bool}{f:Nat}{g:List NR},j6 e i l bs f g->CP l->∀n∈g,0<=n.region
 |_,_,[],_,_,_,h,_,n,d=>by simp only[j6]at h;rw[h.2]at d;simp at d
 |_,_,_::_,[],_,_,h,_,n,d=>by simp[j6]at h
 |_,_,t::r,b::bs,_,_,h,h3,n,d=>by
  simp only[j6]at h;obtain⟨a,c,h1,h2,rfl⟩:=h;simp only[CP]at h3;rcases aA.1 d with d|d
  ·exact h1.rgn h3.1 n d
  ·exact h2.rgn h3.2 n d
end
theorem AV:∀{A B:List Ty},A.map Ty.txt=B.map Ty.txt->A=B
 |[],[],_=>rfl
 |[],_::_,h=>by simp at h
 |_::_,[],h=>by simp at h
 |a::A,b::B,h=>by
  simp at h;rw[Gl h.1,AV h.2]
theorem Bm(s)(w)(x y:Nat)(h1:Calls prog 30 #[.string s] w λv a=>v=.returned (.tuple #[.int .i64 x,.int .i64 y])/\bg w a)(h2:∀a,bg w a->Calls prog 78 #[.string s] a λv d=>v=.returned (.tuple #[.int .i64 x,.int .i64 y])/\bg a d):Calls prog 47 #[.string s] w λv a=>v=.returned (.bool true)/\bg w a:=by
 have g:((x:Int)==(x:Int))=true:=by simp
 have h:((y:Int)==(y:Int))=true:=by simp
 have c:∀w,Calls prog 14 #[.int .i64 x] w λv a=>v=.returned (.int .i64 x)/\a=w:=by
  intro w;go_in;go_wp2;go_ret;exact⟨rfl,rfl⟩
 go_in;go_wp2_with fail;refine h1.mono ?_;rintro _ i ⟨rfl,b⟩;go_wp2_with fail;refine ay (h2 _ b) ?_;rintro _ j ⟨rfl,e⟩;have f:=b.trans (e.mono b.size);go_wp2_with fail;refine (c _).mono ?_;rintro _ _ ⟨rfl,rfl⟩;go_wp2;go_ret;exact⟨rfl,f⟩
theorem Qj{c m}{e}{n p q}{i}(r:bg I c)(s:gS c (λk=>k<c.heap.size) e 0 0 w)(a:ja m c d (mR e) R n p q [] i)(f:i.of=x.map Ty.txt)(g:0<x.length):XL I c e x w d:=by
 have h:=a.o;have t:i.of.length=x.length:=by rw[f,aO]
 rw[t]at h;obtain⟨j,u,rfl⟩:=gN h g;refine⟨r,s,aG a.y,j,u,by rw[aI a.y];rfl,(h.lt j rfl).2,?_⟩;intro k T l;have v:=(ae.1 l).1;show _=_;rw[h.cellAt k (by omega),f,dO,aC,l];rfl
theorem Tt (s) (w) (S:s.size<=maxLen) (x:Lib.TabIs prog w "internal/strconv.uint64pow10" .u64 Lib.pow10Tab):Calls prog 47 #[.string s] w λv g=>v=.returned (.bool true)/\bg w g:=by
 by_cases T:9000<s.size
 ·exact Bm s w 1 0 (tM s w 1 0 (by omega) (λw=>(oh s w 1 0 (by omega) (λw=>ko (.inr ⟨rfl,rfl⟩) s w T S)).mono λ_ _ ⟨h,c⟩=>⟨_,_,_,_,_,_,h,c⟩)) (λw _=>xE s w 1 0 (by omega) (λw _=>(AP s w T S).mono λ_ _ ⟨h,c⟩=>⟨_,_,h,c⟩))
 ·cases t:jt true s.data.toList with
  |some q=>exact Bm s w 2 q (tM s w 2 q (by omega) (λw=>(oh s w 2 q (by omega) (λw=>kr (.inr ⟨rfl,rfl,rfl,rfl⟩) s w (by omega) q t)).mono λ_ _ ⟨h,c⟩=>⟨_,_,_,_,_,_,h,c⟩)) (λw _=>xE s w 2 q (by omega) (λw _=>(AQ s w (by omega) q t).mono λ_ _ ⟨h,c⟩=>⟨_,_,h,c⟩))
  |none=>
   obtain⟨e,i⟩:=qv t;have hit:=λg c=>rI g (cC x g c);have h3:=(i.Bf (zL _)).1;have U:=gP i;by_cases u:(cK e).1=0
   ·have k:e.dn<=100:=by
     unfold cK at u;split at u
     ·simp at u
     ·omega
    have H:=(yF e k).1.trans u;obtain⟨I,l,J⟩:=uI (b:=s.size) i;have m:=C4 (x:=true) (w:=s.size) i (xD s.data.toList);rw[J]at m;obtain⟨_,y,z,A,B,_⟩:=Jz e I l h3 H;have C:=Tr l m;have D:∀r∈e.du 0 0,r.p<=9000:=by
     intro r hr;obtain⟨n,V⟩:=C.f3 r hr;have h1:=(C.br _ V).p;have h2:=((m.good 0 0).2).a _ V;simp only at h1 h2;omega
    refine Bm s w (o8 e y).1 (o8 e y).2 (Jw s w e (cK e).2 (o8 e y) (λw=>?_) (λg W X Y Z n2 c2 ns K d=>?_)) (λg o=>Qf s g e y A (by omega) z i.wf D (λL f=>?_))
    ·have:=u7 s w (by omega) e i;rw[u]at this;exact this
    ·obtain⟨M,N,_,_,E,O⟩:=Jz e ns d.1 h3 H;have P:N=y:=AV (by rw[<-E,<-B]);subst P;rw[<-ZI d.1 d.2 O];exact C8 g _ _ ns (opn e 0) K (EI d.1) (by have:=d.1.len;omega) (d.1.small (λ_ h=>by simp at h) (by omega)) (d.1.rgn h3) M
    ·refine (vS s L (by omega) e i t k (λF j=>hit F ((o.trans (f.mono o.size)).trans (j.mono (bw o.size f.size))))).mono λ_ F ⟨b,Q,h,c,hT,wz,cv,nv,tv,ov,_,_,R⟩=>⟨b,Q,((aV (mR e) e 0 0 [] (qo e)).2.at_:Int),?_,Qj c hT R B (by rw[z];exact fj e)⟩;rw[h,H];rfl
   ·have hx:=u;refine Bm s w (cK e).1 (cK e).2 (tM s w (cK e).1 (cK e).2 hx (λw=>(u7 s w (by omega) e i).mono λ_ _ ⟨W,X,Y,Z,n2,c2,_,h,c,_⟩=>⟨W,X,Y,Z,n2,c2,h,c⟩)) (λL f=>xE s L (cK e).1 (cK e).2 hx (λF j=>?_));by_cases G:100<e.dn
    ·refine (AR s F (by omega) e i t G).mono λ_ _ ⟨q,h,hq,c⟩=>⟨none,none,?_,c⟩;rw[h];unfold cK;rw[ah G,hq];rfl
    ·rw[<-(yF e (by omega)).1,<-(yF e (by omega)).2];exact (vS s F (by omega) e i t (by omega) (λg c=>hit g ((f.trans (j.mono f.size)).trans (c.mono (bw f.size j.size))))).mono λ_ _ ⟨b,Q,h,c,_⟩=>⟨some ⟨b,0,none⟩,some ⟨Q,0,none⟩,h,c⟩
def JA:List Nat->List Nat->Option (Nat×Nat)
 |a::l,b::m=>if a=b then JA l m else some (a,b)
 |_,_=>none
def zZ(c:List Ty):PT×Nat×Nat->Option (Nat×Nat)
 |(.node _ k _ _ [a,b,_],id,_)=>if k=.lv\/k=.loop then JA (iP c (id+1+a.cnt)).pM (iP c (id+1+a.cnt+b.cnt)).pM else none
 |_=>none
def nB(a:List Ty):List (PT×Nat×Nat)->Option (Nat×Nat)
 |[]=>none
 |x::r=>match zZ a x with
  |some q=>some q
  |none=>nB a r
def abG:Option (Nat×Nat)->Value
 |some (a,b)=>.tuple #[.int .i64 a,.int .i64 b,.bool true]
 |none=>.tuple #[.int .i64 0,.int .i64 0,.bool false]
theorem XP(g)(x)(l:x.1.wf):(((dA x).op=[105,102]\/(dA x).op=[108,111,111,112])/\∃p k h i a b c,x.1=.node p k h i [a,b,c]/\zZ g x=JA (iP g (x.2.1+1+a.cnt)).pM (iP g (x.2.1+1+a.cnt+b.cnt)).pM)\/((dA x).op≠[105,102]/\(dA x).op≠[108,111,111,112]/\zZ g x=none):=by
 obtain⟨t,id,j⟩:=x;cases t with
 |num p s=>exact .inr ⟨by simp[dA,rz],by simp[dA,rz],rfl⟩
 |name p s=>exact .inr ⟨by simp[dA,jE],by simp[dA,jE],rfl⟩
 |node p k h i e=>
  have f:=l.1;cases k
  case lv=>
   left
   match e,f with
   |[a,b,c],_=>exact⟨.inl rfl,p,_,h,i,a,b,c,rfl,by simp[zZ]⟩
  case loop=>
   left
   match e,f with
   |[a,b,c],_=>exact⟨.inr rfl,p,_,h,i,a,b,c,rfl,by simp[zZ]⟩
  all_goals
   right;refine⟨by simp[dA,Kw.bytes],by simp[dA,Kw.bytes],?_⟩;rcases e with _|⟨a,_|⟨b,_|⟨c,_|⟨d,r⟩⟩⟩⟩<;>simp[zZ]
theorem Tu(a:w<y.length)(b:w<N.length):JA (y.drop w) (N.drop w)=if y[w]=N[w] then JA (y.drop (w+1)) (N.drop (w+1)) else some (y[w],N[w]):=by
 rw[aW a,aW b];rfl
theorem ND(h:y.length<=w\/N.length<=w):JA (y.drop w) (N.drop w)=none:=by
 rcases h with h|h
 ·rw[bF h];rfl
 ·rw[bF h];cases y.drop w<;>rfl
theorem vW:∀T:Ty,T.pM.length=T.size:=by
 intro T;induction T with
 |n=>rfl
 |p r a b c d=>simp[Ty.pM,Ty.size,c,d]
theorem vX(h:I.ownsRow w 3 1 R y.length (y.map λ(x:Nat)=>Value.int .i64 x)):∃a b,R=.slice a y.length b/\∀j,(f:j<y.length)->∃g,a=some ⟨g,0,none⟩/\g<I.heap.size/\I.cell? ⟨g,j,none⟩=some (.int .i64 y[j]):=by
 obtain⟨a,b,c⟩:∃a b,R=.slice a y.length b:=by
  rcases h.2 with⟨h1,h2⟩|⟨g,d,e,h1,_⟩
  ·exact⟨none,0,by rw[h1,h2]⟩
  ·exact⟨_,_,h1⟩
 refine⟨a,b,c,λj f=>?_⟩;rcases h.2 with⟨h1,h2⟩|⟨g,d,e,h1,_⟩
 ·omega
 ·rw[c]at h1;simp at h1;have i:=h;rw[c,h1.1]at i;have k:I.cell? ⟨g,j,none⟩=some (.int .i64 y[j]):=by rw[i.cellAt j (by omega),aC,aa f];rfl
  exact⟨g,h1.1,aR _ _ k,k⟩
def LX(w:World)(b:Nat)(c:List Ty):Prop:=b<w.heap.size/\∃a d,w.cell? ⟨b,3,none⟩=some (.slice (some ⟨a,0,none⟩) c.length d)/\a<w.heap.size/\∀(k:Nat)(T:Ty),c[k]?=some T->cg w a k (.string (bs T.txt))
theorem LY(w0 w)(e)(a)(b P:Nat)(Q:∀T∈a,T.fit)(R:e.cnt<=9000)(S:a.length=e.cnt)(hwf:e.wf)(hT:gS w0 (λk=>k<w0.heap.size) e 0 0 b)(hb0:bg w0 w)(hO:LX w P a):Calls prog 70 #[.pointer (some ⟨b,0,none⟩),.pointer (some ⟨P,0,none⟩)] w λv c=>v=.returned (abG (nB a (e.subs 0 0)))/\bg w c:=by
 refine pd Q hwf S hO hb0 λQg Us U HO HB0=>?_;obtain⟨ans,E⟩:=ez (nB a (e.subs 0 0));rw[<-E];have V:Hid _:=E;have F:=λw1 h=>xY e 0 0 b _ w0 R hT w1 h;unfold ptr at F;clear Q hwf E S hO hT hb0;go_in;go_wp2_with fail;refine (F _ HB0).mono ?_;rintro _ w2 ⟨g,cap,bl,rfl,hb2,r,hts⟩;have hbl:bl.length=e.cnt:=by rw[hts.len,cU]
 have W:∀(i:Nat)(x:PT×Nat×Nat),(e.subs 0 0)[i]?=some x->∃o,w2.cell? ⟨g,i,none⟩=some (.pointer (some ⟨o,0,none⟩))/\gS w0 (λk=>k<w0.heap.size) x.1 x.2.1 x.2.2 o:=by
  intro i x hx;obtain⟨o,h1,h2⟩:=hts.at i x hx;refine⟨o,?_,h2⟩;rw[r.cellAt i (by have:=(ae.1 h1).1;omega),aC,h1];rfl
 have hgl:=(r.lt g rfl).2;refine fw W hb2 hbl λWk u HBL=>?_;have adw:bl.length<=9000:=by omega
 clear F r hts W hb2 hbl;go_wp2;go_loopw [8,11] (λi _ wr=>∃k:Nat,k<=bl.length/\i=.int .i64 k/\bg w2 wr/\nB a (e.subs 0 0)=nB a ((e.subs 0 0).drop k)) (λi _ _=>bl.length-(intOf i).toNat)
 case atStart=>exact⟨0,ld,rfl,fp,rfl⟩
 case round=>
  obtain⟨k,G,rfl,z,hvl⟩:=hrel;refine bY hvl z λHV Ps=>?_;have hgr:g<wr.heap.size:=by have:=z.size;omega
  have A:Hid (bg w wr):=(show Below _ _ _ from u.trans (z.mono u.size));by_cases hlt:k<bl.length
  ·have hkl:k<(e.subs 0 0).length:=by rw[cU,<-HBL.out];exact hlt
   obtain⟨x,hx⟩:∃x,(e.subs 0 0)[k]?=some x:=⟨_,aa hkl⟩;obtain⟨o,c1,hT⟩:=Wk k x hx;have d:=HB0.trans (A.mono HB0.size);have c1r:=(z.cell (p:=⟨g,k,none⟩) hgl).trans c1;obtain⟨a0,a1,a3,a5,_,H⟩:=gF (vB hT);have a0r:=(d.cell (p:=⟨o,0,none⟩) H).trans a0;have adC:o<wr.heap.size:=by have:=d.size;omega
   have hxd:(e.subs 0 0).drop k=x::(e.subs 0 0).drop (k+1):=by
    rw[aW hkl];rw[aa hkl]at hx;rw[dx hx]
   have hvs:nB a ((e.subs 0 0).drop k)=match zZ a x with|some q=>some q|none=>nB a ((e.subs 0 0).drop (k+1)):=by rw[hxd];rfl
   have hxm:=aq hx;have hxw:=Bi e 0 0 Us x hxm;have hxi:=mS e 0 0 x hxm;obtain⟨Kx,t,oc,o3,hgo,XM⟩:=HO;have o3r:=(A.cell (p:=⟨P,3,none⟩) Kx).trans o3;have Wd:P<wr.heap.size:=by have:=A.size;omega
   have X:t<wr.heap.size:=by have:=A.size;omega
   have HOA:Hid (∀(k:Nat),k<a.length->cg wr t k (.string (bs (iP a k).txt))/\(iP a k).fit):=by
    intro k G;have hg:=aa G;have hat:iP a k=a[k]:=by unfold iP;rw[hg];rfl
    rw[hat];exact⟨(A.cell (p:=⟨t,k,none⟩) hgo).trans (XM k _ hg),Qg _ (bZ G)⟩
   have Wl:Hid (∀p kw nm rg n,x.1=.node p kw nm rg n->∃va vc,wr.cell? ⟨o,4,none⟩=some (.slice va n.length vc)/\∀i y,n[i]?=some y->∃m bx,va=some ⟨m,0,none⟩/\m<wr.heap.size/\cg wr m i (.pointer (some ⟨bx,0,none⟩))/\bx<wr.heap.size/\cg wr bx 5 (.int .i64 ((x.2.1+1+aU (n.take i):Nat):Int))):=by
    intro p kw nm rg n I;rw[I]at hT;obtain⟨va,vc,h4,hk4⟩:=NB hT;refine⟨va,vc,(d.cell (p:=⟨o,4,none⟩) H).trans h4,?_⟩;intro i y hy;obtain⟨m,bx,e1,e2,e3,e4,e5⟩:=hk4 i y hy;have hsz:=d.size;exact⟨m,bx,e1,by omega,(d.cell (p:=⟨m,i,none⟩) e2).trans e3,by omega,(d.cell (p:=⟨bx,5,none⟩) e4).trans e5⟩
   have K:Hid _:=hvs;clear hx c1 hT d a0 a1 a3 a5 hxd hvs z hvl o3 hgo XM H Kx;have L:((bs (dA x).op).toList==[105,102])=((dA x).op==[105,102]):=bo _ _;have M:((bs (dA x).op).toList==[108,111,111,112])=((dA x).op==[108,111,111,112]):=bo _ _;have Y:x.2.1+x.1.cnt<=a.length:=by rw[U.out];omega
   have abB:a.length<=9000:=by rw[U.out];exact R
   rcases XP a x hxw with⟨hop,p0,k0,nm,rg,ka,kb,kc,I,B⟩|⟨h1,h2,B⟩
   ·obtain⟨va,vc,c4,hkk⟩:=Wl _ _ _ _ _ I;obtain⟨m,b1,rfl,hgk,d1,hb1,e1⟩:=hkk 1 kb rfl;obtain⟨gk',b2,ZA,_,d2,Fy,e2⟩:=hkk 2 kc rfl;have ZB:m=gk':=by injection ZA with h;injection h
    subst ZB;simp only[List.take,aU,az,aF,bn,bJ]at e1 e2 c4;have Mx:x.1.cnt=1+(ka.cnt+(kb.cnt+(kc.cnt+0))):=by rw[I];simp only[PT.cnt,aU]
    have adD:0<kc.cnt:=fj kc;obtain⟨C,hi1⟩:=ez (x.2.1+1+ka.cnt);obtain⟨D,rR⟩:=ez (C+kb.cnt);rw[<-hi1]at e1;have Z:x.2.1+1+(ka.cnt+kb.cnt)=D:=by omega
    rw[Z]at e2;rw[<-hi1,<-rR]at B;have hl1:C<a.length:=by omega
    have hl2:D<a.length:=by omega
    obtain⟨t1,f1⟩:=HOA C hl1;obtain⟨t2,f2⟩:=HOA D hl2;have hg:(((bs (dA x).op).toList==[105,102])=true)\/(((bs (dA x).op).toList==[105,102])=false/\((bs (dA x).op).toList==[108,111,111,112])=true):=by
     rw[L,M];rcases hop with h|h<;>rw[h]<;>simp
    have HVX:Hid _:=B;have UC:Hid _:=λw=>uZ (iP a C) f1 w;have OI:Hid _:=λw=>uZ (iP a D) f2 w;have hz1:(iP a C).pM.length<=127:=by rw[vW];exact f1.1
    have hz2:(iP a D).pM.length<=127:=by rw[vW];exact f2.1
    generalize rA:iP a C=T1 at*;generalize s6:iP a D=T2 at*;clear L M hop hkk I B Mx adD hi1 rR Z hxi Y rA s6 f1 f2;have HS:Hid (∀c,bg wr c->cg c g k (.pointer (some ⟨o,0,none⟩))/\cg c P 3 (.slice (some ⟨t,0,none⟩) a.length oc)/\cg c o 4 (.slice (some ⟨m,0,none⟩) 3 vc)/\cg c m 1 (.pointer (some ⟨b1,0,none⟩))/\cg c m 2 (.pointer (some ⟨b2,0,none⟩))/\cg c b1 5 (.int .i64 (C:Nat))/\cg c b2 5 (.int .i64 (D:Nat))/\cg c t C (.string (bs T1.txt))/\cg c t D (.string (bs T2.txt))):=by
     intro c N;exact⟨(N.cell (p:=⟨g,k,none⟩) hgr).trans c1r,(N.cell (p:=⟨P,3,none⟩) Wd).trans o3r,(N.cell (p:=⟨o,4,none⟩) adC).trans c4,(N.cell (p:=⟨m,1,none⟩) hgk).trans d1,(N.cell (p:=⟨m,2,none⟩) hgk).trans d2,(N.cell (p:=⟨b1,5,none⟩) hb1).trans e1,(N.cell (p:=⟨b2,5,none⟩) Fy).trans e2,(N.cell (p:=⟨t,C,none⟩) X).trans t1,(N.cell (p:=⟨t,D,none⟩) X).trans t2⟩
    clear o3r c4 d1 d2 e1 e2 t1 t2;rcases hg with hg|⟨hg,hg'⟩
    all_goals
     go_wp2;go_region_held3 (λc=>c.cell? ⟨g,k,none⟩=some (.pointer (some ⟨o,0,none⟩))/\cg c P 3 (.slice (some ⟨t,0,none⟩) a.length oc)/\cg c o 4 (.slice (some ⟨m,0,none⟩) 3 vc)/\cg c m 1 (.pointer (some ⟨b1,0,none⟩))/\cg c m 2 (.pointer (some ⟨b2,0,none⟩))/\cg c b1 5 (.int .i64 (C:Nat))/\cg c b2 5 (.int .i64 (D:Nat))/\cg c t C (.string (bs T1.txt))/\cg c t D (.string (bs T2.txt))) (first|exact HS _ ⟨rfl,rfl,rfl,bS,λ_ _=>rfl⟩|exact HS _ ⟨f.os,f.tape,f.output,f.size,λk G=>f.block k G⟩) (first|(go_at_call 112;refine (UC _).mono ?_;rintro e w7 ⟨v7,rfl,ho7,f⟩))
     all_goals
      have ZC:bg wr w7:=⟨f.os,f.tape,f.output,f.size,λk G=>f.block k G⟩;have s:Hid _:=ZC;obtain⟨va7,vc7,rfl,hr7⟩:=vX ho7;have HR7:Hid _:=hr7;clear f ZC ho7 hr7;go_wp2;go_region_held3 (λc=>c.cell? ⟨g,k,none⟩=some (.pointer (some ⟨o,0,none⟩))/\cg c P 3 (.slice (some ⟨t,0,none⟩) a.length oc)/\cg c o 4 (.slice (some ⟨m,0,none⟩) 3 vc)/\cg c m 1 (.pointer (some ⟨b1,0,none⟩))/\cg c m 2 (.pointer (some ⟨b2,0,none⟩))/\cg c b1 5 (.int .i64 (C:Nat))/\cg c b2 5 (.int .i64 (D:Nat))/\cg c t C (.string (bs T1.txt))/\cg c t D (.string (bs T2.txt))) (first|exact HS _ s|exact HS _ (s.trans ⟨rfl,rfl,rfl,bS,λ_ _=>rfl⟩)|exact HS _ (s.trans ⟨l.os,l.tape,l.output,l.size,λk G=>l.block k (cT G s.size)⟩)) (first|(go_at_call 112;refine (OI _).mono ?_;rintro e w8 ⟨v8,rfl,ho8,l⟩))
      all_goals
       have O:bg w7 w8:=⟨l.os,l.tape,l.output,l.size,λk G=>l.block k G⟩;obtain⟨va8,vc8,rfl,hr8⟩:=vX ho8;have HR8:Hid _:=hr8;have adE:Hid (∀j,(hj:j<T1.pM.length)->∃g,va7=some ⟨g,0,none⟩/\g<w8.heap.size/\cg w8 g j (.int .i64 T1.pM[j])):=by
        intro j hj;obtain⟨g,h1,h2,h3⟩:=HR7 j hj;exact⟨g,h1,cT h2 O.size,(O.cell (p:=⟨g,j,none⟩) h2).trans h3⟩
       have HB8:Hid (bg w2 w8):=(show Below _ _ _ from Ps.trans ((s.trans (O.mono s.size)).mono Ps.size));have ae1:Hid (bg w w8):=(show Below _ _ _ from u.trans (HB8.mono u.size));clear l O ho8 hr8 HR7 s HS UC OI a0r c1r;generalize T1.pM=R1 at*;generalize T2.pM=R2 at*;go_wp2;go_loopw [11] (λkk wi=>∃j:Nat,bg w8 wi/\j<=R1.length/\j<=R2.length/\kk=.int .i64 j/\JA R1 R2=JA (R1.drop j) (R2.drop j)) (λkk _=>R1.length-(intOf kk).toNat)
       case atStart=>exact⟨0,fp,ld,ld,rfl,rfl⟩
       case round=>
        obtain⟨j,J,hj1,hj2,rfl,hpt⟩:=hrel;refine bY hpt J λHP HBI=>?_;have VP:Hid (bg w2 wr):=(show Below _ _ _ from HB8.trans (J.mono HB8.size));clear hpt J;by_cases Q8:j<R1.length
        ·by_cases Fx:j<R2.length
         ·obtain⟨g1,hg1,adF,hc1⟩:=adE j Q8;obtain⟨g2,Ov,adG,hc2⟩:=HR8 j Fx;subst hg1 Ov;have hd1:=(HBI.cell (p:=⟨g1,j,none⟩) adF).trans hc1;have Y6:=(HBI.cell (p:=⟨g2,j,none⟩) adG).trans hc2;clear hc1 hc2;have hst:=Tu Q8 Fx;have vL:Hid _:=hst;generalize R1[j]=y1 at*;generalize R2[j]=y2 at*;clear hst;cases hq:((y1:Int) !=(y2:Int)) with
          |true=>
           have hne:¬y1=y2:=by intro h;rw[h]at hq;simp at hq
           have HF:Hid (ans=some (y1,y2)):=(show _=_ by rw[V.out,HV.out,K.out,HVX.out,HP.out,vL.out,ag hne]);clear hne;go_wp2;go_quiet (fail);go_wp2;go_quiet (fail);go_wp2;refine au (v:=.tuple #[.int .i64 y1,.int .i64 y2,.bool true]) (by simp[results,results70,go_sem]) rfl ⟨by rw[HF.out];rfl,Below.trans (u.trans (VP.mono u.size)) ⟨rfl,rfl,rfl,bS,λ_ _=>rfl⟩⟩
          |false=>
           have he:y1=y2:=by simp at hq;omega
           have HN:Hid (JA R1 R2=JA (R1.drop (j+1)) (R2.drop (j+1))):=(show _=_ by rw[HP.out,vL.out,ah he]);clear he;go_wp2;go_quiet (fail);go_wp2;go_roundw
           case rel=>exact⟨j+1,HBI.out.trans ⟨rfl,rfl,rfl,bS,λ_ _=>rfl⟩,by omega,by omega,by go_num,HN.out⟩
           case measure=>simp[intOf];omega
         ·have HN:Hid (nB a (e.subs 0 0)=nB a ((e.subs 0 0).drop (k+1))):=(show _=_ by rw[HV.out,K.out,HVX.out,HP.out,ND (.inr (by omega))]);go_wp2;go_roundw
          case rel=>exact⟨k+1,by omega,by go_num,VP.out,HN.out⟩
          case measure=>simp[intOf];omega
        ·have HN:Hid (nB a (e.subs 0 0)=nB a ((e.subs 0 0).drop (k+1))):=(show _=_ by rw[HV.out,K.out,HVX.out,HP.out,ND (.inl (by omega))]);go_wp2;go_roundw
         case rel=>exact⟨k+1,by omega,by go_num,VP.out,HN.out⟩
         case measure=>simp[intOf];omega
   ·have hg1:((bs (dA x).op).toList==[105,102])=false:=by rw[L];simpa using h1
    have Ov:((bs (dA x).op).toList==[108,111,111,112])=false:=by rw[M];simpa using h2
    have HN:Hid (nB a (e.subs 0 0)=nB a ((e.subs 0 0).drop (k+1))):=(show _=_ by rw[HV.out,K.out,B]);clear L M h1 h2 B hxi Y o3r;go_wp2;go_roundw
    case rel=>exact⟨k+1,by omega,by go_num,Ps.out,HN.out⟩
    case measure=>simp[intOf];omega
  ·have hnil:(e.subs 0 0).drop k=[]:=bF (by rw[cU,<-HBL.out];omega);have HF:Hid (ans=none):=by rw[V.out,HV.out,hnil];exact rfl
   clear hnil z hvl;go_wp2;refine au (v:=.tuple #[.int .i64 0,.int .i64 0,.bool false]) (by simp[results,results70,go_sem]) rfl ⟨by rw[HF.out];rfl,A⟩
def UE(c:Nat->Nat)(x y:Nat):Nat->Nat:=λi=>if c i=max (c x) (c y) then min (c x) (c y) else c i
theorem Tv(c)(x y:Nat):UE c x y x=UE c x y y:=by
 unfold UE;by_cases e:c x<=c y
 ·rw[iK e,dL e];by_cases a:c x=c y
  ·rw[ah a,ah rfl]
  ·rw[ag a,ah rfl]
 ·have b:c y<=c x:=by omega
  rw[je b,iL b,ah rfl,ag (by omega)]
theorem Qk(c)(x y:Nat)(h:c w=c d):UE c x y w=UE c x y d:=by unfold UE;rw[h]
def u9(E:List Nat):Nat->Nat->Nat
 |0,p=>p
 |f+1,p=>match E[p]? with
  |some x=>if x<p then u9 E f x else p
  |none=>p
def cZ(E:List Nat)(p:Nat):Nat:=u9 E (p+1) p
theorem EW(E):∀f p,u9 E f p<=p
 |0,p=>nK p
 |f+1,p=>by
  simp[u9];split
  ·split
   ·have:=EW E f;rename_i x _ h;have:=this x;omega
   ·exact nK p
  ·exact nK p
theorem AW(E):∀f g p,p<f->p<g->u9 E f p=u9 E g p
 |0,_,_,h,_=>by omega
 |_+1,0,_,_,h=>by omega
 |f+1,g+1,p,h1,h2=>by
  simp[u9];split
  ·split
   ·rename_i x _ h;exact AW E f g x (by omega) (by omega)
   ·rfl
  ·rfl
theorem mT(E)(p:Nat):cZ E p=match E[p]? with
  |some x=>if x<p then cZ E x else p
  |none=>p:=by
 unfold cZ
 conv=>lhs;unfold u9
 split
 ·split
  ·rename_i x _ h;exact AW E p (x+1) x h (by omega)
  ·rfl
 ·rfl
theorem Dj(E)(p:Nat):cZ E p<=p:=EW E _ p
theorem NF(E):∀p,∀x,E[cZ E p]?=some x->cZ E p<=x:=by
 intro p
 induction p using Nat.strongRecOn with
 |_ p c=>
  intro x a;rw[mT]at a⊢;cases h:E[p]? with
  |none=>rw[h]at a;simp only at a;rw[h]at a;cases a
  |some y=>
   rw[h]at a;simp only at a⊢;by_cases b:y<p
   ·rw[ah b]at a⊢;exact c y b x a
   ·rw[ag b]at a⊢;rw[h]at a;cases a;omega
theorem NG(E)(a b:Nat)(c:a<b)(j:b<E.length)(k:cZ E a=a)(g:cZ E b=b):∀p,cZ (E.set b a) p=if cZ E p=b then a else cZ E p:=by
 intro p
 induction p using Nat.strongRecOn with
 |_ p i=>
  rw[mT (E.set b a) p];by_cases f:p=b
  ·subst f;rw[bh j];simp only;rw[ah c,i a c,k,g,ag (by omega),ah rfl]
  ·rw[bI (λe=>f e.symm),mT E p];cases h:E[p]? with
   |none=>simp only;rw[ag f]
   |some y=>
    simp only;by_cases d:y<p
    ·rw[ah d,ah d];exact i y d
    ·rw[ag d,ag d,ag f]
def oq(E:List Nat)(x y:Nat):List Nat:=if cZ E x<cZ E y then E.set (cZ E y) (cZ E x) else E.set (cZ E x) (cZ E y)
theorem rf(E)(p:Nat):cZ E (cZ E p)=cZ E p:=by
 rw[mT E (cZ E p)];cases h:E[cZ E p]? with
 |none=>rfl
 |some x=>simp only;rw[ag (by have:=NF E p x h;omega)]
theorem sP(E)(x y:Nat)(j:x<E.length)(k:y<E.length)(p:Nat):cZ (oq E x y) p=UE (cZ E) x y p:=by
 have c:=Dj E x;have d:=Dj E y;unfold oq UE;by_cases h:cZ E x<cZ E y
 ·rw[ah h,NG E _ _ h (by omega) (rf E x) (rf E y),iK (by omega),dL (by omega)]
 ·rw[ag h];by_cases e:cZ E x=cZ E y
  ·rw[<-e,Nat.max_self,Nat.min_self];have f:∀q,cZ (E.set (cZ E x) (cZ E x)) q=cZ E q:=by
    intro q
    induction q using Nat.strongRecOn with
    |_ q g=>
     rw[mT (E.set _ _) q,mT E q];by_cases b:q=cZ E x
     ·rw[b,bh (by omega)];simp only;rw[ag (by omega)];cases h2:E[cZ E x]? with
      |none=>rfl
      |some z=>simp only;rw[ag (by have:=NF E x z h2;omega)]
     ·rw[bI (λe=>b e.symm)];cases h2:E[q]? with
      |none=>rfl
      |some z=>
       simp only;by_cases a:z<q
       ·rw[ah a,ah a];exact g z a
       ·rw[ag a,ag a]
   rw[f];split
   ·rename_i i;exact i
   ·rfl
  ·rw[NG E _ _ (by omega) (by omega) (rf E y) (rf E x),je (by omega),iL (by omega)]
