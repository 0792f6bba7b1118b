import Derived.Test.YtpicaknklgccoaaGreatDoorK51
set_option maxHeartbeats 8000000
set_option maxRecDepth 100000
namespace Go.Proofs.YtpicaknklgccoaaGreatDoor
open Tryz
open Go.RowKit
variable {w a b:Nat}{c v:World}{d:List Nat}{y:Value}{u:List Bool}{K:List Value}
theorem Wp(q):abG q=.tuple #[.int .i64 ((q.getD (0,0)).1:Nat),.int .i64 ((q.getD (0,0)).2:Nat),.bool q.isSome]:=by
 rcases q with _|⟨a,b⟩<;>rfl
theorem ve{n:Nat}{t}(h:c.ownsRow w t 1 (.slice (some ⟨a,0,none⟩) n b) n K)(d:Nat):c.frozen? ⟨a,d,none⟩=false:=by
 rcases h.2 with⟨h2,_⟩|⟨k,e,f,i,l,j,_⟩
 ·cases h2
 ·cases i;exact aK j d
def D6(a b:Nat)(l:List Nat):List Nat:=l.map λc=>if c=b then a else c
theorem Gw(a b:Nat)(l):(D6 a b l).length=l.length:=by simp[D6]
def G5(a b:Nat)(l:List Nat)(j:Nat):List Nat:=D6 a b (l.take j)++l.drop j
theorem Gx(a b:Nat)(l)(j:Nat):(G5 a b l j).length=l.length:=by simp[G5,D6];omega
theorem ZM(c:b<d.length):(G5 w a d b)[b]'(by rw[Gx];exact c)=d[b]:=by
 simp[G5];simp[Gw,dL (gi c)]
theorem ZN(c:b<d.length)(h:d[b]≠a):G5 w a d (b+1)=G5 w a d b:=by
 simp only[G5,cW,aa c,D6,bz,Option.toList,bK,eH,ag h];rw[aW c,aB];rfl
theorem Wq(e:b<d.length)(h:d[b]=a):G5 w a d (b+1)=(G5 w a d b).set b w:=by
 have f:(List.map (λc=>if c=a then w else c) (List.take b d)).length=b:=by simp;omega
 simp only[G5,cW,aa e,D6,bz,Option.toList,bK,eH,ah h];rw[aW e,ik _ _ (by omega),f,cx,aB];rfl
def L0(w:World)(g n:Nat):Nat:=((List.range n).map λj=>(intOf ((w.cell? ⟨g,j,none⟩).getD (.int .i64 0))).toNat).sum
theorem EX(h:c.ownsRow w 3 1 (.slice (some ⟨a,0,none⟩) d.length b) d.length (dM d)):L0 c a d.length=d.sum:=by
 unfold L0
 congr 1
 apply mA (by simp);intro j h1 h2;simp;rw[sQ h j h2];simp[intOf]
theorem TB{a b:Nat}(h:a<b):∀l:List Nat,(D6 a b l).sum<=l.sum
 |[]=>bS
 |x::r=>by
  have:=TB h r;simp[D6]at this⊢;split<;>omega
theorem TC{d a:Nat}(h:d<a):∀l:List Nat,a∈l->(D6 d a l).sum<l.sum
 |[],b=>by simp at b
 |x::r,b=>by
  have h1:=TB h r;by_cases c:x=a
  ·simp[D6,ah c]at h1⊢;omega
  ·have:=TC h r (by simpa [Ne.symm c] using b);simp[D6,ag c]at this⊢;omega
theorem NK{cls}{j l m n}{e}{b}(h:ja c v w cls j l m n [] e)(p:e.of=b.map Ty.txt)(r:0<b.length):LX v w b:=by
 have f:=h.y;refine⟨aG f,?_⟩;have a:=h.o;rw[p]at a;rcases a.2 with⟨h1,h2⟩|⟨g,d,q,h1,_⟩
 ·exact absurd h2 (by rw[aO];omega)
 ·rw[aO]at h1;subst h1;refine⟨g,d,by rw[aI f];rfl,(a.lt g rfl).2,λk T i=>?_⟩;rw[aO]at a;show _=_;rw[a.cellAt k (by have:=(ae.1 i).1;omega)];simp[i,ia]
structure ShI(e:PT)(TYf:List Nat->List Ty)(n:Nat)(cls:List Nat): Prop where
 len:cls.length=n
 sm:∀x∈cls,x<100
 dn:e.dn<=n
 tl:(TYf cls).length=e.cnt
 fit:∀T∈TYf cls,T.fit
 of:(aV cls e 0 0 [] (qo e)).2.of=(TYf cls).map Ty.txt
theorem L3{P:List Nat->Prop}(l w)(e)(d)(b n g f:Nat)(cls)(G:e.cnt<=9000)(U:e.wf)(hn:n<=9000)(hT:gS l (λk=>k<l.heap.size) e 0 0 b)(hb0:bg l w)(V:w.ownsRow l.heap.size 3 1 (.slice (some ⟨g,0,none⟩) n f) n (dM cls))(hP:P cls)(hI:∀c,P c->ShI e d n c)(hS:∀c x y,P c->nB (d c) (e.subs 0 0)=some (x,y)->P (D6 (min x y) (max x y) c)/\max x y∈c/\x≠y):Calls prog 38 #[.pointer (some ⟨b,0,none⟩),.slice (some ⟨g,0,none⟩) n f] w λv u=>∃c,v=.returned (.slice (some ⟨g,0,none⟩) n f)/\P c/\nB (d c) (e.subs 0 0)=none/\u.ownsRow l.heap.size 3 1 (.slice (some ⟨g,0,none⟩) n f) n (dM c)/\bg l u:=by
 have W:Hid (∀(c:List Nat)(r:World),P c->bg l r->r.ownsRow l.heap.size 3 1 (.slice (some ⟨g,0,none⟩) n f) n (dM c)->Calls prog 39 #[.pointer (some ⟨b,0,none⟩),.slice (some ⟨g,0,none⟩) n f] r λv u=>∃A,v=.returned (.pointer (some ⟨A,0,none⟩))/\bg l u/\u.ownsRow l.heap.size 3 1 (.slice (some ⟨g,0,none⟩) n f) n (dM c)/\LX u A (d c)):=by
  intro c r H o s;have a:=hI c H;have hl:=a.len;subst hl;refine (vN (um l c a.sm) hn e U b _ _ r hT G o s a.dn ⟨_,_,_,rfl⟩).mono ?_;rintro v u ⟨A,nv,tv,ov,rfl,_,_,I⟩;exact⟨A,rfl,I.b0,I.c,NK I a.of (by rw[a.tl];exact fj e)⟩
 have X:Hid (∀(c:List Nat)(r:World)(A:Nat),P c->bg l r->r.ownsRow l.heap.size 3 1 (.slice (some ⟨g,0,none⟩) n f) n (dM c)->LX r A (d c)->Calls prog 70 #[.pointer (some ⟨b,0,none⟩),.pointer (some ⟨A,0,none⟩)] r λv u=>v=.returned (.tuple #[.int .i64 (((nB (d c) (e.subs 0 0)).getD (0,0)).1:Nat),.int .i64 (((nB (d c) (e.subs 0 0)).getD (0,0)).2:Nat),.bool (nB (d c) (e.subs 0 0)).isSome])/\bg l u/\u.ownsRow l.heap.size 3 1 (.slice (some ⟨g,0,none⟩) n f) n (dM c)):=by
  intro c r A H o s ho;have a:=hI c H;refine (LY l r e (d c) b A a.fit G a.tl U hT o ho).mono ?_;rintro v u ⟨rfl,hb⟩;exact⟨by rw[Wp],o.trans (hb.mono o.size),bO s (λk hk=>hb.block k (s.lt k hk).2)⟩
 go_in;go_wp2_with fail;refine (W cls _ hP hb0 V).mono ?_;rintro _ r ⟨A,rfl,o,s,UT⟩;have hpt:=X cls r A hP o s UT;go_wp2_with fail;refine hpt.mono ?_;rintro _ w2 ⟨rfl,hb2,xO⟩;obtain⟨J,Y⟩:=ez (nB (d cls) (e.subs 0 0));rw[<-Y];obtain⟨x0,K⟩:=ez ((J.getD (0,0)).1);obtain⟨y0,L⟩:=ez ((J.getD (0,0)).2);obtain⟨o0,M⟩:=ez J.isSome;rw[<-K,<-L,<-M];have B:Hid (x0=(J.getD (0,0)).1/\y0=(J.getD (0,0)).2/\o0=J.isSome):=⟨K,L,M⟩;clear K L M;go_wp2;go_loopw [5,6,7,8,9,10,11] (λ_ va vb vo _ _ _ wr=>∃(c:List Nat)(q:Option (Nat×Nat)),P c/\q=nB (d c) (e.subs 0 0)/\va=.int .i64 ((q.getD (0,0)).1:Nat)/\vb=.int .i64 ((q.getD (0,0)).2:Nat)/\vo=.bool q.isSome/\bg l wr/\wr.ownsRow l.heap.size 3 1 (.slice (some ⟨g,0,none⟩) n f) n (dM c)) (λ_ _ _ _ _ _ _ wr=>L0 wr g n)
 case atStart=>exact⟨cls,J,hP,Y,by rw[B.out.1],by rw[B.out.2.1],by rw[B.out.2.2],hb2,xO⟩
 case round=>
  obtain⟨c,q,H,hq,rfl,rfl,rfl,Z,N⟩:=hrel;have t:=(hI c H).len;rcases q with _|⟨x,y⟩
  ·simp only[Option.getD,Option.isSome];go_wp2;go_ret;exact⟨c,by first|rfl|trivial,H,hq.symm,N,Z⟩
  ·obtain⟨E,C,hne⟩:=hS c x y H hq.symm;have O:=(hI c H).sm _ C;simp only[Option.getD,Option.isSome];obtain⟨m,a,hlh,hlo,Q,R⟩:∃m a:Nat,m<a/\m=min x y/\a=max x y/\((y<x/\m=y/\a=x)\/(¬y<x/\m=x/\a=y)):=by
    by_cases h:y<x
    ·exact⟨y,x,h,by omega,by omega,.inl ⟨h,rfl,rfl⟩⟩
    ·exact⟨x,y,by omega,by omega,by omega,.inr ⟨h,rfl,rfl⟩⟩
   rw[<-hlo,<-Q]at E;rw[<-Q]at C O;clear hlo Q;rcases R with⟨hyx,rfl,rfl⟩|⟨hyx,rfl,rfl⟩
   all_goals
    go_wp2;go_loopw [11] (λi wi=>∃j:Nat,j<=n/\i=.int .i64 j/\bg l wi/\wi.ownsRow l.heap.size 3 1 (.slice (some ⟨g,0,none⟩) n f) n (dM (G5 m a c j))) (λi _=>n-(intOf i).toNat)
    case atStart=>exact⟨0,ld,rfl,Z,by simp only[G5,nL,D6,eH,bC,iA];exact N⟩
    case round=>
     obtain⟨j,hj,rfl,S,p⟩:=hrel;have hml:=Gx m a c j;have D:=p;rw[<-t,<-hml]at D;by_cases hjl:j<n
     ·have T:j<c.length:=by omega
      have hc:=sQ D j (by omega);have hgl:=(p.lt g rfl).2;have hg0:=(p.lt g rfl).1;rw[ZM T]at hc;have hfr:=ve p j;by_cases F:c[j]=a
      ·have HN:G5 m a c (j+1)=(G5 m a c j).set j m:=Wq T F;rw[F]at hc;go_wp2;go_roundw
       case rel=>
        refine⟨j+1,by omega,by go_num,gV S hg0,?_⟩;rw[HN];have:=NH D j m;rw[Gx,t]at this;exact this
       case measure=>simp[intOf];omega
      ·have HN:G5 m a c (j+1)=G5 m a c j:=ZN T F;obtain⟨z,hz⟩:=ez (c[j]);rw[<-hz]at hc F;have hne:((z:Int)==(a:Int))=false:=by simp;omega
       go_wp2;go_roundw
       case rel=>
        refine⟨j+1,by omega,by go_num,S,?_⟩;rw[HN];exact p
       case measure=>simp[intOf];omega
     ·have ZO:j=c.length:=by omega
      have hfin:G5 m a c j=D6 m a c:=by rw[ZO];simp[G5]
      rw[hfin]at p;go_wp2_with fail;refine (W (D6 m a c) wr E S p).mono ?_;rintro _ w5 ⟨yb5,rfl,GY,hr5,Hp⟩;go_wp2_with fail;refine (X (D6 m a c) w5 yb5 E GY hr5 Hp).mono ?_;rintro _ w6 ⟨rfl,hb6,hr6⟩;go_wp2;go_roundw
      case rel=>exact⟨D6 m a c,_,E,rfl,rfl,rfl,rfl,hb6,hr6⟩
      case measure=>
       have e1:=hr6;have e2:=N;have hl2:=Gw m a c;rw[<-t]at e2;rw[<-t,<-hl2]at e1;have e3:=EX e1;have e4:=EX e2;rw[hl2,t]at e3;rw[t]at e4;rw[e3,e4];exact TC hlh c C
theorem L7:prog.underlying 128=some (.slice 4):=by kernel_rfl
theorem JF:(prog.info? 4).map (λi=>(i.zero,i.size,i.bytes))=some (some (.bool false),1,1):=by kernel_rfl
def rm(L:List Bool):List Value:=L.map Value.bool
theorem Bp{n:Nat}{t}(h:c.ownsRow w t 1 (.slice (some ⟨a,0,none⟩) n b) n K)(k:Nat)(x):(c.setCell ⟨a,k,none⟩ x).ownsRow w t 1 (.slice (some ⟨a,0,none⟩) n b) n (K.set k x):=by
 obtain⟨h1,h2⟩:=h;refine⟨by rw[cO];exact h1,aE ?_⟩;rcases h2 with⟨h2,_⟩|⟨q,e,d,f,i,j,l,m,o,p⟩
 ·cases h2
 ·cases f;refine⟨a,b,d.setIfInBounds k x,rfl,i,?_,l,m,by simpa using o,?_⟩
  ·rw[bu j k _]
  ·rw[<-p,kA,List.take_set]
theorem NL(v)(n:Nat):(madeCells #[v] n).toList=List.replicate n v:=by
 apply mA
 ·simp[madeCells]
 ·simp[madeCells,Nat.mod_one]
def cb(w:World)(g k:Nat):Bool:=match w.cell? ⟨g,k,none⟩ with
 |some (.bool b)=>b
 |_=>false
theorem NM{n:Nat}(h:c.ownsRow w 4 1 (.slice (some ⟨a,0,none⟩) n b) n (rm u))(k:Nat)(d:k<n)(e:u.length=n):c.cell? ⟨a,k,none⟩=some (.bool (u.getD k false)):=by
 rw[h.cellAt k (by omega)];unfold rm;rw[aC,aa (by omega)];simp[List.getD,aa (show k<u.length by omega)]
theorem Wr{n:Nat}(h:c.ownsRow w 4 1 (.slice (some ⟨a,0,none⟩) n b) n (rm u))(k:Nat)(d:k<n)(e:u.length=n):c.cell? ⟨a,k,none⟩=some (.bool (cb c a k)):=by
 unfold cb;rw[NM h k d e]
def tN(a:List Ty)(b:Nat)(c:List Rec):List Bool:=c.map λr=>(iP a r.id).has b
def tO(a:List Rec)(S:List Bool)(r:Rec):Nat->Bool
 |0=>true
 |k+1=>tO a S r k&&match a[k]? with
  |some q=>!(S.getD k false&&(decide (q.id<r.id)||decide (r.last<q.id)))
  |none=>true
def hmB(d:List Rec)(a:Option Nat)(r:Rec):Bool:=match a with
 |none=>true
 |some b=>match d[b]? with
  |some c=>decide (r.last-r.id<c.last-c.id)
  |none=>true
def hmS(b:List Rec)(S:List Bool)(a:Option Nat)(i:Nat):Option Nat:=match b[i]? with
 |some r=>if !(S.getD i false)&&tO b S r b.length&&hmB b a r then some i else a
 |none=>a
def Aa(a:List Rec)(S:List Bool):Nat->Option Nat
 |0=>none
 |k+1=>hmS a S (Aa a S k) k
theorem TD(a)(S):∀k b,k<=a.length->Aa a S k=some b->b<k
 |0,b,_,h=>by simp[Aa]at h
 |k+1,b,c,h=>by
  simp[Aa,hmS]at h;rw[aa (by omega)]at h;simp only at h;split at h
  ·cases h;omega
  ·have:=TD a S k b (by omega) h;omega
def ZP(b:World)(c:List Rec)(p:Option Addr):Option Nat->Prop
 |none=>p=none
 |some i=>∃a r,p=some ⟨a,0,none⟩/\c[i]?=some r/\isRec b a r
theorem TE(C w)(e)(U)(b yb rg:Nat)(hfit:∀T∈U,T.fit)(yx:e.cnt<=9000)(hlen:U.length=e.cnt)(hT:gS C (λk=>k<C.heap.size) e 0 0 b)(l:bg C w)(hO:LX w yb U):Calls prog 40 #[.pointer (some ⟨b,0,none⟩),.pointer (some ⟨yb,0,none⟩),.int .i64 rg] w λv y=>∃p,v=.returned (.pointer p)/\bg w y/\ZP C (e.du 0 0) p (Aa (e.du 0 0) (tN U rg (e.du 0 0)) e.cnt):=by
 obtain⟨i0,hi,hz0,hz1,hz2⟩:=cI JF;refine Ms hi hz0 hz1 hz2 hfit hO l λHI y8 za ze Qg HO A=>?_;have V:=xY e 0 0 b _ C yx hT w l;unfold ptr at V;have FZ:∀r∈e.du 0 0,r.id<e.cnt/\r.last<e.cnt/\r.id<=r.last:=by
  intro r o;rw[gO,cM]at o;obtain⟨x,hx,rfl⟩:=o;have:=mS e 0 0 x hx;obtain⟨t,id,site⟩:=x;cases t with
  |num p s=>simp only[dA,PT.cnt]at*;omega
  |name p s=>simp only[dA,PT.cnt]at*;omega
  |node p k nm rg kids=>simp only[dA,PT.cnt]at*;omega
 have hrl:(e.du 0 0).length=e.cnt:=gA e 0 0;have UF:∀(i:Nat)(r:Rec),(e.du 0 0)[i]?=some r->∃x,(e.subs 0 0)[i]?=some x/\dA x=r:=by
  intro i r o;rw[gO,aC]at o;cases hx:(e.subs 0 0)[i]? with
  |none=>rw[hx]at o;simp at o
  |some x=>rw[hx]at o;exact⟨x,rfl,by simpa using o⟩
 have hsl:=cU e 0 0;generalize e.du 0 0=c at*;generalize e.subs 0 0=sl at*;generalize e.cnt=n at*;refine fT UF FZ hlen hsl λHRS Nc W HSL=>?_;obtain⟨S,hS⟩:=ez (tN U rg c);have hSl:S.length=n:=by rw[hS,<-hrl];simp[tN]
 have HSD:Hid (∀(i:Nat)(r:Rec),c[i]?=some r->S.getD i false=(iP U r.id).has rg):=by
  intro i r o;rw[hS];unfold tN;simp[List.getD,o]
 rw[<-hS];obtain⟨ans,X⟩:=ez (Aa c S n);rw[<-X];have La:Hid _:=X;clear hfit hlen hO hT l hi hz0 hz1 hz2 UF FZ hS X hsl;go_in;go_wp2_with fail;refine V.mono ?_;rintro _ O ⟨g,cap,bl,rfl,hb2,F,hts⟩;have hbl:bl.length=n:=by rw[hts.len,HSL.out]
 have Y:Hid (∀(i:Nat)(r:Rec),c[i]?=some r->∃d,O.cell? ⟨g,i,none⟩=some (.pointer (some ⟨d,0,none⟩))/\isRec C d r):=by
  intro i r o;obtain⟨x,hx,he⟩:=HRS i r o;obtain⟨d,h1,h2⟩:=hts.at i x hx;refine⟨d,?_,he▸vB h2⟩;rw[F.cellAt i (by have:=(ae.1 h1).1;omega),aC,h1];rfl
 have hgl:g<O.heap.size:=(F.lt g rfl).2;have G:Hid _:=hb2;rw[hbl];clear V F hts hb2 hbl HRS HSL;clear bl;go_wp2_with (first|(at_make;go_must (refine ic _ rfl (.tmp 17) (.tmp 17) 128 rfl O.heap.size 4 i0 _ 1 L7 HI y8 za .i64 .i64 _ _ n rfl rfl rfl rfl ?m1 ?m2 ?m3 ?_)))
 case m1=>rw[ze.out];omega
 case m2=>unfold maxLen;omega
 case m3=>omega
 intro w3 zk P;have hb3:bg O w3:=⟨P.os,P.tape,P.output,P.size,λk z=>P.block k z (by simp)⟩;obtain⟨E,hgs⟩:=ez O.heap.size;have AZ:Hid (w3.ownsRow O.heap.size 4 1 (.slice (some ⟨E,0,none⟩) n n) n (rm (List.replicate n false))):=by
  rw[hgs,show rm (List.replicate n false)=(madeCells #[Value.bool false] n).toList from by rw[NL];simp[rm]];exact zk
 have abI:O.heap.size<=E:=by omega
 rw[<-hgs];have GZ:Hid _:=hb3;clear zk P hb3 hgs;go_wp2;go_loopw [9] (λi wr=>∃(j:Nat)(L:List Bool),j<=n/\i=.int .i64 j/\L.length=n/\bg O wr/\wr.ownsRow O.heap.size 4 1 (.slice (some ⟨E,0,none⟩) n n) n (rm L)/\∀k,k<j->L[k]?=S[k]?) (λi _=>n-(intOf i).toNat)
 case atStart=>exact⟨0,List.replicate n false,ld,rfl,by simp,GZ.out,AZ.out,λk z=>absurd z (Nat.not_lt_zero k)⟩
 case round=>
  obtain⟨j,L,hj,rfl,hL,D,H,hLS⟩:=hrel;refine fT D H hLS hL λB Q HLS I=>?_;have HBK:Hid (∀k,(Value.slice (some ⟨E,0,none⟩) n n).ownBlock=some k->k<wr.heap.size):=λk z=>(H.lt k z).2;have adH:E<wr.heap.size:=(H.lt E rfl).2;by_cases ZO:j<n
  ·have hjr:j<c.length:=by omega
   obtain⟨r,o⟩:∃r,c[j]?=some r:=⟨_,aa hjr⟩;obtain⟨d,c1,f⟩:=Y j r o;obtain⟨_,_,_,a5,_,h⟩:=gF f;have abJ:=Nc r (aq o);have hBw:bg w wr:=G.trans (D.mono G.size);have adI:bg C wr:=A.trans (hBw.mono A.size);have hsd:=HSD j r o;obtain⟨Kx,go,oc,o3,hgo,XM⟩:=HO;obtain⟨t,ht⟩:=ez (iP U r.id);have hrt:r.id<U.length:=by rw[W.out];exact abJ.1
   have htg:U[r.id]?=some t:=by rw[ht];unfold iP;rw[aa hrt];rfl
   have hme:=λw=>yK t (Qg t (aq htg)) rg w;rw[<-ht]at hsd;obtain⟨hv,hhv⟩:=ez (t.has rg);rw[<-hhv]at hme hsd;refine bY hme hsd λXN adJ=>?_;have hsz:=G.size;have adK:=A.size;have HS:Hid (∀(y:World)(L:List Bool),L.length=n->bg O y->y.ownsRow O.heap.size 4 1 (.slice (some ⟨E,0,none⟩) n n) n (rm L)->cg y g j (.pointer (some ⟨d,0,none⟩))/\cg y d 5 (.int .i64 r.id)/\cg y yb 3 (.slice (some ⟨go,0,none⟩) U.length oc)/\cg y go r.id (.string (bs t.txt))/\cg y E j (.bool (cb y E j))/\y.frozen? ⟨E,j,none⟩=false):=by
    intro y L hl hb ho;have sY:bg w y:=G.trans (hb.mono G.size);have l:bg C y:=A.trans (sY.mono A.size);exact⟨(hb.cell (p:=⟨g,j,none⟩) hgl).trans c1,(l.cell (p:=⟨d,5,none⟩) h).trans a5,(sY.cell (p:=⟨yb,3,none⟩) Kx).trans o3,(sY.cell (p:=⟨go,r.id,none⟩) hgo).trans (XM _ _ htg),Wr ho j ZO hl,ve ho j⟩
   have abB:U.length<=9000:=by rw[W.out];exact yx
   clear o c1 f a5 h abJ hBw adI hsd Kx o3 hgo XM ht htg hhv hme hsz adK D H hLS hL;go_wp2;go_region_held3 (λy=>y.cell? ⟨g,j,none⟩=some (.pointer (some ⟨d,0,none⟩))/\cg y d 5 (.int .i64 r.id)/\cg y yb 3 (.slice (some ⟨go,0,none⟩) U.length oc)/\cg y go r.id (.string (bs t.txt))/\cg y E j (.bool (cb y E j))/\y.frozen? ⟨E,j,none⟩=false) (first|exact HS _ L I B Q|exact HS _ L I (B.trans ⟨rfl,rfl,rfl,bS,λ_ _=>rfl⟩) Q|exact HS _ L I (B.trans ⟨a.os,a.tape,a.output,a.size,λk z=>a.block k (cT z B.size)⟩) (bO Q (λk z=>a.block k (HBK k z)))|exact HS _ (L.set j hv) (by rw[cO];exact I) (gV (B.trans ⟨a.os,a.tape,a.output,a.size,λk z=>a.block k (cT z B.size)⟩) abI) (by unfold rm;rw[jw];exact Bp (bO Q (λk z=>a.block k (HBK k z))) j _)) (first|(go_at_call 72;refine (XN _).mono ?_;rintro e w7 ⟨rfl,a⟩))
   all_goals
    have Pm:Hid (bg O w7):=(show Below _ _ _ from B.trans ⟨a.os,a.tape,a.output,a.size,λk z=>a.block k (cT z B.size)⟩);have ZQ:Hid ((w7.setCell ⟨E,j,none⟩ (.bool hv)).ownsRow O.heap.size 4 1 (.slice (some ⟨E,0,none⟩) n n) n (rm (L.set j hv))):=by
     unfold rm;rw[jw];exact Bp (bO Q (λk z=>a.block k (HBK k z))) j _
    clear a;go_wp2;go_roundw
    case rel=>
     refine⟨j+1,L.set j hv,by omega,by go_num,by rw[cO];exact I,gV Pm abI,ZQ,λk z=>?_⟩;rw[kZ];by_cases hkj:j=k
     ·subst hkj;rw[ah rfl,ah (by rw[I.out];exact ZO)];have:=adJ;rw[List.getD,aa (by omega)]at this;rw[aa (by omega)];simp only[dF]at this;rw[this]
     ·rw[ag hkj];exact HLS k (by omega)
    case measure=>simp[intOf];omega
  ·have hLe:L=S:=by
    apply fD;intro k;by_cases z:k<n
    ·exact hLS k (by omega)
    ·rw[bH (by omega),bH (by omega)]
   subst hLe;obtain⟨J,hwA⟩:=ez wr;rw[<-hwA]at D H adH⊢;have UG:Hid (bg w J):=(show Below _ _ _ from G.trans (D.mono G.size));have HLA:Hid (∀(i:Nat)(r:Rec),c[i]?=some r->∃d,J.cell? ⟨g,i,none⟩=some (.pointer (some ⟨d,0,none⟩))/\isRec C d r/\cg J d 5 (.int .i64 r.id)/\cg J d 6 (.int .i64 r.last)/\d<J.heap.size):=by
    intro i r o;obtain⟨d,c1,f⟩:=Y i r o;obtain⟨_,_,_,a5,a6,h⟩:=gF f;have l:bg C J:=A.trans (UG.mono A.size);exact⟨d,(D.cell (p:=⟨g,i,none⟩) hgl).trans c1,f,(l.cell (p:=⟨d,5,none⟩) h).trans a5,(l.cell (p:=⟨d,6,none⟩) h).trans a6,by have:=l.size;omega⟩
   have HRC:Hid (∀(d:Nat)(r:Rec),isRec C d r->cg J d 5 (.int .i64 r.id)/\cg J d 6 (.int .i64 r.last)/\d<J.heap.size):=by
    intro d r f;obtain⟨_,_,_,a5,a6,h⟩:=gF f;have l:bg C J:=A.trans (UG.mono A.size);exact⟨(l.cell (p:=⟨d,5,none⟩) h).trans a5,(l.cell (p:=⟨d,6,none⟩) h).trans a6,by have:=l.size;omega⟩
   have HBS:Hid (∀k,k<n->cg J E k (.bool (L.getD k false))):=λk z=>NM H k z hL;have ae2:g<J.heap.size:=by have:=D.size;omega
   clear D H hLS hL hwA B Q HLS HBK I HSD Qg W HO GZ AZ Y;go_wp2;go_loopw [10,11,12,13] (λadL i _ _ wr=>∃(k m:Nat)(p:Option Addr),wr=J.drewN m/\k<=n/\i=.int .i64 k/\adL=.pointer p/\ZP C c p (Aa c L k)) (λ_ i _ _ _=>n-(intOf i).toNat)
   case atStart=>exact⟨0,0,none,rfl,ld,rfl,rfl,rfl⟩
   case round=>
    obtain⟨k,m,p,rfl,z,rfl,rfl,hp⟩:=hrel;have HP:Hid _:=hp;clear hp;by_cases hlt:k<n
    ·have hkr:k<c.length:=by omega
     obtain⟨r,o⟩:∃r,c[k]?=some r:=⟨_,aa hkr⟩;obtain⟨d,c1,f,a5,a6,h⟩:=HLA k r o;have cs:=HBS k hlt;have hsr:=Nc r (aq o);have hst:Aa c L (k+1)=if !(L.getD k false)&&tO c L r n&&hmB c (Aa c L k) r then some k else Aa c L k:=by
      simp only[Aa,hmS];rw[o,hrl]
     refine fw hst o f λvL HR adM=>?_;obtain⟨sk,hsk⟩:=ez (L.getD k false);rw[<-hsk]at cs vL;clear o f hst hsk;go_wp2;go_loopw [12,13] (λR kk wr=>∃(q m2:Nat),wr=J.drewN m2/\q<=n/\kk=.int .i64 q/\R=.bool (!sk&&tO c L r q)) (λ_ kk _=>n-(intOf kk).toNat)
     case atStart=>exact⟨0,_,rfl,ld,rfl,by simp[tO]⟩
     case round=>
      obtain⟨q,m2,rfl,hq,rfl,rfl⟩:=hrel;by_cases Uv:q<n
      ·have hqr:q<c.length:=by omega
       obtain⟨rq,hrq⟩:∃rq,c[q]?=some rq:=⟨_,aa hqr⟩;obtain⟨bq,d1,_,d5,_,ae3⟩:=HLA q rq hrq;have ds:=HBS q Uv;have hsq:=Nc rq (aq hrq);have Z:tO c L r (q+1)=(tO c L r q&&!(L.getD q false&&(decide (rq.id<r.id)||decide (r.last<rq.id)))):=by simp only[tO];rw[hrq]
       have u:Hid _:=Z;obtain⟨sq,abK⟩:=ez (L.getD q false);rw[<-abK]at ds u;generalize K:(!sk&&tO c L r q)=R;have abL:Hid _:=K;clear hrq Z abK K;cases sq with
       |false=>
        have M:Hid ((!sk&&tO c L r (q+1))=R):=(show _=_ by rw[u.out];simpa using abL.out);go_wp2;go_quiet (fail);go_wp2;go_roundw
        case rel=>exact⟨q+1,_,rfl,by omega,by go_num,by rw[M.out]⟩
        case measure=>simp[intOf];omega
       |true=>
        by_cases h1:rq.id<r.id
        ·have M:Hid ((!sk&&tO c L r (q+1))=false):=(show _=_ by rw[u.out];simp[h1]);go_wp2;go_quiet (fail);go_wp2;go_roundw
         case rel=>exact⟨q+1,_,rfl,by omega,by go_num,by rw[M.out]⟩
         case measure=>simp[intOf];omega
        ·by_cases h2:r.last<rq.id
         ·have M:Hid ((!sk&&tO c L r (q+1))=false):=(show _=_ by rw[u.out];simp[h2]);go_wp2;go_quiet (fail);go_wp2;go_roundw
          case rel=>exact⟨q+1,_,rfl,by omega,by go_num,by rw[M.out]⟩
          case measure=>simp[intOf];omega
         ·have M:Hid ((!sk&&tO c L r (q+1))=R):=(show _=_ by rw[u.out];simpa [h1,h2] using abL.out);go_wp2;go_quiet (fail);go_wp2;go_roundw
          case rel=>exact⟨q+1,_,rfl,by omega,by go_num,by rw[M.out]⟩
          case measure=>simp[intOf];omega
      ·have Ws:q=n:=by omega
       subst Ws;generalize K:(!sk&&tO c L r q)=R at*;have N:Hid _:=vL;clear vL K;cases R with
       |false=>
        have M:Hid (ZP C c p (Aa c L (k+1))):=(show ZP _ _ _ _ by rw[N.out,nP,ag (by decide)];exact HP.out);go_wp2;go_quiet (fail);go_wp2;go_roundw
        case rel=>exact⟨k+1,_,p,rfl,by omega,by go_num,rfl,M.out⟩
        case measure=>simp[intOf];omega
       |true=>
        obtain⟨bst,abM⟩:=ez (Aa c L k);rw[<-abM]at HP N;clear abM;have VR:Hid (ZP C c (some ⟨d,0,none⟩) (some k)):=⟨d,r,rfl,HR.out,adM.out⟩;cases bst with
        |none=>
         have Xr:p=none:=HP.out;subst Xr;have M:Hid (Aa c L (k+1)=some k):=(show _=_ by rw[N.out];simp[hmB]);go_wp2;go_quiet (fail);go_wp2;go_roundw
         case rel=>exact⟨k+1,_,some ⟨d,0,none⟩,rfl,by omega,by go_num,rfl,by rw[M.out];exact VR.out⟩
         case measure=>simp[intOf];omega
        |some ib=>
         obtain⟨bb,rb,pq,VA,XQ⟩:∃d r,p=some ⟨d,0,none⟩/\c[ib]?=some r/\isRec C d r:=HP.out;obtain⟨b5,b6,ae4⟩:=HRC.out bb rb XQ;have hsb:=Nc.out rb (aq VA);have M:Hid (Aa c L (k+1)=if r.last-r.id<rb.last-rb.id then some k else some ib):=(show _=_ by rw[N.out];simp[hmB,VA]);subst pq;clear VA XQ;by_cases hd:r.last-r.id<rb.last-rb.id
         ·have W9:Hid (Aa c L (k+1)=some k):=(show _=_ by rw[M.out,ah hd]);have hdi:(r.last:Int)-(r.id:Int)<(rb.last:Int)-(rb.id:Int):=by omega
          go_wp2;go_quiet (fail);go_wp2;go_roundw
          case rel=>exact⟨k+1,_,some ⟨d,0,none⟩,rfl,by omega,by go_num,rfl,by rw[W9.out];exact VR.out⟩
          case measure=>simp[intOf];omega
         ·have W9:Hid (Aa c L (k+1)=some ib):=(show _=_ by rw[M.out,ag hd]);have hdi:¬(r.last:Int)-(r.id:Int)<(rb.last:Int)-(rb.id:Int):=by omega
          go_wp2;go_quiet (fail);go_wp2;go_roundw
          case rel=>exact⟨k+1,_,some ⟨bb,0,none⟩,rfl,by omega,by go_num,rfl,by rw[W9.out];exact HP.out⟩
          case measure=>simp[intOf];omega
    ·have hkn:k=n:=by omega
     subst hkn;have HF:Hid (ZP C c p ans):=(show ZP C c p ans by rw[La.out];exact HP.out);go_wp2;go_ret;exact⟨p,by first|rfl|trivial,UG.out.trans ⟨rfl,rfl,rfl,bS,λ_ _=>rfl⟩,HF.out⟩
def Tk.z(t:Tk):Tk:={t with at_:=0}
def sk(l:List UInt8):List Tk:=(tokens l).map Tk.z
def Stop(r:List UInt8):Prop:=∀c∈r.head?,ug 97 122 c=false/\ug 48 57 c=false
def XR(s:List UInt8):Prop:=s≠[]/\(∀c∈s,ug 97 122 c=true)/\s.length<=8/\xS s=none
def XS(s:List UInt8)(m:Nat):Prop:=(∀c∈s,ug 48 57 c=true)/\fk s m=true
mutual
def PT.ok(a:Bool):PT->Prop
 |.num _ s=>XS s 4
 |.name _ s=>XR s
 |.node _ k c e b=>fY k a≠[]/\b.length=arity k/\(if k=.dV\/k=.loop then XR c else c=[])/\(if a=true/\(k=.pair\/k=.new) then ∃d,e=35::d/\XS d 3 else e=[])/\okL a b
def okL(a:Bool):List PT->Prop
 |[]=>True
 |t::r=>t.ok a/\okL a r
end
open Go.Lib (decDigits)
theorem Dn(u:Nat)(h:u<=999):(decDigits u).length<=3:=by
 rw[decDigits];split
 ·simp
 ·rw[decDigits];split
  ·simp
  ·rw[decDigits];split
   ·simp
   ·omega
theorem Dp(a:dc)(b s)(T):look (a++[(b,T)]) s=if b=s then some T else look a s:=by
 unfold look;rw[fq,gU,cQ,dw];by_cases h:b=s
 ·subst h;simp
 ·have:(b==s)=false:=by rw[aH];exact h
  simp[this,ag h]
def pY(a:List UInt8)(k:Kw)(b:List UInt8)(c:List (List UInt8))(j:Nat):List UInt8:=a++gB k b 0 (c.take j)
theorem Qn(a)(k)(c)(b)(j:Nat)(x)(d:b[j]?=some x):pY a k c b (j+1)=pY a k c b j++lK k c j x:=by
 have e:j<b.length:=by
  rcases jv j b.length with h|h
  ·exact h
  ·rw[bH h]at d;cases d
 unfold pY;rw[cW,d,eT,s9,cS,dL (by omega),bJ,aB]
theorem EY(k)(c):∀(a b:List (List UInt8))(i:Nat),gB k c i (a++b)=gB k c i a++gB k c (i+a.length) b
 |[],b,i=>by simp[gB]
 |x::r,b,i=>by
  simp[gB,EY k c r b (i+1)];rw[show i+1+r.length=i+(r.length+1) by omega]
theorem Wu(b)(k)(c)(a)(j:Nat):(pY b k c a j).length<=b.length+(gB k c 0 a).length:=by
 unfold pY;have h:gB k c 0 a=gB k c 0 (a.take j)++gB k c (0+(a.take j).length) (a.drop j):=by rw[<-EY,fX]
 rw[h];simp
theorem EZ(k)(a):∀(b:List (List UInt8))(i:Nat)(x:List UInt8),x∈b->x.length+1<=(gB k a i b).length
 |[],_,_,h=>by simp at h
 |t::r,i,x,h=>by
  simp[gB];rcases bf.1 h with h|h
  ·subst h;unfold lK;simp;try omega
  ·have:=EZ k a r (i+1) x h;omega
def lp:List Nat->List UInt8->List UInt8
 |[],s=>s
 |r::l,s=>[40,110,101,119,32,35]++(decDigits r++(32::(lp l s++[41])))
theorem JG:∀(l:List Nat)(s:List UInt8),s.length<=(lp l s).length
 |[],_=>bS
 |r::l,s=>by
  have:=JG l s;simp[lp];omega
theorem xJ(l)(s):∀j,(lp (l.drop j) s).length<=(lp l s).length
 |0=>bS
 |j+1=>by
  cases l with
  |nil=>simp
  |cons r l=>
   have:=xJ l s j;simp[lp];omega
theorem JH(l:List Nat)(s)(j x:Nat)(h:l[j]?=some x):lp (l.drop j) s=[40,110,101,119,32,35]++(decDigits x++(32::(lp (l.drop (j+1)) s++[41]))):=by
 rw[aW ((ae.1 h).1),(ae.1 h).2];rfl
mutual
def PT.JI(RK:List Nat)(b:List (List Nat)):PT->Nat->Nat->List UInt8
 |.num _ s,id,_=>lp (b.getD id []) (decDigits (aQ s).toNat)
 |.name _ s,id,_=>lp (b.getD id []) s
 |.node _ k d _ c,id,a=>lp (b.getD id []) (40::(k.bytes++((if k=.pair then [32,35]++decDigits (RK.getD a 0) else [])++(gB k d 0 (D7 RK b c (id+1) (a+if k=.pair then 1 else 0))++[41]))))
def D7(RK:List Nat)(b:List (List Nat)):List PT->Nat->Nat->List (List UInt8)
 |[],_,_=>[]
 |t::r,id,a=>t.JI RK b id a::D7 RK b r (id+t.cnt) (a+t.dn)
end
theorem NN(RK)(c):∀(b:List PT)(id a j:Nat)(x:PT),b[j]?=some x->(D7 RK c b id a)[j]?=some (x.JI RK c (id+aU (b.take j)) (a+eS (b.take j)))
 |[],_,_,_,_,h=>by simp at h
 |t::r,id,a,0,x,h=>by
  simp only[aL,ai]at h;subst h;simp[D7,aU,eS]
 |t::r,id,a,j+1,x,h=>by
  have:=NN RK c r (id+t.cnt) (a+t.dn) j x h;simp[D7,aU,eS,this];simp[aY]
theorem JJ(RK)(b):∀(c:List PT)(id a:Nat),(D7 RK b c id a).length=c.length
 |[],_,_=>rfl
 |t::r,id,a=>by simp[D7,JJ RK b r]
def Gy(w:World)(v:Value)(l:List Nat):Prop:=∃a b,v=.slice a l.length b/\∀j x:Nat,l[j]?=some x->∃g,a=some ⟨g,0,none⟩/\g<w.heap.size/\cg w g j (.int .i64 x)
theorem Gy.below(h:Gy c y d)(e:bg c v):Gy v y d:=by
 obtain⟨a,b,h1,h2⟩:=h;refine⟨a,b,h1,λj x f=>?_⟩;obtain⟨g,i,k,m⟩:=h2 j x f;have:=e.size;exact⟨g,i,by omega,(e.cell (p:=⟨g,j,none⟩) k).trans m⟩
structure JK(w:World)(nv:Value)(NW:List (List Nat)): Prop where
 row:∃g cap,nv=.slice (some ⟨g,0,none⟩) NW.length cap/\g<w.heap.size/\∀i l,NW[i]?=some l->∃v,w.cell? ⟨g,i,none⟩=some v/\Gy w v l
 len:NW.length<=9000
 sm:∀l∈NW,l.length<=1000/\∀x∈l,x<=999
theorem JK.below{e}(h:JK c y e)(b:bg c v):JK v y e:=by
 obtain⟨g,d,h1,h2,h3⟩:=h.row;have:=b.size;refine⟨⟨g,d,h1,by omega,λi l f=>?_⟩,h.len,h.sm⟩;obtain⟨a,j,k⟩:=h3 i l f;exact⟨a,(b.cell (p:=⟨g,i,none⟩) h2).trans j,k.below b⟩
def JL(d:World)(RK:List Nat)(c:List (List Nat))(f g:Value)(t:PT):Prop:=∀(id a b:Nat)(F:Nat->Prop),t.cnt<=9000->t.eO->t.wf->id+t.cnt<=c.length->a+t.dn<=RK.length->(t.JI RK c id a).length<=180000000->gS d F t id a b->∀w:World,bg d w->
 Calls prog 41 #[ptr b,f,g] w λe h=>e=.returned (.string (bs (t.JI RK c id a)))/\bg w h
theorem Dq:(∀(f:World),nV f->∀(RK:List Nat)(z:List (List Nat))(H I:Value),Gy f H RK->JK f I z->∀(p:Nat)(s:List UInt8),JL f RK z H I (.num p s))/\(∀(f:World),nV f->∀(RK:List Nat)(z:List (List Nat))(H I:Value),Gy f H RK->JK f I z->∀(p:Nat)(s:List UInt8),JL f RK z H I (.name p s)):=by
 refine⟨λf hit RK z H I hc M p s=>?_,λf hit RK z H I hc M p s=>?_⟩
 all_goals
  intro id site b F yx X N hid hsi c U w l;simp only[gS]at U
  first|(simp only[PT.eO]at X)|skip
  have A:=U.2;have o:=aG A;obtain⟨ca,abN,rfl,_⟩:=hc;obtain⟨g,cap,rfl,hg,r⟩:=M.row;simp only[PT.cnt]at hid;obtain⟨d,t⟩:∃d,z[id]?=some d:=⟨_,aa (by omega)⟩;obtain⟨rv,B,Y,G,rfl,e⟩:=r id d t;obtain⟨adN,u⟩:=M.sm d (aq t);have Z:=M.len;have D:z.getD id []=d:=by rw[aZ,t];rfl
  first
   | (obtain⟨n,hn⟩:∃n:Nat,aQ s=n:=⟨(aQ s).toNat,by omega⟩
      simp only[PT.JI,D,hn,bL]at c⊢;have a:∀W,bg f W->cg W b 0 (.string (bs rz))/\cg W b 3 (.int .i64 n)/\cg W b 5 (.int .i64 id)/\cg W g id (.slice Y d.length G)/\b<W.heap.size/\g<W.heap.size:=λW h=>by
       have:=h.size;exact⟨(h.cell (p:=⟨b,0,none⟩) o).trans (by rw[aI A];rfl),(h.cell (p:=⟨b,3,none⟩) o).trans (by rw[aI A,<-hn];rfl),(h.cell (p:=⟨b,5,none⟩) o).trans (by rw[aI A];rfl),(h.cell (p:=⟨g,id,none⟩) hg).trans B,by omega,by omega⟩)
   | (simp only[PT.JI,D]at c⊢
      have a:∀W,bg f W->cg W b 0 (.string (bs jE))/\cg W b 2 (.string (bs s))/\cg W b 5 (.int .i64 id)/\cg W g id (.slice Y d.length G)/\b<W.heap.size/\g<W.heap.size:=λW h=>by
       have:=h.size;exact⟨(h.cell (p:=⟨b,0,none⟩) o).trans (by rw[aI A];rfl),(h.cell (p:=⟨b,2,none⟩) o).trans (by rw[aI A];rfl),(h.cell (p:=⟨b,5,none⟩) o).trans (by rw[aI A];rfl),(h.cell (p:=⟨g,id,none⟩) hg).trans B,by omega,by omega⟩)
  have J:∀W,bg f W->∀(m:Nat)(V:m<d.length),∃(x K:Nat),d[m]?=some x/\x<=999/\Y=some ⟨K,0,none⟩/\K<W.heap.size/\cg W K m (.int .i64 x):=λW h m V=>by
   obtain⟨K,e1,e2,e3⟩:=e m d[m] (aa V);have:=h.size;exact⟨d[m],K,aa V,u _ (bZ V),e1,by omega,(h.cell (p:=⟨K,m,none⟩) e2).trans e3⟩
  first
   | (have hse:((bs rz).toList==[110,117,109,98,101,114])=true:=by rw[bo];decide
      obtain⟨C,O⟩:=ez (decDigits n);have hi:=hit n w (by omega) l;rw[<-O]at hi c⊢)
   | (have hse:((bs jE).toList==[110,117,109,98,101,114])=false:=by rw[bo];decide
      have ae5:((bs jE).toList==[110,97,109,101])=true:=by rw[bo];decide
      obtain⟨C,O⟩:=ez s;rw[<-O]at c a⊢)
  obtain⟨x0,x3,x5,xg,xb,xgl⟩:=a w l;refine fT a J hit l λHC HR SE E=>?_;have k:=l.size
  first|(have HI:Hid _:=hi)|skip
  have HL:Hid _:=c;have adO:id<z.length:=by omega
  first|(clear A U hit hn l a J r B e hi c O D X M t u N)|(clear A U hit l a J r B e c O D X M t u N)
  show Calls _ _ #[Value.pointer (some ⟨b,0,none⟩),_,_] w _;go_in
  first
   | (go_wp2_with fail
      refine ay HI.out ?_;rintro _ w1 ⟨rfl,L⟩;obtain⟨_,_,y5,yg,yb,ygl⟩:=HC.out w1 (E.out.trans (L.mono k));have P:Hid _:=L;clear L HI)
   |(have P:Hid _:=aM w.heap.size w)
  go_wp2_with fail;go_loopw [7,9] (λv i wr=>∃j:Nat,j<=d.length/\i=.int .i64 ((j:Int)-1)/\v=.string (bs (lp (d.drop j) C))/\bg w wr) (λ_ i _=>(intOf i+1).toNat)
  case atStart=>exact⟨d.length,bS,by go_num,by rw[mw];rfl,P.out⟩
  case round=>
   obtain⟨j,hj,rfl,rfl,y⟩:=hrel;obtain⟨_,_,z5,zg,zb,zgl⟩:=HC.out wr (E.out.trans (y.mono k));have zl:(bs (lp (d.drop j) C)).size<=180000000:=by rw[eB];exact bw (xJ d C j) HL.out
   have q:Hid _:=y;clear y;cases j with
   |zero=>
    go_wp2;go_ret;exact⟨by rw[iA];rfl,q.out⟩
   |succ m=>
    obtain⟨x,K,hx,hx9,rfl,hgx,Mx⟩:=HR.out wr (E.out.trans (q.out.mono k)) m (by omega);have Q:=SE.out x wr (by omega) (E.out.trans (q.out.mono k));have R:=JH d C m x hx;have hE:ByteArray.mk #[40,110,101,119,32,35]++bs (decDigits x)++ByteArray.mk #[32]++bs (lp (d.drop (m+1)) C)++ByteArray.mk #[41]=bs (lp (d.drop m) C):=by
     rw[show ByteArray.mk #[40,110,101,119,32,35]=bs [40,110,101,119,32,35] from rfl,show ByteArray.mk #[32]=bs [32] from rfl,show ByteArray.mk #[41]=bs [41] from rfl,eM,eM,eM,eM,R];simp
    refine bY hE Q λHE S=>?_;have z1:(ByteArray.mk #[40,110,101,119,32,35]).size=6:=rfl;have z2:(bs (decDigits x)).size<=3:=by rw[eB];exact Dn x hx9
    have z3:(ByteArray.mk #[32]).size=1:=rfl;have z4:(ByteArray.mk #[41]).size=1:=rfl;have zA:(ByteArray.mk #[40,110,101,119,32,35]++bs (decDigits x)).size<=9:=by rw[aX];omega
    have zB:(ByteArray.mk #[40,110,101,119,32,35]++bs (decDigits x)++ByteArray.mk #[32]).size<=10:=by rw[aX];omega
    have zC:(ByteArray.mk #[40,110,101,119,32,35]++bs (decDigits x)++ByteArray.mk #[32]++bs (lp (d.drop (m+1)) C)).size<=180000010:=by rw[aX];omega
    clear hE Q R hx;have HJ:Hid (m+1<=d.length):=hj;go_wp2_with fail;refine ay S.out ?_;rintro _ w2 ⟨rfl,T⟩;have xN:Hid _:=q.out.trans (T.mono q.out.size);clear T S q;go_wp2;go_roundw
    case rel=>exact⟨m,by have:=HJ.out;omega,by go_num,by rw[<-HE.out],xN.out⟩
    case measure=>simp[intOf]
