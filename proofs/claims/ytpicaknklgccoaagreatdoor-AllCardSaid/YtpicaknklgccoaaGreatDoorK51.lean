import Derived.Test.YtpicaknklgccoaaGreatDoorK49
set_option maxHeartbeats 8000000
set_option maxRecDepth 100000
namespace Go.Proofs.YtpicaknklgccoaaGreatDoor
open Tryz
open Go.RowKit
variable {w b d u:Nat}{a c y:World}{x K:Value}{z L P:List Nat}{v:List TP}{T:List Ty}{N M:Nat -> Nat}
def dM(E:List Nat):List Value:=E.map λ(k:Nat)=>Value.int .i64 k
theorem sQ(h:a.ownsRow d 3 1 (.slice (some ⟨w,0,none⟩) z.length b) z.length (dM z))(k:Nat)(c:k<z.length):a.cell? ⟨w,k,none⟩=some (.int .i64 z[k]):=by
 rw[h.cellAt k (by omega)];unfold dM;rw[aC,aa c];rfl
theorem vY(w)(j d:Nat)(ev)(E)(p:Nat)(y:cg w j 2 ev)(l:w.ownsRow d 3 1 ev E.length (dM E))(z:E.length<=9000)(A:p<=10000):Calls prog 106 #[ptr j,.int .i64 p] w λv B=>v=.returned (.int .i64 (cZ E p))/\B=w:=by
 have C:=aR _ _ y;obtain⟨a,b⟩:=ez (cZ E p);rw[<-b];have n:Hid _:=b;clear b;show Calls _ _ #[Value.pointer (some ⟨j,0,none⟩),_] w _;rcases l.2 with⟨o,K⟩|⟨g,D,F,o,q⟩
 ·subst o;have e:Hid (a=p):=(show a=p by rw[n.out,mT,bH (by omega)]);go_in;go_wp2;go_loopw [1] (λi wr=>i=.int .i64 p/\wr=w) (λ_ _=>0)
  case atStart=>exact⟨rfl,rfl⟩
  case round=>
   obtain⟨rfl,rfl⟩:=hrel;go_wp2;go_ret;exact⟨by rw[e.out];first|done|rfl,rfl⟩
 ·subst o;have G:=(l.lt g rfl).2;have H:Hid (∀k (r:k<E.length),w.cell? ⟨g,k,none⟩=some (.int .i64 E[k])):=λk r=>sQ l k r;obtain⟨m,s⟩:=ez E.length;rw[<-s]at y z;go_in;go_wp2;go_loopw [1] (λi wr=>∃k:Nat,i=.int .i64 k/\k<=10000/\wr=w/\Hid (cZ E p=cZ E k)) (λi _=>(intOf i).toNat)
  case atStart=>exact⟨p,rfl,A,rfl,(rfl:cZ E p=cZ E p)⟩
  case round=>
   obtain⟨k,rfl,r,rfl,t⟩:=hrel;by_cases I:k<m
   ·have f:k<E.length:=by have:=s;omega
    have c0:=H k f;have c:=mT E k;rw[aa f]at c;simp only at c;obtain⟨x,q⟩:=ez (E[k]);rw[<-q]at c0 c;clear q;by_cases h:x<k
    ·have u:cZ E p=cZ E x:=(show cZ E p=_ by rw[t.out,c,ah h]);have J:(x:Int)<(k:Int):=by omega
     go_wp2;go_roundw
     case rel=>exact⟨x,rfl,by omega,by first|rfl|trivial,u⟩
     case measure=>simp[intOf];omega
    ·have e:Hid (a=k):=(show a=k by rw[n.out,t.out,c,ag h]);have J:¬(x:Int)<(k:Int):=by omega
     go_wp2;go_ret;exact⟨by rw[e.out];first|done|rfl,rfl⟩
   ·have e:a=k:=(show a=k by rw[n.out,t.out,mT,bH (by have:=s;omega)]);go_wp2;go_ret;exact⟨by rw[e];first|done|rfl,rfl⟩
def ot(a:List Nat)(x:Nat):Int:=match a.findIdx? (·==x) with
 |some i=>(i:Int)
 |none=>-1
theorem JB(a:List Nat)(x k:Nat)(b:k<a.length)(c:∀i y,i<k->a[i]?=some y->y≠x):(a[k]=x->ot a x=(k:Int)):=by
 intro e;unfold ot;have:a.findIdx? (·==x)=some k:=by
  rw[dC];refine⟨b,by simpa using e,λj d=>?_⟩;have:=c j a[j] d (aa (by omega));simpa using this
 rw[this]
theorem JC(a)(x:Nat)(c:∀i y,i<a.length->a[i]?=some y->y≠x):ot a x=-1:=by
 unfold ot;have:a.findIdx? (·==x)=none:=by
  rw[fS];intro y d;obtain⟨i,b⟩:=cB d;have:=c i y (ae.1 b).1 b;simpa using this
 rw[this]
theorem JD(w)(f:Nat)(ev)(E)(x:Nat)(p:w.ownsRow f 3 1 ev E.length (dM E))(C:E.length<=9000):Calls prog 107 #[ev,.int .i64 x] w λv D=>v=.returned (.int .i64 (ot E x))/\D=w:=by
 obtain⟨b,a⟩:=ez (ot E x);rw[<-a];rcases p.2 with⟨r,L⟩|⟨g,F,G,r,M⟩
 ·subst r;have j:b=-1:=(show b=-1 by rw[a];exact JC E x (λi y l=>by omega));go_in;go_wp2;go_loopw [5] (λi wr=>i=.int .i64 0/\wr=w) (λ_ _=>0)
  case atStart=>exact⟨rfl,rfl⟩
  case round=>
   obtain⟨rfl,rfl⟩:=hrel;go_wp2;go_ret;exact⟨by rw[j];first|done|rfl,rfl⟩
 ·subst r;have H:=(p.lt g rfl).2;have I:∀k (s:k<E.length),w.cell? ⟨g,k,none⟩=some (.int .i64 E[k]):=λk s=>sQ p k s;obtain⟨m,t⟩:=ez E.length;rw[<-t]at C⊢;go_in;go_wp2;go_loopw [5] (λi wr=>∃k:Nat,i=.int .i64 k/\k<=m/\wr=w/\Hid (∀i y,i<k->E[i]?=some y->y≠x)) (λi _=>m-(intOf i).toNat)
  case atStart=>exact⟨0,rfl,ld,rfl,(λi y h=>by omega:∀i y,i<0->E[i]?=some y->y≠x)⟩
  case round=>
   obtain⟨k,rfl,s,rfl,u⟩:=hrel;by_cases J:k<m
   ·have c:k<E.length:=by have:=t;omega
    have c0:=I k c;have l:=JB E x k c u;have n:E[k]≠x->∀i y,i<k+1->E[i]?=some y->y≠x:=by
     intro A i y l o;by_cases e:i=k
     ·subst e;rw[aa c]at o;rw[<-dx o];exact A
     ·exact u i y (by omega) o
    obtain⟨z,K⟩:=ez (E[k]);rw[<-K]at c0 l n;by_cases d:z=x
    ·have q:((z:Int)==(x:Int))=true:=by rw[d];simp
     have j:b=(k:Int):=(show b=k by rw[a,l d]);go_wp2;go_ret;exact⟨by rw[j];first|done|rfl,rfl⟩
    ·have q:((z:Int)==(x:Int))=false:=by rw[aH];omega
     have B:=n d;go_wp2;go_roundw
     case rel=>exact⟨k+1,by go_num,by omega,by first|rfl|trivial,B⟩
     case measure=>simp[intOf];omega
   ·have j:b=-1:=(show b=-1 by rw[a];exact JC E x (λi y l o=>u i y (by have:=t;omega) o));go_wp2;go_ret;exact⟨by rw[j];first|done|rfl,rfl⟩
theorem NH(h:a.ownsRow w 3 1 (.slice (some ⟨b,0,none⟩) z.length d) z.length (dM z))(k x:Nat):(a.setCell ⟨b,k,none⟩ (.int .i64 x)).ownsRow w 3 1 (.slice (some ⟨b,0,none⟩) z.length d) z.length (dM (z.set k x)):=by
 obtain⟨h1,h2⟩:=h;refine⟨by unfold dM;simp,aE ?_⟩;rcases h2 with⟨h2,_⟩|⟨p,e,c,i,j,l,m,n,o,f⟩
 ·cases h2
 ·cases i;refine⟨b,d,c.setIfInBounds k (.int .i64 x),rfl,j,?_,m,n,by simpa using o,?_⟩
  ·rw[bu l k _]
  ·unfold dM at f⊢;rw[jw,<-f,kA,List.take_set]
theorem LZ(w)(e c g d:Nat)(E)(b a:Nat)(i:cg w e 2 (.slice (some ⟨g,0,none⟩) E.length d))(f:w.ownsRow c 3 1 (.slice (some ⟨g,0,none⟩) E.length d) E.length (dM E))(j:b<E.length):Calls prog 185 #[ptr e,.int .i64 b,.int .i64 a] w λv k=>v=.returned (.tuple #[])/\k=w.setCell ⟨g,b,none⟩ (.int .i64 a):=by
 have l:=aR _ _ i;have n:=(f.lt g rfl).2;have c0:=sQ f b j;have r:w.frozen? ⟨g,b,none⟩=false:=by
  rcases f.2 with⟨h2,_⟩|⟨s,h,o,p,t,q,_⟩
  ·cases h2
  ·cases p;exact aK q b
 generalize E[b]=x at*;generalize E.length=m at*;show Calls _ _ #[Value.pointer (some ⟨e,0,none⟩),_,_] w _;go_in;go_wp2;refine bP (v:=.tuple #[]) (by simp[results,results185,go_sem]) rfl ⟨rfl,rfl⟩
theorem Tw(w)(f c g d:Nat)(E)(x y:Nat)(j:cg w f 2 (.slice (some ⟨g,0,none⟩) E.length d))(h:w.ownsRow c 3 1 (.slice (some ⟨g,0,none⟩) E.length d) E.length (dM E))(n:E.length<=9000)(B:x<E.length)(C:y<E.length):Calls prog 168 #[ptr f,.int .i64 x,.int .i64 y] w λv o=>v=.returned (.tuple #[])/\(∃(k a:Nat),o=w.setCell ⟨g,k,none⟩ (.int .i64 a))/\o.ownsRow c 3 1 (.slice (some ⟨g,0,none⟩) E.length d) E.length (dM (oq E x y)):=by
 have u:=aR _ _ j;have h1:=vY w f c _ E x j h n (by omega);have h2:=vY w f c _ E y j h n (by omega);have l:=Dj E x;have m:=Dj E y;have h3:=λ(b a:Nat)(z:b<E.length)=>LZ w f c g d E b a j h z;have e:oq E x y=if cZ E x<cZ E y then E.set (cZ E y) (cZ E x) else E.set (cZ E x) (cZ E y):=rfl
 have r:∀k a:Nat,(w.setCell ⟨g,k,none⟩ (.int .i64 a)).ownsRow c 3 1 (.slice (some ⟨g,0,none⟩) E.length d) E.length (dM (E.set k a)):=λk a=>NH h k a;obtain⟨p,s⟩:=ez (cZ E x);obtain⟨q,t⟩:=ez (cZ E y);rw[<-s]at h1 l e;rw[<-t]at h2 m e;unfold ptr at h1 h2 h3;clear h s t;show Calls _ _ #[Value.pointer (some ⟨f,0,none⟩),_,_] w _;by_cases i:p<q
 ·have A:(p:Int)<(q:Int):=by omega
  go_in;go_wp2_with fail;refine ay h1 ?_;rintro _ _ ⟨rfl,rfl⟩;go_wp2_with fail;refine ay h2 ?_;rintro _ _ ⟨rfl,rfl⟩;go_wp2_with fail;refine ay (h3 q p (by omega)) ?_;rintro _ _ ⟨rfl,rfl⟩;go_wp2;refine bP (v:=.tuple #[]) (by simp[results,results168,go_sem]) rfl ⟨rfl,⟨q,p,rfl⟩,?_⟩;rw[e,ah i];exact r q p
 ·have A:¬(p:Int)<(q:Int):=by omega
  go_in;go_wp2_with fail;refine ay h1 ?_;rintro _ _ ⟨rfl,rfl⟩;go_wp2_with fail;refine ay h2 ?_;rintro _ _ ⟨rfl,rfl⟩;go_wp2_with fail;refine ay (h3 p q (by omega)) ?_;rintro _ _ ⟨rfl,rfl⟩;go_wp2;refine bP (v:=.tuple #[]) (by simp[results,results168,go_sem]) rfl ⟨rfl,⟨p,q,rfl⟩,?_⟩;rw[e,ag i];exact r p q
theorem iG(E)(x y:Nat):(oq E x y).length=E.length:=by unfold oq;split<;>simp
def rY(c:List TP):Nat->List Nat->Nat->Nat->List Nat
 |0,E,_,_=>E
 |f+1,E,x,y=>if x=y\/x=0\/y=0 then E else rY c f (rY c f (oq E (lB c x).r (lB c y).r) (lB c x).a (lB c y).a) (lB c x).b (lB c y).b
theorem xF(a):∀(f:Nat)(E:List Nat)(x y:Nat),(rY a f E x y).length=E.length
 |0,_,_,_=>rfl
 |f+1,E,x,y=>by
  simp[rY];split
  ·rfl
  ·rw[xF a f,xF a f,iG]
structure DH(g:Nat)(w w':World): Prop where
 os:w'.os=w.os
 tape:w'.tape=w.tape
 output:w'.output=w.output
 size:w.heap.size<=w'.heap.size
 blk:∀k,k<w.heap.size->k≠g->w'.heap[k]?=w.heap[k]?
theorem DH.trans(h:DH w a c)(b:DH w c y):DH w a y:=
 ⟨b.os.trans h.os,b.tape.trans h.tape,b.output.trans h.output,bw h.size b.size,λk d e=>(b.blk k (cT d h.size) e).trans (h.blk k d e)⟩
theorem DH.below(g:Nat)(h:bg a c):DH g a c:=⟨h.os,h.tape,h.output,h.size,λk b _=>h.block k b⟩
theorem DH.set(g k:Nat)(w)(v):DH g w (w.setCell ⟨g,k,none⟩ v):=⟨rfl,rfl,rfl,by simp[World.setCell],λj _ a=>lu a⟩
theorem DH.cell(h:DH w a c)(e:b<a.heap.size)(f:b≠w):c.cell? ⟨b,d,none⟩=a.cell? ⟨b,d,none⟩:=by
 unfold World.cell?;simp[h.blk b e f]
theorem Ql(h g c:Nat)(J)(d)(hl:d.length<=9000)(z:Low d)(K:g≠h)(hpg:J.ownBlock≠some g):∀(f x y:Nat)(E:List Nat)(w:World),x<f->x<=10000->y<=10000->E.length<=9000->(∀k,(lB d k).r<E.length)->w.cell? ⟨h,0,none⟩=some J->w.cell? ⟨h,2,none⟩=some (.slice (some ⟨g,0,none⟩) E.length c)->w.ownsRow 0 212 4 J d.length (d.flatMap GX)->w.ownsRow 0 3 1 (.slice (some ⟨g,0,none⟩) E.length c) E.length (dM E)->Calls prog 135 #[ptr h,.int .i64 x,.int .i64 y] w λv L=>v=.returned (.tuple #[])/\DH g w L/\L.ownsRow 0 3 1 (.slice (some ⟨g,0,none⟩) E.length c) E.length (dM (rY d f E x y)):=by
 intro f
 induction f with
 |zero=>intro x y E w hx;omega
 |succ f ih=>
  intro x y E w hxf hx hy hE hr m M hp B;have n:=aR _ _ m;show Calls _ _ #[Value.pointer (some ⟨h,0,none⟩),_,_] w _;obtain⟨R,I⟩:=ez (rY d (f+1) E x y);rw[<-I];simp only[rY]at I;by_cases o:x=y\/x=0\/y=0
  ·rw[ah o]at I;subst I;rcases o with o|o|o
   ·have N:((x:Int)==(y:Int))=true:=by rw[o];simp
    go_in;go_wp2;refine au (v:=.tuple #[]) (by simp[results,results135,go_sem]) rfl ⟨rfl,DH.below g fp,B⟩
   ·by_cases q:x=y
    ·have N:((x:Int)==(y:Int))=true:=by rw[q];simp
     go_in;go_wp2;refine au (v:=.tuple #[]) (by simp[results,results135,go_sem]) rfl ⟨rfl,DH.below g fp,B⟩
    ·have N:((x:Int)==(y:Int))=false:=by rw[aH];omega
     have q2:((x:Int)==0)=true:=by rw[o];rfl
     go_in;go_wp2;refine au (v:=.tuple #[]) (by simp[results,results135,go_sem]) rfl ⟨rfl,DH.below g fp,B⟩
   ·by_cases q:x=y
    ·have N:((x:Int)==(y:Int))=true:=by rw[q];simp
     go_in;go_wp2;refine au (v:=.tuple #[]) (by simp[results,results135,go_sem]) rfl ⟨rfl,DH.below g fp,B⟩
    ·have N:((x:Int)==(y:Int))=false:=by rw[aH];omega
     have q2:((x:Int)==0)=false:=by rw[aH];omega
     have q3:((y:Int)==0)=true:=by rw[o];rfl
     go_in;go_wp2;refine au (v:=.tuple #[]) (by simp[results,results135,go_sem]) rfl ⟨rfl,DH.below g fp,B⟩
  ·rw[ag o]at I;have N:((x:Int)==(y:Int))=false:=by rw[aH];omega
   have q2:((x:Int)==0)=false:=by rw[aH];omega
   have q3:((y:Int)==0)=false:=by rw[aH];omega
   have hx1:1<=x:=by omega
   have hy1:1<=y:=by omega
   have hlx:=z (x-1);have hly:=z (y-1);rw[show x-1+1=x by omega]at hlx;rw[show y-1+1=y by omega]at hly;have hrx:=hr x;have hry:=hr y;have hg:=(B.lt g rfl).2;have hA:=vM w h 0 J d x m hp hl hx;have hB:=λ(W:World)(O:bg w W)=>vM W h 0 J d y ((O.cell (p:=⟨h,0,none⟩) n).trans m) (bE hp O) hl hy;generalize lB d x=P at*;generalize lB d y=Q at*;have hJ:=λ(W:World)(O:bg w W)=>Tw W h 0 g c E P.r Q.r ((O.cell (p:=⟨h,2,none⟩) n).trans M) (bE B O) hE hrx hry;have S:=iG E P.r Q.r;generalize oq E P.r Q.r=E1 at*;have hml:=xF d f E1 P.a Q.a;have hM:∀(W:World)(T:List Nat)(U V:Nat),T.length=E.length->U<x->V<y->DH g w W->W.ownsRow 0 3 1 (.slice (some ⟨g,0,none⟩) E.length c) E.length (dM T)->Calls prog 135 #[.pointer (some ⟨h,0,none⟩),.int .i64 U,.int .i64 V] W λv L=>v=.returned (.tuple #[])/\DH g W L/\L.ownsRow 0 3 1 (.slice (some ⟨g,0,none⟩) E.length c) E.length (dM (rY d f T U V)):=λW T U V s hx' hy' hW ho=>by
    have:=ih U V T W (by omega) (by omega) (by omega) (by omega) (by rw[s];exact hr) (by rw[hW.cell n (λe=>K e.symm)];exact m) (by rw[hW.cell n (λe=>K e.symm),s];exact M) (bO hp (λk hk=>hW.blk k (hp.lt k hk).2 (λe=>hpg (by rw[hk,e])))) (by rw[s];exact ho);rw[s]at this;exact this
   unfold AE at hA hB;unfold ptr at hJ;go_in;go_wp2_with fail;refine ay hA ?_;rintro _ w1 ⟨rfl,C⟩;have D:=C.alloc C.size (.cells #[.int .i64 P.r,.int .i64 P.a,.int .i64 P.b,.int .i64 P.sz] 212);have X:=bD w1 (.cells #[.int .i64 P.r,.int .i64 P.a,.int .i64 P.b,.int .i64 P.sz] 212 (0,0));have hz1:=C.size;go_wp2_with fail;refine ay (hB _ D) ?_;rintro _ A ⟨rfl,Y⟩;have F:=D.trans (Y.mono D.size);have i:=F.alloc F.size (.cells #[.int .i64 Q.r,.int .i64 Q.a,.int .i64 Q.b,.int .i64 Q.sz] 212);have Z:=(Y.block _ (aG X)).trans X;have hal:bg A (A.alloc (.cells #[.int .i64 Q.r,.int .i64 Q.a,.int .i64 Q.b,.int .i64 Q.sz] 212 (0,0))):=(aM _ A).alloc bS _;have j:=(hal.block _ (aG Z)).trans Z;have G:=bD A (.cells #[.int .i64 Q.r,.int .i64 Q.a,.int .i64 Q.b,.int .i64 Q.sz] 212 (0,0));have hz2:=F.size;have e0:(A.alloc (.cells #[.int .i64 Q.r,.int .i64 Q.a,.int .i64 Q.b,.int .i64 Q.sz] 212 (0,0))).cell? ⟨w1.heap.size,0,none⟩=some (.int .i64 P.r):=by rw[aI j];rfl
   have el:=aG j;generalize w1.heap.size=S1 at*;go_wp2_with fail;refine ay (hJ _ i) ?_;rintro _ w3 ⟨rfl,⟨k3,a3,hw3⟩,zk⟩;have l:=DH.set g k3 (A.alloc (.cells #[.int .i64 Q.r,.int .i64 Q.a,.int .i64 Q.b,.int .i64 Q.sz] 212 (0,0))) (.int .i64 a3);rw[<-hw3]at l;have t:=(l.blk _ (aG j) (by omega)).trans j;have u:=(l.blk _ (aG G) (by omega)).trans G;have F6:=(DH.below g i).trans l;have s1:w3.cell? ⟨S1,1,none⟩=some (.int .i64 P.a):=by rw[aI t];rfl
   have t1:w3.cell? ⟨A.heap.size,1,none⟩=some (.int .i64 Q.a):=by rw[aI u];rfl
   have sl:=aG t;have tl:=aG u;clear hw3 l i j G hJ e0 el;generalize A.heap.size=S2 at*;go_wp2_with fail;refine ay (hM w3 E1 P.a Q.a S (by omega) (by omega) F6 zk) ?_;rintro _ w4 ⟨rfl,H,MY⟩;have hA5:=(H.blk _ (aG t) (by omega)).trans t;have hQ5:=(H.blk _ (aG u) (by omega)).trans u;have yA:=F6.trans H;have u1:w4.cell? ⟨S1,2,none⟩=some (.int .i64 P.b):=by rw[aI hA5];rfl
   have v1:w4.cell? ⟨S2,2,none⟩=some (.int .i64 Q.b):=by rw[aI hQ5];rfl
   have ul:=aG hA5;have vl:=aG hQ5;go_wp2_with fail;refine ay (hM w4 _ P.b Q.b (hml.trans S) (by omega) (by omega) yA MY) ?_;rintro _ w5 ⟨rfl,I8,Hp⟩;have DV:=yA.trans I8;rw[<-I]at Hp;go_wp2;refine bP (v:=.tuple #[]) (by simp[results,results135,go_sem]) rfl ⟨rfl,DV,Hp⟩
def gu(E:List Nat):Ty->Ty->List Nat
 |.p r a b,.p s c d=>if Ty.p r a b=Ty.p s c d then E else gu (gu (oq E r s) a c) b d
 |_,_=>E
theorem fL:∀(a b:Ty)(E:List Nat),(gu E a b).length=E.length
 |.n,_,_=>by simp[gu]
 |.p _ _ _,.n,_=>by simp[gu]
 |.p r a b,.p s c d,E=>by
  simp[gu];split
  ·rfl
  ·rw[fL b d,fL a c,iG]
theorem Dk{d}{D}{K}{T}(h:Rel d D K T):∀(f:Nat)(E:List Nat)(x y:Nat),x<f->x<=d.length->y<=d.length->rY d f E x y=gu E (jm D x) (jm D y)
 |0,_,_,_,h1,_,_=>by omega
 |f+1,E,x,y,h1,g,i=>by
  simp[rY];by_cases e:x=y
  ·rw[ah (aD e),e];cases jm D y with
   |n=>rfl
   |p r a b=>simp[gu]
  ·by_cases j:x=0
   ·rw[ah (aE (aD j)),(h.num x g).2 j];rfl
   ·by_cases k:y=0
    ·rw[ah (aE (aE k)),(h.num y i).2 k];cases jm D x<;>rfl
    ·rw[ag (by omega)];obtain⟨p,_,l,u,v,m⟩:=h.pair x j g;obtain⟨q,_,o,w,z,s⟩:=h.pair y k i;have c:=λt=>e ((h.YV g i).1 t);rw[m,s,Dk h f _ p.a q.a (by omega) (by omega) (by omega),Dk h f _ p.b q.b (by omega) (by omega) (by omega)];rw[l,o]at c⊢;simp only[gu];rw[ag c]
def fH(f:Nat->Nat):Ty->Ty
 |.n=>.n
 |.p r a b=>.p (f r) (fH f a) (fH f b)
theorem kx(f):∀t:Ty,(fH f t).size=t.size
 |.n=>rfl
 |.p _ a b=>by simp[fH,Ty.size,kx f a,kx f b]
theorem qD(f):∀t:Ty,(fH f t).bare=t.bare
 |.n=>rfl
 |.p _ a b=>by simp[fH,Ty.bare,qD f a,qD f b]
theorem Tx(f)(t):fH f (D3 t)=D3 (fH f t):=by cases t<;>rfl
theorem Tz(f)(t):fH f (D4 t)=D4 (fH f t):=by cases t<;>rfl
theorem oW(f)(T)(i:Int):aP (T.map (fH f)) i=fH f (aP T i):=by
 unfold aP;split
 ·rw[aC];cases T[i.toNat]?<;>rfl
 ·rfl
def mE(c a:Nat->Nat):Prop:=∀i j,c i=c j->a i=a j
theorem mE.refl(c):mE c c:=λ_ _ h=>h
theorem mE.trans{b c}(h:mE N b)(g:mE b c):mE N c:=λi j e=>g i j (h i j e)
theorem mE.map(h:mE N M):∀(a b:Ty),fH N a=fH N b->fH M a=fH M b
 |.n,.n,_=>rfl
 |.n,.p _ _ _,e=>by simp[fH]at e
 |.p _ _ _,.n,e=>by simp[fH]at e
 |.p r a b,.p s x y,e=>by
  simp[fH,Ty.p.injEq]at e⊢;exact⟨h r s e.1,h.map a x e.2.1,h.map b y e.2.2⟩
def rD(n:Nat)(t:Ty):Prop:=∀r∈t.pM,r<n
theorem rD.p{n:Nat}{a b}(h:rD n (.p w a b)):w<n/\rD n a/\rD n b:=
 ⟨h w (by simp[Ty.pM]),λx c=>h x (by simp[Ty.pM,c]),λx c=>h x (by simp[Ty.pM,c])⟩
theorem JE(E)(x y:Nat)(a:x<E.length)(b:y<E.length):mE (cZ E) (cZ (oq E x y)):=λi j h=>by
 rw[sP E x y a b,sP E x y a b];exact Qk _ x y h
theorem ou:∀(a b:Ty)(E:List Nat),rD E.length a->rD E.length b->mE (cZ E) (cZ (gu E a b))
 |.n,_,_,_,_=>by simp[gu];exact mE.refl _
 |.p _ _ _,.n,_,_,_=>by simp[gu];exact mE.refl _
 |.p r a b,.p s c d,E,h1,h2=>by
  simp[gu];split
  ·exact mE.refl _
  ·obtain⟨e,f,g⟩:=h1.p;obtain⟨h,i,j⟩:=h2.p;refine (JE E r s e h).trans ((ou a c _ ?_ ?_).trans (ou b d _ ?_ ?_))
   ·rw[iG];exact f
   ·rw[iG];exact i
   ·rw[fL,iG];exact g
   ·rw[fL,iG];exact j
theorem xG:∀(a b:Ty)(E:List Nat),a.bare=b.bare->rD E.length a->rD E.length b->fH (cZ (gu E a b)) a=fH (cZ (gu E a b)) b
 |.n,.n,_,_,_,_=>rfl
 |.n,.p _ _ _,_,h,_,_=>by simp[Ty.bare]at h
 |.p _ _ _,.n,_,h,_,_=>by simp[Ty.bare]at h
 |.p r a b,.p s c d,E,h,h1,h2=>by
  simp[Ty.bare,Ty.p.injEq]at h;simp only[gu];split
  ·rename_i e;rw[e]
  ·obtain⟨i,j,k⟩:=h1.p;obtain⟨l,m,o⟩:=h2.p;have f:=iG E r s;have g:=fL a c (oq E r s);have q:=ou b d (gu (oq E r s) a c) (by rw[g,f];exact k) (by rw[g,f];exact o);have t:cZ (oq E r s) r=cZ (oq E r s) s:=by rw[sP E r s i l,sP E r s i l];exact Tv _ r s
   simp[fH,Ty.p.injEq];exact⟨q r s ((ou a c (oq E r s) (by rw[f];exact j) (by rw[f];exact m)) r s t),q.map a c (xG a c (oq E r s) h.1 (by rw[f];exact j) (by rw[f];exact m)),xG b d (gu (oq E r s) a c) h.2 (by rw[g,f];exact k) (by rw[g,f];exact o)⟩
def atR(n:NR):NR:={n with region:=n.at_}
def ox(n:NR)(r:Int):NR:={n with region:=r}
def xH:List Ty->List Nat->List NR->List Nat
 |_,E,[]=>E
 |T,E,n::r=>xH (T++[iz T (atR n)]) (if n.form=7\/n.form=11 then gu E (aP (T++[iz T (atR n)]) n.p1) (aP (T++[iz T (atR n)]) n.p2) else E) r
theorem NI:∀(a:List NR)(T:List Ty)(E:List Nat),(xH T E a).length=E.length
 |[],_,_=>rfl
 |n::r,T,E=>by
  simp[xH];rw[NI r];split
  ·rw[fL]
  ·rfl
theorem kN{n:Nat}(h:∀t∈T,rD n t)(i:Int):rD n (aP T i):=by
 unfold aP;split
 ·cases e:T[i.toNat]? with
  |none=>intro r a;simp[Ty.pM]at a
  |some t=>exact h t (aq e)
 ·intro r a;simp[Ty.pM]at a
theorem Dl{n:Nat}(h:∀t∈T,rD n t)(m)(g:m.region.toNat<n):rD n (iz T m):=by
 have d:=kN h m.p0;have h1:=kN h m.p1;have f:rD n .n:=λr c=>by simp[Ty.pM]at c
 unfold iz;split
 ·exact kN h m.source
 split
 ·exact d
 split
 ·exact h1
 split
 ·exact h1
 split
 ·exact h1
 split
 ·intro r c;simp[Ty.pM]at c;rcases c with c|c|c
  ·omega
  ·exact d r c
  ·exact h1 r c
 split
 ·cases e:aP T m.p0 with
  |n=>exact f
  |p r a b=>rw[e]at d;exact d.p.2.1
 split
 ·cases e:aP T m.p0 with
  |n=>exact f
  |p r a b=>rw[e]at d;exact d.p.2.2
 ·exact f
def Dm:List Ty->List NR->Prop
 |_,[]=>True
 |T,n::r=>(n.form=7\/n.form=11->(aP (T++[iz T n]) n.p1).bare=(aP (T++[iz T n]) n.p2).bare)/\Dm (T++[iz T n]) r
def Qm(c:Nat->Nat):List Ty->List NR->Prop
 |_,[]=>True
 |T,n::r=>(n.form=7\/n.form=11->fH c (aP (T++[iz T n]) n.p1)=fH c (aP (T++[iz T n]) n.p2))/\Qm c (T++[iz T n]) r
theorem xI:∀(e:List NR)(T:List Ty)(E:List Nat),(∀t∈T,rD E.length t)->(∀n∈e,n.at_<E.length)->mE (cZ E) (cZ (xH T E e))
 |[],_,_,_,_=>mE.refl _
 |n::r,T,E,h,c=>by
  have b:∀t∈T++[iz T (atR n)],rD E.length t:=λt a=>by
   rcases aA.1 a with a|a
   ·exact h t a
   ·simp only[ax]at a;subst a;exact Dl h _ (by simpa [atR] using c n (by simp))
  simp[xH];split
  ·refine (ou _ _ E (kN b _) (kN b _)).trans (xI r _ _ ?_ ?_)
   ·rw[fL];exact b
   ·rw[fL];exact λm d=>c m (by simp[d])
  ·exact xI r _ _ b (λm d=>c m (by simp[d]))
theorem Bn:∀(d:List NR)(T:List Ty)(E:List Nat),(∀t∈T,rD E.length t)->(∀n∈d,n.at_<E.length)->Dm T (d.map atR)->Qm (cZ (xH T E d)) T (d.map atR)
 |[],_,_,_,_,_=>trivial
 |n::r,T,E,h,g,i=>by
  have e:∀t∈T++[iz T (atR n)],rD E.length t:=λt a=>by
   rcases aA.1 a with a|a
   ·exact h t a
   ·simp only[ax]at a;subst a;exact Dl h _ (by simpa [atR] using g n (by simp))
  simp[Qm,xH];by_cases f:n.form=7\/n.form=11
  ·rw[ah f];have b:∀t∈T++[iz T (atR n)],rD (gu E (aP (T++[iz T (atR n)]) n.p1) (aP (T++[iz T (atR n)]) n.p2)).length t:=by rw[fL];exact e
   have c:∀m∈r,m.at_<(gu E (aP (T++[iz T (atR n)]) n.p1) (aP (T++[iz T (atR n)]) n.p2)).length:=by rw[fL];exact λm j=>g m (by simp[j])
   refine⟨λ_=>?_,Bn r _ _ b c i.2⟩;exact (xI r _ _ b c).map _ _ (xG _ _ E (i.1 f) (kN e _) (kN e _))
  ·rw[ag f];exact⟨λh=>absurd h f,Bn r _ _ e (λm j=>g m (by simp[j])) i.2⟩
theorem NJ(f)(T)(n m)(a:m={n with region:=m.region})(c:n.form=4->m.region.toNat=f n.region.toNat):iz (T.map (fH f)) m=fH f (iz T n):=by
 have d:m.form=n.form:=by rw[a]
 have e:m.source=n.source:=by rw[a]
 have g:m.p0=n.p0:=by rw[a]
 have h:m.p1=n.p1:=by rw[a]
 unfold iz;rw[d,e,g,h,oW,oW,oW,<-Tx,<-Tz];by_cases b:n.form=4
 ·rw[c b];simp[b,fH]
 ·repeat' split
  all_goals rfl
abbrev nz:Array Value:=#[.int .i64 0,.int .i64 0,.int .i64 0,.int .i64 0,.string ⟨#[]⟩,.int .i64 0,.int .i64 0,.int .i64 0,.int .i64 0,.int .i64 0]
theorem yO(h:a.heap[b]?=some (.cells nz 160 (0,0))):a.cell? ⟨b,0,none⟩=some (.int .i64 0)/\a.cell? ⟨b,1,none⟩=some (.int .i64 0)/\a.cell? ⟨b,2,none⟩=some (.int .i64 0)/\a.cell? ⟨b,3,none⟩=some (.int .i64 0)/\a.cell? ⟨b,4,none⟩=some (.string ⟨#[]⟩)/\a.cell? ⟨b,5,none⟩=some (.int .i64 0)/\a.cell? ⟨b,6,none⟩=some (.int .i64 0)/\a.cell? ⟨b,7,none⟩=some (.int .i64 0)/\a.cell? ⟨b,8,none⟩=some (.int .i64 0)/\a.cell? ⟨b,9,none⟩=some (.int .i64 0):=by
 refine⟨?_,?_,?_,?_,?_,?_,?_,?_,?_,?_⟩<;>(rw[aI h];rfl)
theorem Bo(h:a.heap[b]?=some (.cells nz 160 (0,0))):a.frozen? ⟨b,0,none⟩=false/\a.frozen? ⟨b,1,none⟩=false/\a.frozen? ⟨b,2,none⟩=false/\a.frozen? ⟨b,3,none⟩=false/\a.frozen? ⟨b,4,none⟩=false/\a.frozen? ⟨b,5,none⟩=false/\a.frozen? ⟨b,6,none⟩=false/\a.frozen? ⟨b,7,none⟩=false/\a.frozen? ⟨b,8,none⟩=false/\a.frozen? ⟨b,9,none⟩=false:=
 ⟨aK h 0,aK h 1,aK h 2,aK h 3,aK h 4,aK h 5,aK h 6,aK h 7,aK h 8,aK h 9⟩
theorem gV(h:Below w a c)(f:w<=b):Below w a (c.setCell ⟨b,d,none⟩ x):=
 ⟨h.os,h.tape,h.output,by have:=h.size;simp[World.setCell];omega,λk e=>by rw[cX _ _ (by simp only;omega)];exact h.block k e⟩
theorem Gv(v0 d e f g i j l m n)(o:Below w a c)(k:w<=b)(h:c.heap[b]?=some (.cells nz 160 (0,0))):((((((((((c.setCell ⟨b,0,none⟩ v0).setCell ⟨b,1,none⟩ d).setCell ⟨b,2,none⟩ e).setCell ⟨b,3,none⟩ f).setCell ⟨b,4,none⟩ g).setCell ⟨b,5,none⟩ i).setCell ⟨b,6,none⟩ j).setCell ⟨b,7,none⟩ l).setCell ⟨b,8,none⟩ m).setCell ⟨b,9,none⟩ n).heap[b]?=some (.cells #[v0,d,e,f,g,i,j,l,m,n] 160 (0,0))/\Below w a ((((((((((c.setCell ⟨b,0,none⟩ v0).setCell ⟨b,1,none⟩ d).setCell ⟨b,2,none⟩ e).setCell ⟨b,3,none⟩ f).setCell ⟨b,4,none⟩ g).setCell ⟨b,5,none⟩ i).setCell ⟨b,6,none⟩ j).setCell ⟨b,7,none⟩ l).setCell ⟨b,8,none⟩ m).setCell ⟨b,9,none⟩ n):=by
 have p:(c.setCell ⟨b,0,none⟩ v0).heap[b]?=some (.cells #[v0,.int .i64 0,.int .i64 0,.int .i64 0,.string ⟨#[]⟩,.int .i64 0,.int .i64 0,.int .i64 0,.int .i64 0,.int .i64 0] 160 (0,0)):=bu h 0 _;have h1:((c.setCell ⟨b,0,none⟩ v0).setCell ⟨b,1,none⟩ d).heap[b]?=some (.cells #[v0,d,.int .i64 0,.int .i64 0,.string ⟨#[]⟩,.int .i64 0,.int .i64 0,.int .i64 0,.int .i64 0,.int .i64 0] 160 (0,0)):=bu p 1 _;have h2:(((c.setCell ⟨b,0,none⟩ v0).setCell ⟨b,1,none⟩ d).setCell ⟨b,2,none⟩ e).heap[b]?=some (.cells #[v0,d,e,.int .i64 0,.string ⟨#[]⟩,.int .i64 0,.int .i64 0,.int .i64 0,.int .i64 0,.int .i64 0] 160 (0,0)):=bu h1 2 _;have h3:((((c.setCell ⟨b,0,none⟩ v0).setCell ⟨b,1,none⟩ d).setCell ⟨b,2,none⟩ e).setCell ⟨b,3,none⟩ f).heap[b]?=some (.cells #[v0,d,e,f,.string ⟨#[]⟩,.int .i64 0,.int .i64 0,.int .i64 0,.int .i64 0,.int .i64 0] 160 (0,0)):=bu h2 3 _;have q:(((((c.setCell ⟨b,0,none⟩ v0).setCell ⟨b,1,none⟩ d).setCell ⟨b,2,none⟩ e).setCell ⟨b,3,none⟩ f).setCell ⟨b,4,none⟩ g).heap[b]?=some (.cells #[v0,d,e,f,g,.int .i64 0,.int .i64 0,.int .i64 0,.int .i64 0,.int .i64 0] 160 (0,0)):=bu h3 4 _;have r:((((((c.setCell ⟨b,0,none⟩ v0).setCell ⟨b,1,none⟩ d).setCell ⟨b,2,none⟩ e).setCell ⟨b,3,none⟩ f).setCell ⟨b,4,none⟩ g).setCell ⟨b,5,none⟩ i).heap[b]?=some (.cells #[v0,d,e,f,g,i,.int .i64 0,.int .i64 0,.int .i64 0,.int .i64 0] 160 (0,0)):=bu q 5 _;have s:(((((((c.setCell ⟨b,0,none⟩ v0).setCell ⟨b,1,none⟩ d).setCell ⟨b,2,none⟩ e).setCell ⟨b,3,none⟩ f).setCell ⟨b,4,none⟩ g).setCell ⟨b,5,none⟩ i).setCell ⟨b,6,none⟩ j).heap[b]?=some (.cells #[v0,d,e,f,g,i,j,.int .i64 0,.int .i64 0,.int .i64 0] 160 (0,0)):=bu r 6 _;have t:((((((((c.setCell ⟨b,0,none⟩ v0).setCell ⟨b,1,none⟩ d).setCell ⟨b,2,none⟩ e).setCell ⟨b,3,none⟩ f).setCell ⟨b,4,none⟩ g).setCell ⟨b,5,none⟩ i).setCell ⟨b,6,none⟩ j).setCell ⟨b,7,none⟩ l).heap[b]?=some (.cells #[v0,d,e,f,g,i,j,l,.int .i64 0,.int .i64 0] 160 (0,0)):=bu s 7 _;have u:(((((((((c.setCell ⟨b,0,none⟩ v0).setCell ⟨b,1,none⟩ d).setCell ⟨b,2,none⟩ e).setCell ⟨b,3,none⟩ f).setCell ⟨b,4,none⟩ g).setCell ⟨b,5,none⟩ i).setCell ⟨b,6,none⟩ j).setCell ⟨b,7,none⟩ l).setCell ⟨b,8,none⟩ m).heap[b]?=some (.cells #[v0,d,e,f,g,i,j,l,m,.int .i64 0] 160 (0,0)):=bu t 8 _;have v:((((((((((c.setCell ⟨b,0,none⟩ v0).setCell ⟨b,1,none⟩ d).setCell ⟨b,2,none⟩ e).setCell ⟨b,3,none⟩ f).setCell ⟨b,4,none⟩ g).setCell ⟨b,5,none⟩ i).setCell ⟨b,6,none⟩ j).setCell ⟨b,7,none⟩ l).setCell ⟨b,8,none⟩ m).setCell ⟨b,9,none⟩ n).heap[b]?=some (.cells #[v0,d,e,f,g,i,j,l,m,n] 160 (0,0)):=bu u 9 _;exact⟨v,gV (gV (gV (gV (gV (gV (gV (gV (gV (gV o k) k) k) k) k) k) k) k) k) k⟩
theorem TA{A}{T}{ev:Value}(j:a.heap[w]?=some (.cells A T (0,0)))(d:bg a c)(f:c.grownBy y ev.ownBlock)(g:ev.ownBlock≠some w):(y.setCell ⟨w,b,none⟩ x).heap[w]?=some (.cells (A.setIfInBounds b x) T (0,0))/\(∀k,k<a.heap.size->k≠w->ev.ownBlock≠some k->(y.setCell ⟨w,b,none⟩ x).heap[k]?=a.heap[k]?)/\a.heap.size<=(y.setCell ⟨w,b,none⟩ x).heap.size/\(y.setCell ⟨w,b,none⟩ x).os=a.os/\(y.setCell ⟨w,b,none⟩ x).tape=a.tape/\(y.setCell ⟨w,b,none⟩ x).output=a.output:=by
 have l:c.heap[w]?=some (.cells A T (0,0)):=by rw[d.block w (aG j)];exact j
 refine⟨bu (kW f l g) b _,λk m h i=>?_,?_,f.os.trans d.os,f.tape.trans d.tape,f.output.trans d.output⟩
 ·rw[lu h,f.block k (by have:=d.size;omega) (λe=>i e.symm),d.block k m]
 ·have:=d.size;have:=f.size;simp[World.setCell];omega
structure Sh1(w0:World)(sb q:Nat)(n0:NR)(wr:World)(ev:Value)(k:Nat): Prop where
 b:Below sb w0 wr
 y:wr.heap[sb]?=some (.cells #[.slice none 0 0,.slice none 0 0,ev] 186 (0,0))
 n:wr.heap[q]?=some (gG n0)
 r:wr.ownsRow 0 3 1 ev k (dM (List.range k))
 e:∀g,ev.ownBlock=some g->sb<g/\g≠q
 sq:sb<q
theorem Sh1.add{wr m}{q:Nat}{v}{ev}{f:Nat}(h:Sh1 a w q v wr ev d)(x:bg wr c)(z:c.grownBy m ev.ownBlock)(i:m.ownsRow 0 3 1 (.slice (some ⟨u,0,none⟩) (d+1) f) (d+1) (dM (List.range d)++[.int .i64 d]))(p:ev.ownBlock=some u\/c.heap.size<=u):Sh1 a w q v (m.setCell ⟨w,2,none⟩ (.slice (some ⟨u,0,none⟩) (d+1) f)) (.slice (some ⟨u,0,none⟩) (d+1) f) (d+1):=by
 have A:=aG h.y;have r:=aG h.n;have B:=x.size;obtain⟨h1,h2,h3,C,D,E⟩:=TA (b:=2) (x:=.slice (some ⟨u,0,none⟩) (d+1) f) h.y x z (λe=>by have:=(h.e _ e).1;omega);have s:w<u/\u≠q:=by
  rcases p with e|e
  ·exact h.e u e
  ·exact⟨by omega,by omega⟩
 have t:=h.sq;have F:=h.b.size;refine⟨⟨C.trans h.b.os,D.trans h.b.tape,E.trans h.b.output,by omega,λj l=>?_⟩,h1,?_,?_,λj l=>?_,t⟩
 ·rw[h2 j (by omega) (by omega) (λe=>by have:=(h.e j e).1;omega)];exact h.b.block j l
 ·rw[h2 q r (by omega) (λe=>(h.e q e).2 rfl)];exact h.n
 ·rw[gZ];unfold dM at i⊢;rw[bz];exact bO i (λj l=>cX _ _ (by simp[Value.ownBlock]at l;subst l;simp only;omega))
 ·simp[Value.ownBlock]at l;subst l;exact s
structure Ka(w0:World)(sb g cap B:Nat)(wr:World)(pv tv:Value)(tb:List TP)(K E:List Nat): Prop where
 b:Below sb w0 wr
 c:lM sb 0 #[pv,tv,.slice (some ⟨g,0,none⟩) B cap] 186 wr pv tv tb K
 r:wr.ownsRow 0 3 1 (.slice (some ⟨g,0,none⟩) B cap) B (dM E)
 gs:sb<g
 pg:pv.ownBlock≠some g
 tg:tv.ownBlock≠some g
 pb:∀j,pv.ownBlock=some j->sb<j
 tb':∀j,tv.ownBlock=some j->sb<j
theorem Ka.below{wr e}{g:Nat}(h:Ka a w g d u wr x K v z L)(f:bg wr e):Ka a w g d u e x K v z L:=
 ⟨h.b.trans (f.mono (gi (aG h.c.y))),h.c.below f,bE h.r f,h.gs,h.pg,h.tg,h.pb,h.tb'⟩
theorem Ka.add{wr}{g:Nat}{i l}{m}(h:Ka a w g d u wr x K v z P)(f:AF w wr c x K i l)(y:lM w 0 #[i,l,.slice (some ⟨g,0,none⟩) u d] 186 c i l m L):Ka a w g d u c i l m L P:=by
 have o:=(h.r.lt g rfl).2;have q:=h.gs;have A:=h.b.size;refine⟨⟨f.os.trans h.b.os,f.tape.trans h.b.tape,f.output.trans h.b.output,by have:=f.size;omega,λk n=>?_⟩,y,bO h.r (λk n=>?_),q,λe=>?_,λe=>?_,λj s=>?_,λj s=>?_⟩
 ·rw[f.blk k (by omega) (by omega) (λe=>by have:=h.pb k e;omega) (λe=>by have:=h.tb' k e;omega)];exact h.b.block k n
 ·simp[Value.ownBlock]at n;subst n;exact f.blk g o (by omega) h.pg h.tg
 ·rcases f.p g e with e|e
  ·exact h.pg e
  ·omega
 ·rcases f.t g e with e|e
  ·exact h.tg e
  ·omega
 ·rcases f.p j s with e|e
  ·exact h.pb j e
  ·omega
 ·rcases f.t j s with e|e
  ·exact h.tb' j e
  ·omega
theorem Ka.mat{n wr i}{g:Nat}(h:Ka n w g d u wr x K v z L)(f:DH g wr i)(o:i.ownsRow 0 3 1 (.slice (some ⟨g,0,none⟩) u d) u (dM P)):Ka n w g d u i x K v z P:=by
 have l:=h.gs;have m:=aG h.c.y;have q:=h.b.size;refine⟨⟨f.os.trans h.b.os,f.tape.trans h.b.tape,f.output.trans h.b.output,by have:=f.size;omega,λk j=>?_⟩,?_,o,l,h.pg,h.tg,h.pb,h.tb'⟩
 ·rw[f.blk k (by omega) (by omega)];exact h.b.block k j
 ·exact⟨by rw[f.blk w m (by omega)];exact h.c.y,h.c.a,h.c.b,bO h.c.p (λk j=>f.blk k (h.c.p.lt k j).2 (λe=>h.pg (by rw[j,e]))),bO h.c.t (λk j=>f.blk k (h.c.t.lt k j).2 (λe=>h.tg (by rw[j,e]))),h.c.py,h.c.ty,h.c.pt⟩
def TbB(B:Nat)(a:List TP):Prop:=∀j,(lB a j).r<B
theorem Wo(a)(x)(j:Nat):lB (a++[x]) j=lB a j\/lB (a++[x]) j=x:=by
 unfold lB;split
 ·exact aD rfl
 ·by_cases h:j-1<a.length
  ·rw[ak h];exact aD rfl
  ·rw[aw (by omega)];by_cases h2:j-1-a.length=0
   ·rw[h2];exact aE rfl
   ·rw[bH (by simp;omega),bH (by omega)];exact aD rfl
theorem abH(h:TbB w v)(K)(n)(r:Nat)(c:r<w):TbB w (nI v K n r).2:=by
 have d:∀a b,TbB w (kT v r a b).2:=λa b=>by
  unfold kT;split
  ·exact h
  ·intro j;rcases Wo v ⟨r,a,b,1+(lB v a).sz+(lB v b).sz⟩ j with e|e
   ·rw[e];exact h j
   ·rw[e];exact c
 unfold nI
 repeat' split
 all_goals first|exact h|exact d _ _
