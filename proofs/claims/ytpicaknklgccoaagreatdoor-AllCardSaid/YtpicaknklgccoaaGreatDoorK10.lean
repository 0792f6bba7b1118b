import Derived.Test.YtpicaknklgccoaaGreatDoorK9
import Derived.Shelf.Lay
import Derived.Shelf.LaysM
import Derived.Shelf.Strconv.Itoa3
import Derived.Lib.AppendIntMem
set_option maxHeartbeats 1000000
set_option maxRecDepth 100000
namespace Go.Proofs.YtpicaknklgccoaaGreatDoor
open Tryz
variable {w b T:Nat}{a:RS}{d y:World}{x:List Nat}{z v u:Value}{K:PT}{P:Ty}{N:RV}{M:dc}{Y:List UInt8}{R:Nat -> Prop}{G:kz}{O:RS -> RV × RS}{B:RV × RS}
abbrev bP:=@bodyPost_end
abbrev cC:=@Lib.tabBelow_of_tabIs
def qf(a:kz)(G:dc):Prop:=∀s T,look G s=some T->(qG a s).has T
theorem qf.snoc{nm}(h:qf G M)(b:N.has P):qf ((nm,N)::G) (M++[(nm,P)]):=by
 intro s U a;rw[vC]at a;simp[qG];by_cases e:nm=s
 ·rw[ah (by simpa using e)]at a;rw[ah e];cases a;exact b
 ·rw[ag (by simpa using e)]at a;rw[ag e];exact h s U a
def OO(T:Ty)(a:RS)(r:RV×RS):Prop:=(r.2.e=0->a.e=0/\r.1.has T)/\(r.2.e≠0->r.1=.n 0)
theorem kK(h:∀b:RS,b.e=0->a.e=0->OO P b (O b)):OO P a (jg w a O):=by
 unfold jg;split
 ·rename_i c;exact⟨λe=>absurd e c,λ_=>rfl⟩
 ·rename_i c;have d:a.e=0:=by simpa using c
  split
  ·exact⟨λe=>by simp at e,λ_=>rfl⟩
  ·have:=h {a with steps:=a.steps+1} d d;exact⟨λe=>⟨d,(this.1 e).2⟩,this.2⟩
theorem BQ{T}{f}(c:∀v a,(a.e=0->v.has T)->OO T a (f v a)):∀(k:Nat)(v:RV)(a:RS),(a.e=0->v.has T)->(a.e≠0->v=.n 0)->OO T a (eZ f k v a)
 |0,v,a,h1,h2=>⟨λe=>⟨e,h1 e⟩,h2⟩
 |k+1,v,a,h1,h2=>by
  unfold eZ;split
  ·rename_i b;exact⟨λe=>absurd e b,h2⟩
  ·rename_i b;have g:a.e=0:=by simpa using b
   have d:=c v a h1;have:=BQ c k (f v a).1 (f v a).2 (λe=>(d.1 e).2) d.2;exact⟨λe=>⟨g,(this.1 e).2⟩,this.2⟩
theorem uu(h:N.has .n):∃k:Int,N=.n k/\0<=k/\k<=9999:=by
 cases N with
 |n k=>exact⟨k,rfl,h⟩
 |p a b c=>simp[RV.has]at h
theorem sr{B}(h:N.has (.p w P B)):∃a b c,N=.p a b c/\a.has P/\b.has B:=by
 cases N with
 |n k=>simp[RV.has]at h
 |p a b c=>exact⟨a,b,c,rfl,h⟩
theorem su(h:OO .n a B):∃k:Int,B.1=.n k/\0<=k/\k<=9999:=by
 by_cases e:B.2.e=0
 ·exact uu (h.1 e).2
 ·exact⟨0,h.2 e,by omega,by omega⟩
theorem BR(k)(a b:Int)(c:0<=a/\a<=9999)(d:0<=b/\b<=9999):0<=oH k a b/\oH k a b<=9999:=by
 unfold oH;split
 ·rw[dD (by omega)];omega
 ·split
  ·rw[dD (by omega)];omega
  ·split<;>omega
theorem th(g:Nat)(h:WT M K P):∀(d:kz)(q:RS),K.eO->(q.e=0->qf d M)->OO P q (rW g K d q):=by
 induction h with
 |num=>
  intro d q l m;exact kK (λi n _=>⟨λ_=>⟨n,by simp[RV.has];exact l⟩,λe=>absurd n e⟩)
 |name S=>
  intro d q l m;exact kK (λi n o=>⟨λ_=>⟨n,m o _ _ S⟩,λe=>absurd n e⟩)
 |@dV M p w D a b A B E J j r=>
  intro d q l m;unfold rW;simp only[reduceCtorEq,aT,bT];refine kK (λi n o=>?_);have x:=j d i l.2.1 (λ_=>m o);have y:=r ((w,(rW g a d i).1)::d) (rW g a d i).2 l.2.2.1 (λe=>(m o).snoc (x.1 e).2);exact⟨λe=>⟨n,(y.1 e).2⟩,y.2⟩
 |@pair M p w D a b A B E J U j r=>
  intro d q l m;unfold rW;simp only[reduceCtorEq,aT];refine kK (λi n o=>?_);have x:=j d i l.2.1 (λ_=>m o);have y:=r d (rW g a d i).2 l.2.2.1 (λ_=>m o);simp only[mI];split
  ·rename_i s;exact⟨λe=>absurd e s,λ_=>rfl⟩
  ·rename_i s;have C:(rW g b d (rW g a d i).2).2.e=0:=by simpa using s
   have R:=y.1 C;simp only[bT];refine⟨λ_=>⟨n,?_⟩,λe=>absurd (by simp[tS,RS.one];rw[(FB (rW g b d (rW g a d i).2).2 (aQ D)).2.2.2.1];exact C) e⟩;exact⟨(x.1 R.1).2,R.2⟩
 |@fst M p w D a A B E j=>
  intro d q l m;unfold rW;simp only[reduceCtorEq,aT];refine kK (λi n o=>?_);have x:=j d i l.2.1 (λ_=>m o);simp only[mI];split
  ·rename_i s;exact⟨λe=>absurd e s,λ_=>rfl⟩
  ·rename_i s;have C:((rW g a d i).2.used (rW g a d i).1).e=0:=by simpa using s
   have V:=(x.1 ((FA _ _).2.2.2.2.2.2 C)).2;refine⟨λ_=>⟨n,?_⟩,λe=>absurd C e⟩;obtain⟨u,v,c,H,h1,_⟩:=sr V;rw[H];exact h1
 |@snd M p w D a A B E j=>
  intro d q l m;unfold rW;simp only[reduceCtorEq,aT];refine kK (λi n o=>?_);have x:=j d i l.2.1 (λ_=>m o);simp only[mI];split
  ·rename_i s;exact⟨λe=>absurd e s,λ_=>rfl⟩
  ·rename_i s;have C:((rW g a d i).2.used (rW g a d i).1).e=0:=by simpa using s
   refine⟨λ_=>⟨n,?_⟩,λe=>absurd C e⟩;obtain⟨u,v,c,H,_,h1⟩:=sr ((x.1 ((FA _ _).2.2.2.2.2.2 C)).2);rw[H];exact h1
 |@lv M p w D a b c P E J W j r F=>
  intro d q l m;unfold rW;simp only[reduceCtorEq,aT,bT];refine kK (λi n o=>?_);simp only[Hd];split
  ·have y:=r d (rW g a d i).2 l.2.2.1 (λ_=>m o);exact⟨λe=>⟨n,(y.1 e).2⟩,y.2⟩
  ·have y:=F d (rW g a d i).2 l.2.2.2.1 (λ_=>m o);exact⟨λe=>⟨n,(y.1 e).2⟩,y.2⟩
 |@two M p k w D a b I E J j r=>
  intro d q l m;have X:k≠.new:=by rcases I with rfl|rfl|rfl<;>decide
  have Y:k≠.dV:=by rcases I with rfl|rfl|rfl<;>decide
  have Z:k≠.lv:=by rcases I with rfl|rfl|rfl<;>decide
  have k3:k≠.loop:=by rcases I with rfl|rfl|rfl<;>decide
  have k4:k≠.pair:=by rcases I with rfl|rfl|rfl<;>decide
  unfold rW;simp[ag X,ag Y,ag Z,ag k3];refine kK (λi n o=>?_);have x:=j d i l.2.1 (λ_=>m o);have y:=r d (rW g a d i).2 l.2.2.1 (λ_=>m o);simp only[mI];split
  ·rename_i s;exact⟨λe=>absurd e s,λ_=>rfl⟩
  ·rename_i s;have C:(rW g b d (rW g a d i).2).2.e=0:=by simpa using s
   refine⟨λ_=>⟨n,?_⟩,λe=>absurd C e⟩;obtain⟨n1,L,N⟩:=su x;obtain⟨n2,O,Q⟩:=su y;simp[RV.has,L,O,RV.num];exact BR k n1 n2 N Q
 |@loop M p w D a b c P E J W j r F=>
  intro d q l m;unfold rW;simp only[reduceCtorEq,aT,bT];refine kK (λi n o=>?_);have y:=r d (rW g a d i).2 l.2.2.1 (λ_=>m o);have z:=BQ (f:=λv q=>rW g c ((w,v)::d) q) (λv q H=>F ((w,v)::d) q l.2.2.2.1 (λe=>(m o).snoc (H e))) (rW g a d i).1.num.toNat (rW g b d (rW g a d i).2).1 (rW g b d (rW g a d i).2).2 (λe=>(y.1 e).2) y.2;exact⟨λe=>⟨n,(z.1 e).2⟩,z.2⟩
 |@new M p w D a P E j=>
  intro d q l m;unfold rW;simp only[bT];split
  ·rename_i s;exact⟨λe=>absurd e s,λ_=>rfl⟩
  ·rename_i s;have n:q.e=0:=by simpa using s
   have x:=j d (q.opened (aQ D)) l.2.1 (λ_=>m n);exact⟨λe=>⟨n,(x.1 e).2⟩,x.2⟩
structure RS.cb(st:RS): Prop where
 o:∀(i:Nat)(o:RO),st.ops[i]?=some o->o.cells<=st.cells
 t:∀x∈st.dq,-(st.cells:Int)<=x/\x<=1
theorem zr(h:a.cb)(c:∀b,b.cb->(O b).2.cb):(jg w a O).2.cb:=by
 unfold jg;split
 ·exact h
 ·split
  ·exact⟨h.o,h.t⟩
  ·exact c _ ⟨h.o,h.t⟩
theorem Es{f}(b:∀v a,a.cb->(f v a).2.cb):∀(k:Nat)(v:RV)(a:RS),a.cb->(eZ f k v a).2.cb
 |0,_,_,h=>h
 |k+1,v,a,h=>by
  unfold eZ;split
  ·exact h
  ·exact Es b k _ _ (b v a h)
theorem U9(v)(h:a.cb):(a.used v).cb:=by
 unfold RS.used;split
 ·exact h
 ·split
  ·exact⟨h.o,h.t⟩
  ·exact h
theorem MD(c:Int)(h:a.cb):∀(i:Nat)(o:RO),(a.ops++[⟨c,0,false⟩])[i]?=some o->o.cells<=a.cells:=by
 intro i o b;by_cases d:i<a.ops.length
 ·rw[ak d]at b;exact h.o i o b
 ·rw[aw (by omega)]at b;rw[lh]at b;split at b
  ·cases b;exact ld
  ·cases b
theorem Hw(b:Int)(h:a.cb):(a.gm b).2.cb:=by
 unfold RS.gm;split
 ·exact h
 ·exact⟨MD b h,h.t⟩
theorem zt(b:Int)(h:a.cb):(a.opened b).cb:=⟨MD b h,h.t⟩
theorem Yn(i:Nat)(h:a.cb):(a.one i).cb:=by
 refine⟨λj o b=>?_,λx c=>?_⟩
 ·simp[RS.one]at b⊢;rw[eJ]at b;cases d:a.ops[j]? with
  |none=>rw[d]at b;simp at b
  |some e=>
   rw[d]at b;simp at b;have:=h.o j e d;rw[<-b];split
   ·simp only;omega
   ·omega
 ·simp only[RS.one,aA,ax]at c⊢;rcases c with c|rfl
  ·have:=h.t x c;omega
  ·omega
theorem Va(i:Nat)(h:a.cb):(a.shut i).cb:=by
 refine⟨λj o b=>?_,λx d=>?_⟩
 ·simp[RS.shut]at b⊢;rw[eJ]at b;cases c:a.ops[j]? with
  |none=>rw[c]at b;simp at b
  |some e=>
   rw[c]at b;simp at b;have:=h.o j e c;rw[<-b];split
   ·exact this
   ·exact this
 ·simp only[RS.shut,aA,ax]at d⊢;rcases d with d|rfl
  ·exact h.t x d
  ·cases c:a.ops[i]? with
   |none=>simp
   |some e=>have:=h.o i e c;simp;omega
mutual
theorem p5(d:Nat):∀(t:PT)(e:kz)(f:RS),f.cb->(rW d t e f).2.cb
 |.num _ s,e,f,h=>by unfold rW;exact zr h (λi h=>h)
 |.name _ s,e,f,h=>by unfold rW;exact zr h (λi h=>h)
 |.node _ k l m g,e,f,h=>by
  unfold rW;split
  ·split
   ·exact h
   ·exact Vb d _ g e f h
  ·refine zr h (λi h=>?_);split
   ·exact Vc d l g e i h
   ·split
    ·exact Yo d g e i h
    ·split
     ·exact Re d l g e i h
     ·exact Vd d k _ g e i h
theorem Vb(d:Nat)(m:Int):∀(j:List PT)(e:kz)(f:RS),f.cb->(tX d m j e f).2.cb
 |[a],e,f,h=>by simp only[tX];exact Va _ (p5 d a e _ (zt m h))
 |[],_,f,h=>by simp only[tX];exact h
 |_::_::_,_,f,h=>by simp only[tX];exact h
theorem Vc(d:Nat)(l):∀(j:List PT)(e:kz)(f:RS),f.cb->(xU d l j e f).2.cb
 |[a,b],e,f,h=>by simp only[xU];exact p5 d b _ _ (p5 d a e f h)
 |[],_,f,h=>by simp only[xU];exact h
 |[_],_,f,h=>by simp only[xU];exact h
 |_::_::_::_,_,f,h=>by simp only[xU];exact h
theorem Yo(d:Nat):∀(j:List PT)(e:kz)(f:RS),f.cb->(Hd d j e f).2.cb
 |[a,b,c],e,f,h=>by
  simp only[Hd];split
  ·exact p5 d b _ _ (p5 d a e f h)
  ·exact p5 d c _ _ (p5 d a e f h)
 |[],_,f,h=>by simp only[Hd];exact h
 |[_],_,f,h=>by simp only[Hd];exact h
 |[_,_],_,f,h=>by simp only[Hd];exact h
 |_::_::_::_::_,_,f,h=>by simp only[Hd];exact h
theorem Re(d:Nat)(l):∀(j:List PT)(e:kz)(f:RS),f.cb->(pZ d l j e f).2.cb
 |[a,b,c],e,f,h=>by
  simp only[pZ];exact Es (λv f h=>p5 d c _ f h) _ _ _ (p5 d b _ _ (p5 d a e f h))
 |[],_,f,h=>by simp only[pZ];exact h
 |[_],_,f,h=>by simp only[pZ];exact h
 |[_,_],_,f,h=>by simp only[pZ];exact h
 |_::_::_::_::_,_,f,h=>by simp only[pZ];exact h
theorem Vd(d:Nat)(k)(m:Int):∀(j:List PT)(e:kz)(f:RS),f.cb->(mI d k m j e f).2.cb
 |[a],e,f,h=>by
  simp only[mI];have n:=U9 (rW d a e f).1 (p5 d a e f h);split<;>exact n
 |[a,b],e,f,h=>by
  simp only[mI];have n:=p5 d b e _ (p5 d a e f h);split
  ·exact n
  ·split
   ·exact Yn _ (Hw _ n)
   ·exact n
 |[],_,f,h=>by simp only[mI];exact h
 |_::_::_::_,_,f,h=>by simp only[mI];exact h
end
open Go.RowKit Go.Shelf Go.Sort
open Go.Lib (decDigits)
def nV(a:World):Prop:=∀(n:Nat)(w:World),n<=9999->bg a w->Calls prog 49 #[.int .i64 n] w λe b=>e=.returned (.string (bs (decDigits n)))/\bg w b
shelf_lay LaysM.n171 Nm 171 at Tryz as afl
theorem rI (b) (a:Lib.TabIs prog b "internal/strconv.uint64pow10" .u64 Lib.pow10Tab):nV b:=by
 intro n w g c;refine (Any.strconv_Itoa afl (n:Int) (by omega) (by omega) w (cC a w c)).mono ?_;rintro e h ⟨rfl,k,d,rfl⟩;refine⟨?_,Lib.below_grow _ _ bS k d⟩;have f:Lib.itoa (n:Int)=decDigits n:=by
  unfold Lib.itoa;rw[ag (by omega)];rfl
 rw[f];rfl
open Go.RowKit
def wS(c:World)(t:PT):Prop:=∀(id a b:Nat)(F:Nat->Prop),t.cnt<=9000->t.eO->t.wf->gS c F t id a b->∀w:World,bg c w->
 Calls prog 41 #[ptr b,.slice none 0 0,.slice none 0 0] w λe d=>e=.returned (.string (bs t.uh))/\bg w d
theorem Rg(g)(hit:nV g)(p:Nat)(s):wS g (.num p s):=by
 intro id h b F i j m k w a;simp only[gS]at k;simp only[PT.eO]at j;have d:=k.2;have c:=aG d;have q:cg w b 0 (.string (bs rz)):=(a.cell (p:=⟨b,0,none⟩) c).trans (by rw[aI d];rfl);obtain⟨n,l⟩:∃n:Nat,aQ s=n:=⟨(aQ s).toNat,by omega⟩;have r:cg w b 3 (.int .i64 n):=(a.cell (p:=⟨b,3,none⟩) c).trans (by rw[aI d,<-l];rfl);have o:((bs rz).toList==[110,117,109,98,101,114])=true:=by rw[bo];decide
 simp only[PT.uh];rw[l]at j⊢;show Calls _ _ #[Value.pointer (some ⟨b,0,none⟩),_,_] w _;go_in;go_wp2_with (go_at_call 49;refine (hit n w (by omega) a).mono ?_;rintro e t ⟨rfl,f⟩);go_ret;exact⟨by simp,f⟩
theorem OP(i)(p:Nat)(s):wS i (.name p s):=by
 intro id e b F f l j g w a;simp only[gS]at g;have d:=g.2;have c:=aG d;have m:cg w b 0 (.string (bs jE)):=(a.cell (p:=⟨b,0,none⟩) c).trans (by rw[aI d];rfl);have n:cg w b 2 (.string (bs s)):=(a.cell (p:=⟨b,2,none⟩) c).trans (by rw[aI d];rfl);have k:((bs jE).toList==[110,117,109,98,101,114])=false:=by rw[bo];decide
 have h:((bs jE).toList==[110,97,109,101])=true:=by rw[bo];decide
 simp only[PT.uh];show Calls _ _ #[Value.pointer (some ⟨b,0,none⟩),_,_] w _;go_in;go_wp2_with fail;go_ret;exact⟨rfl,fp⟩
theorem lL{p:Nat}{k}{C}{a}{id:Nat}(D:gS d R (.node p k Y C a) id w b):∃e m,(d.cell? ⟨b,0,none⟩=some (.string (bs k.bytes))/\d.cell? ⟨b,2,none⟩=some (.string (bs Y))/\d.cell? ⟨b,4,none⟩=some (.slice e a.length m))/\b<d.heap.size/\∀j x,a[j]?=some x->∃c n s f,e=some ⟨c,0,none⟩/\c<d.heap.size/\d.cell? ⟨c,j,none⟩=some (ptr n)/\gS d R x s f n:=by
 obtain⟨E,G,H,r,J,i,t⟩:=D;obtain⟨e,m,l⟩:∃e m,G=.slice e a.length m:=by
  rcases i.2 with⟨h,A⟩|⟨g,u,v,h,_⟩
  ·exact⟨none,0,by rw[h,A]⟩
  ·exact⟨_,_,h⟩
 refine⟨e,m,⟨by rw[aI r];rfl,by rw[aI r];rfl,by rw[aI r,<-l];rfl⟩,aG r,?_⟩;intro j x B;obtain⟨n,y,z⟩:=fZ.at _ _ _ _ t j x B;have I:=(ae.1 B).1;obtain⟨c,o⟩:∃c,e=some ⟨c,0,none⟩:=by
  have h:=i.2;rw[l]at h;rcases h with⟨h,A⟩|⟨g,u,v,h,_⟩
  ·omega
  ·simp at h;exact⟨_,h.1⟩
 have q:d.cell? ⟨c,j,none⟩=some (ptr n):=by
  have h:d.ownsRow 0 63 1 (.slice (some ⟨c,0,none⟩) a.length m) a.length (H.map ptr):=by rw[<-o,<-l];exact i
  rw[h.cellAt j (by omega)];simp[y]
 exact⟨c,n,_,_,o,aR _ _ q,q,z⟩
theorem Rh(k)(p:Nat)(o q)(x)(r:wS k x):wS k (.node p .new o q [x]):=by
 intro id l b F d m f s w a;obtain⟨C,D,⟨t,_,u⟩,g,v⟩:=lL s;obtain⟨y,z,h,c,rfl,A,B,i⟩:=v 0 x rfl;have E:=(a.cell (p:=⟨b,0,none⟩) g).trans t;have G:=(a.cell (p:=⟨b,4,none⟩) g).trans u;have H:=(a.cell (p:=⟨y,0,none⟩) A).trans B;have h1:((bs Kw.new.bytes).toList==[110,117,109,98,101,114])=false:=by rw[bo];decide
 have h2:((bs Kw.new.bytes).toList==[110,97,109,101])=false:=by rw[bo];decide
 have h3:((bs Kw.new.bytes).toList==[110,101,119])=true:=by rw[bo];decide
 simp only[PT.cnt,aU]at d;simp only[PT.eO,gJ]at m;simp only[PT.wf,rH]at f;have n:=r h c z F (by omega) m.2.1 f.2.1 i w a;unfold ptr at n;simp only[PT.uh,pS,ah,mZ];show Calls _ _ #[Value.pointer (some ⟨b,0,none⟩),_,_] w _;go_in;go_wp2_with (go_at_call 41;refine n.mono ?_;rintro e I ⟨rfl,j⟩);go_ret;exact⟨rfl,j⟩
structure DD(fuel n:Nat)(st:RS): Prop where
 f:fuel<=20000
 s:st.steps<=fuel
 c:st.cells<=st.steps
 w:st.ky.length<=st.cells
 o:st.opn.length+n<=9000
 t:st.dq.length+n*(fuel-st.steps+1)<=400000000
 b:st.cb
theorem fP.c{f}(h:fP d f w z v u x b a):f.cell? ⟨w,3,none⟩=some (.int .i64 b)/\f.cell? ⟨w,4,none⟩=some (.int .i64 a.steps)/\f.cell? ⟨w,5,none⟩=some (.int .i64 a.cells)/\f.cell? ⟨w,6,none⟩=some (.int .i64 a.e)/\w<f.heap.size:=
 ⟨by rw[aI h.y];rfl,by rw[aI h.y];rfl,by rw[aI h.y];rfl,by rw[aI h.y];rfl,aG h.y⟩
theorem fP.c6(h:fP d y w z v u x b a)(f:a.e=0):y.cell? ⟨w,6,none⟩=some (.int .i64 0):=by
 have:=h.c.2.2.2.1;rw[f]at this;exact this
theorem fP.aau(h:fP d y w z v u x b a)(e:Nat):fP d (y.setCell ⟨w,6,none⟩ (.int .i64 e)) w z v u x b {a with e:=e}:=
 h.set 6 _ rfl rfl rfl rfl rfl
theorem fP.OQ(h:fP d y w z v u x b a):fP d (y.setCell ⟨w,4,none⟩ (.int .i64 ((a.steps:Int)+1))) w z v u x b {a with steps:=a.steps+1}:=
 h.set 4 _ (by simp[nS]) rfl rfl rfl rfl
theorem fP.FC{c}(h:fP d c w z v u x b a)(o:Nat)(e):mK c (c.setCell ⟨w,o,none⟩ e):=mK.set h.y (by decide) (by decide)
theorem fP.drew(h:fP d y w z v u x b a)(m:Nat):fP d (y.drewN m) w z v u x b a:=h.grow (dW y m)
theorem Hx(u i:Nat)(E F G)(l)(f)(w)(v)(m:Nat)(h:fP d w u E F G l i f)(r:zm w l v m):Calls prog 75 #[ptr u,ptr m] w λe H=>e=.returned (.tuple #[])/\mK w H/\fP d H u E F G l i (f.used v):=by
 obtain⟨_,_,_,O,P⟩:=h.c;have U:=aK h.y 6;show Calls _ _ #[Value.pointer (some ⟨u,0,none⟩),Value.pointer (some ⟨m,0,none⟩)] w _;by_cases x:f.e=0
 ·rw[x]at O;cases v with
  |n k=>
   simp only[zm]at r;have Q:cg w m 3 (.pointer none):=dR r rfl;have z:=aG r;go_in;go_wp2;refine bP (v:=.tuple #[]) (by simp[results,results75,go_sem]) rfl ⟨rfl,mK.refl _,h⟩
  |p a b A=>
   simp only[zm]at r;obtain⟨V,W,o,j,s,_,_⟩:=r;have Q:cg w m 3 (.pointer (some ⟨o,0,none⟩)):=dR j rfl;have z:=aG j;have B:A<f.ops.length:=by rw[<-h.len];exact (ae.1 s).1
   obtain⟨I,J,K,_,L,M⟩:=h.at B;have C:I=o:=by rw[s]at K;cases K;rfl
   subst C;have N:cg w I 2 (.bool J.ended):=dR M rfl;have R:=aG M;cases g:J.ended with
   |true=>
    rw[g]at N;have t:f.used (.p a b A)={f with e:=13}:=by
     unfold RS.used;simp only;rw[ah ⟨x,by rw[L];simp[g]⟩]
    rw[t];have S:=h.aau 13;have D:=h.FC 6 (.int .i64 13);go_in;go_wp2;refine bP (v:=.tuple #[]) (by simp[results,results75,go_sem]) rfl ⟨rfl,D,S⟩
   |false=>
    rw[g]at N;have t:f.used (.p a b A)=f:=by
     unfold RS.used;simp only;rw[ag (by rw[L];simp[g])]
    rw[t];go_in;go_wp2;refine bP (v:=.tuple #[]) (by simp[results,results75,go_sem]) rfl ⟨rfl,mK.refl _,h⟩
 ·have q:((f.e:Int)==0)=false:=by rw[aH];omega
  have t:f.used v=f:=by
   unfold RS.used;split
   ·rfl
   ·rw[ag (λT=>x T.1)]
  rw[t];go_in;go_wp2;refine bP (v:=.tuple #[]) (by simp[results,results75,go_sem]) rfl ⟨rfl,mK.refl _,h⟩
def rB(g:World)(h b:Nat)(w:World)(c:List Nat)(r:RV×RS)(e:Ending)(d:World):Prop:=
 ∃(f:Nat)(i j k:Value)(a:List Nat),e=.returned (.pointer (some ⟨f,0,none⟩))/\zm d a r.1 f/\c <+: a/\mK w d/\fP g d h i j k a b r.2
theorem rB.pre{a g}{c}{e:Ending}(i:mK y a)(j:x <+: c)(h:rB d w b a c B e g):rB d w b y x B e g:=by
 obtain⟨k,l,m,n,f,h1,h2,h3,o,p⟩:=h;exact⟨k,l,m,n,f,h1,h2,j.trans h3,i.trans o,p⟩
def oA(h:World)(i a:Nat)(t:PT)(G:dc):Prop:=
 ∀(id f b:Nat)(F:Nat->Prop)(c:kz)(j:Option Addr)(g:RS)(k l m:Value)(d:List Nat)(w:World),gS h F t id f b->fP h w i k l m d a g->BC w d c j->(g.e=0->qf c G)->(g.e=0->DD a t.cnt g)->
  Calls prog 43 #[ptr i,ptr b,.pointer j] w (rB h i a w d (rW a t c g))
def Yp(h:World)(i a:Nat)(t:PT)(G:dc):Prop:=
 ∀(id f b:Nat)(F:Nat->Prop)(c:kz)(j:Option Addr)(g:RS)(k l m:Value)(d:List Nat)(w:World),gS h F t id f b->fP h w i k l m d a g->BC w d c j->qf c G->DD a t.cnt g->g.e=0->g.steps≠a->
  Calls prog 43 #[ptr i,ptr b,.pointer j] w (rB h i a w d (rW a t c g))
def PT.op:PT->List UInt8
 |.num _ _=>rz
 |.name _ _=>jE
 |.node _ k _ _ _=>k.bytes
theorem Yq{id:Nat}(h:gS d R K id w b):d.cell? ⟨b,0,none⟩=some (.string (bs K.op))/\b<d.heap.size:=by
 cases K with
 |num p s=>simp[gS]at h;exact⟨by rw[aI h.2];rfl,aG h.2⟩
 |name p s=>simp[gS]at h;exact⟨by rw[aI h.2];rfl,aG h.2⟩
 |node p k f g a=>
  obtain⟨_,_,⟨c,_,_⟩,e,_⟩:=lL h;exact⟨c,e⟩
theorem Yr(h:∀p c d b,K≠.node p .new c d b)(f:a.e=0)(g:a.steps=w):rW w K G a=(.n 0,{a with e:=12}):=by
 cases K with
 |num p s=>unfold rW jg;rw[ag (by simpa using f),ah g]
 |name p s=>unfold rW jg;rw[ag (by simpa using f),ah g]
 |node p k c d b=>
  have i:k≠.new:=λe=>h p c d b (by rw[e]);unfold rW;rw[ag i];unfold jg;rw[ag (by simpa using f),ah g]
theorem Ys(d:∀p b c a,K≠.node p .new b c a):((bs K.op).toList==[110,101,119])=false:=by
 rw[bo];cases K with
 |num p s=>simp[PT.op];decide
 |name p s=>simp[PT.op];decide
 |node p k b c a=>
  have f:k≠.new:=λe=>d p b c a (by rw[e]);simp[PT.op];cases k<;>first|decide|exact absurd rfl f
theorem size_set(w:World)(m:Nat)(p)(x):((w.drewN m).setCell p x).heap.size=w.heap.size:=by simp[World.setCell,World.drewN]
theorem zeroV(h:fP d y w z v u x b a)(k:Int)(n:Nat)(e:y.heap.size=n):rB d w b y x (.n k,a) (.returned (.pointer (some ⟨n,0,none⟩))) (y.alloc (.cells #[.int .i64 k,.pointer none,.pointer none,.pointer none] 132)):=by
 have c:bg y (y.alloc (.cells #[.int .i64 k,.pointer none,.pointer none,.pointer none] 132)):=fp.alloc bS _;subst e;exact⟨y.heap.size,z,v,u,x,rfl,by simp only[zm];exact bD _ _,uf,mK.below c,h.grow c⟩
theorem Et(a:Nat)(k)(g:kz)(i)(l m n)(j)(f)(h:fP d f w l m n j b i)(o:i.e≠0):Calls prog 43 #[ptr w,ptr a,.pointer k] f (rB d w b f j (rW b K g i)):=by
 rw[pT b K g i o];obtain⟨_,_,_,r,p⟩:=h.c;have s:((i.e:Int) !=0)=true:=by simp;omega
 have q:=zeroV h 0 f.heap.size rfl;show Calls _ _ #[Value.pointer (some ⟨w,0,none⟩),Value.pointer (some ⟨a,0,none⟩),_] f _;go_in;go_wp2;go_ret;exact q
theorem nW(v:∀p D E k,K≠.node p .new D E k)(h:Yp d w b K M):oA d w b K M:=by
 intro id l a F n x o z A B i f C g H q r;by_cases j:o.e=0
 ·by_cases s:o.steps=b
  ·rw[Yr v j s];obtain⟨c0,u⟩:=Yq C;have O:=(g.b0.cell (p:=⟨a,0,none⟩) u).trans c0;have P:=Ys v;have Q:=g.c.1;have R:=g.c.2.1;have I:=g.c.2.2.2.2;have S:=g.c6 j;have T:=aK g.y 6;have J:=by have:=g.b0.size;omega
   have L:=by have:=g.pq;omega
   have U:((o.steps:Int)==(b:Int))=true:=by rw[s];simp
   have N:=λm=>(zeroV ((g.drew m).aau 12) 0 f.heap.size (size_set _ _ _ _)).pre ((mK.below (dW f m)).trans ((g.drew m).FC 6 (.int .i64 12))) (mq i);generalize K.op=V at*;show Calls _ _ #[Value.pointer (some ⟨w,0,none⟩),Value.pointer (some ⟨a,0,none⟩),_] f _;go_in;go_wp2;go_quiet (fail);go_wp2;go_ret;exact N _
  ·exact h id l a F n x o z A B i f C g H (q j) (r j) j s
 ·exact Et a x n o z A B i f g j
theorem OT(q a:Nat)(p:Nat)(s)(G:dc):Yp d q a (.num p s) G:=by
 intro id r b F j E h H I J k w l e K t i u v;simp only[gS]at l;have g:=(e.b0.block b (aG l.2)).trans l.2;have L:cg w b 0 (.string (bs rz)):=dR g rfl;have M:cg w b 3 (.int .i64 (aQ s)):=dR g rfl;have N:((bs rz).toList==[110,101,119])=false:=by rw[bo];decide
 have O:((bs rz).toList==[110,117,109,98,101,114])=true:=by rw[bo];decide
 have P:=e.c.1;have Q:=e.c.2.1;have x:=e.c.2.2.2.2;have R:=e.c6 u;have S:=aK e.y 4;have z:=aG g;have A:=by have:=e.pq;omega
 have T:((h.steps:Int)==(a:Int))=false:=by rw[aH];omega
 have B:=i.s;have C:=i.f;have o:rW a (.num p s) j h=(.n (aQ s),{h with steps:=h.steps+1}):=by unfold rW jg;rw[ag (by simpa using u),ag v]
 rw[o];have D:=λm=>(zeroV (e.drew m).OQ (aQ s) w.heap.size (size_set _ _ _ _)).pre ((mK.below (dW w m)).trans ((e.drew m).FC 4 (.int .i64 ((h.steps:Int)+1)))) (mq k);show Calls _ _ #[Value.pointer (some ⟨q,0,none⟩),Value.pointer (some ⟨b,0,none⟩),_] w _;go_in;go_wp2;go_quiet (fail);go_wp2;go_ret;exact D _
def wm(l:List UInt8):Int:=l.foldl (λn c=>10*n+(c.toNat:Int)-48) 0
theorem vE(l)(c):wm (l++[c])=10*wm l+(c.toNat:Int)-48:=by
 unfold wm;rw[List.foldl_append];rfl
theorem uw(u:Nat):wm (decDigits u)=u:=by
 induction u using Nat.strongRecOn with
 |_ u b=>
  have a:∀k,k<10->((UInt8.ofNat (48+k)).toNat:Int)=48+k:=by
   intro k c;have:(UInt8.ofNat (48+k)).toNat=48+k:=by simp;omega
   omega
  rw[decDigits];split
  ·rename_i h;show 10*(0:Int)+((UInt8.ofNat (48+u)).toNat:Int)-48=u;rw[a u h];omega
  ·rw[vE,b (u / 10) (by omega),a _ (by omega)];omega
theorem ME:∀(l:List UInt8)(a b:Int),a<=0->0<=b->l.length<=5->∀k,k<=l.length->-(30*10 ^ k-30)<=wm (l.take k)/\wm (l.take k)<=30*10 ^ k-30:=by
 intro l a b _ _ d k
 induction k with
 |zero=>intro _;simp[wm]
 |succ k e=>
  intro f;have c:k<l.length:=by omega
  rw[bQ c,vE];have g:=by have:=l[k].toNat_lt;omega
  have h:(10:Int) ^ (k+1)=10*10 ^ k:=by rw[Int.pow_succ];omega
  omega
theorem KD(s)(w)(o:s.size<=5):Calls prog 63 #[.string s] w λe f=>e=.returned (.int .i64 (wm s.data.toList))/\f=w:=by
 go_in;go_wp2;go_loop [3,4] (λn i=>∃k:Nat,k<=s.size/\i=.int .i64 k/\n=.int .i64 (wm (s.data.toList.take k))) (λ_ i=>s.size-(intOf i).toNat)
 case atStart=>exact⟨0,by omega,rfl,rfl⟩
 case round=>
  obtain⟨k,p,rfl,rfl⟩:=hrel;have g:=ME s.data.toList 0 0 (by omega) (by omega) (by simp;omega) k (by simp;omega);have q:=UM k (by omega);obtain⟨m,a⟩:=ez (wm (s.data.toList.take k));rw[<-a]at g;obtain⟨h,j⟩:-3000000<=m/\m<=3000000:=by omega
  by_cases c:k<s.size
  ·have d:wm (s.data.toList.take (k+1))=10*m+(s[k].toNat:Int)-48:=by rw[yX s k c,vE,a]
   have b:=s[k].toNat_lt;have l:Hid _:=b;clear b;rw[<-a];have r:Hid _:=a;clear a;go_wp2;go_round
   case rel=>
    refine⟨k+1,by omega,by go_num,?_⟩;have:=l.out;rw[d];rw[dI (s[k].toNat:Int) (by omega),dI (10*m+(s[k].toNat:Int)) (by omega),dI _ (by omega)]
   case measure=>simp[intOf];omega
  ·go_wp2;go_ret;exact⟨gj (by rw[cw (by simp;omega)]),rfl⟩
theorem tj(k:Nat)(w)(b:k<=9999):Calls prog 63 #[.string (bs (decDigits k))] w λe a=>e=.returned (.int .i64 k)/\a=w:=by
 have c:(decDigits k).length<=4:=by
  rw[decDigits];split
  ·simp
  ·rw[decDigits];split
   ·simp
   ·rw[decDigits];split
    ·simp
    ·rw[decDigits];split
     ·simp
     ·omega
 have:=KD (bs (decDigits k)) w (by rw[eB];omega);rw[iE,uw]at this;exact this
def kC:Int->List UInt8->Option Nat
 |_,[]=>none
 |o,c::r=>if c=91 then (kC (o+1) r).map (·+1) else if c=93 then (kC (o-1) r).map (·+1) else if c=32/\o=1 then some 0 else (kC o r).map (·+1)
theorem Aq(o:Int)(r):∀l:List UInt8,(∀c∈l,sV c=true)->kC o (l++r)=(kC o r).map (·+l.length)
 |[],_=>by simp
 |c::l,h=>by
  have a:=h c (by simp);have h1:c≠91/\c≠93/\c≠32:=by
   refine⟨?_,?_,?_⟩<;>(intro e;subst e;revert a;decide)
  rw[aS,kC,ag h1.1,ag h1.2.1,ag (λe=>h1.2.2 e.1),Aq o r l (λc a=>h c (by simp[a]))];rw[Option.map_map]
  congr 1
theorem BS:∀(v:Vl)(o:Int)(r:List UInt8),1<=o->kC o (v.txt++r)=(kC o r).map (·+v.txt.length)
 |.n k,o,r,_=>by simp[Vl.txt];exact Aq o r _ (lS k)
 |.p a b,o,r,c=>by
  simp only[Vl.txt,aS,aB];rw[kC,ah rfl,BS a (o+1) _ (by omega),kC,ag (by decide),ag (by decide),ag (by omega),BS b (o+1) _ (by omega),bC,kC,ag (by decide),ah rfl];rw[show o+1-1=o from by omega];cases kC o r with
  |none=>rfl
  |some x=>
   simp only[cf,aF,aj,bn]
   congr 1;omega
theorem OU(a b):kC 0 (Vl.p a b).txt=some (1+a.txt.length):=by
 simp[Vl.txt];rw[kC,ah rfl,BS a _ _ (by omega),kC,ag (by decide),ag (by decide),ah ⟨rfl,by omega⟩];simp only[cf]
 congr 1;omega
theorem Ve(s:ByteArray)(k:Nat)(h:k<s.size)(o:Int):kC o (s.data.toList.drop k)=if s[k]=91 then (kC (o+1) (s.data.toList.drop (k+1))).map (·+1) else if s[k]=93 then (kC (o-1) (s.data.toList.drop (k+1))).map (·+1) else if s[k]=32/\o=1 then some 0 else (kC o (s.data.toList.drop (k+1))).map (·+1):=by
 rw[drop_cons s k h];rfl
theorem vF{x:Option Nat}(h:some w=(x.map (·+1)).map (·+b)):some w=x.map (·+(b+1)):=by
 rw[h,Option.map_map]
 congr 1
 funext y
 simp[Function.comp];omega
theorem OV(s t u)(j:Nat)(w)(E:s.size<=100000)(x:kC 0 s.data.toList=some j)(y:1<=j)(z:j+2<=s.size)(l:Hid (s.extract 1 j=t))(m:Hid (s.extract (j+1) (s.size-1)=u)):Calls prog 103 #[.string s] w λe A=>e=.returned (.tuple #[.string t,.string u])/\∃n,A=w.drewN n:=by
 go_in;go_wp2;go_loop [4,5] (λo i=>∃(k:Nat)(q:Int),k<=s.size/\i=.int .i64 k/\o=.int .i64 q/\-(k:Int)<=q/\q<=k/\some j=(kC q (s.data.toList.drop k)).map (·+k)) (λ_ i=>s.size-(intOf i).toNat)
 case atStart=>exact⟨0,0,by omega,rfl,rfl,by omega,by omega,by rw[iA,x];rfl⟩
 case round=>
  obtain⟨k,q,F,rfl,rfl,B,C,a⟩:=hrel;by_cases p:k<s.size
  ·have c:=Ve s k p q;have d:((s[k].toNat:Int)==91)=decide (s[k]=91):=zi s[k] 91;have f:((s[k].toNat:Int)==93)=decide (s[k]=93):=zi s[k] 93;have g:((s[k].toNat:Int)==32)=decide (s[k]=32):=zi s[k] 32;by_cases h1:s[k]=91
   ·have b:Hid (some j=(kC (q+1) (s.data.toList.drop (k+1))).map (·+(k+1))):=by
     have:=a;rw[c,ah h1]at this;exact vF this
    rw[dZ h1]at d;go_wp2;go_round
    case rel=>exact⟨k+1,q+1,by omega,by go_num,by go_num,by omega,by omega,b.out⟩
    case measure=>simp[intOf];omega
   ·rw[cd h1]at d;by_cases h2:s[k]=93
    ·have b:Hid (some j=(kC (q-1) (s.data.toList.drop (k+1))).map (·+(k+1))):=by
      have:=a;rw[c,ag h1,ah h2]at this;exact vF this
     rw[dZ h2]at f;go_wp2;go_round
     case rel=>exact⟨k+1,q-1,by omega,by go_num,by go_num,by omega,by omega,b.out⟩
     case measure=>simp[intOf];omega
    ·rw[cd h2]at f;by_cases h3:s[k]=32
     ·rw[dZ h3]at g;by_cases h:q=1
      ·have r:j=k:=by
        have:=a;rw[c,ag h1,ag h2,ah ⟨h3,h⟩]at this;simp only[cf,ai]at this;omega
       subst r;subst h;go_wp2;go_quiet (fail);go_wp2;refine au (v:=.tuple #[.string (s.extract 1 j),.string (s.extract (j+1) (s.size-1))]) (by simp[results,results103,go_sem]) rfl ⟨by rw[<-l.out,<-m.out],_,rfl⟩
      ·have b:Hid (some j=(kC q (s.data.toList.drop (k+1))).map (·+(k+1))):=by
        have:=a;rw[c,ag h1,ag h2,ag (λe=>h e.2)]at this;exact vF this
       have D:(q==1)=false:=by rw[aH];exact h
       go_wp2;go_round
       case rel=>exact⟨k+1,q,by omega,by go_num,by go_num,by omega,by omega,b.out⟩
       case measure=>simp[intOf];omega
     ·rw[cd h3]at g;have b:Hid (some j=(kC q (s.data.toList.drop (k+1))).map (·+(k+1))):=by
       have:=a;rw[c,ag h1,ag h2,ag (λe=>h3 e.1)]at this;exact vF this
      go_wp2;go_round
      case rel=>exact⟨k+1,q,by omega,by go_num,by go_num,by omega,by omega,b.out⟩
      case measure=>simp[intOf];omega
  ·exfalso;have:=a;rw[nQ s k (by omega)]at this;simp[kC]at this
theorem Vl.vz(a b):(Vl.p a b).txt.length=a.txt.length+b.txt.length+3:=by simp[Vl.txt];omega
theorem Vl.Vf:∀v:Vl,0<v.txt.length
 |.n k=>US k
 |.p a b=>by rw[Vl.vz];omega
theorem Vg(a b)(w)(g:(Vl.p a b).txt.length<=100000):Calls prog 103 #[.string (bs (Vl.p a b).txt)] w λe d=>e=.returned (.tuple #[.string (bs a.txt),.string (bs b.txt)])/\∃n,d=w.drewN n:=by
 have f:=Vl.vz a b;have c:(bs (Vl.p a b).txt).size=(Vl.p a b).txt.length:=eB _;refine OV (bs (Vl.p a b).txt) (bs a.txt) (bs b.txt) (1+a.txt.length) w (by omega) (by rw[iE];exact OU a b) (by omega) (by have:=b.Vf;omega) ?_ ?_
 ·exact Fs _ _ _ _ (by rw[iE];simp[Vl.txt])
 ·refine Fs _ _ _ _ ?_;rw[iE,c,f];simp only[Vl.txt];rw[show 1+a.txt.length+1=(a.txt.length+1)+1 from by omega,gK,mr,bF (by omega),bC,show a.txt.length+1-a.txt.length=1 from by omega];simp only[gK,iA];rw[jB (by omega),cw (by omega)]
theorem Vl.yd:∀{v:Vl}{T:Ty},v.has T->v.txt.length<=7*T.size+4
 |.n k,.n,h=>by
  simp[Vl.has]at h;simp[Vl.txt,Ty.size];rw[decDigits];split
  ·simp
  ·rw[decDigits];split
   ·simp
   ·rw[decDigits];split
    ·simp
    ·rw[decDigits];split
     ·simp
     ·omega
 |.p a b,.p _ x y,h=>by
  have h1:=Vl.yd h.1;have h2:=Vl.yd h.2;rw[Vl.vz];simp[Ty.size];omega
 |.n _,.p _ _ _,h=>by simp[Vl.has]at h
 |.p _ _,.n,h=>by simp[Vl.has]at h
structure TN where
 kind:Nat
 at_:Nat
 dH:Nat
 word:List UInt8
 num:Int
def fJ:Cl->Nat
 |.bad=>1
 |.opn=>2
 |.cls=>3
 |.wB=>4
 |.num=>5
 |.uj=>6
 |.kw .dV=>7
 |.kw .pair=>8
 |.kw .fst=>9
 |.kw .snd=>10
 |.kw .lv=>11
 |.kw .add=>12
 |.kw .sub=>13
 |.kw .less=>14
 |.kw .loop=>15
 |.kw .new=>16
def Ar(t:Tk):List UInt8:=match t.c with
 |.wB=>t.s
 |.kw _=>t.s
 |_=>[]
def Hy(t:Tk):Int:=match t.c with
 |.num=>aQ t.s
 |.uj=>aQ t.s
 |_=>0
def mN(t:Tk):TN:=⟨fJ t.c,t.at_,t.at_+t.s.length,Ar t,Hy t⟩
def mO(s:List UInt8)(p:Nat):List Tk:=toks (s.length-p) p (s.drop p)
def kQ(a:Nat)(l:List Tk):TN:=match l with
 |[]=>⟨0,a,a,[],0⟩
 |t::_=>mN t
structure NR where
 form:Nat
 at_:Nat
 dH:Nat
 num:Int
 word:List UInt8
 region:Int
 source:Int
 p0:Int
 p1:Int
 p2:Int
structure PS where
 l:List Tk
 fl:Option Nat
 scope:List (List UInt8×Int)
 nodes:List NR
 opened:List Int
variable {L:PS}{I:PS -> Int × PS}
def PS.fail(at_:Nat)(a:PS):PS:=match a.fl with
 |some _=>a
 |none=>{a with fl:=some at_,l:=[]}
def PS.tail(a:PS):PS:={a with l:=a.l.tail}
def PS.expect(a b:Nat)(c:PS):PS:=if (kQ a c.l).kind≠b then c.tail.fail (kQ a c.l).at_ else c.tail
def PS.add(n:NR)(a:PS):PS:={a with nodes:=a.nodes++[n]}
def gb(a:List (List UInt8×Int))(w:List UInt8):Int:=match a.reverse.find? (λx=>x.1==w) with
 |some x=>x.2
 |none=>-1
def iW:Nat->Nat
 |7=>3
 |8=>4
 |9=>5
 |10=>6
 |11=>7
 |12=>8
 |13=>9
 |14=>10
 |15=>11
 |16=>12
 |_=>0
def kR(c:PS->Int×PS)(word:List UInt8)(a:Int)(b:PS):Int×PS:=
 let x:=c {b with scope:=b.scope++[(word,a)]}
 (x.1,{x.2 with scope:=x.2.scope.dropLast})
def Vh(a:Nat)(b:PS->Int×PS)(n:NR)(c:PS):NR×PS:=
 let d:=kQ a c.l
 let x:=b (c.expect a 4)
 let y:=kR b d.word x.1 x.2
 ({n with word:=d.word,p0:=x.1,p1:=y.1,p2:=-1},y.2)
def MF(a:Nat)(b:PS->Int×PS)(n:NR)(d:PS):NR×PS:=
 let t:=b d
 let c:=kQ a t.2.l
 let x:=b (t.2.expect a 4)
 let y:=kR b c.word x.1 x.2
 ({n with word:=c.word,p0:=t.1,p1:=x.1,p2:=y.1},y.2)
def vG(a:Nat)(n:NR)(b:PS):NR×PS:=({n with region:=(kQ a b.l).num},b.expect a 6)
def BU(a:PS->Int×PS)(n:NR)(b:PS):NR×PS:=
 let x:=a b
 ({n with p0:=x.1},x.2)
def Au(a:PS->Int×PS)(n:NR)(b:PS):NR×PS:=
 let x:=BU a n b
 let y:=a x.2
 ({x.1 with p1:=y.1},y.2)
def Hz(a:PS->Int×PS)(n:NR)(b:PS):NR×PS:=
 let x:=Au a n b
 let y:=a x.2
 ({x.1 with p2:=y.1},y.2)
def ux(c:Bool)(a:Nat)(d:PS->Int×PS)(n:NR)(b:PS):NR×PS:=
 if n.form=3 then Vh a d n b
 else if n.form=11 then MF a d n b
 else if n.form=4 then (if c then Au d (vG a n b).1 (vG a n b).2 else Au d n b)
 else if n.form=12 then BU d (vG a n b).1 (vG a n b).2
 else if n.form=5\/n.form=6 then BU d n b
 else if n.form=7 then Hz d n b
 else Au d n b
def mP(a:Bool)(b:Nat)(d:PS->Int×PS)(n:NR)(c:PS):Int×PS:=
 let w:=kQ b c.l
 let f:=iW w.kind
 if f=0\/(f=12/\a=false) then (-1,c.tail.fail w.at_)
 else
  let x:=ux a b d {n with form:=f} c.tail
  let e:=kQ b x.2.l
  (((x.2.expect b 3).nodes.length:Int),(x.2.expect b 3).add {x.1 with dH:=e.dH})
def oB(t:TN):NR:=⟨0,t.at_,t.dH,0,[],0,-1,-1,-1,-1⟩
def nX(b:Nat)(c:NR->PS->Int×PS)(a:PS):Int×PS:=
 let t:=kQ b a.l
 if t.kind=5 then ((a.nodes.length:Int),a.tail.add {oB t with form:=1,num:=t.num})
 else if t.kind=4 then ((a.nodes.length:Int),a.tail.add {oB t with form:=2,word:=t.word,source:=gb a.scope t.word})
 else if t.kind=2 then c (oB t) a.tail
 else (-1,a.tail.fail t.at_)
def p8(f:PS->Int×PS)(a:PS):Int×PS:=
 let x:=f {a with opened:=a.opened++[-1]}
 (x.1,{x.2 with opened:=x.2.opened.set a.opened.length x.1})
def nY(a:Bool)(b:Nat):Nat->PS->Int×PS
 |0=>p8 (nX b λ_ c=>(-1,c))
 |m+1=>p8 (nX b (mP a b (nY a b m)))
theorem OW(c:Cl):fJ c=5↔c=.num:=by
 cases c with
 |kw k=>cases k<;>decide
 |_=>decide
theorem sw(c:Cl):fJ c=4↔c=.wB:=by
 cases c with
 |kw k=>cases k<;>decide
 |_=>decide
theorem OX(c:Cl):fJ c=2↔c=.opn:=by
 cases c with
 |kw k=>cases k<;>decide
 |_=>decide
theorem zu(c:Cl):fJ c=3↔c=.cls:=by
 cases c with
 |kw k=>cases k<;>decide
 |_=>decide
theorem vH(c:Cl):fJ c=6↔c=.uj:=by
 cases c with
 |kw k=>cases k<;>decide
 |_=>decide
theorem OY(c:Cl):fJ c≠0:=by
 cases c with
 |kw k=>cases k<;>decide
 |_=>decide
def PS.stuck(q:Nat)(a:PS):Prop:=a.fl=some q/\a.l=[]
theorem BV(h:L.stuck w):(L.fail b).stuck w:=by
 obtain⟨h1,h2⟩:=h;unfold PS.fail;rw[h1];exact⟨h1,h2⟩
theorem wT(h:L.stuck w):L.tail.stuck w:=⟨h.1,by simp[PS.tail,h.2]⟩
theorem iU(h:L.stuck w):(L.expect b T).stuck w:=by
 unfold PS.expect;split
 ·exact BV (wT h)
 ·exact wT h
theorem qH(h:L.fl=none):(L.fail w).stuck w:=by
 unfold PS.fail;rw[h];exact⟨rfl,rfl⟩
def BW(b:PS->Int×PS):Prop:=∀(q:Nat)(a:PS),a.stuck q->(b a).2.stuck q
theorem Eu(a:Nat)(b):BW (nX a b):=by
 intro q c h;unfold nX;simp[h.2,kQ];exact BV (wT h)
theorem BX(b:BW I):BW (p8 I):=by
 intro q a h;exact b q {a with opened:=a.opened++[-1]} h
theorem KE(a)(b n:Nat):BW (nY a b n):=by
 cases n with
 |zero=>exact BX (Eu _ _)
 |succ m=>exact BX (Eu _ _)
theorem KF(h:BW I)(a)(b:Int)(c:L.stuck w):(kR I a b L).2.stuck w:=h w {L with scope:=L.scope++[(a,b)]} c
theorem uy(a:PS):a.tail.l.length<=a.l.length:=by simp[PS.tail]
