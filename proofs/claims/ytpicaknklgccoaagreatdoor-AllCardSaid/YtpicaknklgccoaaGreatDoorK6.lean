import Derived.Test.YtpicaknklgccoaaGreatDoorK4
set_option maxHeartbeats 4000000
set_option maxRecDepth 100000
namespace Go.Proofs.YtpicaknklgccoaaGreatDoor
open Tryz
open Go.RowKit
variable {w c z T:Nat}{a d L:World}{b y v O:Value}{x:List Nat}{u:List Value}{K G:RS}{P:Obj}{N:Array Value}{M:dc}{Y:gH}{R:List UInt8}
abbrev dh:=@Obj.cells.injEq
def nS(c d f:Value)(a:Nat)(b:RS):Array Value:=#[c,d,f,.int .i64 a,.int .i64 b.steps,.int .i64 b.cells,.int .i64 b.e]
def nT(o:RO):Array Value:=#[.int .i64 o.uj,.int .i64 o.cells,.bool o.ended]
def kJ(a:List Nat)(l:List Nat):List Value:=l.map (λi=>ptr (a.getD i 0))
structure fP(w0 w:World)(pb:Nat)(ov wv tv:Value)(GS:List Nat)(fuel:Nat)(st:RS): Prop where
 b0:bg w0 w
 pq:w0.heap.size<=pb
 y:w.heap[pb]?=some (.cells (nS ov wv tv fuel st) 88 (0,0))
 o:w.ownsRow w0.heap.size 130 1 ov st.opn.length (kJ GS st.opn)
 wh:w.ownsRow w0.heap.size 130 1 wv st.ky.length (kJ GS st.ky)
 t:w.ownsRow w0.heap.size 3 1 tv st.dq.length (st.dq.map λk=>Value.int .i64 k)
 ow:apart ov wv
 len:GS.length=st.ops.length
 ob:∀(i b:Nat)(o:RO),GS[i]?=some b->st.ops[i]?=some o->w0.heap.size<=b/\w.heap[b]?=some (.cells (nT o) 197 (0,0))
 nd:∀(i j b:Nat),GS[i]?=some b->GS[j]?=some b->i=j
 il:(∀i∈st.opn,i<st.ops.length)/\(∀i∈st.ky,i<st.ops.length)
structure mK(w w':World): Prop where
 v:∀(k:Nat)(arr:Array Value),w.heap[k]?=some (.cells arr 132 (0,0))->w'.heap[k]?=some (.cells arr 132 (0,0))
 h:∀(k:Nat)(arr:Array Value),w.heap[k]?=some (.cells arr 134 (0,0))->w'.heap[k]?=some (.cells arr 134 (0,0))
theorem mK.refl(w):mK w w:=⟨λ_ _ h=>h,λ_ _ h=>h⟩
theorem mK.trans{b c}(h:mK a b)(f:mK b c):mK a c:=⟨λk d e=>f.v k d (h.v k d e),λk d e=>f.h k d (h.h k d e)⟩
theorem mK.below(h:bg a d):mK a d:=
 ⟨λk b e=>by rw[h.block k (aG e)];exact e,λk b e=>by rw[h.block k (aG e)];exact e⟩
theorem mK.set{T}(h:a.heap[w]?=some (.cells N T (0,0)))(h1:T≠132)(h2:T≠134):mK a (a.setCell ⟨w,c,none⟩ b):=by
 refine⟨λk d e=>?_,λk d e=>?_⟩
 ·have g:k≠w:=by
   intro f;subst f;rw[h]at e;simp only[ai,dh]at e;exact h1 e.2.1
  rw[lu g];exact e
 ·have g:k≠w:=by
   intro f;subst f;rw[h]at e;simp only[ai,dh]at e;exact h2 e.2.1
  rw[lu g];exact e
theorem mL{e}{n:Nat}(h:a.ownsRow w e 1 v n u)(b:v.ownBlock=some c):∃d:Array Value,a.heap[c]?=some (.cells d e (0,0)):=by
 rcases h.2 with⟨h1,_⟩|⟨g,f,i,h1,_,j,_⟩
 ·rw[h1]at b;simp[Value.ownBlock]at b
 ·rw[h1]at b;simp[Value.ownBlock]at b;subst b;exact⟨_,j⟩
theorem mK.grown{e}{n:Nat}(h:a.ownsRow w e 1 v n u)(j:a.grownBy d v.ownBlock)(h1:e≠132)(h2:e≠134):mK a d:=by
 refine⟨λk b c=>?_,λk b c=>?_⟩
 ·rw[j.block k (aG c) (λf=>by
   obtain⟨g,i⟩:=mL h f.symm;rw[i]at c;simp only[ai,dh]at c;exact h1 c.2.1)];exact c
 ·rw[j.block k (aG c) (λf=>by
   obtain⟨g,i⟩:=mL h f.symm;rw[i]at c;simp only[ai,dh]at c;exact h2 c.2.1)];exact c
def Fv(n:Int)(a b h:Option Addr):Array Value:=#[.int .i64 n,.pointer a,.pointer b,.pointer h]
def zm(w:World)(a:List Nat):RV->Nat->Prop
 |.n k,b=>w.heap[b]?=some (.cells (Fv k none none none) 132 (0,0))
 |.p x y h,b=>∃c d o,w.heap[b]?=some (.cells (Fv 0 (some ⟨c,0,none⟩) (some ⟨d,0,none⟩) (some ⟨o,0,none⟩)) 132 (0,0))/\a[h]?=some o/\zm w a x c/\zm w a y d
theorem zm.keep{w f}{c a}(d:mK w f)(e:c <+: a):∀{v:RV}{b:Nat},zm w c v b->zm f a v b
 |.n _,_,h=>by simp[zm]at h⊢;exact d.v _ _ h
 |.p x y k,b,h=>by
  obtain⟨g,i,o,h1,h2,h3,j⟩:=h;exact⟨g,i,o,d.v _ _ h1,by
   obtain⟨t,rfl⟩:=e;rw[ak (ae.1 h2).1];exact h2,zm.keep d e h3,zm.keep d e j⟩
def Q3(b:List UInt8)(v:Nat)(a:Option Addr):Array Value:=#[.string (bs b),.pointer (some ⟨v,0,none⟩),.pointer a]
def BC(w:World)(c:List Nat):kz->Option Addr->Prop
 |[],p=>p=none
 |x::r,p=>∃b d a,p=some ⟨b,0,none⟩/\w.heap[b]?=some (.cells (Q3 x.1 d a) 134 (0,0))/\zm w c x.2 d/\BC w c r a
theorem BC.keep{w g}{c a}(f:mK w g)(i:c <+: a):∀{d:kz}{p:Option Addr},BC w c d p->BC g a d p
 |[],_,h=>h
 |x::r,p,h=>by
  obtain⟨b,j,e,h1,h2,h3,k⟩:=h;exact⟨b,j,e,h1,f.h _ _ h2,h3.keep f i,BC.keep f i k⟩
theorem fP.grow{g}(h:fP a d w b g v x c K)(f:bg d L):fP a L w b g v x c K:=
 ⟨h.b0.trans (f.mono h.b0.size),h.pq,by rw[f.block w (aG h.y)];exact h.y,bE h.o f,bE h.wh f,bE h.t f,h.ow,h.len,λi e o h1 h2=>by
  have:=h.ob i e o h1 h2;exact⟨this.1,by rw[f.block e (aG this.2)];exact this.2⟩,h.nd,h.il⟩
theorem fP.set{r}{st'}(h:fP a d w b r v x c K)(o:Nat)(f)(E:(nS b r v c K).setIfInBounds o f=nS b r v c st')(h1:st'.opn=K.opn)(h2:st'.ky=K.ky)(h3:st'.dq=K.dq)(s:st'.ops=K.ops):fP a (d.setCell ⟨w,o,none⟩ f) w b r v x c st':=by
 have q:∀g,g≠w->(d.setCell ⟨w,o,none⟩ f).heap[g]?=d.heap[g]?:=λg l=>lu l;have m:∀(j:Value)(e:TypeId)(n:Nat)(u:List Value),d.ownsRow a.heap.size e 1 j n u->e≠88->(d.setCell ⟨w,o,none⟩ f).ownsRow a.heap.size e 1 j n u:=by
  intro j e n u C F;refine bO C (λk G=>q k (λz=>?_));obtain⟨H,l⟩:=mL C G;rw[z,h.y]at l;simp only[ai,dh]at l;exact F l.2.1.symm
 refine⟨h.b0.setCell (p:=⟨w,o,none⟩) h.pq _,h.pq,by rw[<-E];exact bu h.y o f,by rw[h1];exact m _ _ _ _ h.o (by decide),by rw[h2];exact m _ _ _ _ h.wh (by decide),by rw[h3];exact m _ _ _ _ h.t (by decide),h.ow,by rw[s];exact h.len,?_,h.nd,by rw[h1,h2,s];exact h.il⟩;intro i g I J D;rw[s]at D;have:=h.ob i g I J D;have A:g≠w:=by
  intro l;have B:=this.2;rw[l,h.y]at B;simp only[ai,dh]at B;exact absurd B.2.1 (by decide)
 exact⟨this.1,by rw[q g A];exact this.2⟩
theorem fP.WX{B}(h:fP a d w b B v x c K)(i f:Nat)(E u)(F:x[i]?=some f)(P:K.ops[i]?=some E)(o:Nat)(g)(R:(nT E).setIfInBounds o g=nT u)(S:nS b B v c G=nS b B v c K)(h1:G.opn=K.opn)(h2:G.ky=K.ky)(h3:G.dq=K.dq)(H:G.ops=K.ops.set i u):fP a (d.setCell ⟨f,o,none⟩ g) w b B v x c G:=by
 have z:=h.ob i f E F P;have m:∀k,k≠f->(d.setCell ⟨f,o,none⟩ g).heap[k]?=d.heap[k]?:=λk I=>lu I;have q:∀(l:Value)(e:TypeId)(n:Nat)(J:List Value),d.ownsRow a.heap.size e 1 l n J->e≠197->(d.setCell ⟨f,o,none⟩ g).ownsRow a.heap.size e 1 l n J:=by
  intro l e n J Q T;refine bO Q (λk I=>m k (λL=>?_));obtain⟨U,r⟩:=mL Q I;rw[L,z.2]at r;simp only[ai,dh]at r;exact T r.2.1.symm
 have s:w≠f:=by
  intro e;have M:=z.2;rw[<-e,h.y]at M;simp only[ai,dh]at M;exact absurd M.2.1 (by decide)
 refine⟨h.b0.setCell (p:=⟨f,o,none⟩) z.1 _,h.pq,by rw[m w s,h.y,S],by rw[h1];exact q _ _ _ _ h.o (by decide),by rw[h2];exact q _ _ _ _ h.wh (by decide),by rw[h3];exact q _ _ _ _ h.t (by decide),h.ow,by rw[H,cO];exact h.len,?_,h.nd,by rw[h1,h2,H,cO];exact h.il⟩;intro j C V D A;rw[H]at A;by_cases N:j=i
 ·subst N;have O:C=f:=by rw[F]at D;cases D;rfl
  subst O;rw[bh ((ae.1 P).1)]at A;cases A;exact⟨z.1,by rw[<-R];exact bu z.2 o g⟩
 ·rw[bI (λe=>N e.symm)]at A;have:=h.ob j C V D A;exact⟨this.1,by rw[m C (λe=>N (h.nd j i C D (by rw[e];exact F)))];exact this.2⟩
theorem jL{e}{n:Nat}(g:a.ownsRow w e 1 v n u)(h:(a.alloc P).grownBy d v.ownBlock){T}(f:a.heap[c]?=some (.cells N T (0,0)))(i:T≠e):d.heap[c]?=some (.cells N T (0,0)):=by
 have j:=aG f;rw[h.block c (by simp;omega) (λl=>by
  obtain⟨b,m⟩:=mL g l.symm;rw[m]at f;simp only[ai,dh]at f;exact i f.2.1.symm),cV _ _ _ j]
 exact f
theorem qw{e}{n:Nat}(o:a.ownsRow w e 1 v n u)(p:(a.alloc P).grownBy d v.ownBlock){j}{i}(h2:a.ownsRow c j 1 b z i)(g:j≠e\/apart b v):d.ownsRow c j 1 b z i:=by
 refine bO h2 (λk l=>?_);have q:=(h2.lt k l).2;rw[p.block k (by simp;omega) (λm=>by
  rcases g with g|g
  ·obtain⟨f,r⟩:=mL o m.symm;obtain⟨s,h⟩:=mL h2 l;rw[r]at h;simp only[ai,dh]at h;exact g h.2.1.symm
  ·exact g k l m.symm),cV _ _ _ q]
theorem zn{e}{n:Nat}(f:a.ownsRow w e 1 v n u)(g:(a.alloc P).grownBy d v.ownBlock)(h1:e≠132)(h2:e≠134):mK a d:=
 ⟨λ_ _ b=>jL f g b (λc=>h1 c.symm),λ_ _ b=>jL f g b (λc=>h2 c.symm)⟩
theorem uo{e}{n:Nat}(b:bg a d)(g:d.ownsRow a.heap.size e 1 v n u)(c:(d.alloc P).grownBy L v.ownBlock):bg a L:=by
 have j:=b.size;have f:=c.size;refine⟨c.os.trans b.os,c.tape.trans b.tape,c.output.trans b.output,by simp at f;omega,λk h=>?_⟩;rw[c.block k (by simp;omega) (λi=>by have:=(g.lt k i.symm).1;omega),cV _ _ _ (by omega)];exact b.block k h
theorem mX{d}(i:a.heap[w]?=some (.cells N d (0,0))){g}(h2:a.ownsRow z g 1 y T u)(h:g≠d):(a.setCell ⟨w,c,none⟩ b).ownsRow z g 1 y T u:=by
 refine bO h2 (λk j=>cX _ _ ?_);intro e;obtain⟨l,f⟩:=mL h2 j;rw[e,i]at f;simp only[ai,dh]at f;exact h f.2.1.symm
theorem oZ{d}{T g}(i:a.heap[w]?=some (.cells N T (0,0)))(f:a.heap[z]?=some (.cells d g (0,0)))(h:g≠T):(a.setCell ⟨w,c,none⟩ b).heap[z]?=some (.cells d g (0,0)):=by
 rw[cX _ _ (by
  intro e;rw[e,i]at f;simp only[ai,dh]at f;exact h f.2.1.symm)]
 exact f
theorem fP.Em{w3}{u}(h:fP a d w b u v x c K)(f:Int){g cap:Nat}{A}(m:(d.alloc A).grownBy w3 v.ownBlock)(B:w3.ownsRow 0 3 1 (.slice (some ⟨g,0,none⟩) (K.dq.length+1) cap) (K.dq.length+1) ((K.dq.map λk=>Value.int .i64 k)++[.int .i64 f]))(n:v.ownBlock=some g\/(d.alloc A).heap.size<=g):fP a (w3.setCell ⟨w,2,none⟩ (.slice (some ⟨g,0,none⟩) (K.dq.length+1) cap)) w b u (.slice (some ⟨g,0,none⟩) (K.dq.length+1) cap) x c {K with dq:=K.dq++[f]}/\mK d (w3.setCell ⟨w,2,none⟩ (.slice (some ⟨g,0,none⟩) (K.dq.length+1) cap)):=by
 have l:=jL h.t m h.y (by decide);have C:=h.b0.size;have q:a.heap.size<=g:=by
  rcases n with e|e
  ·exact (h.t.lt g e).1
  ·simp at e;omega
 refine⟨⟨(uo h.b0 h.t m).setCell (p:=⟨w,2,none⟩) h.pq _,h.pq,(bu l 2 _).trans rfl,mX l (qw h.t m h.o (aD (by decide))) (by decide),mX l (qw h.t m h.wh (aD (by decide))) (by decide),?_,h.ow,h.len,?_,h.nd,h.il⟩,(zn h.t m (by decide) (by decide)).trans (mK.set l (by decide) (by decide))⟩
 ·have r:(K.dq++[f]).length=K.dq.length+1:=by simp
  have s:(K.dq++[f]).map (λk=>Value.int .i64 k)=(K.dq.map λk=>Value.int .i64 k)++[.int .i64 f]:=by simp
  rw[r,s];exact mX l (eA B (λk z=>by simp[Value.ownBlock]at z;subst z;exact q)) (by decide)
 ·intro i j o r s;have:=h.ob i j o r s;exact⟨this.1,oZ l (jL h.t m this.2 (by decide)) (by decide)⟩
theorem uq(a l)(i:Nat):kJ a (l++[i])=kJ a l++[ptr (a.getD i 0)]:=by simp[kJ]
theorem fP.aaj{C}(h:fP a d w b C v x c K)(i:Nat)(D:i<K.ops.length)(m:(d.alloc P).grownBy L b.ownBlock)(E:L.ownsRow 0 130 1 (.slice (some ⟨z,0,none⟩) (K.opn.length+1) T) (K.opn.length+1) (kJ x K.opn++[ptr (x.getD i 0)]))(q:b.ownBlock=some z\/(d.alloc P).heap.size<=z):fP a (L.setCell ⟨w,0,none⟩ (.slice (some ⟨z,0,none⟩) (K.opn.length+1) T)) w (.slice (some ⟨z,0,none⟩) (K.opn.length+1) T) C v x c {K with opn:=K.opn++[i]}/\mK d (L.setCell ⟨w,0,none⟩ (.slice (some ⟨z,0,none⟩) (K.opn.length+1) T)):=by
 have l:=jL h.o m h.y (by decide);have G:=h.b0.size;have u:a.heap.size<=z:=by
  rcases q with e|e
  ·exact (h.o.lt z e).1
  ·simp at e;omega
 refine⟨⟨(uo h.b0 h.o m).setCell (p:=⟨w,0,none⟩) h.pq _,h.pq,(bu l 0 _).trans rfl,?_,mX l (qw h.o m h.wh (aE h.ow.symm)) (by decide),mX l (qw h.o m h.t (aD (by decide))) (by decide),?_,h.len,?_,h.nd,?_⟩,(zn h.o m (by decide) (by decide)).trans (mK.set l (by decide) (by decide))⟩
 ·have B:(K.opn++[i]).length=K.opn.length+1:=by simp
  rw[B,uq];exact mX l (eA E (λk r=>by simp[Value.ownBlock]at r;subst r;exact u)) (by decide)
 ·intro k r s;simp[Value.ownBlock]at r;subst r;rcases q with e|e
  ·exact h.ow _ e s
  ·have:=(h.wh.lt _ s).2;simp at e;omega
 ·intro j f o B F;have:=h.ob j f o B F;exact⟨this.1,oZ l (jL h.o m this.2 (by decide)) (by decide)⟩
 ·refine⟨?_,h.il.2⟩;intro j n;rcases aA.1 n with n|n
  ·exact h.il.1 j n
  ·rw[ax]at n;subst n;exact D
theorem fP.aak{u}(h:fP a d w b u v x c K)(i:Nat)(D:i<K.ops.length)(m:(d.alloc P).grownBy L u.ownBlock)(E:L.ownsRow 0 130 1 (.slice (some ⟨z,0,none⟩) (K.ky.length+1) T) (K.ky.length+1) (kJ x K.ky++[ptr (x.getD i 0)]))(q:u.ownBlock=some z\/(d.alloc P).heap.size<=z):fP a (L.setCell ⟨w,1,none⟩ (.slice (some ⟨z,0,none⟩) (K.ky.length+1) T)) w b (.slice (some ⟨z,0,none⟩) (K.ky.length+1) T) v x c {K with ky:=K.ky++[i]}/\mK d (L.setCell ⟨w,1,none⟩ (.slice (some ⟨z,0,none⟩) (K.ky.length+1) T)):=by
 have l:=jL h.wh m h.y (by decide);have G:=h.b0.size;have B:a.heap.size<=z:=by
  rcases q with e|e
  ·exact (h.wh.lt z e).1
  ·simp at e;omega
 refine⟨⟨(uo h.b0 h.wh m).setCell (p:=⟨w,1,none⟩) h.pq _,h.pq,(bu l 1 _).trans rfl,mX l (qw h.wh m h.o (aE h.ow)) (by decide),?_,mX l (qw h.wh m h.t (aD (by decide))) (by decide),?_,h.len,?_,h.nd,?_⟩,(zn h.wh m (by decide) (by decide)).trans (mK.set l (by decide) (by decide))⟩
 ·have C:(K.ky++[i]).length=K.ky.length+1:=by simp
  rw[C,uq];exact mX l (eA E (λk r=>by simp[Value.ownBlock]at r;subst r;exact B)) (by decide)
 ·intro k r s;simp[Value.ownBlock]at s;subst s;rcases q with e|e
  ·exact h.ow _ r e
  ·have:=(h.o.lt _ r).2;simp at e;omega
 ·intro j f o C F;have:=h.ob j f o C F;exact⟨this.1,oZ l (jL h.wh m this.2 (by decide)) (by decide)⟩
 ·refine⟨h.il.1,?_⟩;intro j n;rcases aA.1 n with n|n
  ·exact h.il.2 j n
  ·rw[ax]at n;subst n;exact D
theorem fP.WY{A}(h:fP a d w b A v x c K)(r:Int):fP a (d.alloc (.cells (nT ⟨r,0,false⟩) 197)) w b A v (x++[d.heap.size]) c {K with ops:=K.ops++[⟨r,0,false⟩]}:=by
 have D:bg d (d.alloc (.cells (nT ⟨r,0,false⟩) 197)):=fp.alloc bS _;have h1:=h.grow D;have s:∀i f,x[i]?=some f->f<d.heap.size:=λi f g=>by
  have u:=(ae.1 g).1;have z:i<K.ops.length:=by rw[<-h.len];exact u
  have:=h.ob i f K.ops[i] g (aa z);exact aG this.2
 have q:∀l:List Nat,(∀i∈l,i<K.ops.length)->kJ (x++[d.heap.size]) l=kJ x l:=by
  intro l u;apply List.map_congr_left;intro i g;have:=u i g;rw[aZ,aZ,ak (by rw[h.len];exact this)]
 refine⟨h1.b0,h.pq,h1.y,by rw[q _ h.il.1];exact h1.o,by rw[q _ h.il.2];exact h1.wh,h1.t,h.ow,by simp[h.len],?_,?_,?_⟩
 ·intro i f o k m;by_cases g:i<x.length
  ·rw[ak g]at k;rw[ak (by rw[<-h.len];exact g)]at m;exact h1.ob i f o k m
  ·have n:i=x.length:=by have:=(ae.1 k).1;simp at this;omega
   subst n;rw[aw bS,cx]at k;rw[h.len,aw bS,cx]at m;simp only[aL,ai]at k m;subst k;subst m;exact⟨h.b0.size,bD _ _⟩
 ·intro i j f k m;have p:∀i,(x++[d.heap.size])[i]?=some f->(x[i]?=some f/\f<d.heap.size)\/(i=x.length/\f=d.heap.size):=by
   intro i e;by_cases g:i<x.length
   ·rw[ak g]at e;exact aD ⟨e,s i f e⟩
   ·have n:i=x.length:=by have:=(ae.1 e).1;simp at this;omega
    subst n;rw[aw bS,cx]at e;simp only[aL,ai]at e;exact aE ⟨rfl,e.symm⟩
  rcases p i k with⟨B,E⟩|⟨B,E⟩
  ·rcases p j m with⟨C,_⟩|⟨_,F⟩
   ·exact h.nd i j f B C
   ·omega
  ·rcases p j m with⟨_,F⟩|⟨C,_⟩
   ·omega
   ·omega
 ·exact⟨λi g=>by have:=h.il.1 i g;simp;omega,λi g=>by have:=h.il.2 i g;simp;omega⟩
theorem En:(prog.info? 130).map (λi=>(i.zero,i.size,i.bytes))=some (some (.pointer none),1,8):=by kernel_rfl
theorem Hq:prog.underlying 86=some (.slice 130):=by kernel_rfl
theorem rsl{e}{n:Nat}(h:a.ownsRow w e 1 v n u):∃b c,v=.slice b n c:=by
 rcases h.2 with⟨h1,h2⟩|⟨g,d,f,h1,_⟩
 ·exact⟨none,0,by rw[h1,h2]⟩
 ·exact⟨_,_,h1⟩
theorem rsg{e}{n:Nat}(h:a.ownsRow w e 1 v n u)(f:0<n):∃g c,v=.slice (some ⟨g,0,none⟩) n c:=by
 rcases h.2 with⟨_,h2⟩|⟨g,b,d,h1,_⟩
 ·omega
 ·exact⟨_,_,h1⟩
theorem x8{p:Nat->Bool}(a:w<x.length):(x.take (w+1)).reverse.find? p=if p x[w] then some x[w] else (x.take w).reverse.find? p:=by
 rw[bQ a,fq,gU,cQ,dw];cases p x[w]<;>rfl
theorem DJ{p:Nat->Bool}(a:w<x.length):(x.drop w).find? p=if p x[w] then some x[w] else (x.drop (w+1)).find? p:=by
 rw[aW a,dw];cases p x[w]<;>rfl
theorem Oy(a l:List Nat)(j:Nat)(b:j<l.length):(kJ a l)[j]?=some (ptr (a.getD l[j] 0)):=by
 unfold kJ;rw[aC,aa b];rfl
theorem fP.at(h:fP a d w b y v x c K)(f:z<K.ops.length):∃e o,x[z]?=some e/\x.getD z 0=e/\K.ops[z]?=some o/\d.heap[e]?=some (.cells (nT o) 197 (0,0)):=by
 have g:z<x.length:=by rw[h.len];exact f
 refine⟨x[z],K.ops[z],aa g,by rw[aZ,aa g];rfl,aa f,?_⟩;exact (h.ob z x[z] K.ops[z] (aa g) (aa f)).2
theorem dW(w)(m:Nat):bg w (w.drewN m):=⟨rfl,rfl,rfl,bS,λ_ _=>rfl⟩
theorem Oz(B C:Nat)(ov wv tv)(q)(f)(w)(r:Int)(h:fP a w B ov wv tv q C f)(hl:f.opn.length<=40000)(hl2:f.ky.length<=40000):Calls prog 116 #[ptr B,.int .i64 r] w λe w'=>∃wv' D b,e=.returned (ptr b)/\D[(f.gm r).1]?=some b/\q <+: D/\mK w w'/\fP a w' B ov wv' tv D C (f.gm r).2:=by
 obtain⟨i0,hi,hz0,hz1,hz2⟩:=cI En;have HP:=h;obtain⟨oa,oc,Q⟩:=rsl h.o;obtain⟨K,wc,t⟩:=rsl h.wh;have Y:=h.y;rw[Q,t]at Y;have y0:w.cell? ⟨B,0,none⟩=some (.slice oa f.opn.length oc):=by rw[aI Y];rfl
 have y1:w.cell? ⟨B,1,none⟩=some (.slice K f.ky.length wc):=by rw[aI Y];rfl
 have f1:=aK Y 1;have hpl:=aG Y;have S:∀(l:List Nat)(v:Value)(d:Option Addr)(c:Nat),(∀i∈l,i<f.ops.length)->v=.slice d l.length c->w.ownsRow a.heap.size 130 1 v l.length (kJ q l)->∀(j:Nat)(T:j<l.length),∃(g b:Nat)(N:RO),d=some ⟨g,0,none⟩/\g<w.heap.size/\w.cell? ⟨g,j,none⟩=some (.pointer (some ⟨b,0,none⟩))/\b<w.heap.size/\w.cell? ⟨b,0,none⟩=some (.int .i64 N.uj)/\q[l[j]]?=some b/\f.J2 r l[j]=(N.uj==r):=by
  intro l v d c hil hv E j T;obtain⟨b,N,e1,e2,e3,e4⟩:=h.at (hil l[j] (bZ T));obtain⟨g,cap,L⟩:=rsg E (by omega);rw[hv]at L;simp only[bN]at L;rw[hv,L.1]at E;have hc:w.cell? ⟨g,j,none⟩=some (.pointer (some ⟨b,0,none⟩)):=by
   rw[E.cellAt j (by omega),Oy q l j T,e2];rfl
  refine⟨g,b,N,L.1,aR _ _ hc,hc,aG e4,by rw[aI e4];rfl,e1,?_⟩;unfold RS.J2;rw[e3];rfl
 have acs:=S f.opn ov oa oc h.il.1 Q h.o;have acu:=S f.ky wv K wc h.il.2 t h.wh;obtain⟨R,hR⟩:=ez (f.gm r);rw[<-hR];have HR:Hid _:=hR;clear hR h Y S Q;show Calls _ _ #[Value.pointer (some ⟨B,0,none⟩),_] w _;go_in;go_wp2;go_loopw [5] (λi wr=>∃(j m:Nat),j<=f.opn.length/\i=.int .i64 ((j:Int)-1)/\wr=w.drewN m/\f.opn.reverse.find? (f.J2 r)=(f.opn.take j).reverse.find? (f.J2 r)) (λi _=>(intOf i+1).toNat)
 case atStart=>exact⟨f.opn.length,0,bS,by go_num,rfl,by rw[fR]⟩
 case round=>
  obtain⟨j,m,T,rfl,rfl,s⟩:=hrel;have HF:Hid _:=s;by_cases WZ:j=0
  ·subst WZ;have HN:f.opn.reverse.find? (f.J2 r)=none:=by rw[HF.out];exact rfl
   go_wp2;go_loopw [6] (λi wr=>∃(j m:Nat),j<=f.ky.length/\i=.int .i64 j/\wr=w.drewN m/\f.ky.find? (f.J2 r)=(f.ky.drop j).find? (f.J2 r)) (λi _=>f.ky.length-(intOf i).toNat)
   case atStart=>exact⟨0,_,by omega,rfl,rfl,by simp⟩
   case round=>
    obtain⟨j,F,T,rfl,rfl,s⟩:=hrel;by_cases hlt:j<f.ky.length
    ·obtain⟨g,b,N,e1,e2,e3,e4,e5,U,V⟩:=acu j hlt;have n:=DJ (p:=f.J2 r) hlt;rw[V]at n;subst e1;cases O:(N.uj==r) with
     |true=>
      rw[O]at n;have G:Hid (R=(f.ky[j],f)):=by
       rw[HR.out];unfold RS.gm RS.sW;rw[HN,s,n];exact rfl
      have HB:Hid _:=U;clear n U V;go_wp2;go_ret;rw[G.out];exact⟨wv,q,b,rfl,HB,uf,mK.below (dW w _),HP.grow (dW w _)⟩
     |false=>
      rw[O]at n;have HS:Hid _:=n;clear n U V;go_wp2;go_roundw
      case rel=>exact⟨j+1,_,by omega,by go_num,rfl,by rw[s,HS.out];rfl⟩
      case measure=>simp[intOf];omega
    ·have G:Hid (R=(f.ops.length,{f with ops:=f.ops++[⟨r,0,false⟩],ky:=f.ky++[f.ops.length]})):=by
      rw[HR.out];unfold RS.gm RS.sW;rw[HN,s,bF (by omega)];exact rfl
     have H:=(HP.grow (dW w F)).WY r;have U0:Hid _:=H;obtain⟨W,Z⟩:=ez ((w.drewN F).alloc (.cells (nT ⟨r,0,false⟩) 197));have W6:W.heap.size=w.heap.size+1:=by rw[Z];simp
     rw[<-Z]at H;have P:W.ownsRow 0 130 1 (.slice K f.ky.length wc) f.ky.length (kJ (q++[w.heap.size]) f.ky):=by
      have:=eA (b:=0) H.wh (λ_ _=>ld);rw[t]at this;exact this
     have x:=P.alloc (.cells #[.pointer (some ⟨w.heap.size,0,none⟩)] 130);rw[Z]at x;have tY:Hid ((((w.drewN F).alloc (.cells #[.int .i64 r,.int .i64 0,.bool false] 197)).alloc (.cells #[.pointer (some ⟨w.heap.size,0,none⟩)] 130)).ownsRow 0 130 1 (.slice K f.ky.length wc) f.ky.length (kJ (q++[w.heap.size]) f.ky)):=x;have HW:Hid _:=Z;have GU:Hid (∀u∈([.pointer (some ⟨w.heap.size,0,none⟩)]:List Value),u.oneCell'=true):=by intro v hv;simp only[ax]at hv;subst hv;rfl
     have aeo:B≠w.heap.size:=by omega
     have Z1:((w.drewN F).alloc (.cells #[.int .i64 r,.int .i64 0,.bool false] 197)).cell? ⟨B,1,none⟩=some (.slice K f.ky.length wc):=by
      have h1:W.cell? ⟨B,1,none⟩=some (.slice K f.ky.length wc):=by rw[aI H.y,<-t];rfl
      rw[Z]at h1;exact h1
     have Z2:B<((w.drewN F).alloc (.cells #[.int .i64 r,.int .i64 0,.bool false] 197)).heap.size:=by simp;omega
     clear H P Z x;go_wp2_with (at_builtin;go_must (refine mV _ rfl (.tmp 72) (.tmp 74) 86 rfl 130 i0 _ 1 8 Hq hi hz0 hz1 hz2 rfl (by decide) (.slice K f.ky.length wc) f.ky.length (kJ (q++[w.heap.size]) f.ky) rfl tY ⟨w.heap.size+1,0,none⟩ 1 1 [.pointer (some ⟨w.heap.size,0,none⟩)] rfl rfl ?c1 GU (by decide) ?c3 ?c4 ?_))
     case c1=>
      intro j v T;have O:=dQ ((w.drewN F).alloc (.cells #[.int .i64 r,.int .i64 0,.bool false] 197)) [.pointer (some ⟨w.heap.size,0,none⟩)] 130 j;rw[show ((w.drewN F).alloc (.cells #[.int .i64 r,.int .i64 0,.bool false] 197)).heap.size=w.heap.size+1 from by simp]at O;rw[<-T];exact O
     case c3=>unfold maxLen;omega
     case c4=>omega
     intro g cap w3 I z Mz;have J:=U0;rw[<-HW.out]at J;have eW:(w.drewN F).heap.size=w.heap.size:=rfl;have X:=fP.aak (z:=g) (T:=cap) (L:=w3) (P:=.cells #[.pointer (some ⟨w.heap.size,0,none⟩)] 130) J f.ops.length (by simp) (by rw[t,HW.out];exact z) (by
      have e:(q++[(w.drewN F).heap.size]).getD f.ops.length 0=w.heap.size:=by rw[<-HP.len];simp
      rw[e];exact I) (by rw[t];rcases Mz with h|h;exact aD h;exact aE (by rw[iO,W6];exact h))
     have M:w3.heap[B]?=some (.cells (nS ov (.slice K f.ky.length wc) tv C f) 88 (0,0)):=by
      have h1:=jL (P:=.cells #[.pointer (some ⟨w.heap.size,0,none⟩)] 130) J.wh (by rw[t,HW.out];exact z) J.y (by decide);rw[t]at h1;exact h1
     have c1:w3.cell? ⟨B,1,none⟩=some (.slice K f.ky.length wc):=by rw[aI M];rfl
     have zf:=aK M 1;have zl:=aG M;refine bY X.1 ((mK.below (dW w F)).trans ((mK.below ((aM _ (w.drewN F)).alloc bS (.cells (nT ⟨r,0,false⟩) 197))).trans (by rw[<-HW.out];exact X.2))) λYh HIM=>?_;clear I z Mz J X M;go_wp2;go_ret;rw[G.out];refine⟨_,q++[w.heap.size],w.heap.size,rfl,?_,dm _ _,HIM,Yh⟩;rw[<-HP.len,aw bS,cx];rfl
  ·obtain⟨k,rfl⟩:∃k,j=k+1:=⟨j-1,by omega⟩;have hkl:k<f.opn.length:=by omega
   obtain⟨g,b,N,e1,e2,e3,e4,e5,U,V⟩:=acs k hkl;have n:=x8 (p:=f.J2 r) hkl;rw[V]at n;have ek:((k+1:Nat):Int)-1=(k:Int):=by omega
   rw[ek];subst e1;cases O:(N.uj==r) with
   |true=>
    rw[O]at n;have G:Hid (R=(f.opn[k],f)):=by
     rw[HR.out];unfold RS.gm RS.sW;rw[HF.out,n];exact rfl
    have HB:Hid _:=U;clear n U V ek;go_wp2;go_ret;rw[G.out];exact⟨wv,q,b,rfl,HB,uf,mK.below (dW w _),HP.grow (dW w _)⟩
   |false=>
    rw[O]at n;have HS:Hid _:=n;clear n U V ek;go_wp2;go_roundw
    case rel=>exact⟨k,_,by omega,by go_num,rfl,by rw[HF.out,HS.out];rfl⟩
    case measure=>simp[intOf]
theorem ja.grow{cls}{f}(h:ja a d w cls b f v O M Y)(e:bg d L):ja a L w cls b f v O M Y:=
 ⟨h.b0.trans (e.mono h.b0.size),h.hyb,by rw[e.block w (aG h.y)];exact h.y,bE h.c e,bE h.n e,bE h.t e,bE h.o e,h.cy,h.ny,h.ty,h.oy,h.cn,h.ct,h.co,h.nt,h.no,h.QD⟩
theorem Q4(g)(d:Nat)(cls)(p:Nat)(s):zj g d cls (.num p s) (λ_ _ _ e=>(.n,e)):=by
 intro id f b F h e m i j o w c a _ _ _ _ _;simp only[gS]at c;have k:=aG c.2;have q:w.cell? ⟨b,0,none⟩=some (.string (bs rz)):=by rw[a.b0.cell (p:=⟨b,0,none⟩) k,aI c.2];rfl
 have r:((bs rz).toList==[110,117,109,98,101,114])=true:=by rw[bo];decide
 have l:b<w.heap.size:=by have:=a.b0.size;omega
 show Calls _ _ #[Value.pointer (some ⟨d,0,none⟩),Value.pointer (some ⟨b,0,none⟩)] w _;go_in;go_wp2;go_ret;exact⟨rfl,i,j,Fr.below (fp.alloc bS _) _ _ _ _,a.grow (fp.alloc bS _)⟩
theorem vC(a:dc)(x)(s):look (a++[x]) s=if x.1==s then some x.2 else look a s:=by
 unfold look;rw[fq,gU,cQ,dw];cases h:(x.1==s)<;>simp
theorem OA(a:dc)(j:Nat)(b:j<a.length)(s:List UInt8):look (a.take (j+1)) s=if (a[j].1==s) then some a[j].2 else look (a.take j) s:=by
 rw[bQ b,vC]
def BD(p:Nat)(s:List UInt8)(a:dc)(b:gH):Ty×gH:=match look a s with
 |some t=>(t,b)
 |none=>(.n,gY b 4 p)
theorem Ky{p:Nat}(h:look M R=none):BD p R M Y=(.n,gY Y 4 p):=by unfold BD;rw[h]
theorem Kz{p:Nat}{t}(h:look M R=some t):BD p R M Y=(t,Y):=by unfold BD;rw[h]
theorem OB(Y)(x:Nat)(cls)(p:Nat)(s):zj Y x cls (.name p s) (λ_ _ a A=>BD p s a A):=by
 intro id f b F a A Z K L ov w M c _ _ _ _ B;simp only[PT.cnt]at B;simp only[gS]at M;have hb:=aG M.2;have sY:b<w.heap.size:=by have:=c.b0.size;omega
 have g:w.heap[b]?=some (.cells (dJ jE p s 0 (.slice none 0 0) id id f) 82 (0,0)):=by rw[c.b0.block b hb];exact M.2
 have x0:cg w b 0 (.string (bs jE)):=dR g rfl;have x2:cg w b 2 (.string (bs s)):=dR g rfl;have q0:((bs jE).toList==[110,117,109,98,101,114])=false:=by rw[bo];decide
 have q1:((bs jE).toList==[110,97,109,101])=true:=by rw[bo];decide
 have U:=c.X5;obtain⟨na,nc,l,C⟩:=U.wO;obtain⟨ta,tc,q,D⟩:=U.wP;rw[aO]at l q C D;have J:=c.y;have Kx:=aG J;rw[l,q]at J;have y1:cg w x 1 (.slice na a.length nc):=dR J rfl;have y2:cg w x 2 (.slice ta a.length tc):=dR J rfl;have N:b≠x:=by have:=c.hyb;omega
 show Calls _ _ #[Value.pointer (some ⟨x,0,none⟩),Value.pointer (some ⟨b,0,none⟩)] w _;go_in;go_wp2;go_loopw [6] (λi wr=>∃(j m:Nat),j<=a.length/\i=.int .i64 ((j:Int)-1)/\wr=(w.alloc (.cells #[.string ⟨#[]⟩,.string ⟨#[]⟩,.string ⟨#[]⟩] 139)).drewN m/\look a s=look (a.take j) s) (λi _=>(intOf i+1).toNat)
 case atStart=>exact⟨a.length,0,by omega,rfl,rfl,by rw[fR]⟩
 case round=>
  obtain⟨j,m,hj,rfl,rfl,O⟩:=hrel;by_cases P:j=0
  ·subst P;have E:=λ(o:Obj)(m:Nat)=>A5 ((w.alloc o).drewN m) x b Z K L ov (.slice none 0 0) A.e A.at_ 4 jE s p 0 id id f N (cR o c.y) (cR o g);unfold ptr at E;go_wp2_with (go_at_call 115;refine (E _ _).mono ?_;rintro e w2 ⟨rfl,G,Q⟩);go_ret;have e:look a s=none:=by rw[O];rfl
   rw[Ky e];refine⟨rfl,K,L,(Fr.below (kV w _ m) _ _ _ _).trans (Fr.grown G _ _ _),?_⟩;have h:=(c.grow (kV w _ m)).err G Q;unfold gY;by_cases z:A.e=0
   ·rw[ah z,ah z]at h;rw[ah z];exact h
   ·rw[ag z,ag z]at h;rw[ag z];exact h
  ·obtain⟨k,hk⟩:∃k,j=k+1:=⟨j-1,by omega⟩;subst hk;have r:k<a.length:=by omega
   obtain⟨gn,u⟩:=C (by omega);obtain⟨gt,v⟩:=D (by omega);have R:w.cell? ⟨gn,k,none⟩=some (.string (bs a[k].1)):=by
    have h:=c.n;rw[l,u]at h;rw[h.cellAt k (by omega),aC,aa r];rfl
   have S:w.cell? ⟨gt,k,none⟩=some (.string (bs a[k].2.txt)):=by
    have h:=c.t;rw[q,v]at h;rw[h.cellAt k (by omega),aC,aa r];rfl
   have V:=aR _ _ R;have W:=aR _ _ S;rw[u]at y1;rw[v]at y2;have X:((k+1:Nat):Int)-1=(k:Int):=by omega
   rw[X];have d:=OA a k r s;by_cases H:(a[k].1==s)=true
   ·rw[ah H]at d;have qs:((bs a[k].1).toList==(bs s).toList)=true:=by rw[bo,bR];exact H
    have T:look a s=some a[k].2:=O.trans d;go_wp2;go_quiet (fail);go_wp2;go_ret;rw[Kz T];exact⟨rfl,K,L,Fr.below (kV w _ _) _ _ _ _,c.grow (kV w _ _)⟩
   ·have I:(a[k].1==s)=false:=by simpa using H
    rw[ag H]at d;have qs:((bs a[k].1).toList==(bs s).toList)=false:=by rw[bo,bR];exact I
    have T:look a s=look (a.take k) s:=O.trans d;clear d H I u v X;go_wp2;go_quiet (fail);go_wp2;go_roundw
    case rel=>exact⟨k,_,by omega,by go_num,rfl,T⟩
    case measure=>simp[intOf]
def kt(a:List Ty)(i:Nat):List UInt8:=match a[i]? with
 |some t=>t.txt
 |none=>[]
def arity(k:Kw):Nat:=match k with
 |.dV=>2
 |.pair=>2
 |.fst=>1
 |.snd=>1
 |.lv=>3
 |.add=>2
 |.sub=>2
 |.less=>2
 |.loop=>3
 |.new=>1
theorem Hr(w)(D G:Nat)(cls)(O S T U Y)(s)(Z)(A:Nat)(n:Int)(id l d:Nat)(V:Nat)(k)(j)(W:G≠D)(H:s.e=0)(I:w.heap[D]?=some (.cells (lV O S T U s.e s.at_) 115 (0,0)))(P:w.heap[G]?=some (.cells (dJ k.bytes A Z n Y id l d) 82 (0,0)))(hc:w.ownsRow V 3 1 O cls.length (cls.map λ(k:Nat)=>Value.int .i64 k))(GR:cls.length<=9000)(J:∀x∈cls,x<1000)(hit:∀x∈cls,∀Q,bg w Q->Calls prog 49 #[.int .i64 (x:Nat)] Q λe X=>e=.returned (.string (bs (Go.Lib.decDigits x)))/\bg Q X)(y:k=.pair->d<cls.length)(hk:k≠.dV)(z:j.length=arity k)(E:∀t∈j,t.fit):Calls prog 144 #[ptr D,ptr G,.agg #[.string (bs (kt j 0)),.string (bs (kt j 1)),.string (bs (kt j 2))]] w λv Q=>v=.returned (.string (bs (dz cls k A d j s).1.txt))/\w.grownBy Q (some D)/\Q.heap[D]?=some (.cells (lV O S T U (dz cls k A d j s).2.e (dz cls k A d j s).2.at_) 115 (0,0)):=by
 have hl:∀t∈j,t.txt.length<=1000:=λt ht=>Fl (E t ht);have R:∀t∈j,t.txt.length<=100000:=λt ht=>bw (hl t ht) (by omega);rw[H]at I;have B:(gY s 5 A).e=5/\(gY s 5 A).at_=A:=by unfold gY;rw[ah H];exact⟨rfl,rfl⟩
 by_cases hp:k=.pair
 ·subst hp
  match j,z with
  |[a,b],_=>
   simp only[dz,H];have K:=y rfl;obtain⟨gc,cc,hcv⟩:∃gc cc,O=.slice (some ⟨gc,0,none⟩) cls.length cc:=by
    rcases hc.2 with⟨_,h⟩|⟨g,cap,cur,h,_⟩
    ·omega
    ·exact⟨_,_,h⟩
   subst hcv;have L:w.cell? ⟨gc,d,none⟩=some (.int .i64 (cls.getD d 0:Nat)):=by
    rw[hc.cellAt d (by omega),aC,aa K];simp[List.getD,aa K]
   exact Oq w gc cls.length cc D G S T U Y s.at_ Z A n id l d I P (cls.getD d 0) a b (by rw[aZ,aa K];exact J _ (bZ K)) (by rw[aZ,aa K];exact hit _ (bZ K)) (by have:=hl a (by simp);have:=hl b (by simp);omega) K GR L
 have x0:cg w G 0 (.string (bs k.bytes)):=dR P rfl;have hxb:=aG P;have hyb:=aG I;have M:=λo=>A5 (w.alloc o) D G O S T U Y 0 s.at_ 5 _ Z A n id l d W (cR o I) (cR o P);have C:=λo m=>A5 ((w.alloc o).drewN m) D G O S T U Y 0 s.at_ 5 _ Z A n id l d W (cR o I) (cR o P);have q:=kwq k;have HY:Hid _:=I;unfold ptr at M C⊢;have hn:=Hk;have k0:((bs Ty.n.txt).toList==[110])=true:=by rw[bo];decide
 have k1:∀r a b,((bs (Ty.p r a b).txt).toList==[110])=false:=λr a b=>by rw[bo];simp[Ty.txt]
 clear I P hc hit y E;cases k
 case dV=>exact absurd rfl hk
 case pair=>exact absurd rfl hp
 case new=>
  match j,z with
  |[a],_=>
   simp only[dz,H];have N:=λw=>Hm a w (R a (by simp));show Calls _ _ #[_,_,.agg #[.string (bs a.txt),.string (bs []),.string (bs [])]] w _;go_in;go_wp2_with (go_at_call 171;refine (N _).mono ?_;rintro e F ⟨_,_,_,rfl,n1,rfl⟩);go_ret;exact⟨rfl,A6 HY.out⟩
 case fst|snd=>
  match j,z with
  |[.n],_=>
   simp only[dz,B.1,B.2];show Calls _ _ #[_,_,.agg #[.string (bs Ty.n.txt),.string (bs []),.string (bs [])]] w _;go_in;go_wp2_with (first
    |(go_at_call 171;refine (hn _).mono ?_;rintro e F ⟨rfl,rfl⟩)
    |(go_at_call 115;refine (M _).mono ?_;rintro e F ⟨rfl,f,i⟩))
   go_ret;exact⟨rfl,ji (BB _ _ _) f,i⟩
  |[.p r a b],_=>
   simp only[dz,H];have N:=λw=>uk r a b w (R _ (by simp));show Calls _ _ #[_,_,.agg #[.string (bs (Ty.p r a b).txt),.string (bs []),.string (bs [])]] w _;go_in;go_wp2_with (go_at_call 171;refine (N _).mono ?_;rintro e F ⟨rfl,n1,rfl⟩);go_ret;exact⟨rfl,A6 HY.out⟩
 case add|sub|less=>
  match j,z with
  |[.n,.n],_=>
   simp only[dz];rw[ah (by simp)];simp only[H];show Calls _ _ #[_,_,.agg #[.string (bs Ty.n.txt),.string (bs Ty.n.txt),.string (bs [])]] w _;go_in;go_wp2_with (go_at_call 171;refine (hn _).mono ?_;rintro e F ⟨rfl,rfl⟩);go_ret;exact⟨rfl,A6 (n:=0) HY.out⟩
  |[.p r a b,u],_=>
   simp only[dz];rw[ag (by simp)];simp only[B.1,B.2];have N:=λw=>uk r a b w (R _ (by simp));show Calls _ _ #[_,_,.agg #[.string (bs (Ty.p r a b).txt),.string (bs u.txt),.string (bs [])]] w _;go_in;go_wp2_with (first
    |(go_at_call 171;refine (N _).mono ?_;rintro e F ⟨rfl,n1,rfl⟩)
    |(go_at_call 115;refine (C _ _).mono ?_;rintro e X ⟨rfl,f,i⟩))
   go_ret;exact⟨rfl,ji (jh (kV _ _ n1) _) f,i⟩
  |[.n,.p r a b],_=>
   simp only[dz];rw[ag (by simp)];simp only[B.1,B.2];show Calls _ _ #[_,_,.agg #[.string (bs Ty.n.txt),.string (bs (Ty.p r a b).txt),.string (bs [])]] w _;go_in;go_wp2_with (first
    |(go_at_call 171;refine (hn _).mono ?_;rintro e F ⟨rfl,rfl⟩)
    |(go_at_call 115;refine (M _).mono ?_;rintro e X ⟨rfl,f,i⟩))
   go_ret;exact⟨rfl,ji (jh (kV _ _ 0) _) f,i⟩
 case lv|loop=>
  match j,z with
  |[.n,b,c],_=>
   simp only[dz];have pq:=λw=>Ej b w (R _ (by simp));have hpc:=λw=>Ej c w (R _ (by simp));have ke:((bs b.plain).toList==(bs c.plain).toList)=decide (b.bare=c.bare):=by
    rw[bR,bR,iE,iE,jd,iQ,bW];exact Od b c
   by_cases hb:b.bare=c.bare
   all_goals
    simp only[hb,bT,aT,and_true,and_false,H,B.1,B.2];simp only[hb,mG,jc]at ke;clear hb;show Calls _ _ #[_,_,.agg #[.string (bs Ty.n.txt),.string (bs b.txt),.string (bs c.txt)]] w _;go_in;go_wp2_with (go_at_call 171;refine (hn _).mono ?_;rintro e F ⟨rfl,rfl⟩);go_quiet (first|(go_at_call_of 173 (Value.string (bs b.txt));exact Calls.quiet_of (pq _))|(go_at_call_of 173 (Value.string (bs c.txt));exact Calls.quiet_of (hpc _)));go_wp2_with (go_at_call 115;refine (C _ _).mono ?_;rintro e X ⟨rfl,f,i⟩);go_ret
    first|exact⟨rfl,A6 HY.out⟩|exact⟨rfl,ji (jh (kV _ _ _) _) f,i⟩
  |[.p r a a',b,c],_=>
   simp only[dz];rw[ag (by simp)];simp only[B.1,B.2];have N:=λw=>uk r a a' w (R _ (by simp));show Calls _ _ #[_,_,.agg #[.string (bs (Ty.p r a a').txt),.string (bs b.txt),.string (bs c.txt)]] w _;go_in;go_wp2_with (go_at_call 171;refine (N _).mono ?_;rintro e F ⟨rfl,n1,rfl⟩);go_quiet (fail);go_wp2_with (go_at_call 115;refine (C _ _).mono ?_;rintro e X ⟨rfl,f,i⟩);go_ret;exact⟨rfl,ji (jh (kV _ _ _) _) f,i⟩
def BF(cls:List Nat)(k:Kw)(p:Nat)(b:List PT)(id a:Nat)(c:dc)(d:gH):Ty×gH:=
 if (cP cls b (id+1) (a+if k=.pair then 1 else 0) c d).2.e≠0 then (.n,(cP cls b (id+1) (a+if k=.pair then 1 else 0) c d).2)
 else dz cls k p a (cP cls b (id+1) (a+if k=.pair then 1 else 0) c d).1 (cP cls b (id+1) (a+if k=.pair then 1 else 0) c d).2
def x9(a:List Ty):Array Value:=#[.string (bs (kt a 0)),.string (bs (kt a 1)),.string (bs (kt a 2))]
theorem OC(b)(i:Nat):eS (b.take i)<=eS b:=by
 induction b generalizing i with
 |nil=>simp
 |cons a r c=>cases i with
  |zero=>simp[eS]
  |succ i=>have:=c i;simp[eS];omega
theorem MA(a)(e p:Nat):(gY a e p).of=a.of:=by unfold gY;split<;>rfl
theorem BG(cls)(k)(p a:Nat)(c)(b):(dz cls k p a c b).2.of=b.of:=by
 unfold dz;split<;>first|rfl|(split<;>first|rfl|exact MA _ _ _)|exact MA _ _ _
theorem Fw(a)(t)(i:Nat):kt (a++[t]) i=if i=a.length then t.txt else kt a i:=by
 unfold kt;by_cases h:i=a.length
 ·subst h;simp
 ·rw[ag h];rcases jv i a.length with h1|h1
  ·rw[ak h1]
  ·rw[bH (by simp;omega),bH h1]
theorem Eo(a)(t):(x9 a).setIfInBounds a.length (.string (bs t.txt))=x9 (a++[t]):=by
 unfold x9;rw[Fw,Fw,Fw]
 match h:a.length with
 |0=>simp
 |1=>simp
 |2=>simp
 |n+3=>simp
theorem ja.other{g:Nat}{cls}{q r}(h:ja a d w cls q v O r M Y)(A:a.heap.size<=g)(B:g≠w)(C:q.ownBlock≠some g)(D:v.ownBlock≠some g)(E:O.ownBlock≠some g)(F:r.ownBlock≠some g)(G:L=d.setCell ⟨g,z,none⟩ b):ja a L w cls q v O r M Y:=by
 subst G;have m:∀f,f≠g->(d.setCell ⟨g,z,none⟩ b).heap[f]?=d.heap[f]?:=λf H=>lu H;have j:∀(i:Value)(l:Nat)(s:TypeId)(n:Nat)(u:List Value),d.ownsRow l s 1 i n u->i.ownBlock≠some g->(d.setCell ⟨g,z,none⟩ b).ownsRow l s 1 i n u:=
  λi l s n u I h1=>bO I (λk J=>m k (λe=>h1 (by rw[<-e];exact J)))
 exact⟨h.b0.setCell (p:=⟨g,z,none⟩) A _,h.hyb,by rw[m w (λe=>B e.symm)];exact h.y,j _ _ _ _ _ h.c C,j _ _ _ _ _ h.n D,j _ _ _ _ _ h.t E,j _ _ _ _ _ h.o F,h.cy,h.ny,h.ty,h.oy,h.cn,h.ct,h.co,h.nt,h.no,h.QD⟩
theorem OD{cls}(p:Nat)(k)(nm rg)(f)(hit:Ek a cls)(GR:cls.length<=9000)(hk1:k≠.dV)(hk2:k≠.loop)(har:f.length=arity k)(hf:∀x∈f,sZ a w cls x):zj a w cls (.node p k nm rg f) (λid l m B=>BF cls k p f id l m B):=by
 intro id l b F m B cv nv tv S d hT z hid K L hs2 wN;simp only[gS]at hT;obtain⟨hFb,kv,bl,M,hF,GV,hts⟩:=hT;have hb:=aG M;have hw0:=z.b0.size;have sY:b<d.heap.size:=by omega
 have hne:b≠w:=by have:=z.hyb;omega
 have hka:f.length<=3:=by rw[har];cases k<;>decide
 have hkp:0<f.length:=by rw[har];cases k<;>decide
 obtain⟨gk,kc,hvk⟩:∃gk kc,kv=.slice (some ⟨gk,0,none⟩) f.length kc:=by
  rcases GV.2 with⟨_,h'⟩|⟨g,cap,cur,h,_⟩
  ·omega
  ·exact⟨_,_,h⟩
 subst hvk;have T:d.heap[b]?=some (.cells (dJ k.bytes p nm (aQ rg) (.slice (some ⟨gk,0,none⟩) f.length kc) id (id+aU f) l) 82 (0,0)):=by rw[z.b0.block b hb];exact M
 have x0:cg d b 0 (.string (bs k.bytes)):=dR T rfl;have q0:((bs k.bytes).toList==[110,117,109,98,101,114])=false:=by rw[bo];cases k<;>decide
 have q1:((bs k.bytes).toList==[110,97,109,101])=false:=by rw[bo];cases k<;>decide
 have q2:((bs k.bytes).toList==[108,101,116])=false:=by rw[bo];cases k<;>first|decide|exact absurd rfl hk1
 have q3:((bs k.bytes).toList==[108,111,111,112])=false:=by rw[bo];cases k<;>first|decide|exact absurd rfl hk2
 have HKV:a.ownsRow 0 63 1 (.slice (some ⟨gk,0,none⟩) f.length kc) f.length (bl.map ptr):=GV;have hyb:=z.hyb;simp only[PT.cnt,PT.dn]at hid K wN;have HEN:lG m B:=⟨L,hs2⟩;show Calls _ _ #[Value.pointer (some ⟨w,0,none⟩),Value.pointer (some ⟨b,0,none⟩)] d _;obtain⟨J,L⟩:=ez (l+if k=.pair then 1 else 0);have aep:J+eS f<=cls.length:=by rw[L];omega
 have hsp:k=.pair->l<cls.length:=by intro h;rw[ah h]at K;omega
 have N:BF cls k p f id l m B=if (cP cls f (id+1) J m B).2.e≠0 then (.n,(cP cls f (id+1) J m B).2) else dz cls k p l (cP cls f (id+1) J m B).1 (cP cls f (id+1) J m B).2:=by rw[L];rfl
 have acv:fZ a F f (id+1) J bl:=by rw[L];exact hts
 have O:Hid ((∀g,nv.ownBlock=some g->g<d.heap.size)/\(∀g,tv.ownBlock=some g->g<d.heap.size)/\(∀g,S.ownBlock=some g->g<d.heap.size)/\(∀g,cv.ownBlock=some g->g<d.heap.size)/\w<d.heap.size):=
  ⟨λg hg=>(z.n.lt g hg).2,λg hg=>(z.t.lt g hg).2,λg hg=>(z.o.lt g hg).2,λg hg=>(z.c.lt g hg).2,aG z.y⟩
 have hyw:=O.2.2.2.2;go_in;go_wp2
 go_loopw [7] (λi wr=>∃(j:Nat)(u v:Value)(D:List Ty)(s:gH),j<=f.length/\i=.int .i64 j/\cP cls (f.take j) (id+1) J m B=(D,s)/\
   ja a wr w cls cv u v S m s/\Fr d wr w nv tv S u v/\u.ownBlock≠some d.heap.size/\v.ownBlock≠some d.heap.size/\
   wr.heap[d.heap.size]?=some (.cells (x9 D) 139 (0,0))) (λi _=>f.length-(intOf i).toNat)
 case atStart=>
  refine⟨0,nv,tv,[],B,by omega,rfl,by simp[cP],?_,?_,?_,?_,?_⟩
  ·exact z.grow (fp.alloc bS _)
  ·exact Fr.below (fp.alloc bS _) _ _ _ _
  ·intro e;have:=O.1 _ e;omega
  ·intro e;have:=O.2.1 _ e;omega
  ·exact bD _ _
 case round=>
  obtain⟨j,u,v,D,s,hj,rfl,P,r,U,E,G,C⟩:=hrel;have hbr:wr.heap[b]?=some (.cells (dJ k.bytes p nm (aQ rg) (.slice (some ⟨gk,0,none⟩) f.length kc) id (id+aU f) l) 82 (0,0)):=by rw[r.b0.block b hb];exact M
  have x4:cg wr b 4 (.slice (some ⟨gk,0,none⟩) f.length kc):=dR hbr rfl;have y4:cg wr w 4 (.int .i64 (s.e:Nat)):=dR r.y rfl;have V:=vp cls hit.1 (f.take j) (id+1) J m B HEN;rw[P]at V;have hlk:D.length=j:=by have:=Ki cls (f.take j) (id+1) J m B;rw[P]at this;simp only at this;rw[this];simp;omega
  have aal:ja a wr w cls cv u v S m s:=r;have U1:Fr d wr w nv tv S u v:=U;have hab:=aG C;have X:u.ownBlock≠some d.heap.size/\v.ownBlock≠some d.heap.size:=⟨E,G⟩;by_cases hlt:j<f.length
  ·obtain⟨x,hx⟩:∃x,f[j]?=some x:=⟨f[j],aa hlt⟩;obtain⟨bx,T,Uo⟩:=fZ.at _ _ _ _ acv j x hx;have hkc:a.cell? ⟨gk,j,none⟩=some (ptr bx):=by rw[HKV.cellAt j (by omega)];simp[T]
   have Kv:=aR _ _ hkc;have aag:=(r.b0.cell (p:=⟨gk,j,none⟩) Kv).trans hkc;have Y:f.take (j+1)=f.take j++[x]:=by rw[cW,hx];rfl
   have hct:=by have h:=j1 f (j+1);rw[Y,lU]at h;exact h
   have hpt:=by have h:=OC f (j+1);rw[Y,zh]at h;exact h
   have hsn:=Hb cls (f.take j) x (id+1) J m B;rw[<-Y,P]at hsn;have J3:Hid _:=hsn;have acw:s.of.length=B.of.length:=V.2.2;have W8:=HEN.on (λh0=>(V.2.1 h0).1);have Z:=hf x (aq hx) (id+1+aU (f.take j)) (J+eS (f.take j)) bx F m s cv u v S wr Uo r (by omega) (by omega) W8.1 W8.2 (by omega);unfold ptr at Z;obtain⟨R,hR⟩:=ez (aV cls x (id+1+aU (f.take j)) (J+eS (f.take j)) m s);rw[<-hR]at Z;have H:=J3;simp only at H;rw[<-hR]at H;have U2:Hid (cP cls (f.take (j+1)) (id+1) J m B=(D++[R.1],R.2)):=H;clear hsn H J3 hR r U acw W8 T Uo hkc Y hct hpt hx y4 E G;go_wp2_with fail;refine Z.mono ?_;rintro e w2 ⟨rfl,OE,OG,A,Ox⟩;have Yi:=A.size;have J4:OE.ownBlock≠some d.heap.size:=by
    intro e;rcases A.n _ e with e|e
    ·exact X.1 e
    ·omega
   have Q2:OG.ownBlock≠some d.heap.size:=by
    intro e;rcases A.t _ e with e|e
    ·exact X.2 e
    ·omega
   have BH:S.ownBlock≠some d.heap.size:=λe=>by have:=O.2.2.1 _ e;omega
   have hc2:cv.ownBlock≠some d.heap.size:=λe=>by have:=O.2.2.2.1 _ e;omega
   have I:w2.heap[d.heap.size]?=some (.cells (x9 D) 139 (0,0)):=by
    rw[A.blk _ hab (by omega) X.1 X.2 BH];exact C
   obtain⟨ov0,aeq⟩:∃ov0,w2.cell? ⟨d.heap.size,j,none⟩=some ov0:=by
    rw[aI I]
    match j,(by omega:j<3) with
    |0,_=>exact⟨_,rfl⟩
    |1,_=>exact⟨_,rfl⟩
    |2,_=>exact⟨_,rfl⟩
   have hfz:=aK I j;have Hs:=ja.other (L:=w2.setCell ⟨d.heap.size,j,none⟩ (.string (bs R.1.txt))) Ox hw0 (by omega) hc2 J4 Q2 BH rfl;have Ht:Fr d (w2.setCell ⟨d.heap.size,j,none⟩ (.string (bs R.1.txt))) w nv tv S OE OG:=by
    have h:=U1.trans A;refine⟨by have:=h.size;simp[World.setCell];exact this,?_,h.n,h.t⟩;intro q hq hy hn ht ho;rw[cX _ _ (by simp only;omega)];exact h.blk q hq hy hn ht ho
   have Q5:(w2.setCell ⟨d.heap.size,j,none⟩ (.string (bs R.1.txt))).heap[d.heap.size]?=some (.cells (x9 (D++[R.1])) 139 (0,0)):=by
    have h:=bu I j (.string (bs R.1.txt));rw[<-Eo,hlk];exact h
   have HW:Hid _:=And.intro Hs (And.intro Ht Q5);have W9:Hid (OE.ownBlock≠some d.heap.size/\OG.ownBlock≠some d.heap.size):=⟨J4,Q2⟩;clear Hs Ht Q5 I Ox A J4 Q2 BH hc2 Z;go_wp2;go_roundw
   case rel=>exact⟨j+1,OE,OG,D++[R.1],R.2,by omega,by go_num,U2.out,HW.out.1,HW.out.2.1,W9.out.1,W9.out.2,HW.out.2.2⟩
   case measure=>simp[intOf];omega
  ·have hjl:f.take j=f:=by rw[cw (by omega)]
   rw[hjl]at P;have N:=N;rw[P]at N;simp only at N;have aam:Hid (BF cls k p f id l m B=if s.e≠0 then (.n,s) else dz cls k p l D s):=N;have a0:cg wr d.heap.size 0 (.string (bs (kt D 0))):=dR C rfl;have a1:cg wr d.heap.size 1 (.string (bs (kt D 1))):=dR C rfl;have a2:cg wr d.heap.size 2 (.string (bs (kt D 2))):=dR C rfl;by_cases h0:s.e=0
   ·have hmd:=Hr wr w b cls cv u v S _ s nm p (aQ rg) id (id+aU f) l a.heap.size k D hne h0 r.y hbr r.c GR hit.1 (λx hx w' hb=>hit.2 x hx w' (r.b0.trans (hb.mono r.b0.size))) hsp hk1 (by omega) V.1;unfold ptr at hmd;have y40:wr.cell? ⟨w,4,none⟩=some (.int .i64 0):=by rw[y4,h0];rfl
    have Q:Hid (BF cls k p f id l m B=dz cls k p l D s):=by rw[aam.out,ag (by simpa using h0)];rfl
    clear y4 h0 r U E G hjl;go_wp2_with (go_at_call 144;refine hmd.mono ?_;rintro e w2 ⟨rfl,Ov,Uq⟩);go_ret;rw[Q.out];refine⟨rfl,u,v,U1.trans (Fr.grown Ov _ _ _),?_⟩;have h:=aal.err Ov Uq;have hof:(dz cls k p l D s).2.of=s.of:=BG _ _ _ _ _ _;rw[<-hof]at h;exact h
   ·have h0':((s.e:Int) !=0)=true:=by rw[bne_iff_ne];omega
    have Q:Hid (BF cls k p f id l m B=(.n,s)):=by rw[aam.out,ah h0];rfl
    clear h0 r U E G hjl;go_wp2;go_ret;rw[Q.out];exact⟨rfl,u,v,U1,aal⟩
theorem Q6{cls}(p:Nat)(s rg)(l z)(hit:Ek a cls)(hf1:sZ a w cls l)(hf2:sZ a w cls z):zj a w cls (.node p .dV s rg [l,z]) (λid f i A=>gI cls s [l,z] (id+1) f i A):=by
 intro id f b F i A cv nv tv C d hT j hid D N O wN;simp only[gS]at hT;obtain⟨hFb,kv,bl,E,hF,P,hts⟩:=hT;have hb:=aG E;have hw0:=j.b0.size;have sY:b<d.heap.size:=by omega
 obtain⟨B,kc,hvk⟩:∃B kc,kv=.slice (some ⟨B,0,none⟩) 2 kc:=by
  rcases P.2 with⟨_,h'⟩|⟨g,cap,cur,h,_⟩
  ·simp at h'
  ·exact⟨_,_,h⟩
 subst hvk;have hi1:=fZ.at _ _ _ _ hts 0 l rfl;have rR:=fZ.at _ _ _ _ hts 1 z rfl;obtain⟨b1,hb1,G⟩:=hi1;obtain⟨b2,hb2,Q⟩:=rR;have k1:a.cell? ⟨B,0,none⟩=some (ptr b1):=by rw[P.cellAt 0 (by simp)];simp[hb1]
 have k2:a.cell? ⟨B,1,none⟩=some (ptr b2):=by rw[P.cellAt 1 (by simp)];simp[hb2]
 have V:B<a.heap.size:=aR _ _ k1;have hbx:d.heap[b]?=some (.cells (dJ Kw.dV.bytes p s (aQ rg) (.slice (some ⟨B,0,none⟩) 2 kc) id (id+aU [l,z]) f) 82 (0,0)):=by rw[j.b0.block b hb];exact E
 have x0:cg d b 0 (.string (bs Kw.dV.bytes)):=dR hbx rfl;have x4:cg d b 4 (.slice (some ⟨B,0,none⟩) 2 kc):=dR hbx rfl;have k1w:=(j.b0.cell (p:=⟨B,0,none⟩) V).trans k1;have aan:B<d.heap.size:=by omega
 have q0:((bs Kw.dV.bytes).toList==[110,117,109,98,101,114])=false:=by rw[bo];decide
 have q1:((bs Kw.dV.bytes).toList==[110,97,109,101])=false:=by rw[bo];decide
 have q2:((bs Kw.dV.bytes).toList==[108,101,116])=true:=by rw[bo];decide
 have hyb:=j.hyb;simp only[PT.cnt,PT.dn,aU,eS]at hid D wN;simp only[aU,eS,nL,cY,az]at G Q;rw[ag (by decide)]at D G Q;simp only[az]at G Q;have H:=λg hg=>(j.n.lt g hg).2;have I:=λg hg=>(j.t.lt g hg).2;have X:=λg hg=>(j.o.lt g hg).2;have Y:=λg hg=>(j.c.lt g hg).2;have hyw:=aG j.y;have Z:ja a (d.alloc (.cells #[.string ⟨#[]⟩,.string ⟨#[]⟩,.string ⟨#[]⟩] 139)) w cls cv nv tv C i A:=j.grow (fp.alloc bS _);have S:=hf1 (id+1) f b1 F i A cv nv tv C _ G Z (by omega) (by omega) N O (by omega);have hok:=iD cls hit.1 l (id+1) f i A ⟨N,O⟩;obtain⟨R,hR⟩:=ez (aV cls l (id+1) f i A);have hfin:gI cls s [l,z] (id+1) f i A=aV cls z (id+1+l.cnt) (f+l.dn) (i++[(s,R.1)]) R.2:=by simp only[gI];rw[hR]
 rw[<-hR]at S hok;show Calls _ _ #[Value.pointer (some ⟨w,0,none⟩),Value.pointer (some ⟨b,0,none⟩)] d (λv w'=>v=.returned (.string (bs (gI cls s [l,z] (id+1) f i A).1.txt))/\∃m r,Fr d w' w nv tv C m r/\ja a w' w cls cv m r C i (gI cls s [l,z] (id+1) f i A).2);rw[hfin];unfold ptr at S;have HS:∀(x:List UInt8×Ty),x∈i->x.2.fit:=N;have Yj:A.e=0->∀x∈i,x.2.size<=63:=O;have J:Bu A R:=hok;clear j P hts hbx hFb hF N O k1 G hR hfin hok Z hb1 hb2;go_in;go_wp2_with fail;refine S.mono ?_;rintro e M ⟨rfl,T,U,k,u⟩;have Yi:=by have:=k.size;simpa using this
 have J4:T.ownBlock≠some d.heap.size:=by
  intro e;rcases k.n _ e with e|e
  ·have:=H _ e;omega
  ·simp at e;omega
 have Q2:U.ownBlock≠some d.heap.size:=by
  intro e;rcases k.t _ e with e|e
  ·have:=I _ e;omega
  ·simp at e;omega
 have BH:C.ownBlock≠some d.heap.size:=λe=>by have:=X _ e;omega
 have hc2:cv.ownBlock≠some d.heap.size:=λe=>by have:=Y _ e;omega
 have K:M.heap[d.heap.size]?=some (.cells #[.string ⟨#[]⟩,.string ⟨#[]⟩,.string ⟨#[]⟩] 139 (0,0)):=by
  rw[k.blk _ (by simp) (by omega) (λe=>by have:=H _ e;omega) (λe=>by have:=I _ e;omega) BH];exact bD _ _
 have z0:cg M d.heap.size 0 (.string ⟨#[]⟩):=dR K rfl;have zf:=aK K 0;have L:M.heap[b]?=some (.cells (dJ Kw.dV.bytes p s (aQ rg) (.slice (some ⟨B,0,none⟩) 2 kc) id (id+aU [l,z]) f) 82 (0,0)):=by rw[u.b0.block b hb];exact E
 have x22:cg M b 2 (.string (bs s)):=dR L rfl;have x42:cg M b 4 (.slice (some ⟨B,0,none⟩) 2 kc):=dR L rfl;have k22:=(u.b0.cell (p:=⟨B,1,none⟩) V).trans k2;have Hs:=ja.other (L:=M.setCell ⟨d.heap.size,0,none⟩ (.string (bs R.1.txt))) u hw0 (by omega) hc2 J4 Q2 BH rfl;have Ht:Fr d (M.setCell ⟨d.heap.size,0,none⟩ (.string (bs R.1.txt))) w nv tv C T U:=by
  have h:=(Fr.below ((aM d.heap.size d).alloc bS (.cells #[.string ⟨#[]⟩,.string ⟨#[]⟩,.string ⟨#[]⟩] 139)) w nv tv C).trans k;refine⟨by have:=h.size;simp[World.setCell];exact this,?_,h.n,h.t⟩;intro q hq hy hn ht ho;rw[cX _ _ (by simp only;omega)];exact h.blk q hq hy hn ht ho
 have aao:=lG.snoc (nm:=s) (⟨HS,Yj⟩:lG i A) J
 have hun:∀W,Below (M.setCell ⟨d.heap.size,0,none⟩ (.string (bs R.1.txt))).heap.size (M.setCell ⟨d.heap.size,0,none⟩ (.string (bs R.1.txt))) W->Calls prog 143 #[.pointer (some ⟨w,0,none⟩),.string (bs s),.string (bs R.1.txt),.pointer (some ⟨b2,0,none⟩)] W λv w'=>v=.returned (.string (bs (aV cls z (id+1+l.cnt) (f+l.dn) (i++[(s,R.1)]) R.2).1.txt))/\
   ∃m r,Fr d w' w nv tv C m r/\ja a w' w cls cv m r C i (aV cls z (id+1+l.cnt) (f+l.dn) (i++[(s,R.1)]) R.2).2:=by
  intro W hW;have hu:=Ho hf2 (id+1+l.cnt) (f+l.dn) b2 F i R.2 cv T U C W s R.1 Q (Hs.grow hW) (by have:=J.2.2;omega) (by omega) HS (λh0=>Yj (J.2.1 h0).1) J.1 (λh0=>(J.2.1 h0).2) (by omega);refine hu.mono ?_;rintro e w' ⟨rfl,m,r,Q7,U3⟩;exact⟨rfl,m,r,Ht.trans ((Fr.below hW w T U C).trans Q7),U3⟩
 have aer:b<M.heap.size:=by omega
 clear Hs Ht K u k J4 Q2 BH hc2 S L aao H I X Y;go_wp2;go_region_with (go_at_call 143;refine (hun _ ?_).mono ?_;exact⟨rfl,rfl,rfl,bS,λ_ _=>rfl⟩;rintro e w3 ⟨rfl,hw3⟩)
 all_goals (go_wp2_with fail;go_ret;exact⟨rfl,hw3⟩)
