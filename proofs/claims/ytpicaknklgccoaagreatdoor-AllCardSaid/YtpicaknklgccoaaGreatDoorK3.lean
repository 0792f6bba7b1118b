import Derived.Test.YtpicaknklgccoaaGreatDoorK2
import Derived.ArgAppend
import Derived.BigRegion
import Derived.BigQuiet
import Derived.Deep.QuietTactic
set_option maxHeartbeats 1000000
set_option maxRecDepth 100000
namespace Go.Proofs.YtpicaknklgccoaaGreatDoor
open Tryz
open Go.RowKit
variable {w x u:World}{a b c z:Nat}{d M:Value}{y:List Value}{v:Array Value}{P:Nat × Nat}{T:Obj}{N:Option Nat}
abbrev cV:=@Below.heap_alloc
theorem aI{t}(h:w.heap[b]?=some (.cells v t P))(o:Nat):w.cell? ⟨b,o,none⟩=v[o]?:=by
 simp[World.cell?,h]
theorem aK{t}(h:w.heap[b]?=some (.cells v t (0,0)))(o:Nat):w.frozen? ⟨b,o,none⟩=false:=by
 simp[World.frozen?,h]
theorem bu{t}(h:w.heap[b]?=some (.cells v t P))(o:Nat)(u):(w.setCell ⟨b,o,none⟩ u).heap[b]?=some (.cells (v.setIfInBounds o u) t P):=by
 simp[World.setCell,Array.getElem?_modify,h]
theorem cX(a)(u)(c:b≠a.block):(w.setCell a u).heap[b]?=w.heap[b]?:=Below.heap_setCell _ _ _ _ c
theorem lu(h:b≠a):(w.setCell ⟨a,c,N⟩ d).heap[b]?=w.heap[b]?:=cX _ _ h
theorem aG(h:w.heap[b]?=some T):b<w.heap.size:=by
 rcases jv b w.heap.size with h1|h1
 ·exact h1
 ·rw[lE h1]at h;cases h
theorem cR(o)(h:w.heap[b]?=some T):(w.alloc o).heap[b]?=some T:=by
 rw[cV _ _ _ (aG h)];exact h
theorem bD(w:World)(o):(w.alloc o).heap[w.heap.size]?=some o:=by
 show (w.heap.push o)[w.heap.size]?=_;simp
theorem eA{e}{n:Nat}(h:w.ownsRow a e c d n y)(l:∀k,d.ownBlock=some k->b<=k):w.ownsRow b e c d n y:=by
 obtain⟨h1,h2⟩:=h;refine⟨h1,?_⟩;rcases h2 with h2|⟨g,f,i,j,o,m,r⟩
 ·exact aD h2
 ·exact aE ⟨g,f,i,j,l g (by rw[j];rfl),m,r⟩
theorem bO{e}{n:Nat}(h:w.ownsRow a e b d n y)(j:∀k,d.ownBlock=some k->x.heap[k]?=w.heap[k]?):x.ownsRow a e b d n y:=by
 obtain⟨h1,h2⟩:=h;refine⟨h1,?_⟩;rcases h2 with h2|⟨g,c,f,i,l,m,r⟩
 ·exact aD h2
 ·exact aE ⟨g,c,f,i,l,by rw[j g (by rw[i];rfl)];exact m,r⟩
structure Push(cb k:Nat)(w W:World)(av nv:Value): Prop where
 os:W.os=w.os
 tape:W.tape=w.tape
 output:W.output=w.output
 size:w.heap.size<=W.heap.size
 kp:∀j,j<w.heap.size->j≠cb->av.ownBlock≠some j->W.heap[j]?=w.heap[j]?
 ne:nv.ownBlock≠some cb
 own:∀g,nv.ownBlock=some g->av.ownBlock=some g\/w.heap.size<=g
 blk:∀{A T},w.heap[cb]?=some (.cells A T (0,0))->W.heap[cb]?=some (.cells (A.setIfInBounds k nv) T (0,0))
theorem push{cb n e:Nat}(k:Nat)(t:cb<w.heap.size)(q:d.ownBlock≠some cb)(f:bg w x)(i:x.grownBy u d.ownBlock)(v:u.ownsRow 0 e b (.slice (some ⟨a,0,none⟩) n c) z y)(l:d.ownBlock=some a\/x.heap.size<=a):Push cb k w (u.setCell ⟨cb,k,none⟩ (.slice (some ⟨a,0,none⟩) n c)) d (.slice (some ⟨a,0,none⟩) n c)/\(u.setCell ⟨cb,k,none⟩ (.slice (some ⟨a,0,none⟩) n c)).ownsRow 0 e b (.slice (some ⟨a,0,none⟩) n c) z y:=by
 have:=f.size;have:=i.size;have r:a≠cb:=by
  rcases l with e|e
  ·intro h;rw[h]at e;exact q e
  ·omega
 refine⟨⟨i.os.trans f.os,i.tape.trans f.tape,i.output.trans f.output,by simp only[World.setCell,dB];omega,λj A o p=>?_,by simp[Value.ownBlock,r],λj h=>?_,λh=>bu (by rw[i.block cb (by omega) (λe=>q e.symm),f.block cb t];exact h) k _⟩,bO v λj h=>?_⟩
 ·rw[lu o,i.block j (by omega) (λe=>p e.symm),f.block j A]
 ·simp only[Value.ownBlock,ai]at h;subst h;exact l.imp id (by omega)
 ·simp only[Value.ownBlock,ai]at h;subst h;exact lu r
theorem Push.keep{cb:Nat}{v}{e n:Nat}(h:Push cb a w x d M)(r:w.ownsRow b e c v n y)(h1:v.ownBlock≠some cb)(h2:∀g,v.ownBlock=some g->d.ownBlock≠some g):x.ownsRow b e c v n y/\(∀g,v.ownBlock=some g->M.ownBlock≠some g)/\∀g,M.ownBlock=some g->v.ownBlock≠some g:=by
 have f:∀g,v.ownBlock=some g->M.ownBlock≠some g:=by
  intro g f i;rcases h.own g i with l|l
  ·exact h2 g f l
  ·have:=(r.lt g f).2;omega
 exact⟨bO r λj m=>h.kp j (r.lt j m).2 (λe=>h1 (by rw[m,e])) (h2 j m),f,λg i l=>f g l i⟩
theorem Push.below{cb:Nat}(h:Push cb a w u d M)(b:bg x w)(f:x.heap.size<=cb)(c:∀g,d.ownBlock=some g->x.heap.size<=g):bg x u:=by
 have:=b.size;exact b.trans ⟨h.os,h.tape,h.output,h.size,λa i=>h.kp a (by omega) (by omega) λe=>by have:=c a e;omega⟩
theorem mV{P:Program}(w){E:Array Oper}{rest:List Oper}{o:Oper}{a}{Q}(F:o.guard=none)(s x:Operand)(t)(R:o.op=Op.call {callee:=Callee.builtin Builtin.append,args:=#[s,x],argTypes:=#[t,t]})(e)(i:TypeInfo)(z)(d bytes:Nat)(S:P.underlying t=some (TypeDesc.slice e))(T:P.info? e=some i)(hz:i.zero=some z)(q:i.size=d)(I:i.bytes=bytes)(J:z.cells.size=d)(K:0<d)(v)(n:Nat)(H)(U:a.eval s=v)(p:w.ownsRow 0 e d v n H)(L)(m c:Nat)(f)(V:a.eval x=Value.slice (some L) m c)(W:f.length=m*d)(r:∀(j:Nat)(u:Value),f[j]?=some u->w.cell? (L.add j)=some u)(h1:∀(u:Value),u∈f->u.oneCell'=true)(hm:0<m)(M:n+m<=maxLen)(A:(n+m)*bytes<=140737488355328)(h:∀(g l:Nat)(B:World),B.ownsRow 0 e d (.slice (some ⟨g,0,none⟩) (n+m) l) (n+m) (H++f)->w.grownBy B v.ownBlock->(v.ownBlock=some g\/w.heap.size<=g)->wpList P E Q rest (a.put o.dst (.slice (some ⟨g,0,none⟩) (n+m) l)) B):wpList P E Q (o::rest) a w:=by
 have fin:∀(N:Value)(B:World),B.ownsRow w.heap.size e d N (n+m) (H++f)->w.grownBy B none->wpList P E Q rest (a.put o.dst N) B:=by
  intro N B C y;obtain⟨g,l,X⟩:∃g l,N=.slice (some ⟨g,0,none⟩) (n+m) l:=by
   rcases C.2 with⟨_,Y⟩|⟨g,l,Z,D,_⟩
   ·omega
   ·exact⟨_,_,D⟩
  subst X;exact h g l B (eA C (λk hk=>ld)) ⟨y.os,y.tape,y.output,y.size,λk hk _=>y.block k hk (by simp)⟩ (aE (C.lt g rfl).1)
 rcases p.2 with⟨D,hn⟩|⟨g,l,Z,D,hg,Y,hn,hcm,hcs,htake⟩
 ·subst hn;refine wpList_append_grows w F s x t R e i z d bytes S T hz q I J K none 0 0 H (by rw[U,D]) (λ_=>⟨rfl,rfl⟩) p.1 (λb O=>by cases O) L m c f V W r h1 (by omega) M A fin
 ·by_cases G:n+m<=l
  ·refine wpList_append_fits w F s x t R 0 e i d S T q g n l H (by rw[U,D]) (by rw[D]at p;exact p) L m c f V W r h1 G ?_;intro B C y;exact h g l B C (by rw[D];exact y) (aD (by rw[D];rfl))
  ·refine wpList_append_grows w F s x t R e i z d bytes S T hz q I J K (some ⟨g,0,none⟩) n l H (by rw[U,D]) (λY=>by cases Y) p.1 ?_ L m c f V W r h1 (by omega) M A fin;intro b O j u hj;simp at O;subst O;exact p.cells (by rw[D];rfl) j u hj
def ptr(b:Nat):Value:=.pointer (some ⟨b,0,none⟩)
def rz:List UInt8:=[110,117,109,98,101,114]
def jE:List UInt8:=[110,97,109,101]
def dJ(d:List UInt8)(p:Nat)(e:List UInt8)(n:Int)(a:Value)(id b c:Nat):Array Value:=
 #[.string (bs d),.int .i64 p,.string (bs e),.int .i64 n,a,.int .i64 id,.int .i64 b,.int .i64 c]
mutual
def gS(w:World)(F:Nat->Prop):PT->Nat->Nat->Nat->Prop
 |.num p s,id,a,b=>F b/\w.heap[b]?=some (.cells (dJ rz p [] (aQ s) (.slice none 0 0) id id a) 82 (0,0))
 |.name p s,id,a,b=>F b/\w.heap[b]?=some (.cells (dJ jE p s 0 (.slice none 0 0) id id a) 82 (0,0))
 | .node p k f h c,id,a,b=>F b/\∃e d,w.heap[b]?=some (.cells (dJ k.bytes p f (aQ h) e id (id+aU c) a) 82 (0,0))/\
   (∀g,e.ownBlock=some g->F g)/\w.ownsRow 0 63 1 e c.length (d.map ptr)/\fZ w F c (id+1) (a+if k=.pair then 1 else 0) d
def fZ(w:World)(F:Nat->Prop):List PT->Nat->Nat->List Nat->Prop
 |[],_,_,[]=>True
 |t::i,id,a,b::d=>gS w F t id a b/\fZ w F i (id+t.cnt) (a+t.dn) d
 |[],_,_,_::_=>False
 |_::_,_,_,[]=>False
end
mutual
theorem gS.keep{w f}{F i}(c:∀k,F k->i k)(d:∀k,F k->f.heap[k]?=w.heap[k]?):∀(t:PT)(id a b:Nat),gS w F t id a b->gS f i t id a b
 |.num p s,id,a,b,h=>by
  simp only[gS]at h⊢;exact⟨c _ h.1,by rw[d _ h.1];exact h.2⟩
 |.name p s,id,a,b,h=>by
  simp only[gS]at h⊢;exact⟨c _ h.1,by rw[d _ h.1];exact h.2⟩
 |.node p k r u j,id,a,b,h=>by
  simp only[gS]at h⊢;obtain⟨n,o,e,h1,h2,h3,q⟩:=h;exact⟨c _ n,o,e,by rw[d _ n];exact h1,λg m=>c _ (h2 g m),bO h3 (λg m=>d _ (h2 g m)),fZ.keep c d j _ _ e q⟩
theorem fZ.keep{w f}{F i}(c:∀k,F k->i k)(d:∀k,F k->f.heap[k]?=w.heap[k]?):∀(l:List PT)(id a:Nat)(e:List Nat),fZ w F l id a e->fZ f i l id a e
 |[],_,_,[],_=>by simp[fZ]
 |t::l,id,a,b::e,h=>by
  simp only[fZ]at h⊢;exact⟨gS.keep c d t _ _ b h.1,fZ.keep c d l _ _ e h.2⟩
 |[],_,_,_::_,h=>by simp[fZ]at h
 |_::_,_,_,[],h=>by simp[fZ]at h
end
theorem lU(b)(t):aU (b++[t])=aU b+t.cnt:=by
 induction b with
 |nil=>simp[aU]
 |cons a r c=>simp[aU,c];omega
theorem zh(b)(t):eS (b++[t])=eS b+t.dn:=by
 induction b with
 |nil=>simp[eS]
 |cons a r c=>simp[eS,c];omega
theorem fZ.snoc{w}{F}:∀(e:List PT)(id d:Nat)(f:List Nat)(t:PT)(b:Nat),fZ w F e id d f->gS w F t (id+aU e) (d+eS e) b->fZ w F (e++[t]) id d (f++[b])
 |[],id,d,[],t,b,_,h=>by simp[fZ];simpa [aU,eS] using h
 |a::e,id,d,c::f,t,b,h,g=>by
  refine⟨h.1,fZ.snoc e _ _ f t b h.2 ?_⟩;rw[aY,aY];exact g
 |[],_,_,_::_,_,_,h,_=>by simp[fZ]at h
 |_::_,_,_,[],_,_,h,_=>by simp[fZ]at h
theorem fZ.len{w}{F}:∀(c:List PT)(id a:Nat)(d:List Nat),fZ w F c id a d->d.length=c.length
 |[],_,_,[],_=>rfl
 |t::c,id,a,b::d,h=>by simp[fZ]at h;simp[fZ.len c _ _ d h.2]
 |[],_,_,_::_,h=>by simp[fZ]at h
 |_::_,_,_,[],h=>by simp[fZ]at h
theorem ji(h:w.grownBy x N)(k:x.grownBy u N):w.grownBy u N:=
 ⟨k.os.trans h.os,k.tape.trans h.tape,k.output.trans h.output,bw h.size k.size,λi d e=>(k.block i (cT d h.size) e).trans (h.block i d e)⟩
theorem nR(w:World)(p)(u):w.grownBy (w.setCell p u) (some p.block):=
 ⟨rfl,rfl,rfl,by simp[World.setCell],λk _ a=>Below.heap_setCell _ _ _ _ (λe=>a (by rw[e]))⟩
theorem BB(w:World)(o)(a):w.grownBy (w.alloc o) a:=World.grownBy_alloc w o a
theorem Mv(w:World)(a):w.grownBy w.drew a:=⟨rfl,rfl,rfl,bS,λ_ _ _=>rfl⟩
structure Hh(ts:List Tk): Prop where
 num:∀t∈ts,t.c=.num->t.s.length<=5
 uj:∀t∈ts,t.c=.uj->t.s.length<=5
 wB:∀t∈ts,t.c=.wB->t.s≠[]
def fO(c:Value)(p b a:Nat):Array Value:=#[c,.int .i64 p,.int .i64 b,.int .i64 a]
structure X0(ts:List Tk)(gt tc cb p ids sites:Nat)(w:World): Prop where
 ne:gt≠cb
 c:w.heap[cb]?=some (.cells (fO (.slice (some ⟨gt,0,none⟩) ts.length tc) p ids sites) 181 (0,0))
 tk:w.ownsRow 0 177 3 (.slice (some ⟨gt,0,none⟩) ts.length tc) ts.length (ts.flatMap fg)
def Ol(g:List Tk)(gt h cb p c a:Nat)(w:World)(e:PT)(d:Nat)(v:Ending)(f:World):Prop:=
 ∃b,v=.returned (ptr b)/\f.heap[cb]?=some (.cells (fO (.slice (some ⟨gt,0,none⟩) g.length h) (p+d) (c+e.cnt) (a+e.dn)) 181 (0,0))/\
  w.grownBy f (some cb)/\gS f (λk=>w.heap.size<=k/\k<f.heap.size) e c a b
theorem Hj{cb:Nat}{p:Nat}(X T)(c:w.heap[cb]?=some (.cells (fO d p a b) 181 (0,0))):(((((w.setCell ⟨cb,2,none⟩ (.int .i64 ((a:Int)+1))).setCell ⟨cb,1,none⟩ (.int .i64 ((p:Int)+1))).alloc X).alloc T).drew.drew).heap[cb]?=some (.cells (fO d (p+1) (a+1) b) 181 (0,0))/\w.grownBy (((((w.setCell ⟨cb,2,none⟩ (.int .i64 ((a:Int)+1))).setCell ⟨cb,1,none⟩ (.int .i64 ((p:Int)+1))).alloc X).alloc T).drew.drew) (some cb)/\(((((w.setCell ⟨cb,2,none⟩ (.int .i64 ((a:Int)+1))).setCell ⟨cb,1,none⟩ (.int .i64 ((p:Int)+1))).alloc X).alloc T).drew.drew).heap[w.heap.size]?=some X/\(((((w.setCell ⟨cb,2,none⟩ (.int .i64 ((a:Int)+1))).setCell ⟨cb,1,none⟩ (.int .i64 ((p:Int)+1))).alloc X).alloc T).drew.drew).heap.size=w.heap.size+2:=by
 have e:((w.setCell ⟨cb,2,none⟩ (.int .i64 ((a:Int)+1))).setCell ⟨cb,1,none⟩ (.int .i64 ((p:Int)+1))).heap.size=w.heap.size:=by simp[World.setCell]
 refine⟨?_,?_,?_,?_⟩
 ·exact cR _ (cR _ (bu (bu c 2 _) 1 _))
 ·exact ji (ji (ji (ji (ji (nR w ⟨cb,2,none⟩ _) (nR _ ⟨cb,1,none⟩ _)) (BB _ _ _)) (BB _ _ _)) (Mv _ _)) (Mv _ _)
 ·refine cR _ ?_;have:=bD ((w.setCell ⟨cb,2,none⟩ (.int .i64 ((a:Int)+1))).setCell ⟨cb,1,none⟩ (.int .i64 ((p:Int)+1))) X;rw[e]at this;exact this
 ·simp[e]
theorem Ak{b:List Tk}{gt:Nat}{t:Tk}{p:Nat}(h:w.ownsRow 0 177 3 (.slice (some ⟨gt,0,none⟩) b.length a) b.length (b.flatMap fg))(d:b[p]?=some t):w.cell? ⟨gt,p*3,none⟩=some (.string (bs t.s))/\w.cell? ⟨gt,p*3+1,none⟩=some (.int .i64 t.at_)/\w.cell? ⟨gt,p*3+2,none⟩=some (.string (bs t.c.bytes)):=by
 have e:p<b.length:=by
  rcases jv p b.length with h1|h1
  ·exact h1
  ·rw[bH h1]at d;cases d
 refine⟨?_,?_,?_⟩
 ·rw[h.cellAt (p*3) (by omega)];exact A4 b p t d 0 (by omega)
 ·rw[h.cellAt (p*3+1) (by omega)];exact A4 b p t d 1 (by omega)
 ·rw[h.cellAt (p*3+2) (by omega)];exact A4 b p t d 2 (by omega)
theorem Om(g)(j:Hh g)(B:g.length<=9000)(gt k cb p b a:Nat)(t)(w)(l:X0 g gt k cb p b a w)(m:g[p]?=some t)(C:p<g.length)(q:b<=9000)(h1:t.c=.num):Calls prog 102 #[ptr cb] w (Ol g gt k cb p b a w (.num t.at_ t.s) 1):=by
 obtain⟨n,d,i⟩:=l;have c0:cg w cb 0 (.slice (some ⟨gt,0,none⟩) g.length k):=dR d rfl;have D:cg w cb 1 (.int .i64 p):=dR d rfl;have E:cg w cb 2 (.int .i64 b):=dR d rfl;have F:cg w cb 3 (.int .i64 a):=dR d rfl;have G:=aK d 1;have H:=aK d 2;obtain⟨I,J,K⟩:=Ak i m;have u:=aG d;have v:=(i.lt gt rfl).2;have r:cb≠gt:=λh=>n h.symm;have o:=j.num t (aq m) h1;have L:((bs t.c.bytes).toList==[78,85,77,66,69,82])=true:=by rw[h1,bo];decide
 have f:=Eg (bs t.s);rw[iE]at f;clear h1 i m;unfold ptr;go_in;go_wp2;go_region;go_wp2;go_region;go_wp2_with (go_at_call 134;refine (f _ (by rw[eB];exact o)).mono ?_;rintro e M ⟨rfl,rfl⟩);go_ret;obtain⟨x,y,z,A⟩:=Hj (.cells (dJ rz t.at_ [] (aQ t.s) (.slice none 0 0) b b a) 82 (0,0)) (.cells #[.string (bs t.s),.int .i64 t.at_,.string (bs t.c.bytes)] 177) d;refine⟨w.heap.size,rfl,x,y,?_⟩;simp only[gS];exact⟨⟨bS,Nat.lt_of_lt_of_eq (by omega:w.heap.size<w.heap.size+2) A.symm⟩,z⟩
theorem Kr(f)(x:f.length<=9000)(gt g cb p b a:Nat)(t)(w)(i:X0 f gt g cb p b a w)(k:f[p]?=some t)(y:p<f.length)(l:b<=9000)(h1:t.c=.wB):Calls prog 102 #[ptr cb] w (Ol f gt g cb p b a w (.name t.at_ t.s) 1):=by
 obtain⟨j,d,e⟩:=i;have c0:cg w cb 0 (.slice (some ⟨gt,0,none⟩) f.length g):=dR d rfl;have z:cg w cb 1 (.int .i64 p):=dR d rfl;have A:cg w cb 2 (.int .i64 b):=dR d rfl;have B:cg w cb 3 (.int .i64 a):=dR d rfl;have C:=aK d 1;have D:=aK d 2;obtain⟨E,F,G⟩:=Ak e k;have n:=aG d;have o:=(e.lt gt rfl).2;have m:cb≠gt:=λh=>j h.symm;have H:((bs t.c.bytes).toList==[78,85,77,66,69,82])=false:=by rw[h1,bo];decide
 have I:((bs t.c.bytes).toList==[78,65,77,69])=true:=by rw[h1,bo];decide
 clear h1 e k;unfold ptr;go_in;go_wp2;go_region;go_wp2;go_region;go_wp2;go_ret;obtain⟨q,r,u,v⟩:=Hj (.cells (dJ jE t.at_ t.s 0 (.slice none 0 0) b b a) 82 (0,0)) (.cells #[.string (bs t.s),.int .i64 t.at_,.string (bs t.c.bytes)] 177) d;refine⟨w.heap.size,rfl,q,r,?_⟩;simp only[gS];exact⟨⟨bS,Nat.lt_of_lt_of_eq (by omega:w.heap.size<w.heap.size+2) v.symm⟩,u⟩
open Go.Lib (decDigits)
theorem UQ(s:ByteArray)(k:Nat)(h:k<s.size)(o:Int):lf o (s.data.toList.drop k)=if (if s[k]=60 then o+1 else if s[k]=62 then o-1 else o)=0/\(s[k]=110\/s[k]=62) then 1 else 1+lf (if s[k]=60 then o+1 else if s[k]=62 then o-1 else o) (s.data.toList.drop (k+1)):=by
 rw[drop_cons s k h];rfl
theorem zi(a b:UInt8):((a.toNat:Int)==(b.toNat:Int))=decide (a=b):=by rw[jD];rfl
theorem UR(s)(a:Nat)(w)(A:s.size<=100000)(u:a<=s.size):Calls prog 186 #[.string s,.int .i64 a] w λe v=>e=.returned (.int .i64 (a+lf 0 (s.data.toList.drop a):Nat))/\v=w:=by
 go_in;go_wp2;go_loop [5,6] (λo i=>∃(k:Nat)(q:Int),a<=k/\k<=s.size/\i=.int .i64 k/\o=.int .i64 q/\-(k:Int)<=q/\q<=k/\a+lf 0 (s.data.toList.drop a)=k+lf q (s.data.toList.drop k)) (λ_ i=>s.size-(intOf i).toNat)
 case atStart=>exact⟨a,0,by omega,u,rfl,rfl,by omega,by omega,rfl⟩
 case round=>
  obtain⟨k,q,x,B,rfl,rfl,y,z,b⟩:=hrel;by_cases p:k<s.size
  ·have m:=UQ s k p q;have g:Hid _:=m;have n:((s[k].toNat:Int)==60)=decide (s[k]=60):=zi s[k] 60;have j:((s[k].toNat:Int)==62)=decide (s[k]=62):=zi s[k] 62;have f:((s[k].toNat:Int)==110)=decide (s[k]=110):=zi s[k] 110;clear m;by_cases h1:s[k]=60
   ·have l:¬s[k]=62:=by rw[h1];decide
    have c:¬s[k]=110:=by rw[h1];decide
    rw[dZ h1]at n;rw[cd l]at j;rw[cd c]at f;have d:Hid (lf q (s.data.toList.drop k)=1+lf (q+1) (s.data.toList.drop (k+1))):=by
     have:=g;rw[ah h1,ag (by rintro⟨_,e|e⟩;exact c e;exact l e)]at this;exact this
    clear h1 l c g;go_wp2
    all_goals
     go_round
     case rel=>exact⟨k+1,q+1,by omega,by omega,by go_num,by go_num,by omega,by omega,by rw[b,d.out];omega⟩
     case measure=>simp[intOf];omega
   ·rw[cd h1]at n;by_cases h2:s[k]=62
    ·have c:¬s[k]=110:=by rw[h2];decide
     rw[dZ h2]at j;rw[cd c]at f;by_cases r:q=1
     ·subst r;have d:Hid (lf 1 (s.data.toList.drop k)=1):=by
       have:=g;rw[ag h1,ah h2,ah ⟨by omega,aE h2⟩]at this;exact this
      clear h1 h2 c g;go_wp2;go_ret;exact⟨gj (by have h:=b;rw[d.out]at h;omega),rfl⟩
     ·have d:Hid (lf q (s.data.toList.drop k)=1+lf (q-1) (s.data.toList.drop (k+1))):=by
       have:=g;rw[ag h1,ah h2,ag (by omega)]at this;exact this
      have t:(q-1==0)=false:=by rw[aH];omega
      clear h1 h2 c g;go_wp2
      all_goals
       go_round
       case rel=>exact⟨k+1,q-1,by omega,by omega,by go_num,by go_num,by omega,by omega,by rw[b,d.out];omega⟩
       case measure=>simp[intOf];omega
    ·rw[cd h2]at j;by_cases h3:s[k]=110
     ·rw[dZ h3]at f;by_cases r:q=0
      ·subst r;have d:Hid (lf 0 (s.data.toList.drop k)=1):=by
        have:=g;rw[ag h1,ag h2,ah ⟨rfl,aD h3⟩]at this;exact this
       clear h1 h2 h3 g;go_wp2;go_ret;exact⟨gj (by have h:=b;rw[d.out]at h;omega),rfl⟩
      ·have d:Hid (lf q (s.data.toList.drop k)=1+lf q (s.data.toList.drop (k+1))):=by
        have:=g;rw[ag h1,ag h2,ag (by omega)]at this;exact this
       have t:(q==0)=false:=by rw[aH];omega
       clear h1 h2 h3 g;go_wp2
       all_goals
        go_round
        case rel=>exact⟨k+1,q,by omega,by omega,by go_num,by go_num,by omega,by omega,by rw[b,d.out];omega⟩
        case measure=>simp[intOf];omega
     ·rw[cd h3]at f;have d:Hid (lf q (s.data.toList.drop k)=1+lf q (s.data.toList.drop (k+1))):=by
       have:=g;rw[ag h1,ag h2,ag (by rintro⟨_,e|e⟩;exact h3 e;exact h2 e)]at this;exact this
      clear h1 h2 h3 g;go_wp2
      all_goals
       go_round
       case rel=>exact⟨k+1,q,by omega,by omega,by go_num,by go_num,by omega,by omega,by rw[b,d.out];omega⟩
       case measure=>simp[intOf];omega
  ·go_wp2;go_ret;exact⟨gj (by have h:=b;rw[nQ s k (by omega)]at h;simp only[lf]at h;omega),rfl⟩
theorem Fs(s:ByteArray)(a b:Nat)(l)(h:(s.data.toList.drop a).take (b-a)=l):s.extract a b=bs l:=Bx (by rw[iN,h])
theorem Mw(r:Nat)(h:r<1000):(decDigits r).length<=3:=by
 rw[decDigits];split
 ·simp
 ·rw[decDigits];split
  ·simp
  ·rw[decDigits];split
   ·simp
   ·omega
theorem US(r:Nat):0<(decDigits r).length:=by rw[decDigits];split<;>simp
theorem QY(l:List UInt8)(k:Nat)(h:k<(bs l).size):(bs l)[k]=l[k]'(by rw[eB]at h;exact h):=rfl
theorem Hk(w):Calls prog 171 #[.string (bs Ty.n.txt)] w λe a=>e=.returned (.tuple #[.string (bs []),.string (bs []),.bool false])/\a=w:=by
 have b:((bs Ty.n.txt).toList==[])=false:=by rw[bo];decide
 go_in;go_wp2;go_ret3;exact⟨rfl,rfl⟩
theorem Oo(r:Nat)(a b:Ty)(k:Nat)(c:k<(bs (Ty.p r a b).txt).size)(h1:1<=k)(h2:k<=(decDigits r).length):(bs (Ty.p r a b).txt)[k]≠58:=by
 rw[QY];simp[Ty.txt];obtain⟨j,rfl⟩:∃j,k=j+1:=⟨k-1,by omega⟩;rw[List.getElem_cons_succ,List.getElem_append_left (by omega)];exact (Bt (lS r _ (bZ _))).1
theorem Ft(r:Nat)(a b:Ty)(c:(decDigits r).length+1<(bs (Ty.p r a b).txt).size):(bs (Ty.p r a b).txt)[(decDigits r).length+1]=58:=by
 rw[QY];simp only[Ty.txt];simp
theorem vz(r:Nat)(a b):(Ty.p r a b).txt.length=(decDigits r).length+a.txt.length+b.txt.length+3:=by
 simp[Ty.txt];omega
theorem QZ(r:Nat)(a b):(Ty.p r a b).txt.drop ((decDigits r).length+2)=a.txt++(b.txt++[62]):=by
 simp only[Ty.txt];simp
theorem Hl(S o p:ByteArray)(D A:Nat)(w:World)(u:S.size<=100000)(v:D+2+A+2<=S.size)(s:S.toList.isEmpty=false)(x:(((S[0]'(by omega)).toNat:Int) !=60)=false)(a:Hid (∀(k:Nat)(y:k<S.size),1<=k->k<=D->S[k]≠58))(b:Hid (S[D+1]'(by omega)=58))(c:∀w,Calls prog 186 #[.string S,.int .i64 ((D:Int)+1+1)] w λe f=>e=.returned (.int .i64 (D+2+A:Nat))/\f=w)(g:Hid (S.extract (D+2) (D+2+A)=o))(h:Hid (S.extract (D+2+A) (S.size-1)=p)):Calls prog 171 #[.string S] w λe f=>e=.returned (.tuple #[.string o,.string p,.bool true])/\∃n,f=w.drewN n:=by
 go_in;go_wp2;go_loop [5] (λi=>∃k:Nat,1<=k/\k<=D+1/\i=.int .i64 k) (λi=>D+1-(intOf i).toNat)
 case atStart=>exact⟨1,by omega,by omega,rfl⟩
 case round=>
  obtain⟨k,j,t,rfl⟩:=hrel;by_cases l:k<=D
  ·have m:=a k (by omega) j l;have q:(((S[k]'(by omega)).toNat:Int) !=58)=true:=by
    have:(((S[k]'(by omega)).toNat:Int) !=58)=((S[k]'(by omega)) !=58):=vq _ 58;rw[this];simpa using m
   go_wp2;go_round
   case rel=>exact⟨k+1,by omega,by omega,by go_num⟩
   case measure=>simp[intOf];omega
  ·have d:k=D+1:=by omega
   subst d;have r:(((S[D+1]'(by omega)).toNat:Int) !=58)=false:=by
    rw[b.out];rfl
   go_wp2_with (go_at_call 186;refine (c _).mono ?_;rintro e f ⟨rfl,rfl⟩);go_quiet (fail);go_wp2;go_ret3;exact⟨by rw[<-g.out,<-h.out];rfl,_,rfl⟩
theorem uk(r:Nat)(a b)(w)(j:(Ty.p r a b).txt.length<=100000):Calls prog 171 #[.string (bs (Ty.p r a b).txt)] w λe h=>e=.returned (.tuple #[.string (bs a.txt),.string (bs b.txt),.bool true])/\∃n,h=w.drewN n:=by
 have f:=vz r a b;have d:=QZ r a b;have i:=kG.2 (XY b);have g:(bs (Ty.p r a b).txt).size=(Ty.p r a b).txt.length:=eB _;refine Hl (bs (Ty.p r a b).txt) (bs a.txt) (bs b.txt) (decDigits r).length a.txt.length w (by omega) (by omega) (by rw[bR];rfl) rfl (Oo r a b) (Ft r a b (by omega)) ?_ ?_ ?_
 ·intro w;have c:=UR (bs (Ty.p r a b).txt) ((decDigits r).length+2) w (by omega) (by omega);rw[iE,d,QR]at c;have k:(((decDigits r).length+2:Nat):Int)=((decDigits r).length:Int)+1+1:=by omega
  exact c
 ·exact Fs _ _ _ _ (by rw[iE,d];simp)
 ·refine Fs _ _ _ _ ?_;rw[iE,<-lg,d,List.drop_left' rfl,g,f,jB (by omega),cw (by omega)]
theorem eM(l m):bs l++bs m=bs (l++m):=by
 apply Bx;simp[bs]
theorem Ei(t:Ty):t.plain.length<=t.txt.length:=by
 induction t with
 |n=>simp[Ty.plain,Ty.txt]
 |p r a b c d=>simp[Ty.plain,Ty.txt];omega
theorem Ej(t:Ty):∀(w:World),t.txt.length<=100000->Calls prog 173 #[.string (bs t.txt)] w λe i=>e=.returned (.string (bs t.plain))/\∃n,i=w.drewN n:=by
 induction t with
 |n=>
  intro w g;have c:((bs Ty.n.txt).toList==[110])=true:=by rw[bo];decide
  go_in;go_wp2_with fail;go_ret;exact⟨rfl,0,rfl⟩
 |p r a b d f=>
  intro w g;have h:=vz r a b;have c:((bs (Ty.p r a b).txt).toList==[110])=false:=by rw[bo];simp[Ty.txt]
  have k:=Ei a;have l:=Ei b;have j:(ByteArray.mk #[60]).size=1:=rfl;have m:(bs a.plain).size<=100000:=by rw[eB];omega
  have o:(ByteArray.mk #[60]++bs a.plain).size<=100001:=by rw[aX,j];omega
  have q:(bs b.plain).size<=100000:=by rw[eB];omega
  have s:(ByteArray.mk #[60]++bs a.plain++bs b.plain).size<=200001:=by rw[aX];omega
  have u:(ByteArray.mk #[62]).size=1:=rfl;go_in;go_wp2_with (first
   |(go_at_call 171;refine ((λw=>uk r a b w g) _).mono ?_;rintro e v ⟨rfl,x,rfl⟩)
   |(go_at_call_of 173 (Value.string (bs a.txt));refine (d _ (by omega)).mono ?_;rintro e y ⟨rfl,z,rfl⟩)
   |(go_at_call_of 173 (Value.string (bs b.txt));refine (f _ (by omega)).mono ?_;rintro e A ⟨rfl,B,rfl⟩))
  go_ret;refine⟨?_,_,rfl⟩;have e:(ByteArray.mk #[60]++bs a.plain++bs b.plain++ByteArray.mk #[62])=bs (Ty.p r a b).plain:=by
   rw[show ByteArray.mk #[60]=bs [60] from rfl,show ByteArray.mk #[62]=bs [62] from rfl,eM,eM,eM];simp[Ty.plain]
  rw[<-e];rfl
def aad:ByteArray:=⟨#[48,49,50,51,52,53,54,55,56,57,97,98,99,100,101,102,103,104,105,106,107,108,109,110,111,112,113,114,115,116,117,118,119,120,121,122]⟩
def aae:ByteArray:=⟨((List.range 100).flatMap λi=>[UInt8.ofNat (48+i / 10),UInt8.ofNat (48+i%10)]).toArray⟩
theorem acp(i:Nat)(h:i<10):aad.extract i (i+1)=bs [UInt8.ofNat (48+i)]:=by
 have:∀i:Fin 10,aad.extract i.val (i.val+1)=bs [UInt8.ofNat (48+i.val)]:=by decide +kernel
 exact this ⟨i,h⟩
theorem acq(i:Nat)(h:i<100):aae.extract (i*2) (i*2+2)=bs [UInt8.ofNat (48+i / 10),UInt8.ofNat (48+i%10)]:=by
 have:∀i:Fin 100,aae.extract (i.val*2) (i.val*2+2)=bs [UInt8.ofNat (48+i.val / 10),UInt8.ofNat (48+i.val%10)]:=by decide +kernel
 exact this ⟨i,h⟩
theorem Ks(i:Nat)(w)(a:i<100):Calls prog 49 #[.int .i64 i] w λe b=>e=.returned (.string (bs (decDigits i)))/\b=w:=by
 go_in;go_wp2
 all_goals go_ret
 ·refine⟨?_,rfl⟩;rw[Lib.decDigits_one (by omega),<-acp i (by omega)];rfl
 ·refine⟨?_,rfl⟩;rw[Lib.decDigits_two (by omega) a,<-acq i a];rfl
def Ek(a:World)(cls:List Nat):Prop:=(∀x∈cls,x<1000)/\∀x∈cls,∀w,bg a w->Calls prog 49 #[.int .i64 (x:Nat)] w λe b=>e=.returned (.string (bs (decDigits x)))/\bg w b
theorem um(b)(cls)(h:∀x∈cls,x<100):Ek b cls:=
 ⟨λx a=>by have:=h x a;omega,λx a w _=>(Ks x w (h x a)).mono (by rintro e c ⟨rfl,rfl⟩;exact⟨rfl,fp⟩)⟩
def lV(a b c d:Value)(e p:Nat):Array Value:=#[a,b,c,d,.int .i64 e,.int .i64 p]
theorem A5(w)(a d:Nat)(k l m o u)(e p c:Nat)(x y)(i:Nat)(n:Int)(id f g:Nat)(j:d≠a)(b:w.heap[a]?=some (.cells (lV k l m o e p) 115 (0,0)))(z:w.heap[d]?=some (.cells (dJ x i y n u id f g) 82 (0,0))):Calls prog 115 #[ptr a,.int .i64 c,ptr d] w λv q=>v=.returned (.string (bs [110]))/\w.grownBy q (some a)/\q.heap[a]?=some (.cells (lV k l m o (if e=0 then c else e) (if e=0 then i else p)) 115 (0,0)):=by
 have B:cg w a 4 (.int .i64 e):=dR b rfl;have C:cg w a 5 (.int .i64 p):=dR b rfl;have D:=aK b 4;have E:=aK b 5;have F:cg w d 1 (.int .i64 i):=dR z rfl;have r:a≠d:=λh=>j h.symm;show Calls _ _ #[Value.pointer (some ⟨a,0,none⟩),_,Value.pointer (some ⟨d,0,none⟩)] w _;by_cases s:e=0
 ·subst s;go_in;go_wp2;go_ret;refine⟨rfl,ji (nR w ⟨a,4,none⟩ _) (nR _ ⟨a,5,none⟩ _),?_⟩;exact bu (bu b 4 _) 5 _
 ·have A:((e:Int)==0)=false:=by rw[aH];omega
  have t:¬e=0:=s;go_in;go_wp2;go_ret;refine⟨rfl,World.grownBy.refl _ _,?_⟩
  first|exact b|(rw[ag t,ag t];exact b)
theorem Kt(r:Nat)(a b)(w)(h:r<1000)(hit:Calls prog 49 #[.int .i64 r] w λe c=>e=.returned (.string (bs (decDigits r)))/\bg w c)(i:a.txt.length+b.txt.length<=90000):Calls prog 172 #[.int .i64 r,.string (bs a.txt),.string (bs b.txt)] w λe c=>e=.returned (.string (bs (Ty.p r a b).txt))/\bg w c:=by
 have d:(ByteArray.mk #[60]).size=1:=rfl;have j:(bs (decDigits r)).size<=3:=by rw[eB];exact Mw r (by omega)
 have k:(ByteArray.mk #[60]++bs (decDigits r)).size<=4:=by rw[aX,d];omega
 have f:(ByteArray.mk #[58]).size=1:=rfl;have l:(ByteArray.mk #[60]++bs (decDigits r)++ByteArray.mk #[58]).size<=5:=by rw[aX,f];omega
 have m:(bs a.txt).size<=90000:=by rw[eB];omega
 have n:(ByteArray.mk #[60]++bs (decDigits r)++ByteArray.mk #[58]++bs a.txt).size<=90005:=by rw[aX];omega
 have o:(bs b.txt).size<=90000:=by rw[eB];omega
 have q:(ByteArray.mk #[60]++bs (decDigits r)++ByteArray.mk #[58]++bs a.txt++bs b.txt).size<=180005:=by rw[aX];omega
 have s:(ByteArray.mk #[62]).size=1:=rfl;go_in;go_wp2_with (go_at_call 49;refine hit.mono ?_;rintro e c ⟨rfl,g⟩);go_ret;refine⟨?_,g⟩;have e:(ByteArray.mk #[60]++bs (decDigits r)++ByteArray.mk #[58]++bs a.txt++bs b.txt++ByteArray.mk #[62])=bs (Ty.p r a b).txt:=by
  rw[show ByteArray.mk #[60]=bs [60] from rfl,show ByteArray.mk #[58]=bs [58] from rfl,show ByteArray.mk #[62]=bs [62] from rfl,eM,eM,eM,eM,eM];simp[Ty.txt]
 rw[<-e];rfl
