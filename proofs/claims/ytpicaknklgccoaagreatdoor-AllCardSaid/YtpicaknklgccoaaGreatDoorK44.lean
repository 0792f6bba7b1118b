import Derived.Test.YtpicaknklgccoaaGreatDoorK43
import Derived.Lib.AppendStr
set_option maxHeartbeats 8000000
set_option maxRecDepth 100000
namespace Go.Proofs.YtpicaknklgccoaaGreatDoor
open Tryz
open Go.RowKit
variable {w d:World}{a L:Nat}{b c z:Value}{y:List Int}{v:List NR}{u:List UInt8}
abbrev kU:=@Lib.run_append_own_string
theorem qX(s)(w)(x y:Nat)(a:∀w,Calls prog 31 #[.string s] w λv b=>∃c d e f g h,v=.returned (.tuple #[cG (.slice c d e) (.slice f g h),.int .i64 x,.int .i64 y])/\bg w b):Calls prog 25 #[.string s] w λv b=>v=.returned (.tuple #[.int .i64 x,.int .i64 y])/\bg w b:=by
 unfold cG at a;go_in;go_wp2_with fail;refine (a _).mono ?_;rintro _ j ⟨c,d,e,f,g,h,rfl,i⟩;go_wp2;refine au (v:=.tuple #[.int .i64 x,.int .i64 y]) (by simp[results,results25,go_sem]) rfl ⟨rfl,i.alloc i.size _⟩
theorem zO(s)(w)(x y:Nat)(h1:∀w,Calls prog 25 #[.string s] w λv a=>v=.returned (.tuple #[.int .i64 x,.int .i64 y])/\bg w a)(h2:∀w,Calls prog 76 #[.string s] w λv a=>v=.returned (.tuple #[.int .i64 x,.int .i64 y])/\bg w a):Calls prog 45 #[.string s] w λv a=>v=.returned (.bool true)/\bg w a:=by
 have e:((x:Int)==(x:Int))=true:=by simp
 have f:((y:Int)==(y:Int))=true:=by simp
 go_in;go_wp2_with fail;refine (h1 _).mono ?_;rintro _ g ⟨rfl,b⟩;go_wp2_with fail;refine (h2 _).mono ?_;rintro _ h ⟨rfl,c⟩;have d:=b.trans (c.mono b.size);go_wp2;go_ret;exact⟨rfl,d⟩
theorem LA(s)(w)(b:s.size<=maxLen):Calls prog 45 #[.string s] w λv f=>v=.returned (.bool true)/\bg w f:=by
 by_cases c:3000<s.size
 ·refine zO s w 1 0 (λw=>qX s w 1 0 (λw=>?_)) (λw=>Lw s w c b);exact (ko (.inl ⟨rfl,rfl⟩) s w c b).mono (λ_ _ h=>⟨_,_,_,_,_,_,h.1,h.2⟩)
 ·cases a:jt false s.data.toList with
  |some q=>
   refine zO s w 2 q (λw=>qX s w 2 q (λw=>?_)) (λw=>Lx s w (by omega) q a);exact (kr (.inl ⟨rfl,rfl,rfl,rfl⟩) s w (by omega) q a).mono (λ_ _ h=>⟨_,_,_,_,_,_,h.1,h.2⟩)
  |none=>
   obtain⟨e,d⟩:=qv a;exact zO s w (cK e).1 (cK e).2 (λw=>qX s w _ _ (λw=>qP s w (by omega) e d)) (λw=>Lz s w (by omega) e d a)
open Go.Lib (strCells)
theorem CU{P:Program}(w)(t u o e)(i:TypeInfo)(r:P.underlying t=some (.slice e))(x:P.underlying u=some .string)(y:P.info? e=some i)(B:i.zero=some (.int .u8 0))(a:i.size=1)(h:i.bytes=1)(d:Nat)(v)(n:Nat)(z)(b:w.ownsRow d e 1 v n z)(s)(f:n+s.size<=140737488355328)(j:d<=w.heap.size):∃p q,(Builtin.append_ #[t,u] o #[v,.string s]).run P w=.ok p q/\q.ownsRow d e 1 p (n+s.size) (z++strCells s)/\w.grownBy q v.ownBlock/\(∀g,p.ownBlock=some g->v.ownBlock=some g\/w.heap.size<=g):=by
 have k:n+s.size<=maxLen:=by unfold maxLen;omega
 obtain⟨p,q,A,h2,h3,O⟩:=kU (P:=P) w d t u o e i r x y B a h v n z b s k f j;refine⟨p,q,A,h2,h3,?_⟩;intro g C;rcases b.2 with⟨D,E⟩|⟨F,l,G,D,I,J,K,L,M,H⟩
 ·subst D;subst E;have Q:=jC (by simpa using b.1);obtain⟨R,S,c,N,_,_⟩:=kU (P:=P) w w.heap.size t u o e i r x y B a h (.slice none 0 0) 0 [] (lH w _ e 1) s k f bS;rw[A]at c;cases c;exact aE (N.lt g C).1
 ·subst D;by_cases m:n+s.size<=l
  ·have c:=Lib.run_append_room_string (P:=P) w t u o e i r x y a F n l G J s m (by omega);rw[A]at c;cases c;exact aD C
  ·have c:=Lib.run_append_grow_string (P:=P) w t u o e i (.int .u8 0) r x y B ⟨F,0,none⟩ n l z (by rw[a];exact b.1) (b.cells (g:=F) rfl) s (by omega) (by unfold maxLen at k;omega) (by rw[h];exact growslice_fits (by omega) (by omega));rw[A]at c;cases c;simp[Value.ownBlock]at C;exact aE (by omega)
theorem yG{P:Program}{f:Array Oper}{rest:List Oper}{o:Oper}{a}{Q}(p:o.guard=none)(y x:Operand)(t u)(z:o.op=.call {callee:=.builtin .append,args:=#[y,x],argTypes:=#[t,u]})(b:Nat)(e)(i:TypeInfo)(A:P.underlying t=some (.slice e))(B:P.underlying u=some .string)(C:P.info? e=some i)(D:i.zero=some (.int .u8 0))(c:i.size=1)(q:i.bytes=1)(v)(n:Nat)(r)(E:a.eval y=v)(j:w.ownsRow b e 1 v n r)(s)(F:a.eval x=.string s)(k:n+s.size<=140737488355328)(d:b<=w.heap.size)(h:∀l m,m.ownsRow b e 1 l (n+s.size) (r++strCells s)->w.grownBy m v.ownBlock->(∀g,l.ownBlock=some g->v.ownBlock=some g\/w.heap.size<=g)->wpList P f Q rest (a.put o.dst l) m):wpList P f Q (o::rest) a w:=by
 refine wpList_plain p λK G=>?_;obtain⟨l,m,H,h2,h3,I⟩:=CU (P:=P) w t u o.type e i A B C D c q b v n r j s k d;unfold Oper.wp execOp;simp only[z,resolve,invoke,builtin,Sem.run_bind,Sem.run_pure,Result.andThen_ok,List.map_toArray,bK,eH,E,F,H];exact G _ _ (h l m h2 h3 I)
theorem SY:(prog.info? 5).map (λi=>(i.zero,i.size,i.bytes))=some (some (.int .u8 0),1,1):=by kernel_rfl
theorem xA:prog.underlying 121=some (.slice 5):=by kernel_rfl
theorem CV:prog.underlying 9=some .string:=by kernel_rfl
structure Ly where
 lr:Value
 la:Value
 regs:List Int
 news:List Int
variable {x:Ly}
structure sM(L:Ly)(wb:Nat)(w:World)(nv ov v:Value)(tx:List UInt8): Prop where
 blk:w.heap[wb]?=some (.cells #[nv,ov,L.lr,L.la,v] 123 (0,0))
 row:w.ownsRow (wb+1) 5 1 v tx.length (strCells (bs tx))
structure qY(wb:Nat)(w w':World)(v v':Value): Prop where
 os:w'.os=w.os
 tape:w'.tape=w.tape
 output:w'.output=w.output
 size:w.heap.size<=w'.heap.size
 blk:∀k,k<w.heap.size->k≠wb->v.ownBlock≠some k->w'.heap[k]?=w.heap[k]?
 o:∀g,v'.ownBlock=some g->v.ownBlock=some g\/w.heap.size<=g
theorem qY.refl(a:Nat)(w)(v):qY a w w v v:=⟨rfl,rfl,rfl,bS,λ_ _ _ _=>rfl,λ_ h=>aD h⟩
theorem qY.trans{i}(h:qY a w d b c)(f:qY a d i c z):qY a w i b z:=by
 refine⟨f.os.trans h.os,f.tape.trans h.tape,f.output.trans h.output,bw h.size f.size,?_,?_⟩
 ·intro k j l m;rw[f.blk k (cT j h.size) l (λe=>by rcases h.o k e with e|e;exact m e;omega)];exact h.blk k j l m
 ·intro g n;rcases f.o g n with e|e
  ·exact h.o g e
  ·exact aE (bw h.size e)
theorem qY.pL(v)(h:bg w d):qY a w d v v:=⟨h.os,h.tape,h.output,h.size,λk b _ _=>h.block k b,λ_ h=>aD h⟩
theorem sM.below(h:sM x a w b c z u)(e:bg w d):sM x a d b c z u:=
 ⟨by rw[e.block a (aG h.blk)];exact h.blk,bE h.row e⟩
theorem rO(d:Nat)(w)(p q v)(f s)(h:sM x d w p q v f)(X:f.length+s.length<=400000000):Calls prog 111 #[.pointer (some ⟨d,0,none⟩),.string (bs s)] w λe P=>∃o,e=.returned (.tuple #[])/\qY d w P v o/\sM x d P p q o (f++s):=by
 obtain⟨R,S,r,t,u⟩:=cI SY;have y:=h.blk;have z:=aG y;have Y:cg w d 4 v:=dR y rfl;have T:=eB s;obtain⟨A,B,C,U⟩:∃a n c,v=.slice a n c:=by
  rcases h.row.2 with⟨h1,_⟩|⟨g,D,E,h1,_⟩
  ·exact⟨_,_,_,h1⟩
  ·exact⟨_,_,_,h1⟩
 subst U;go_in;go_wp2_with (at_builtin;go_must (refine yG rfl (.tmp 8) (.tmp 9) 121 9 rfl (d+1) 5 R xA CV S r t u _ f.length (strCells (bs f)) rfl h.row (bs s) rfl (by omega) (by omega) ?_));intro o F l b i;obtain⟨G,H,I,J⟩:∃a n c,o=.slice a n c:=by
  rcases l.2 with⟨h1,_⟩|⟨g,D,E,h1,_⟩
  ·exact⟨_,_,_,h1⟩
  ·exact⟨_,_,_,h1⟩
 subst J;have K:(Value.slice A B C).ownBlock≠some d:=λe=>by have:=(h.row.lt d e).1;omega
 have j:F.heap[d]?=some (.cells #[p,q,x.lr,x.la,.slice A B C] 123 (0,0)):=by rw[b.block d z (λe=>K e.symm)];exact y
 have V:cg F d 4 (.slice A B C):=dR j rfl;have Z:=aK j 4;have Q:=aG j;have m:=bu j 4 (.slice G H I);have W:F.ownsRow (d+1) 5 1 (.slice G H I) (f.length+s.length) (strCells (bs f)++strCells (bs s)):=l;go_wp2;refine bP (v:=.tuple #[]) (by simp[results,results111,go_sem]) rfl ⟨.slice G H I,rfl,?_,?_⟩
 ·refine⟨b.os,b.tape,b.output,by have:=b.size;simp[World.setCell];omega,?_,i⟩;intro k M N O;rw[lu N];exact b.block k M (λe=>O e.symm)
 ·refine⟨m,?_⟩;have e:strCells (bs f)++strCells (bs s)=strCells (bs (f++s)):=by simp[strCells,bs]
  have h:=W;rw[e]at h;rw[aj];refine bO h (λk M=>cX _ _ ?_);have:=(h.lt k M).1;simp only;omega
open Go.Lib (decDigits)
mutual
def om(c:List NR):PT->Nat->Prop
 |.num _ s,a=>∃n,c[a]?=some n/\n.form=1/\n.num=aQ s
 |.name _ s,a=>∃n,c[a]?=some n/\n.form=2/\n.word=s
 |.node _ k d _ b,a=>(∃n,c[a+aU b]?=some n/\n.form=dX k/\n.word=d/\n.p0=(cz b a).getD 0 (-1)/\n.p1=(cz b a).getD 1 (-1)/\n.p2=(cz b a).getD 2 (-1))/\qZ c b a
def qZ(c:List NR):List PT->Nat->Prop
 |[],_=>True
 |t::r,a=>om c t a/\qZ c r (a+t.cnt)
end
mutual
theorem NA.shows:∀{i:Sc}{t:PT}{d:Nat}{l:List NR},NA i t d l->∀(f e:List NR),f.length=d->om (f++(l++e)) t d
 |_,.num _ s,_,_,h,f,e,j=>by
  simp only[NA]at h;subst h;subst j;simp only[om];exact⟨_,tI f _ e 0 _ rfl,rfl,rfl⟩
 |_,.name _ s,_,_,h,f,e,j=>by
  simp only[NA]at h;subst h;subst j;simp only[om];exact⟨_,tI f _ e 0 _ rfl,rfl,rfl⟩
 |_,.node p k n u g,d,_,h,f,e,j=>by
  simp only[NA]at h;obtain⟨o,m,h1,rfl⟩:=h;have q:=j6.len h1;simp only[om];refine⟨⟨⟨dX k,p,m,0,n,aQ u,-1,(cz g d).getD 0 (-1),(cz g d).getD 1 (-1),(cz g d).getD 2 (-1)⟩,?_,rfl,rfl,rfl,rfl,rfl⟩,?_⟩
  ·rw[<-q];conv=>lhs;rw[show d+o.length=f.length+o.length from by rw[j]]
   refine tI f _ e o.length _ ?_;rw[aw bS,cx];rfl
  ·have h2:=j6.shows h1 f (⟨dX k,p,m,0,n,aQ u,-1,(cz g d).getD 0 (-1),(cz g d).getD 1 (-1),(cz g d).getD 2 (-1)⟩::e) j;rw[aB,cQ];exact h2
theorem j6.shows:∀{i:Sc}{n:List UInt8}{v:List PT}{bs:List Bool}{d:Nat}{l:List NR},j6 i n v bs d l->∀(f e:List NR),f.length=d->qZ (f++(l++e)) v d
 |_,_,[],_,_,_,_,_,_,_=>by simp[qZ]
 |_,_,_::_,[],_,_,h,_,_,_=>by simp[j6]at h
 |_,_,t::r,b::bs,_,_,h,f,e,j=>by
  simp only[j6]at h;obtain⟨a,c,h1,h2,rfl⟩:=h;have q:=NA.len h1;simp only[qZ];constructor
  ·have:=NA.shows h1 f (c++e) j;rw[aB];exact this
  ·have:=j6.shows h2 (f++a) e (by rw[aj,q,j]);simp only[aB]at this⊢;exact this
end
theorem NA.LB{a}{t}(h:NA a t 0 v):om v t 0:=by
 have:=NA.shows h [] [] rfl;simpa using this
theorem LC(k)(w)(a:k≠.new):Calls prog 169 #[.int .i64 (dX k)] w λv b=>v=.returned (.string (bs k.bytes))/\b=w:=by
 cases k<;>first|exact absurd rfl a|(go_in;go_wp2;go_ret;exact⟨rfl,rfl⟩)
def P9:Kw->Int
 |.dV=>0
 |.loop=>1
 |_=>-1
theorem xB(k)(w):Calls prog 170 #[.int .i64 (dX k)] w λv a=>v=.returned (.int .i64 (P9 k))/\a=w:=by
 cases k<;>(go_in;go_wp2;go_ret;exact⟨rfl,rfl⟩)
def opR(r:Nat):List UInt8:=[40,110,101,119]++([32,35]++(decDigits r++[32]))
def xR:List Int->Nat->Int->List UInt8
 |[],_,_=>[]
 |a::l,r,i=>(if a=i then opR r else [])++xR l (r+1) i
def yH(a:List Int)(i:Int):Nat:=(a.filter (·==i)).length
def Zp(a:List Int)(i:Int):List UInt8:=List.replicate (yH a i) 41
def rU(a:List Int)(i:Nat):Int:=(a[i]?).getD (-1)
def SZ(a:List Int)(i:Nat):List UInt8:=if rU a i=-1 then [] else [32,35]++decDigits (rU a i).toNat
mutual
def PT.A2(c a:List Int):PT->Nat->List UInt8
 |.num _ s,_=>decDigits (aQ s).toNat
 |.name _ s,_=>s
 |.node _ k e _ d,b=>if k=.new then (mD c a d b).headD [] else 40::(k.bytes++(SZ c (b+aU d)++(gB k e 0 (mD c a d b)++[41])))
def mD(c a:List Int):List PT->Nat->List (List UInt8)
 |[],_=>[]
 |t::r,b=>(xR a 0 ((b+t.cnt:Nat)-1:Int)++(PT.A2 c a t b++Zp a ((b+t.cnt:Nat)-1:Int)))::mD c a r (b+t.cnt)
end
def PT.yI(c a:List Int)(t:PT)(b:Nat):List UInt8:=xR a 0 ((b+t.cnt:Nat)-1:Int)++(t.A2 c a b++Zp a ((b+t.cnt:Nat)-1:Int))
theorem Ji(i a:Int):∀(l:List Int)(r:Nat),xR (l++[a]) r i=xR l r i++(if a=i then opR (r+l.length) else [])
 |[],r=>by simp[xR]
 |x::l,r=>by
  simp[xR,Ji i a l (r+1)];rw[show r+1+l.length=r+(l.length+1) by omega]
theorem S0(l)(a i:Int):yH (l++[a]) i=yH l i+(if a=i then 1 else 0):=by
 unfold yH;by_cases h:a=i<;>simp[h]
theorem Nu(r:Nat)(h:r<=9999):(opR r).length<=11:=by
 have:=nU r h;unfold opR;simp;omega
theorem Bg(i:Int):∀(l:List Int)(r:Nat),r+l.length<=9999->(xR l r i).length<=11*l.length
 |[],_,_=>by simp[xR]
 |a::l,r,h=>by
  simp at h;have h1:=Bg i l (r+1) (by omega);have h2:=Nu r (by omega);simp[xR];split
  ·omega
  ·simp;omega
theorem LD(l)(i:Int):yH l i<=l.length:=ij _ _
theorem Ge(a)(i:Nat)(h:rU a i<=9999):(SZ a i).length<=6:=by
 unfold SZ;split
 ·simp
 ·have:=nU (rU a i).toNat (by omega);simp only[aj,aF,bn];omega
structure LyB(regs news:List Int): Prop where
 n:news.length<=150
 r:∀i,rU regs i<=9999
theorem uW(k)(a)(h:a.length<=9000):∀(l:List (List UInt8))(i:Nat)(B:Nat),(l.map λx=>x.length+9002).sum<=B->(gB k a i l).length<=B
 |[],_,_,_=>by simp[gB]
 |x::r,i,B,b=>by
  simp at b;have h1:=uW k a h r (i+1) (B-(x.length+9002)) (by omega);have h2:=BN k a i x h;simp[gB];omega
mutual
theorem Nv{c a}(H:LyB c a):∀(t:PT)(b:Nat),t.eO->(t.A2 c a b).length+9002+1800<=20000*t.cnt
 |.num _ s,_,h=>by
  simp only[PT.eO]at h;simp only[PT.A2,PT.cnt];have:=nU (aQ s).toNat (by omega);omega
 |.name _ s,_,h=>by simp only[PT.eO]at h;simp only[PT.A2,PT.cnt];omega
 |.node _ k g _ d,b,h=>by
  simp only[PT.eO]at h;have e:=CW H d b h.2;have h1:=uW k g h.1 (mD c a d b) 0 _ e;have h3:k.bytes.length<=4:=by cases k<;>decide
  have i:=Ge c (b+aU d) (H.r _);have j:((mD c a d b).headD []).length<=20000*aU d:=by
   cases l:mD c a d b with
   |nil=>simp
   |cons x r=>rw[l]at e;simp only[bK,fN,mZ]at e⊢;omega
  simp only[PT.A2,PT.cnt];split
  ·omega
  ·simp only[aF,aj,bn];omega
theorem CW{c a}(H:LyB c a):∀(f:List PT)(b:Nat),gJ f->((mD c a f b).map λx=>x.length+9002).sum<=20000*aU f
 |[],_,_=>by simp[mD]
 |t::r,b,h=>by
  simp only[gJ]at h;have h1:=Nv H t b h.1;have h2:=CW H r (b+t.cnt) h.2;have h3:=Bg ((b+t.cnt:Nat)-1:Int) a 0 (by have:=H.n;omega);have i:=LD a ((b+t.cnt:Nat)-1:Int);have j:=H.n;simp only[mD,bK,fN,aU,aj,Zp,jH];omega
end
theorem zP(a c):∀(d:List PT)(b j:Nat),mD a c (d.take j) b=(mD a c d b).take j
 |[],b,j=>by simp[mD]
 |t::r,b,0=>by simp[mD]
 |t::r,b,j+1=>by simp[mD,zP a c r (b+t.cnt) j]
theorem Jj(a c):∀(d:List PT)(b j:Nat)(x:PT),d[j]?=some x->(mD a c d b)[j]?=some (x.yI a c (b+aU (d.take j)))
 |[],_,_,_,h=>by simp at h
 |t::r,b,0,x,h=>by simp only[aL,ai]at h;subst h;simp[mD,PT.yI,aU]
 |t::r,b,j+1,x,h=>by
  have:=Jj a c r (b+t.cnt) j x (by simpa using h);simp[mD,aU,<-aY];exact this
theorem uX(a c):∀(d:List PT)(b:Nat),(mD a c d b).length=d.length
 |[],_=>rfl
 |t::r,b=>by simp[mD,uX a c r]
def rV(a c:List Int)(k:Kw)(e:List UInt8)(d:List PT)(b i j:Nat):List UInt8:=40::(k.bytes++(SZ a i++gB k e 0 (mD a c (d.take j) b)))
theorem Qa(c d)(k)(e)(a)(b i j:Nat)(x)(f:a[j]?=some x):rV c d k e a b i (j+1)=rV c d k e a b i j++lK k e j (x.yI c d (b+aU (a.take j))):=by
 have g:=(ae.1 f).1;unfold rV;rw[zP,zP,cW,Jj c d a b j x f];simp only[eT];rw[s9,cS,uX,dL (by omega),bJ];simp
theorem Jk{c}(H:LyB y c)(k)(d)(a)(b i j:Nat)(e:d.length<=9000)(f:gJ a):(rV y c k d a b i j).length<=11+20000*aU (a.take j):=by
 have h1:=uW k d e (mD y c (a.take j) b) 0 _ (CW H (a.take j) b (xz a j f));have h3:k.bytes.length<=4:=by cases k<;>decide
 have g:=Ge y i (H.r _);unfold rV;simp;omega
theorem S5(c d)(p:Nat)(k)(e f)(a)(b:Nat)(g:k≠.new):rV c d k e a b (b+aU a) a.length++[41]=(PT.node p k e f a).A2 c d b:=by
 unfold rV;simp[PT.A2,g]
mutual
theorem Nw:∀(t:PT)(b:Nat),t.A2 [] [] b=t.uh
 |.num _ _,_=>rfl
 |.name _ _,_=>rfl
 |.node _ k d _ a,b=>by simp[PT.A2,PT.uh,Jl a b,SZ,rU]
theorem Jl:∀(c:List PT)(b:Nat),mD [] [] c b=pS c
 |[],_=>rfl
 |t::r,b=>by simp[mD,pS,Nw t b,Jl r,xR,Zp,yH]
end
theorem Wf(t:PT)(b:Nat):t.yI [] [] b=t.uh:=by simp[PT.yI,Nw,xR,Zp,yH]
def mi(l:List Int):List Value:=l.map λk=>Value.int .i64 k
structure CX(w:World)(L:Ly): Prop where
 r:w.ownsRow 0 3 1 L.lr L.regs.length (mi L.regs)
 a:w.ownsRow 0 3 1 L.la L.news.length (mi L.news)
theorem CX.below(h:CX w x)(b:bg w d):CX d x:=⟨bE h.r b,bE h.a b⟩
structure wo (L:Ly) (wb:Nat) (w:World) (nv ov:Value) (ns:List NR) (op:List Int):Prop where
 tree:∀w',Below wb w w'->ew w' nv ov ns op
 tab:Lib.TabBelow prog wb w "internal/strconv.uint64pow10" .u64 Lib.pow10Tab
 len:ns.length<=9000
 lay:∀w',Below wb w w'->CX w' L
 bd:LyB L.regs L.news
 rl:L.regs.length<=9000
theorem wo.on(h:wo x a w b c v y)(e:Below a w d):wo x a d b c v y:=⟨λf g=>h.tree f (e.trans g),h.tab.on e,h.len,λf g=>h.lay f (e.trans g),h.bd,h.rl⟩
theorem qY.below(h:qY a w d b c)(i:a<=w.heap.size)(f:∀g,b.ownBlock=some g->a<g):Below a w d:=
 ⟨h.os,h.tape,h.output,h.size,λk j=>h.blk k (by omega) (by omega) (λe=>by have:=f k e;omega)⟩
theorem sM.fr{e}(h:sM x a w b c z u)(f:qY a w d z e):Below a w d:=
 f.below (gi (aG h.blk)) (λg i=>by have:=(h.row.lt g i).1;omega)
def Jm(L:Ly)(b:Nat)(c d:Value)(f:List NR)(j:List Int)(t:PT):Prop:=∀(a:Nat)(w:World)(v:Value)(g:List UInt8),om f t a->t.eO->t.wf->a+t.cnt<=f.length->g.length+22000*t.cnt<=200000000->
 sM L b w c d v g->wo L b w c d f j->Calls prog 67 #[.pointer (some ⟨b,0,none⟩),.int .i64 (((a+t.cnt:Nat):Int)-1)] w λe h=>∃i,e=.returned (.tuple #[])/\qY b w h v i/\sM L b h c d i (g++t.yI L.regs L.news a)
def S9(L:Ly)(b:Nat)(c d:Value)(f:List NR)(j:List Int)(t:PT):Prop:=∀(a:Nat)(w:World)(v:Value)(g:List UInt8),om f t a->t.eO->t.wf->a+t.cnt<=f.length->g.length+22000*t.cnt<=200001650->
 sM L b w c d v g->wo L b w c d f j->Calls prog 110 #[.pointer (some ⟨b,0,none⟩),.int .i64 (((a+t.cnt:Nat):Int)-1)] w λe h=>∃i,e=.returned (.tuple #[])/\qY b w h v i/\sM L b h c d i (g++t.A2 L.regs L.news a)
theorem ints_at(h:w.ownsRow 0 3 1 (.slice (some ⟨a,0,none⟩) y.length L) y.length (mi y))(k:Nat)(x:Int)(b:y[k]?=some x):w.cell? ⟨a,k,none⟩=some (.int .i64 x):=by
 rw[h.cellAt k (by have:=(ae.1 b).1;omega)];unfold mi;rw[aC,b];rfl
theorem Jn(w)(L)(h:CX w L):Calls prog 138 #[.agg #[L.lr,L.la]] w λv b=>v=.returned (.int .i64 L.news.length)/\bg w b:=by
 obtain⟨e,c0,c⟩:=cm h.r;obtain⟨f,g,d⟩:=cm h.a;rw[c,d];generalize L.news.length=m;generalize L.regs.length=n;go_in;go_wp2;go_ret;exact⟨rfl,fp.alloc bS _⟩
theorem LF(w)(L)(h:CX w L)(o:L.regs.length<=9000)(i:Nat)(p:i<=9000):Calls prog 141 #[.agg #[L.lr,L.la],.int .i64 i] w λv f=>v=.returned (.int .i64 (rU L.regs i))/\bg w f:=by
 have d:=h.r;obtain⟨q,s,j⟩:=cm h.a;rw[j];generalize L.news.length=m;generalize L.lr=t at*;generalize L.regs=l at*;by_cases b:i<l.length
 ·obtain⟨g,k,rfl⟩:=gN d (by omega);have c:=ints_at d i l[i] (aa b);have e:rU l i=l[i]:=by unfold rU;rw[aa b];rfl
  rw[e];have u:=(d.lt g rfl).2;generalize l[i]=x at*;generalize l.length=n at*;go_in;go_wp2;go_ret;exact⟨rfl,fp.alloc bS _⟩
 ·have e:rU l i=-1:=by unfold rU;rw[bH (by omega)];rfl
  rw[e];obtain⟨y,c0,rfl⟩:=cm d;generalize l.length=n at*;go_in;go_wp2;go_ret;exact⟨rfl,fp.alloc bS _⟩
theorem Qb(w)(L)(h:CX w L)(i:Nat)(x:Int)(d:L.news[i]?=some x)(o:L.news.length<=9000):Calls prog 139 #[.agg #[L.lr,L.la],.int .i64 i] w λv e=>v=.returned (.int .i64 x)/\bg w e:=by
 have b:=h.a;obtain⟨p,q,f⟩:=cm h.r;rw[f];generalize L.regs.length=m;generalize L.la=s at*;generalize L.news=l at*;have j:=(ae.1 d).1;obtain⟨g,k,rfl⟩:=gN b (by omega);have c:=ints_at b i x d;have t:=(b.lt g rfl).2;generalize l.length=n at*;go_in;go_wp2;go_ret;exact⟨rfl,fp.alloc bS _⟩
theorem wo.itoa(h:wo x a w b c v y)(m:Nat)(f:m<=9999):Calls prog 49 #[.int .i64 m] w λe d=>e=.returned (.string (bs (decDigits m)))/\bg w d:=
 rI w (h.tab w fp) m w (by omega) fp
theorem wG(L)(b:Nat)(w)(f g v)(z)(A)(c)(m:Nat)(B:m<=9999)(i:sM L b w f g v c)(j:wo L b w f g z A)(G:c.length<=390000000):Calls prog 140 #[.pointer (some ⟨b,0,none⟩),.int .i64 m] w λe a=>∃d,e=.returned (.tuple #[])/\qY b w a v d/\sM L b a f g d (c++([32,35]++decDigits m)):=by
 have H:=nU m B;have o:=rO b w f g v c [32,35] i (by simp;omega);have p:∀(a:World)(d:Value),qY b w a v d->Calls prog 49 #[.int .i64 m] a λe y=>e=.returned (.string (bs (decDigits m)))/\bg a y:=λa d C=>(j.on (i.fr C)).itoa m (by omega);have D:c++[32,35]++decDigits m=c++([32,35]++decDigits m):=by simp
 have q:=λ(a:World)(d:Value)(h:sM L b a f g d (c++[32,35]))=>rO b a f g d (c++[32,35]) (decDigits m) h (by simp;omega);go_in;go_wp2_with fail;refine ay o ?_;rintro _ I ⟨E,rfl,k,r⟩;go_wp2_with fail;refine (p _ _ k).mono ?_;rintro _ y ⟨rfl,l⟩;have s:=r.below l;have t:=k.trans (qY.pL E l);go_wp2_with fail;refine (q _ _ s).mono ?_;rintro _ J ⟨F,rfl,u,n⟩;rw[D]at n;have x:=t.trans u;go_wp2_with fail;refine bP (v:=.tuple #[]) (by simp[results,results140,go_sem]) rfl ⟨F,rfl,x,n⟩
theorem Gf(L)(f:Nat)(w)(t u v)(ns)(op)(Y)(i:Nat)(F:sM L f w t u v Y)(p:wo L f w t u ns op)(hl:Y.length<=200000000):Calls prog 109 #[.pointer (some ⟨f,0,none⟩),.int .i64 i] w λe d=>∃g,e=.returned (.int .i64 (yH L.news i))/\qY f w d v g/\sM L f d t u g (Y++xR L.news 0 i):=by
 have l:=λ(d:World)(g:Value)(h:qY f w d v g)=>p.lay d (F.fr h);have xP:=p.bd.n;have G:=λ(d:World)(g:Value)(h:qY f w d v g)=>Jn d L (l d g h);have H:=λ(d:World)(g:Value)(h:qY f w d v g)(k:Nat)(x:Int)(I:L.news[k]?=some x)=>Qb d L (l d g h) k x I (by omega);have hPR:=λ(d:World)(g:Value)(c:List UInt8)(k:Nat)(hk:k<=9999)(h:qY f w d v g)(h1:sM L f d t u g c)(hl':c.length<=390000000)=>wG L f d t u g ns op c k hk h1 (p.on (F.fr h)) hl';have hp4:∀d g c (h:sM L f d t u g c) (hl:c.length<=390000000),Calls prog 111 #[.pointer (some ⟨f,0,none⟩),.string ⟨#[40,110,101,119]⟩] d λe Z=>∃v2,e=.returned (.tuple #[])/\qY f d Z g v2/\sM L f Z t u v2 (c++[40,110,101,119]):=λd g c h hl=>rO f d _ _ g c [40,110,101,119] h (by simp;omega);have Ta:∀d g c (h:sM L f d t u g c) (hl:c.length<=390000000),Calls prog 111 #[.pointer (some ⟨f,0,none⟩),.string ⟨#[32]⟩] d λe Z=>∃v2,e=.returned (.tuple #[])/\qY f d Z g v2/\sM L f Z t u v2 (c++[32]):=λd g c h hl=>rO f d _ _ g c [32] h (by simp;omega);have hlen:∀k,(xR (L.news.take k) 0 i).length<=11*150:=λk=>by
  have:=Bg i (L.news.take k) 0 (by simp only[cS];omega);simp only[cS]at this;omega
 have J:∀k x,L.news[k]?=some x->L.news.take (k+1)=L.news.take k++[x]:=λk x I=>by rw[cW,I];rfl
 have j:∀(d:World)(g:Value)(c:List UInt8),sM L f d t u g c->d.cell? ⟨f,2,none⟩=some L.lr/\d.cell? ⟨f,3,none⟩=some L.la/\f<d.heap.size:=λd g c h=>⟨by rw[aI h.blk];rfl,by rw[aI h.blk];rfl,aG h.blk⟩;obtain⟨a0,c0,e0⟩:=cm (l w v (qY.refl _ _ _)).r;obtain⟨a1,c1,D⟩:=cm (l w v (qY.refl _ _ _)).a;rw[e0,D]at G H j;obtain⟨m,hm⟩:=ez L.news.length;have HM:Hid _:=hm;rw[<-hm]at G H j xP;generalize L.regs.length=nr at*;clear l p e0 D hm;go_in;go_wp2;go_loopw [5,6] (λa b wr=>∃(k:Nat)(vr:Value),k<=m/\a=.int .i64 (yH (L.news.take k) i)/\b=.int .i64 k/\qY f w wr v vr/\sM L f wr t u vr (Y++xR (L.news.take k) 0 i)) (λ_ b _=>m-(intOf b).toNat)
 case atStart=>exact⟨0,v,by omega,rfl,rfl,qY.refl _ _ _,by simpa [xR] using F⟩
 case round=>
  obtain⟨k,vr,hk,rfl,rfl,K,y⟩:=hrel;obtain⟨y2,y3,yl⟩:=j _ _ _ y;have hre:=G _ _ K;have hll:=hlen k;have hcn:=by have:=LD (L.news.take k) i;simp only[cS]at this;omega
  have E:Hid _:=y;clear y;go_wp2_with fail;refine hre.mono ?_;rintro _ w1 ⟨rfl,M⟩;refine bY (K.trans (qY.pL vr M)) (E.below M) λA z=>?_;clear M hre K E y2 y3 yl;obtain⟨y2,y3,yl⟩:=j _ _ _ z;by_cases hlt:k<m
  ·have hkl:k<L.news.length:=by have:=HM.out;omega
   obtain⟨x,I⟩:∃x,L.news[k]?=some x:=⟨L.news[k],aa hkl⟩;have hab:=H _ _ A k x I;have N:=J k x I;have O:=Ji i x (L.news.take k) 0;have P:=S0 (L.news.take k) x i;rw[<-N,cS,dL (by omega),bJ]at O;rw[<-N]at P;refine bY O P λB C=>?_;clear I N O P hkl;go_wp2_with fail;refine hab.mono ?_;rintro _ Z ⟨rfl,Q⟩;refine bY (A.trans (qY.pL vr Q)) (z.below Q) λR s=>?_;clear Q hab A z y2 y3 yl;by_cases o:x=(i:Int)
   ·have q:(x==(i:Int))=true:=by rw[o];simp
    have D:Y++xR (L.news.take k) 0 i++[40,110,101,119]++([32,35]++decDigits k)++[32]=Y++xR (L.news.take (k+1)) 0 i:=by rw[B.out,ah o];simp[opR]
    have e2:yH (L.news.take (k+1)) i=yH (L.news.take k) i+1:=by rw[C.out,ah o]
    refine bY D e2 λHE1 S=>?_;have hd4:=nU k (by omega);clear o D e2 B C;go_wp2_with fail;refine (hp4 _ _ _ s (by simp;omega)).mono ?_;rintro _ w3 ⟨v3,rfl,hf3,J6⟩;refine bY (R.trans hf3) J6 λT HI3=>?_;clear hf3 J6 R s;go_wp2_with fail;refine (hPR _ _ _ k (by omega) T HI3 (by simp;omega)).mono ?_;rintro _ w4 ⟨v4,rfl,Zm,hi4⟩;refine bY (T.trans Zm) hi4 λyA HI4=>?_;clear Zm hi4 T HI3;go_wp2_with fail;refine (Ta _ _ _ HI4 (by simp;omega)).mono ?_;rintro _ w5 ⟨v5,rfl,I8,U⟩;rw[HE1.out]at U;refine bY (yA.trans I8) U λDV V=>?_;clear I8 U yA HI4;generalize yH (L.news.take k) i=cc at*;go_wp2;go_roundw
    case rel=>exact⟨k+1,v5,by omega,by rw[S.out];go_num,by go_num,DV.out,V.out⟩
    case measure=>simp[intOf];omega
   ·have q:(x==(i:Int))=false:=by rw[aH];exact o
    have W:=s;have e2:yH (L.news.take (k+1)) i=yH (L.news.take k) i:=by rw[C.out,ag o];rfl
    have D:xR (L.news.take k) 0 i=xR (L.news.take (k+1)) 0 i:=by rw[B.out,ag o];simp
    rw[D]at W;refine bY W e2 λV S=>?_;clear o D e2 B C W s;generalize yH (L.news.take k) i=cc at*;go_wp2;go_roundw
    case rel=>exact⟨k+1,vr,by omega,by rw[S.out],by go_num,R.out,V.out⟩
    case measure=>simp[intOf];omega
  ·have M7:k=L.news.length:=by have:=HM.out;omega
   have et:L.news.take k=L.news:=by rw[M7];exact fR
   have X:=z;rw[et]at X⊢;have s:Hid _:=X;clear X et M7 z;go_wp2;go_ret;exact⟨_,rfl,A,s⟩
theorem Gg(L)(d:Nat)(q r)(I)(J)(t)(hf:S9 L d q r I J t):Jm L d q r I J t:=by
 intro b w v g K x N O Y y c;have Mx:=fj t;obtain⟨M,Z⟩:∃M:Nat,(((b+t.cnt:Nat):Int)-1)=(M:Int):=⟨b+t.cnt-1,by omega⟩;have P:=Gf L d w q r v I J g M y c (by omega);have hol:=Bg (M:Int) L.news 0 (by have:=c.bd.n;omega);have GR:=LD L.news (M:Int);have xP:=c.bd.n;have hfl:=Nv c.bd t b x;have A:=λ(i:World)(m:Value)(hb:qY d w i v m)(h1:sM L d i q r m (g++xR L.news 0 M))=>hf b i m (g++xR L.news 0 M) K x N O (by simp;omega) h1 (c.on (y.fr hb));have hw:t.yI L.regs L.news b=xR L.news 0 M++(t.A2 L.regs L.news b++List.replicate (yH L.news M) 41):=by unfold PT.yI Zp;rw[Z]
 rw[Z]at A⊢;rw[hw];have B:∀i m f (h:sM L d i q r m f) (hl:f.length<=390000000),Calls prog 111 #[.pointer (some ⟨d,0,none⟩),.string ⟨#[41]⟩] i λe Q=>∃G,e=.returned (.tuple #[])/\qY d i Q m G/\sM L d Q q r G (f++[41]):=λi m f h hl=>rO d i _ _ m f [41] h (by simp;omega);generalize t.A2 L.regs L.news b=s at*;generalize xR L.news 0 M=u at*;generalize yH L.news M=k at*;have e0:g++u++s=g++u++s++List.replicate 0 41:=by simp
 have C:∀j,g++u++s++List.replicate j 41++[41]=g++u++s++List.replicate (j+1) 41:=λj=>by rw[aB,<-List.replicate_succ']
 have D:g++u++s++List.replicate k 41=g++(u++(s++List.replicate k 41)):=by simp
 have R:=by have:=c.len;omega
 generalize t.cnt=tc at*;go_in;go_wp2_with fail;refine P.mono ?_;rintro _ w1 ⟨v1,rfl,E,S⟩;go_wp2_with fail;refine (A _ _ E S).mono ?_;rintro _ Q ⟨G,rfl,l,o⟩;rw[e0]at o;have HF:=E.trans l;go_wp2;go_loopw [4] (λa wr=>∃(j:Nat)(H:Value),j<=k/\a=.int .i64 ((k-j:Nat):Int)/\qY d w wr v H/\sM L d wr q r H (g++u++s++List.replicate j 41)) (λa _=>(intOf a).toNat)
 case atStart=>exact⟨0,G,by omega,by simp,HF,o⟩
 case round=>
  obtain⟨j,H,hj,rfl,l,p⟩:=hrel;by_cases hlt:j<k
  ·have T:=C j;obtain⟨z,hz⟩:∃z,k-j=z+1:=⟨k-j-1,by omega⟩;rw[hz];have U:k-(j+1)=z:=by omega
   go_wp2_with fail;refine (B _ _ _ p (by simp;omega)).mono ?_;rintro _ w3 ⟨v3,rfl,V,F⟩;rw[T]at F;have W:=l.trans V;go_wp2;go_roundw
   case rel=>exact⟨j+1,v3,by omega,by rw[U];first|done|go_num,W,F⟩
   case measure=>simp[intOf]
  ·have X:j=k:=by omega
   subst X;have hi:=p;rw[D]at hi;rw[show j-j=0 by omega];go_wp2;refine bP (v:=.tuple #[]) (by simp[results,results67,go_sem]) rfl ⟨H,rfl,l,hi⟩
theorem Wg(L)(e:Nat)(k)(l m:Nat)(o)(q r:Nat)(A)(B)(p:Nat)(s):S9 L e (.slice k l m) (.slice o q r) A B (.name p s):=by
 intro a w v C f t E u g i b;simp only[om]at f;obtain⟨n,F,G,x⟩:=f;simp only[PT.eO]at t;simp only[PT.cnt]at u g;have d:=kS w (.slice k l m) (.slice o q r) A B (b.tree w fp) a n F b.len;have H:=b.len;have y:=i.blk;have M:cg w e 0 (.slice k l m):=dR y rfl;have N:cg w e 1 (.slice o q r):=dR y rfl;have I:=λD (h:sM L e D (.slice k l m) (.slice o q r) v C)=>rO e D _ _ v C s h (by omega);have J:=aG y;unfold cG dK at d;rw[G,x]at d;simp only[PT.A2,PT.cnt];rw[show (((a+1:Nat):Int)-1)=(a:Int) from by omega];go_in;go_wp2_with (first
  |(go_at_call 94;refine d.mono ?_;rintro _ O ⟨rfl,c⟩)
  |(go_at_call 111;refine (I _ (i.below (c.alloc c.size _))).mono ?_;rintro _ P ⟨K,rfl,z,j⟩))
 refine bP (v:=.tuple #[]) (by simp[results,results110,go_sem]) rfl ⟨K,rfl,(qY.pL v (c.alloc c.size _)).trans z,j⟩
theorem Zq(L)(g:Nat)(r)(t u:Nat)(x)(y z:Nat)(E)(F)(p:Nat)(s):S9 L g (.slice r t u) (.slice x y z) E F (.num p s):=by
 intro c w v G i A J B j k b;simp only[om]at i;obtain⟨n,K,M,l⟩:=i;simp only[PT.eO]at A;simp only[PT.cnt]at B j;obtain⟨m,H⟩:∃m:Nat,aQ s=m:=⟨(aQ s).toNat,by omega⟩;have f:=kS w (.slice r t u) (.slice x y z) E F (b.tree w fp) c n K b.len;have N:=b.len;have C:=k.blk;have R:cg w g 0 (.slice r t u):=dR C rfl;have S:cg w g 1 (.slice x y z):=dR C rfl;have O:=nU m (by omega);have hit:∀d,bg w d->Calls prog 49 #[.int .i64 m] d λe I=>e=.returned (.string (bs (decDigits m)))/\bg d I:=
  λd h=>rI d (b.tab d (h.mono (gi (aG C)))) m d (by omega) fp
 have P:=λd (h:sM L g d (.slice r t u) (.slice x y z) v G)=>rO g d _ _ v G (decDigits m) h (by omega);unfold cG dK at f;rw[M,l,H]at f;simp only[PT.A2,PT.cnt];rw[show (((c+1:Nat):Int)-1)=(c:Int) from by omega,H,bL];go_in;go_wp2_with (first
  |(go_at_call 94;refine f.mono ?_;rintro _ T ⟨rfl,a⟩)
  |(go_at_call 49;refine (hit _ (a.alloc a.size _)).mono ?_;rintro _ I ⟨rfl,o⟩)
  |(go_at_call 111;refine (P _ (k.below ((a.alloc a.size _).trans (o.mono (a.alloc a.size _).size)))).mono ?_;rintro _ U ⟨Q,rfl,D,q⟩))
 refine bP (v:=.tuple #[]) (by simp[results,results110,go_sem]) rfl ⟨Q,rfl,(qY.pL v ((a.alloc a.size _).trans (o.mono (a.alloc a.size _).size))).trans D,q⟩
theorem Zr(L)(j:Nat)(k)(l m:Nat)(o)(q r:Nat)(A)(B)(p:Nat)(P Q)(x)(R:Jm L j (.slice k l m) (.slice o q r) A B x):S9 L j (.slice k l m) (.slice o q r) A B (.node p .new P Q [x]):=by
 intro a w v S s g h D e t b;simp only[om,qZ]at s;obtain⟨⟨n,E,u,F,y,G,H⟩,T,_⟩:=s;have U:=u;simp only[PT.eO,gJ]at g;simp only[PT.wf,rH]at h;simp only[PT.cnt,aU,az]at D e E;have X:=fj x;obtain⟨M,V⟩:∃M:Nat,(((a+x.cnt:Nat):Int)-1)=(M:Int):=⟨a+x.cnt-1,by omega⟩;have Y:=by have:=b.len;omega
 have f:n.p0=(M:Int):=by rw[y,<-V];rfl
 have c:=kS w (.slice k l m) (.slice o q r) A B (b.tree w fp) (a+x.cnt) n E b.len;have Z:=b.len;have C:=t.blk;have y0:cg w j 0 (.slice k l m):=dR C rfl;have y1:cg w j 1 (.slice o q r):=dR C rfl;have d:=λI (h1:sM L j I (.slice k l m) (.slice o q r) v S) (h2:wo L j I (.slice k l m) (.slice o q r) A B)=>R a I v S T g.2.1 h.2.1 (by omega) (by omega) h1 h2;rw[V]at d;have J:=aG C;unfold cG dK at c;rw[U,f]at c;generalize n.p1=m1 at c;generalize n.p2=m2 at c;generalize n.region=m3 at c;generalize n.source=m4 at c;generalize n.num=m5 at c;have W:PT.A2 L.regs L.news (.node p .new P Q [x]) a=x.yI L.regs L.news a:=by simp[PT.A2,mD,PT.yI]
 rw[W];simp only[PT.cnt,aU,az];rw[show (((a+(1+x.cnt):Nat):Int)-1)=((a+x.cnt:Nat):Int) from by omega];generalize a+x.cnt=K at*;clear C E u U F y G H T f R g h e W;go_in;go_wp2_with fail;refine c.mono ?_;rintro _ w1 ⟨rfl,i⟩;have hs1:=i.size;go_wp2_with fail;have N:=i.alloc i.size (.cells #[.int .i64 12,.int .i64 n.at_,.int .i64 n.dH,.int .i64 m5,.string (bs n.word),.int .i64 m3,.int .i64 m4,.int .i64 M,.int .i64 m1,.int .i64 m2] 160);refine (d _ (t.below N) (b.on (N.mono (gi J)))).mono ?_;rintro _ w3 ⟨v',rfl,O,z⟩;go_wp2_with fail;refine bP (v:=.tuple #[]) (by simp[results,results110,go_sem]) rfl ⟨v',rfl,(qY.pL v N).trans O,z⟩
structure XF(wb B:Nat)(w:World)(v:Value)(n:NR): Prop where
 b:w.heap[B]?=some (gG n)
 ne:B≠wb
 v:v.ownBlock≠some B
theorem XF.keep{v}{n}(h:XF a L w v n)(f:qY a w d v c):XF a L d c n:=
 have g:=aG h.b
 ⟨by rw[f.blk L g h.ne h.v];exact h.b,h.ne,λe=>by
  rcases f.o L e with e|e
  ·exact h.v e
  ·omega⟩
theorem XF.new(h:sM x a w b c z u)(n):XF a w.heap.size (w.alloc (gG n)) z n:=
 ⟨bD _ _,by have:=aG h.blk;omega,λe=>by have:=(h.row.lt _ e).2;omega⟩
theorem Nx:∀(b:List PT)(a j:Nat)(x:PT),b[j]?=some x->(cz b a).getD j (-1)=(((a+aU (b.take j)+x.cnt:Nat):Int)-1)
 |[],_,_,_,h=>by simp at h
 |t::r,a,0,x,h=>by
  simp only[aL,ai]at h;subst h;simp[cz,aU]
 |t::r,a,j+1,x,h=>by
  simp only[cz,bM,cY,aU];rw[Nx r (a+t.cnt) j x h];omega
theorem EO:∀(b:List PT)(a j:Nat),b.length<=j->(cz b a).getD j (-1)=-1
 |[],_,_,_=>by simp[cz]
 |t::r,a,0,h=>by simp at h
 |t::r,a,j+1,h=>by
  simp at h;exact EO r (a+t.cnt) j (by omega)
theorem Jo{d}:∀(b:List PT)(a j:Nat)(x:PT),qZ d b a->b[j]?=some x->om d x (a+aU (b.take j))
 |[],_,_,_,_,h=>by simp at h
 |t::r,a,0,x,c,h=>by
  simp only[aL,ai]at h;subst h;simpa [aU] using c.1
 |t::r,a,j+1,x,c,h=>by
  have:=Jo r (a+t.cnt) j x c.2 h;simpa [aU,aY] using this
theorem Tb(a)(j:Nat)(x)(h:a[j]?=some x):aU (a.take j)+x.cnt<=aU a:=by
 have h1:=j1 a (j+1);rw[cW,h]at h1;simp at h1;rw[lU]at h1;omega
theorem Jp{n}(h:w.heap[a]?=some (gG n))(b:n.p0=y.getD 0 (-1))(h1:n.p1=y.getD 1 (-1))(h2:n.p2=y.getD 2 (-1))(j:Nat)(f:j<=2):w.cell? ⟨a,7+j,none⟩=some (.int .i64 (y.getD j (-1))):=by
 obtain⟨_,_,_,_,_,_,_,c,d,e⟩:=cD h;rcases (show j=0\/j=1\/j=2 by omega) with rfl|rfl|rfl
 ·rw[<-b];exact c
 ·rw[<-h1];exact d
 ·rw[<-h2];exact e
theorem Qc(k)(a)(j:Nat)(x)(h:P9 k=(j:Int)):lK k a j x=[32]++a++[32]++x:=by
 have:(k=.dV/\j=0)\/(k=.loop/\j=1):=by
  cases k<;>simp[P9]at h⊢<;>omega
 unfold lK;rw[ah this];simp
theorem Tc(k)(a)(j:Nat)(x)(h:P9 k≠(j:Int)):lK k a j x=[32]++x:=by
 have:¬((k=.dV/\j=0)\/(k=.loop/\j=1)):=by
  rintro (⟨rfl,rfl⟩|⟨rfl,rfl⟩)<;>simp[P9]at h
 unfold lK;rw[ag this];simp
theorem Gh(L)(l:Nat)(X)(Y Z:Nat)(x2)(n2 c2:Nat)(ns)(op)(k)(y)(a)(hkn:k≠.new)(har:a.length<=3)(ih:∀x∈a,Jm L l (.slice X Y Z) (.slice x2 n2 c2) ns op x)(c:Nat)(w)(v)(G)(n)(hf:n.form=dX k)(hwd:n.word=y)(Xr:n.p0=(cz a c).getD 0 (-1))(Fu:n.p1=(cz a c).getD 1 (-1))(My:n.p2=(cz a c).getD 2 (-1))(hsh:qZ ns a c)(xP:y.length<=9000)(hta:gJ a)(hwf:rH a)(hle:c+aU a<=ns.length)(aay:G.length+22000*(1+aU a)<=200001650)(I:Nat)(hrg:-1<=rU L.regs I)(E:sM L l w (.slice X Y Z) (.slice x2 n2 c2) v G)(z:wo L l w (.slice X Y Z) (.slice x2 n2 c2) ns op):Calls prog 142 #[.pointer (some ⟨l,0,none⟩),dK n,.int .i64 (rU L.regs I)] w λe o=>∃C,e=.returned (.tuple #[])/\qY l w o v C/\sM L l o (.slice X Y Z) (.slice x2 n2 c2) C (G++(rV L.regs L.news k y a c I a.length++[41])):=by
 have hlt:=aG E.blk;have aeW:=z.len;have H:=λo C d s (h:sM L l o (.slice X Y Z) (.slice x2 n2 c2) C d) (hl:d.length+s.length<=400000000)=>rO l o _ _ C d s h hl;have adq:=λo C d h hl=>H o C d [40] h (by simp;omega);have adr:=λo C d h hl=>H o C d [41] h (by simp;omega);have Ta:=λo C d h hl=>H o C d [32] h (by simp;omega)
 have abp:∀j x,a[j]?=some x->(G.length+(rV L.regs L.news k y a c I j).length+9002+22000*x.cnt<=200000000)/\∃M:Nat,M<=9000/\(cz a c).getD j (-1)=(M:Int)/\∀o C d,d.length+22000*x.cnt<=200000000->sM L l o (.slice X Y Z) (.slice x2 n2 c2) C d->wo L l o (.slice X Y Z) (.slice x2 n2 c2) ns op->
   Calls prog 67 #[.pointer (some ⟨l,0,none⟩),.int .i64 M] o λe w2=>∃v2,e=.returned (.tuple #[])/\qY l o w2 C v2/\sM L l w2 (.slice X Y Z) (.slice x2 n2 c2) v2 (d++x.yI L.regs L.news (c+aU (a.take j))):=by
  intro j x hx;have hm:=aq hx;have htk:=Tb a j x hx;have hal:=Jk z.bd k y a c I j xP hta;have Mx:=fj x;refine⟨by omega,c+aU (a.take j)+x.cnt-1,by omega,by rw[Nx a c j x hx];omega,?_⟩;intro o C d hl h1 h2;have:=ih x hm (c+aU (a.take j)) o C d (Jo a c j x hsh hx) (sL hta x hm) (s7 hwf x hm) (by omega) hl h1 h2;rw[show (((c+aU (a.take j)+x.cnt:Nat):Int)-1)=((c+aU (a.take j)+x.cnt-1:Nat):Int) from by omega]at this;exact this
 have XG:rU L.regs I=-1->G++[40]++k.bytes=G++rV L.regs L.news k y a c I 0:=λh=>by simp[rV,mD,gB,SZ,h]
 have XH:∀m:Nat,rU L.regs I=(m:Int)->G++[40]++k.bytes++([32,35]++Lib.decDigits m)=G++rV L.regs L.news k y a c I 0:=λm h=>by
  have:¬((m:Int)=-1):=by omega
  simp[rV,mD,gB,SZ,h,this]
 have Zt:=z.bd.r I;have hpr:∀(o:World)(C:Value)(d:List UInt8)(m:Nat),m<=9999->qY l w o v C->sM L l o (.slice X Y Z) (.slice x2 n2 c2) C d->d.length<=390000000->Calls prog 140 #[.pointer (some ⟨l,0,none⟩),.int .i64 m] o λe w2=>∃v2,e=.returned (.tuple #[])/\qY l o w2 C v2/\sM L l w2 (.slice X Y Z) (.slice x2 n2 c2) v2 (d++([32,35]++Lib.decDigits m)):=λo C d m hm hf h1 hl=>wG L l o _ _ C ns op d m hm h1 (z.on (E.fr hf)) hl;have abq:∀j,(rV L.regs L.news k y a c I j).length<=180000011:=λj=>by have:=Jk z.bd k y a c I j xP hta;have:=j1 a j;omega
 have hkb:k.bytes.length<=4:=by cases k<;>decide
 have q:=XF.new E n;have abr:=E.below ((aM _ w).alloc bS (gG n));have abt:qY l w (w.alloc (gG n)) v v:=qY.pL v ((aM _ w).alloc bS (gG n));have hwo:=λo=>LC k o hkn;have pq:=λo=>xB k o;have hfw:∀{wr:World}{vr:Value},qY l w wr v vr->wo L l wr (.slice X Y Z) (.slice x2 n2 c2) ns op:=λh=>z.on (E.fr h);have V:Hid _:=abp;have D:=q;refine fw XG XH hpr λO P HPR=>?_;have abu:∀(wr:World)(vr:Value),qY l w wr v vr->wo L l wr (.slice X Y Z) (.slice x2 n2 c2) ns op:=λ_ _ h=>hfw h;refine pd hf hwd Xr Fu My λHF HWD HP0 U0 HP2=>?_;have htl:G.length<=200001650:=by omega
 clear abp q XG XH hpr hfw hf hwd Xr Fu My E z ih hsh hta hwf aay hle;obtain⟨R,hR⟩:=ez (rU L.regs I);rw[<-hR]at hrg Zt⊢;have V4:Hid _:=hR;clear hR;show Calls _ _ #[Value.pointer (some ⟨l,0,none⟩),Value.agg #[.int .i64 n.form,.int .i64 n.at_,.int .i64 n.dH,.int .i64 n.num,.string (bs n.word),.int .i64 n.region,.int .i64 n.source,.int .i64 n.p0,.int .i64 n.p1,.int .i64 n.p2],.int .i64 R] w _;go_in;go_wp2_with fail;refine (adq (w.alloc (gG n)) v G abr (by omega)).mono ?_;rintro _ w1 ⟨v1,rfl,PJ,abv⟩;have hb1:=D.keep PJ;have d0:w1.cell? ⟨w.heap.size,0,none⟩=some (.int .i64 (dX k)):=by rw[<-HF.out];exact (cD hb1.b).1
 refine fw (abt.trans PJ) abv hb1 λZu Zv DU=>?_;clear PJ abv hb1 abt abr D;go_wp2_with fail;refine (hwo _).mono ?_;rintro _ _ ⟨rfl,rfl⟩;go_wp2_with fail;refine (H _ v1 _ k.bytes Zv (by simp;omega)).mono ?_;rintro _ w2 ⟨v2,rfl,t,p⟩;have hb2:=DU.keep t;refine bY (Zu.trans t) hb2 λJ xN=>?_;by_cases abw:R=-1
 case' pos=>
  rw[O.out (V4.out.symm.trans abw)]at p;have Zw:Hid _:=p;clear t p d0 Zu Zv DU O P HPR hb2 V4;subst abw;go_wp2_with fail
 case' neg=>
  obtain⟨m,rfl⟩:∃m:Nat,R=(m:Int):=⟨R.toNat,by omega⟩;refine fT (P m V4.symm) p J hb2 λW XI Q abx=>?_;have qm:((m:Int) !=-1)=true:=by simp
  clear t p d0 Zu Zv DU O P hb2 J xN V4;go_wp2_with fail;refine (HPR _ _ _ m (by omega) Q XI (by simp;omega)).mono ?_;rintro _ w2 ⟨v2,rfl,t,p⟩;rw[W.out]at p;refine fw (Q.trans t) p (abx.keep t) λJ Zw xN=>?_;clear t p HPR Q XI abx W qm;go_wp2_with fail
 all_goals
  go_loopw [6] (λi wr=>∃(j:Nat)(vr:Value),j<=a.length/\i=.int .i64 j/\XF l w.heap.size wr vr n/\qY l w wr v vr/\sM L l wr (.slice X Y Z) (.slice x2 n2 c2) vr (G++rV L.regs L.news k y a c I j)) (λi _=>4-(intOf i).toNat)
  case atStart=>exact⟨0,v2,by omega,rfl,xN.out,J.out,Zw.out⟩
  case round=>
   obtain⟨j,vr,hj,rfl,q,hfr,E⟩:=hrel;have d0:wr.cell? ⟨w.heap.size,0,none⟩=some (.int .i64 (dX k)):=by rw[<-HF.out];exact (cD q.b).1
   have d4:wr.cell? ⟨w.heap.size,4,none⟩=some (.string (bs y)):=by rw[<-HWD.out];exact (cD q.b).2.2.2.2.1
   have XJ:=λ(h:j<=2)=>Jp q.b HP0 U0 HP2 j h;refine fT q hfr E XJ λD U1 HIN F=>?_;have hal:=abq j;clear q hfr E XJ xN J Zw;by_cases hlt:j<a.length
   ·obtain⟨x,hx⟩:∃x,a[j]?=some x:=⟨a[j],aa hlt⟩;obtain⟨hbd,M,hMb,hpM,S⟩:=V j x hx;have hj2:j<=2:=by omega
    have Xk:∀(wx:World)(vx:Value),XF l w.heap.size wx vx n->cg wx w.heap.size (7+j) (.int .i64 M):=λwx vx hb=>by rw[<-hpM];exact Jp hb.b HP0 U0 HP2 j hj2
    have hp:=Xk _ _ D;have hM1:((M:Int) !=-1)=true:=by simp
    have hs:=Qa L.regs L.news k y a c I j x hx;obtain⟨bk,hbk⟩:∃bk,P9 k=bk:=⟨_,rfl⟩;rw[hbk]at pq;refine bY S Xk λHC Yh=>?_;by_cases hq:bk=(j:Int)
    ·have hs':G++rV L.regs L.news k y a c I j++[32]++y++[32]++x.yI L.regs L.news (c+aU (a.take j))=G++rV L.regs L.news k y a c I (j+1):=by rw[hs,Qc k y j (x.yI L.regs L.news (c+aU (a.take j))) (hbk.trans hq)];simp
     have HS:Hid _:=hs';clear S hs hs' hpM hx hbk F V Xk;subst hq;rcases (show j=0\/j=1\/j=2 by omega) with rfl|rfl|rfl
     all_goals
      simp only[Nat.reduceAdd]at hp;go_wp2_with fail;refine (pq _).mono ?_;rintro _ _ ⟨rfl,rfl⟩;go_wp2_with fail;refine (Ta _ vr _ HIN (by simp;omega)).mono ?_;rintro _ w3 ⟨v3,rfl,DL,aby⟩;have hb3:=D.keep DL;have g4:w3.cell? ⟨w.heap.size,4,none⟩=some (.string (bs y)):=by rw[<-HWD.out];exact (cD hb3.b).2.2.2.2.1
      refine fw (U1.trans DL) aby hb3 λads adt GZ=>?_;clear DL aby hb3;go_wp2_with fail;refine (H _ v3 _ y adt (by simp;omega)).mono ?_;rintro _ w4 ⟨v4,rfl,LG,OK⟩;refine fw (ads.trans LG) OK (GZ.keep LG) λSt adu IU=>?_;clear LG OK;go_wp2_with fail;refine (Ta _ v4 _ adu (by simp;omega)).mono ?_;rintro _ w5 ⟨v5,rfl,f,u⟩;have T:=IU.keep f;have g7:=Yh _ _ T;simp only[Nat.reduceAdd]at g7;refine fw (St.trans f) u T λA K QL=>?_;clear f u T;go_wp2_with fail;refine (HC _ v5 _ (by simp;omega) K (abu _ _ A)).mono ?_;rintro _ w6 ⟨v6,rfl,B,N⟩;have g:=N;rw[HS.out]at g;refine fw (A.trans B) g (QL.keep B) λZx Zy Qd=>?_;clear B N g;go_wp2_with fail;go_roundw
      case rel=>exact⟨_,v6,hlt,rfl,Qd.out,Zx.out,Zy.out⟩
      case measure=>simp[intOf]
    ·have hs':G++rV L.regs L.news k y a c I j++[32]++x.yI L.regs L.news (c+aU (a.take j))=G++rV L.regs L.news k y a c I (j+1):=by rw[hs,Tc k y j (x.yI L.regs L.news (c+aU (a.take j))) (λe=>hq (hbk.symm.trans e))];simp
     have HS:Hid _:=hs';have hq1:((j:Int)==bk)=false:=by rw[aH];exact λe=>hq e.symm
     clear S hs hs' hpM hx hbk F V Xk;rcases (show j=0\/j=1\/j=2 by omega) with rfl|rfl|rfl
     all_goals
      simp only[Nat.reduceAdd]at hp;go_wp2_with fail;refine (pq _).mono ?_;rintro _ _ ⟨rfl,rfl⟩;go_wp2_with fail;refine (Ta _ vr _ HIN (by simp;omega)).mono ?_;rintro _ w5 ⟨v5,rfl,f,u⟩;have T:=D.keep f;have g7:=Yh _ _ T;simp only[Nat.reduceAdd]at g7;refine fw (U1.trans f) u T λA K QL=>?_;clear f u T;go_wp2_with fail;refine (HC _ v5 _ (by simp;omega) K (abu _ _ A)).mono ?_;rintro _ w6 ⟨v6,rfl,B,N⟩;have g:=N;rw[HS.out]at g;refine fw (A.trans B) g (QL.keep B) λZx Zy Qd=>?_;clear B N g;go_wp2_with fail;go_roundw
      case rel=>exact⟨_,v6,hlt,rfl,Qd.out,Zx.out,Zy.out⟩
      case measure=>simp[intOf]
   ·have hjk:j=a.length:=by omega
    have hpe:j<=2->cg wr w.heap.size (7+j) (.int .i64 (-1)):=λh=>by
     have:=F h
     rwa [EO a c j (by omega)]at this
    have Td:G++rV L.regs L.news k y a c I j++[41]=G++(rV L.regs L.news k y a c I a.length++[41]):=by rw[<-hjk];simp
    refine bY Td hpe λW HPE=>?_;clear V F hpe Td;have hj3:j<=3:=by omega
    clear hjk hlt hj;rcases (show j=0\/j=1\/j=2\/j=3 by omega) with rfl|rfl|rfl|rfl
    all_goals
     try (have hp:=HPE (by omega);simp only[Nat.reduceAdd]at hp)
     go_wp2_with fail;refine (adr _ vr _ HIN (by simp;omega)).mono ?_;rintro _ w5 ⟨v5,rfl,f,u⟩;have U:=u;rw[W.out]at U;refine bY (U1.trans f) U λA K=>?_;clear f u U;go_wp2_with fail;refine bP (v:=.tuple #[]) (by simp[results,results142,go_sem]) rfl ⟨v5,rfl,A,K⟩
