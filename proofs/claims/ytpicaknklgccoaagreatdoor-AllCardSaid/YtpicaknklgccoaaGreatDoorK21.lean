import Derived.Test.YtpicaknklgccoaaGreatDoorK17
set_option maxHeartbeats 16000000
set_option maxRecDepth 100000
namespace Go.Proofs.YtpicaknklgccoaaGreatDoor
open Tryz
open Go.RowKit
variable {w y:World}{a x:Nat}{b c d z v u R I G O:Value}{K:Obj}{L:Bool}{P:ByteArray}{T:PS}{M:Array Value}{Y:TN}
structure Bk(pb k:Nat)(w:World)(sv nv ov:Value)(X:Obj): Prop where
 b:w.heap[k]?=some X
 ne:k≠pb
 s:sv.ownBlock≠some k
 n:nv.ownBlock≠some k
 o:ov.ownBlock≠some k
theorem Bk.keep{g}(h:Bk a x w g c d K)(f:fK a a w y g c d z v u):Bk a x y z v u K:=by
 have i:=aG h.b;refine⟨by rw[f.blk x i h.ne h.ne h.s h.n h.o];exact h.b,h.ne,?_,?_,?_⟩
 ·intro e;rcases f.s x e with e|e
  ·exact h.s e
  ·omega
 ·intro e;rcases f.n x e with e|e
  ·exact h.n e
  ·omega
 ·intro e;rcases f.o x e with e|e
  ·exact h.o e
  ·omega
theorem Bk.new(h:kf P L a w b c d T)(X):Bk a w.heap.size (w.alloc X) b c d X:=by
 obtain⟨f,g,i,j⟩:=h.slt;exact⟨bD _ _,by omega,λe=>by have:=f _ e;omega,λe=>by have:=g _ e;omega,λe=>by have:=i _ e;omega⟩
theorem Bk.alloc{e}(h:Bk a x w e c d K)(Y):Bk a x (w.alloc Y) e c d K:=⟨cR _ h.b,h.ne,h.s,h.n,h.o⟩
theorem kf.alloc(h:kf P L a w b c d T)(Y):kf P L a (w.alloc Y) b c d T:=h.below ((aM _ w).alloc bS Y)
theorem fK.alloc(h:fK a x w y b c d z v u)(Y):fK a x w (y.alloc Y) b c d z v u:=h.trans (fK.below a x z v u ((aM _ y).alloc bS Y))
theorem Bk.set{i}{t}(h:Bk a x w i c d (.cells M t (0,0)))(j:kf P L a w i c d T)(f:Nat)(v):fK a x w (w.setCell ⟨x,f,none⟩ v) i c d i c d/\kf P L a (w.setCell ⟨x,f,none⟩ v) i c d T/\Bk a x (w.setCell ⟨x,f,none⟩ v) i c d (.cells (M.setIfInBounds f v) t (0,0)):=by
 have m:∀k,k≠x->(w.setCell ⟨x,f,none⟩ v).heap[k]?=w.heap[k]?:=λk g=>lu g;obtain⟨p,q,r,u⟩:=j.y;refine⟨⟨rfl,rfl,rfl,by simp only[World.setCell,dB];omega,λk _ _ z _ _ _=>m k z,λ_ h=>aD h,λ_ h=>aD h,λ_ h=>aD h⟩,?_,⟨bu h.b f v,h.ne,h.s,h.n,h.o⟩⟩;exact kf.move j T.l T.fl (λk g=>m k (λe=>h.s (by rw[<-e];exact g))) (λk g=>m k (λe=>h.n (by rw[<-e];exact g))) (λk g=>m k (λe=>h.o (by rw[<-e];exact g))) ⟨p,q,r,by rw[m a (λe=>h.ne e.symm)];exact u⟩
def DS(n:NR):Array Value:=#[.int .i64 n.form,.int .i64 n.at_,.int .i64 n.dH,.int .i64 n.num,.string (bs n.word),.int .i64 n.region,.int .i64 n.source,.int .i64 n.p0,.int .i64 n.p1,.int .i64 n.p2]
abbrev gG(n:NR):Obj:=.cells (DS n) 160 (0,0)
def tnC(T:TN):Array Value:=#[.int .i64 T.kind,.int .i64 T.at_,.int .i64 T.dH,.string (bs T.word),.int .i64 T.num]
abbrev tB(T:TN):Obj:=.cells (tnC T) 208 (0,0)
def FOk(s:ByteArray)(a:Bool)(e:Nat)(q:Nat)(g:Array Value)(f:NR->PS->NR×PS)(m:Nat):Prop:=
 ∀(i:Nat)(w:World)(j k o:Value)(h:PS)(n:NR),kf s a e w j k o h->Bk e i w j k o (gG n)->h.l.length<=m->Uu h->Calls prog q (#[ptr e,ptr i]++g) w λv p=>v=.returned (.tuple #[])/\
  ∃b c d,fK e i w p j k o b c d/\kf s a e p b c d (f n h).2/\Bk e i p b c d (gG (f n h).1)
theorem Ct(s)(a)(f m:Nat)(r:s.size<=9000):FOk s a f 200 #[] (λn g=>vG s.size n g) m:=by
 intro i w j k o g n h t _ _;have d:=qM s a f w j k o g 6 r h;unfold vG;obtain⟨T,p⟩:=ez (kQ s.size g.l);rw[<-p]at d;have u:Hid _:=p;clear p;unfold n8 ptr at d;simp only[fU];show Calls _ _ #[Value.pointer (some ⟨f,0,none⟩),Value.pointer (some ⟨i,0,none⟩)] w _;go_in;go_wp2_with fail;refine d.mono ?_;rintro _ x ⟨rfl,e,q⟩;have c:=t.keep e;have D:cg x i 5 (.int .i64 n.region):=dR c.b rfl;have E:=aK c.b 5;have y:=aG c.b;obtain⟨z,A,B⟩:=c.set q 5 (.int .i64 T.num);have C:fK f i w _ j k o j k o:=(e.nb (z:=i)).trans z;go_wp2;refine bP (v:=.tuple #[]) (by simp[results,results200,go_sem]) rfl ⟨rfl,_,_,_,C.alloc _,A.alloc _,by rw[<-u.out];exact B.alloc _⟩
def pI(b:PS->Int×PS)(n:NR)(a:PS):Nat->NR×PS
 |0=>(n,a)
 |1=>BU b n a
 |2=>Au b n a
 |_=>Hz b n a
theorem uH(s)(e)(D:Nat)(a)(m c:Nat)(hc:c<=3)(hE:YF s e D a m)(hG:p9 a m):FOk s e D 201 #[.int .i64 c] (λn d=>pI a n d c) m:=by
 intro q w K L M d n h O r t;have E:=Bd hG n d r;have F:=yq hG n d r;have P:∀k,k<=2->(pI a n d k).2.l.length<=m/\Bd0 (pI a n d k).2:=by
  intro k N
  match k,N with
  |0,_=>exact⟨r,t.to (Gs.refl d) (by omega)⟩
  |1,_=>exact⟨bw E.l r,t.to E (by omega)⟩
  |2,_=>exact⟨bw F.l r,t.to F (by omega)⟩
 have Q:∀k,k<3->pI a n d (k+1)=(if k=0 then { (pI a n d k).1 with p0:=(a (pI a n d k).2).1} else if k=1 then { (pI a n d k).1 with p1:=(a (pI a n d k).2).1} else { (pI a n d k).1 with p2:=(a (pI a n d k).2).1},(a (pI a n d k).2).2):=by
  intro k N
  match k,N with
  |0,_=>rfl
  |1,_=>rfl
  |2,_=>rfl
 have G:=λw K L M d h r O=>hE w K L M d h r O;unfold ptr at G;show Calls _ _ #[Value.pointer (some ⟨D,0,none⟩),Value.pointer (some ⟨q,0,none⟩),.int .i64 c] w _;go_in;go_wp2;go_loopw [6,7] (λi _ wr=>∃k:Nat,k<=c/\i=.int .i64 k/\∃u x y,fK D q w wr K L M u x y/\kf s e D wr u x y (pI a n d k).2/\Bk D q wr u x y (gG (pI a n d k).1)) (λi _ _=>c-(intOf i).toNat)
 case atStart=>exact⟨0,by omega,rfl,K,L,M,fK.refl _ _ _ _ _ _,h,O⟩
 case round=>
  obtain⟨k,N,rfl,R,S,T,j,o,H⟩:=hrel;by_cases hlt:k<c
  ·have U:k<3:=by omega
   obtain⟨V,W⟩:=P k (by omega);have g:=Q k U;go_wp2_with fail;refine (G wr R S T _ o V W).mono ?_;rintro _ X ⟨rfl,z,A,B,p,I⟩;have f:=H.keep p;have C:=j.trans (p.nb (z:=q));generalize (a (pI a n d k).2).1=part at*;obtain⟨Y,Z,s3⟩:=f.set I (7+k) (.int .i64 part);have c7:cg X q 7 (.int .i64 (pI a n d k).1.p0):=dR f.b rfl;have c8:cg X q 8 (.int .i64 (pI a n d k).1.p1):=dR f.b rfl;have c9:cg X q 9 (.int .i64 (pI a n d k).1.p2):=dR f.b rfl;have f7:=aK f.b 7;have f8:=aK f.b 8;have f9:=aK f.b 9;rcases (by omega:k=0\/k=1\/k=2) with rfl|rfl|rfl
   ·go_wp2;go_roundw
    case rel=>exact⟨1,by omega,rfl,z,A,B,C.trans Y,by rw[g];exact Z,by rw[g];exact s3⟩
    case measure=>simp[intOf];omega
   ·go_wp2;go_roundw
    case rel=>exact⟨2,by omega,rfl,z,A,B,C.trans Y,by rw[g];exact Z,by rw[g];exact s3⟩
    case measure=>simp[intOf];omega
   ·go_wp2;go_roundw
    case rel=>exact⟨3,by omega,rfl,z,A,B,C.trans Y,by rw[g];exact Z,by rw[g];exact s3⟩
    case measure=>simp[intOf];omega
  ·have J:k=c:=by omega
   go_wp2;refine bP (v:=.tuple #[]) (by simp[results,results201,go_sem]) rfl ⟨rfl,_,_,_,j,?_,?_⟩
   ·rw[<-J];exact o
   ·rw[<-J];exact H
theorem Bk.aaC{n}(h:Bk a x w b c d (gG n))(i:kf P L a w b c d T)(u)(e f g:Int):fK a x w ((((w.setCell ⟨x,4,none⟩ (.string (bs u))).setCell ⟨x,7,none⟩ (.int .i64 e)).setCell ⟨x,8,none⟩ (.int .i64 f)).setCell ⟨x,9,none⟩ (.int .i64 g)) b c d b c d/\kf P L a ((((w.setCell ⟨x,4,none⟩ (.string (bs u))).setCell ⟨x,7,none⟩ (.int .i64 e)).setCell ⟨x,8,none⟩ (.int .i64 f)).setCell ⟨x,9,none⟩ (.int .i64 g)) b c d T/\Bk a x ((((w.setCell ⟨x,4,none⟩ (.string (bs u))).setCell ⟨x,7,none⟩ (.int .i64 e)).setCell ⟨x,8,none⟩ (.int .i64 f)).setCell ⟨x,9,none⟩ (.int .i64 g)) b c d (gG {n with word:=u,p0:=e,p1:=f,p2:=g}):=by
 obtain⟨j,k,l⟩:=h.set i 4 (.string (bs u));obtain⟨m,o,p⟩:=l.set k 7 (.int .i64 e);obtain⟨q,r,t⟩:=p.set o 8 (.int .i64 f);obtain⟨v,y,z⟩:=t.set r 9 (.int .i64 g);exact⟨((j.trans m).trans q).trans v,y,z⟩
theorem Iv{n}(h:w.heap[a]?=some (gG n)):w.cell? ⟨a,4,none⟩=some (.string (bs n.word))/\w.cell? ⟨a,7,none⟩=some (.int .i64 n.p0)/\w.cell? ⟨a,8,none⟩=some (.int .i64 n.p1)/\w.cell? ⟨a,9,none⟩=some (.int .i64 n.p2):=
 ⟨by rw[aI h];rfl,by rw[aI h];rfl,by rw[aI h];rfl,by rw[aI h];rfl⟩
theorem Iw(s)(a)(q:Nat)(d)(m:Nat)(U:s.size<=9000)(P:YF s a q d m)(Q:p9 d m):FOk s a q 198 #[] (λn c=>Vh s.size d n c) m:=by
 intro E w j k o c n h V hm p;have r:=qM s a q w j k o c 4 U h;have D:=nE s.size 4 c;have W:=D.l;have F:=yp Q (c.expect s.size 4) (by omega);have Z:=F.l;have R:=λw j k o h=>P w j k o (c.expect s.size 4) h (by omega) (p.to D (by omega));have G:=λw j k o u H h=>Ik s a q d m P Q w j k o (d (c.expect s.size 4)).2 u H (by omega) (by rw[(D.trans F).sc];have:=p.1;omega) (p.to (D.trans F) (by omega)) h;have t:Vh s.size d n c=({n with word:=(kQ s.size c.l).word,p0:=(d (c.expect s.size 4)).1,p1:=(kR d (kQ s.size c.l).word (d (c.expect s.size 4)).1 (d (c.expect s.size 4)).2).1,p2:=-1},(kR d (kQ s.size c.l).word (d (c.expect s.size 4)).1 (d (c.expect s.size 4)).2).2):=rfl;simp only[t];generalize kQ s.size c.l=T at*;generalize c.expect s.size 4=I at*;generalize d I=X at*;generalize hY:kR d T.word X.1 X.2=Y at*;have f:=λw j k o h=>G w j k o T.word X.1 h;rw[hY]at f;unfold n8 ptr at r;unfold ptr at R f;simp only[fU];show Calls _ _ #[Value.pointer (some ⟨q,0,none⟩),Value.pointer (some ⟨E,0,none⟩)] w _;go_in;go_wp2_with fail;refine r.mono ?_;rintro _ S ⟨rfl,x,y⟩;have z:=R _ _ _ _ (y.alloc (tB T));have J:=x.alloc (tB T);have K:=(V.keep x).alloc (tB T);have L:=Bk.new y (tB T);unfold tB tnC at z;go_wp2_with fail;refine z.mono ?_;rintro _ w2 ⟨rfl,sv2,OE,YG,g,A⟩;have B:=L.keep g;have M:=J.trans g;have N:=K.keep g;have d3:cg w2 S.heap.size 3 (.string (bs T.word)):=dR B.b rfl;go_wp2_with fail;refine (f _ _ _ _ A).mono ?_;rintro _ w3 ⟨rfl,sv3,nv3,ov3,i,C⟩;have e:=N.keep i;have e3:w3.cell? ⟨S.heap.size,3,none⟩=some (.string (bs T.word)):=by rw[aI (B.keep i).b];rfl
 obtain⟨c4,c7,c8,c9⟩:=Iv e.b;have f4:=aK e.b 4;have f7:=aK e.b 7;have f8:=aK e.b 8;have f9:=aK e.b 9;obtain⟨r1,r2,r3⟩:=e.aaC C T.word X.1 Y.1 (-1);have O:=(M.nb (z:=E)).trans ((i.nb (z:=E)).trans r1);go_wp2;refine bP (v:=.tuple #[]) (by simp[results,results198,go_sem]) rfl ⟨rfl,_,_,_,O,r2,r3⟩
theorem FQ(s)(c)(r:Nat)(a)(m:Nat)(hs:s.size<=9000)(H:YF s c r a m)(I:p9 a m):FOk s c r 199 #[] (λn d=>MF s.size a n d) m:=by
 intro J w j k o d n h hb hm p;have ht:=H w j k o d h hm (p.to (Gs.refl d) (by omega));have F:=yp I d hm;have g0l:=F.l;have t:=λw j k o h=>qM s c r w j k o (a d).2 4 hs h;have G:=nE s.size 4 (a d).2;have g1l:=G.l;have K:=yp I ((a d).2.expect s.size 4) (by omega);have g2l:=K.l;have hx:=λw j k o h=>H w j k o ((a d).2.expect s.size 4) h (by omega) (p.to (F.trans G) (by omega));have L:=λw j k o u M h=>Ik s c r a m H I w j k o (a ((a d).2.expect s.size 4)).2 u M (by omega) (by rw[((F.trans G).trans K).sc];have:=p.1;omega) (p.to ((F.trans G).trans K) (by omega)) h;have x:MF s.size a n d=({n with word:=(kQ s.size (a d).2.l).word,p0:=(a d).1,p1:=(a ((a d).2.expect s.size 4)).1,p2:=(kR a (kQ s.size (a d).2.l).word (a ((a d).2.expect s.size 4)).1 (a ((a d).2.expect s.size 4)).2).1},(kR a (kQ s.size (a d).2.l).word (a ((a d).2.expect s.size 4)).1 (a ((a d).2.expect s.size 4)).2).2):=rfl;simp only[x];generalize a d=Z at*;generalize kQ s.size Z.2.l=T at*;generalize Z.2.expect s.size 4=N at*;generalize a N=X at*;generalize hY:kR a T.word X.1 X.2=Y at*;have f:=λw j k o h=>L w j k o T.word X.1 h;rw[hY]at f;unfold n8 ptr at t;unfold ptr at hx f ht;simp only[fU];show Calls _ _ #[Value.pointer (some ⟨r,0,none⟩),Value.pointer (some ⟨J,0,none⟩)] w _;have O:=t;go_in;go_wp2_with fail;refine ht.mono ?_;rintro _ w0 ⟨rfl,sv0,nv0,ov0,q,y⟩;have P:=hb.keep q;go_wp2_with fail;refine (O _ _ _ _ y).mono ?_;rintro _ w1 ⟨rfl,z,A⟩;have B:=hx _ _ _ _ (A.alloc (tB T));have Q:=q.trans (z.alloc (tB T));have R:=(P.keep z).alloc (tB T);have S:=Bk.new A (tB T);unfold tB tnC at B;go_wp2_with fail;refine B.mono ?_;rintro _ w2 ⟨rfl,sv2,OE,YG,g,C⟩;have D:=S.keep g;have U:=Q.trans g;have V:=R.keep g;have d3:cg w2 w1.heap.size 3 (.string (bs T.word)):=dR D.b rfl;go_wp2_with fail;refine (f _ _ _ _ C).mono ?_;rintro _ w3 ⟨rfl,sv3,nv3,ov3,i,E⟩;have e:=V.keep i;have e3:w3.cell? ⟨w1.heap.size,3,none⟩=some (.string (bs T.word)):=by rw[aI (D.keep i).b];rfl
 obtain⟨c4,c7,c8,c9⟩:=Iv e.b;have f4:=aK e.b 4;have f7:=aK e.b 7;have f8:=aK e.b 8;have f9:=aK e.b 9;obtain⟨r1,r2,r3⟩:=e.aaC E T.word Z.1 X.1 Y.1;have W:=(U.nb (z:=J)).trans ((i.nb (z:=J)).trans r1);go_wp2;refine bP (v:=.tuple #[]) (by simp[results,results199,go_sem]) rfl ⟨rfl,_,_,_,W,r2,r3⟩
theorem K3(k:Nat)(w)(a:k<=16):Calls prog 189 #[.int .i64 k] w λv b=>v=.returned (.int .i64 (iW k:Nat))/\b=w:=by
 match k,a with
 |0,_=>go_in;go_wp2;go_ret;exact⟨rfl,rfl⟩
 |1,_=>go_in;go_wp2;go_ret;exact⟨rfl,rfl⟩
 |2,_=>go_in;go_wp2;go_ret;exact⟨rfl,rfl⟩
 |3,_=>go_in;go_wp2;go_ret;exact⟨rfl,rfl⟩
 |4,_=>go_in;go_wp2;go_ret;exact⟨rfl,rfl⟩
 |5,_=>go_in;go_wp2;go_ret;exact⟨rfl,rfl⟩
 |6,_=>go_in;go_wp2;go_ret;exact⟨rfl,rfl⟩
 |7,_=>go_in;go_wp2;go_ret;exact⟨rfl,rfl⟩
 |8,_=>go_in;go_wp2;go_ret;exact⟨rfl,rfl⟩
 |9,_=>go_in;go_wp2;go_ret;exact⟨rfl,rfl⟩
 |10,_=>go_in;go_wp2;go_ret;exact⟨rfl,rfl⟩
 |11,_=>go_in;go_wp2;go_ret;exact⟨rfl,rfl⟩
 |12,_=>go_in;go_wp2;go_ret;exact⟨rfl,rfl⟩
 |13,_=>go_in;go_wp2;go_ret;exact⟨rfl,rfl⟩
 |14,_=>go_in;go_wp2;go_ret;exact⟨rfl,rfl⟩
 |15,_=>go_in;go_wp2;go_ret;exact⟨rfl,rfl⟩
 |k+17,h=>exact absurd h (by omega)
 |16,_=>go_in;go_wp2;go_ret;exact⟨rfl,rfl⟩
theorem VF(a:Nat)(l):(kQ a l).kind<=16:=by
 unfold kQ;split
 ·simp
 ·rename_i t _;show fJ t.c<=16;cases t.c with
  |kw k=>cases k<;>decide
  |_=>decide
theorem cL(h:a=x):((a:Int)==(x:Int))=true:=by subst h;simp
theorem aJ(h:a≠x):((a:Int)==(x:Int))=false:=by rw[aH];omega
theorem RP(s)(f)(j:Nat)(I)(m:Nat)(hs:s.size<=9000)(Y:YF s f j I m)(Z:p9 I m):FOk s f j 190 #[] (λn g=>ux f s.size I n g) m:=by
 intro B w k o p g n h Q R C;have N:=Iw s f j I m hs Y Z B w k o p g n h Q R C;have H:=FQ s f j I m hs Y Z B w k o p g n h Q R C;have J:=Ct s f j m hs B w k o p g n h Q R C
 have U:∀(w:World)(k o p:Value)(g:PS)(n:NR),kf s f j w k o p g->Bk j B w k o p (gG n)->g.l.length<=m->Uu g->Calls prog 201 #[.pointer (some ⟨j,0,none⟩),.pointer (some ⟨B,0,none⟩),.int .i64 1] w λv O=>v=.returned (.tuple #[])/\
   ∃q r t,fK j B w O k o p q r t/\kf s f j O q r t (BU I n g).2/\Bk j B O q r t (gG (BU I n g).1):=λw k o p g n a b c d=>uH s f j I m 1 (by omega) Y Z B w k o p g n a b c d
 have V:∀(w:World)(k o p:Value)(g:PS)(n:NR),kf s f j w k o p g->Bk j B w k o p (gG n)->g.l.length<=m->Uu g->Calls prog 201 #[.pointer (some ⟨j,0,none⟩),.pointer (some ⟨B,0,none⟩),.int .i64 2] w λv O=>v=.returned (.tuple #[])/\
   ∃q r t,fK j B w O k o p q r t/\kf s f j O q r t (Au I n g).2/\Bk j B O q r t (gG (Au I n g).1):=λw k o p g n a b c d=>uH s f j I m 2 (by omega) Y Z B w k o p g n a b c d
 have J7:∀(w:World)(k o p:Value)(g:PS)(n:NR),kf s f j w k o p g->Bk j B w k o p (gG n)->g.l.length<=m->Uu g->Calls prog 201 #[.pointer (some ⟨j,0,none⟩),.pointer (some ⟨B,0,none⟩),.int .i64 3] w λv O=>v=.returned (.tuple #[])/\
   ∃q r t,fK j B w O k o p q r t/\kf s f j O q r t (Hz I n g).2/\Bk j B O q r t (gG (Hz I n g).1):=λw k o p g n a b c d=>uH s f j I m 3 (by omega) Y Z B w k o p g n a b c d
 have hgr:=nE s.size 6 g;have hgl:=bw hgr.l R;have hgb:=C.on hgr;simp only[fU]at N H J;unfold ptr at N H J;obtain⟨fr,y1,y2,y3⟩:=h.y;have c0:cg w B 0 (.int .i64 n.form):=dR Q.b rfl;have p1:cg w j 1 (.bool f):=dR y3 rfl;simp only[fU];show Calls _ _ #[Value.pointer (some ⟨j,0,none⟩),Value.pointer (some ⟨B,0,none⟩)] w _;unfold ux;by_cases D:n.form=3
 ·have W:=cL (x:=3) D;simp only[ah D];go_in;go_wp2_with fail;refine ay N ?_;rintro _ P ⟨rfl,u,x,z,E,F,G⟩;go_wp2;refine bP (v:=.tuple #[]) (by simp[results,results190,go_sem]) rfl ⟨rfl,_,_,_,E,F,G⟩
 by_cases i:n.form=11
 ·have W:=aJ (x:=3) D;have K:=cL (x:=11) i;simp only[ag D,ah i];go_in;go_wp2_with fail;refine ay H ?_;rintro _ P ⟨rfl,u,x,z,E,F,G⟩;go_wp2;refine bP (v:=.tuple #[]) (by simp[results,results190,go_sem]) rfl ⟨rfl,_,_,_,E,F,G⟩
 by_cases L:n.form=4
 ·have W:=aJ (x:=3) D;have K:=aJ (x:=11) i;have q4:=cL (x:=4) L;cases f with
  |true=>
   simp only[ag D,ag i,ah L,bT];go_in;go_wp2_with fail;refine ay J ?_;rintro _ P ⟨rfl,u,x,z,E,F,G⟩;have hx:=V P u x z _ _ F G hgl hgb;go_wp2_with fail;refine ay hx ?_;rintro _ w2 ⟨rfl,sv2,OE,YG,t1,t2,t3⟩;have G1:=E.trans t1;go_wp2;refine bP (v:=.tuple #[]) (by simp[results,results190,go_sem]) rfl ⟨rfl,_,_,_,G1,t2,t3⟩
  |false=>
   have S:=(V w k o p g n h Q R C);simp only[ag D,ag i,ah L,cH,aT];go_in;go_wp2_with fail;refine ay S ?_;rintro _ P ⟨rfl,u,x,z,E,F,G⟩;go_wp2;refine bP (v:=.tuple #[]) (by simp[results,results190,go_sem]) rfl ⟨rfl,_,_,_,E,F,G⟩
 by_cases A:n.form=12
 ·have W:=aJ (x:=3) D;have K:=aJ (x:=11) i;have q4:=aJ (x:=4) L;have T:=cL (x:=12) A;simp only[ag D,ag i,ag L,ah A];go_in;go_wp2_with fail;refine ay J ?_;rintro _ P ⟨rfl,u,x,z,E,F,G⟩;have hx:=U P u x z _ _ F G hgl hgb;go_wp2_with fail;refine ay hx ?_;rintro _ w2 ⟨rfl,sv2,OE,YG,t1,t2,t3⟩;have G1:=E.trans t1;go_wp2;refine bP (v:=.tuple #[]) (by simp[results,results190,go_sem]) rfl ⟨rfl,_,_,_,G1,t2,t3⟩
 by_cases X:n.form=5
 ·have W:=aJ (x:=3) D;have K:=aJ (x:=11) i;have q4:=aJ (x:=4) L;have T:=aJ (x:=12) A;have q5:=cL (x:=5) X;have M:n.form=5\/n.form=6:=aD X;have S:=(U w k o p g n h Q R C);simp only[ag D,ag i,ag L,ag A,ah M];go_in;go_wp2_with fail;refine ay S ?_;rintro _ P ⟨rfl,u,x,z,E,F,G⟩;go_wp2;refine bP (v:=.tuple #[]) (by simp[results,results190,go_sem]) rfl ⟨rfl,_,_,_,E,F,G⟩
 by_cases k6:n.form=6
 ·have W:=aJ (x:=3) D;have K:=aJ (x:=11) i;have q4:=aJ (x:=4) L;have T:=aJ (x:=12) A;have q5:=aJ (x:=5) X;have q6:=cL (x:=6) k6;have M:n.form=5\/n.form=6:=aE k6;have S:=(U w k o p g n h Q R C);simp only[ag D,ag i,ag L,ag A,ah M];go_in;go_wp2_with fail;refine ay S ?_;rintro _ P ⟨rfl,u,x,z,E,F,G⟩;go_wp2;refine bP (v:=.tuple #[]) (by simp[results,results190,go_sem]) rfl ⟨rfl,_,_,_,E,F,G⟩
 have M:¬(n.form=5\/n.form=6):=λe=>e.elim X k6;by_cases k7:n.form=7
 ·have W:=aJ (x:=3) D;have K:=aJ (x:=11) i;have q4:=aJ (x:=4) L;have T:=aJ (x:=12) A;have q5:=aJ (x:=5) X;have q6:=aJ (x:=6) k6;have q7:=cL (x:=7) k7;have S:=(J7 w k o p g n h Q R C);simp only[ag D,ag i,ag L,ag A,ag M,ah k7];go_in;go_wp2_with fail;refine ay S ?_;rintro _ P ⟨rfl,u,x,z,E,F,G⟩;have H1:=E;have H2:=F;have H3:=G;go_wp2;refine bP (v:=.tuple #[]) (by simp[results,results190,go_sem]) rfl ⟨rfl,_,_,_,H1,H2,H3⟩
 ·have W:=aJ (x:=3) D;have K:=aJ (x:=11) i;have q4:=aJ (x:=4) L;have T:=aJ (x:=12) A;have q5:=aJ (x:=5) X;have q6:=aJ (x:=6) k6;have q7:=aJ (x:=7) k7;have S:=(V w k o p g n h Q R C);simp only[ag D,ag i,ag L,ag A,ag M,ag k7];go_in;go_wp2_with fail;refine ay S ?_;rintro _ P ⟨rfl,u,x,z,E,F,G⟩;go_wp2;refine bP (v:=.tuple #[]) (by simp[results,results190,go_sem]) rfl ⟨rfl,_,_,_,E,F,G⟩
theorem cD{n}(h:w.heap[a]?=some (gG n)):w.cell? ⟨a,0,none⟩=some (.int .i64 n.form)/\w.cell? ⟨a,1,none⟩=some (.int .i64 n.at_)/\w.cell? ⟨a,2,none⟩=some (.int .i64 n.dH)/\w.cell? ⟨a,3,none⟩=some (.int .i64 n.num)/\w.cell? ⟨a,4,none⟩=some (.string (bs n.word))/\w.cell? ⟨a,5,none⟩=some (.int .i64 n.region)/\w.cell? ⟨a,6,none⟩=some (.int .i64 n.source)/\w.cell? ⟨a,7,none⟩=some (.int .i64 n.p0)/\w.cell? ⟨a,8,none⟩=some (.int .i64 n.p1)/\w.cell? ⟨a,9,none⟩=some (.int .i64 n.p2):=
 ⟨by rw[aI h];rfl,by rw[aI h];rfl,by rw[aI h];rfl,by rw[aI h];rfl,by rw[aI h];rfl,by rw[aI h];rfl,by rw[aI h];rfl,by rw[aI h];rfl,by rw[aI h];rfl,by rw[aI h];rfl⟩
theorem fK.drop(h:fK a x (w.alloc K) y b c d z v u)(t:x=w.heap.size):fK a a w y b c d z v u:=by
 have A:(w.alloc K).heap.size=w.heap.size+1:=by simp
 have f:=h.size;have p:=(aM _ w).alloc bS K;refine⟨h.os.trans p.os,h.tape.trans p.tape,h.output.trans p.output,by omega,λk q r _ i j l=>?_,λg m=>?_,λg m=>?_,λg m=>?_⟩
 ·rw[h.blk k (by omega) r (by omega) i j l];exact p.block k q
 ·rcases h.s g m with e|e
  ·exact aD e
  ·exact aE (by omega)
 ·rcases h.n g m with e|e
  ·exact aD e
  ·exact aE (by omega)
 ·rcases h.o g m with e|e
  ·exact aD e
  ·exact aE (by omega)
def BOk(s:ByteArray)(a:Bool)(b:Nat)(g:NR->PS->Int×PS)(m:Nat):Prop:=
 ∀(w:World)(h i j:Value)(c:PS)(n:NR),kf s a b w h i j c->c.l.length<=m->Uu c->Calls prog 181 #[ptr b,dK n] w λv k=>v=.returned (.int .i64 (g n c).1)/\
  ∃d e f,fK b b w k h i j d e f/\kf s a b k d e f (g n c).2
theorem Ix(s)(c)(i:Nat)(H)(m:Nat)(hs:s.size<=9000)(hE:YF s c i H m)(hG:p9 H m):BOk s c i (mP c s.size H) m:=by
 intro w q r t j n h hm R;have p:=Cj s c i (w.alloc (gG n)) q r t j hs (h.alloc _);have u:=λnb w q r t n h hb=>RP s c i H m hs hE hG nb w q r t j.tail n h hb (bw (uy j) hm) (R.on (tA j));have I:=λw a h=>Ck s c i w q r t j.tail a h;have S:=VF s.size j.l;have W:=Bk.new h (gG n);unfold mP;simp only;obtain⟨T,hT⟩:=ez (kQ s.size j.l);rw[<-hT]at p S⊢;have J:=λw=>K3 T.kind w S;have U:∃f:Nat,f=iW T.kind:=⟨_,rfl⟩;obtain⟨f,hf⟩:=U;rw[<-hf]at J⊢;have Y:=MT hG c s.size {n with form:=f} j.tail (bw (uy j) hm);have v:=λw q r t h=>qM s c i w q r t (ux c s.size H {n with form:=f} j.tail).2 3 hs h;have Z:=nE s.size 3 (ux c s.size H {n with form:=f} j.tail).2;have xP:((ux c s.size H {n with form:=f} j.tail).2.expect s.size 3).nodes.length<=9000:=by
  have:=Y.nd;have:=Z.nd;have:=(tA j).nd;have:=R.2.1;omega
 have x:=λw q r t n' h=>MX s c i w q r t ((ux c s.size H {n with form:=f} j.tail).2.expect s.size 3) n' xP h;unfold n8 ptr at p v;unfold ptr at I x;simp only[fU]at u;unfold ptr at u;clear Y Z xP hE hG R hm S hT hf;refine bY h W λHH K=>?_;clear h W;unfold dK at x;show Calls _ _ #[Value.pointer (some ⟨i,0,none⟩),Value.agg #[.int .i64 n.form,.int .i64 n.at_,.int .i64 n.dH,.int .i64 n.num,.string (bs n.word),.int .i64 n.region,.int .i64 n.source,.int .i64 n.p0,.int .i64 n.p1,.int .i64 n.p2]] w _;by_cases o:f=0\/(f=12/\c=false)
 ·simp only[ah o];go_in;go_wp2_with fail;refine ay p ?_;rintro _ w1 ⟨rfl,k,g⟩;have d:=K.out.keep k;obtain⟨c0,_⟩:=cD d.b;have f0:=aK d.b 0;have hnb:=aG d.b;obtain⟨s1,V,s3⟩:=d.set g 0 (.int .i64 f);have z:=I _ T.at_ (V.alloc (tB T));have HF:Hid _:=((k.nb (z:=w.heap.size)).trans s1).alloc (tB T);obtain⟨fr,y1,y2,y3⟩:=V.y;have p1:w1.cell? ⟨i,1,none⟩=some (.bool c):=by
   obtain⟨fr,y1,y2,y3⟩:=g.y;rw[aI y3];rfl
  have hpn:w.heap.size≠i:=d.ne;have hpl:i<w1.heap.size:=g.slt.2.2.2;have acI:i≠w.heap.size:=λe=>d.ne e.symm;unfold tB tnC at z;clear s1 V s3 k g d p I K v x u y1 y2 y3;rcases o with o|⟨o,hp⟩
  ·have q0:((f:Int)==0)=true:=cL (x:=0) o;have HFz:Hid _:=o;clear o;go_wp2_with (first
    |(go_at_call 189;refine (J _).mono ?_;rintro e w' ⟨rfl,rfl⟩)
    |(go_at_call 154;refine ay z ?_;rintro e w' ⟨rfl,A,B⟩))
   go_ret;exact⟨rfl,q,r,t,(HF.out.trans (A.nb (z:=w.heap.size))).drop rfl,B⟩
  ·have q0:((f:Int)==0)=false:=aJ (x:=0) (by omega);have q12:((f:Int)==12)=true:=cL (x:=12) o;subst hp;have HFz:Hid _:=o;clear o;go_wp2_with (first
    |(go_at_call 189;refine (J _).mono ?_;rintro e w' ⟨rfl,rfl⟩)
    |(go_at_call 154;refine ay z ?_;rintro e w' ⟨rfl,A,B⟩))
   go_ret;exact⟨rfl,q,r,t,(HF.out.trans (A.nb (z:=w.heap.size))).drop rfl,B⟩
 ·simp only[ag o];generalize hX:ux c s.size H {n with form:=f} j.tail=X at*;obtain⟨T2,s6⟩:=ez (kQ s.size X.2.l);rw[<-s6]at v⊢;have C:=λnb w q r t h hb=>u nb w q r t {n with form:=f} h hb;rw[hX]at C;generalize X.2.expect s.size 3=S3 at*;have q0:((f:Int)==0)=false:=aJ (x:=0) (λe=>o (aD e));have hq:(((f:Int)==12)=true/\c=true)\/((f:Int)==12)=false:=by
   by_cases e:f=12
   ·left;refine⟨cL (x:=12) e,?_⟩;cases c with
    |true=>rfl
    |false=>exact absurd (aE ⟨e,rfl⟩) o
   ·exact aE (aJ (x:=12) e)
  refine fT C v x hq λHFI HEX HAD HQ=>?_;clear u C v x I o hX s6 hq;go_in;go_wp2_with fail;refine ay p ?_;rintro _ w1 ⟨rfl,k,g⟩;have d:=K.out.keep k;obtain⟨c0,_⟩:=cD d.b;have f0:=aK d.b 0;have hnb:=aG d.b;obtain⟨s1,V,s3⟩:=d.set g 0 (.int .i64 f);have D:=HFI.out w.heap.size _ _ _ _ (V.alloc (tB T)) (s3.alloc (tB T));have HF:Hid _:=((k.nb (z:=w.heap.size)).trans s1).alloc (tB T);have p1:w1.cell? ⟨i,1,none⟩=some (.bool c):=by
   obtain⟨fr,y1,y2,y3⟩:=g.y;rw[aI y3];rfl
  have hpn:w.heap.size≠i:=d.ne;have hpl:i<w1.heap.size:=g.slt.2.2.2;have acI:i≠w.heap.size:=λe=>d.ne e.symm;unfold tB tnC at D;have L:Hid _:=D;clear s1 V s3 k g d p K HFI D;have hq:=HQ.out;clear HQ;rcases hq with⟨q12,hp⟩|q12
  all_goals
   first|(rw[hp]at p1)|(skip)
   go_wp2_with (go_at_call 189;refine (J _).mono ?_;rintro e w' ⟨rfl,rfl⟩);refine ay L.out ?_;rintro _ w2 ⟨rfl,sv2,OE,YG,r1,r2,r3⟩;have M:=HEX.out _ _ _ _ r2;refine bY (HF.out.trans r1) r3 λG1 xN=>?_;clear r1 r2 r3 L HEX p1 c0 f0;go_wp2_with fail;refine ay M ?_;rintro _ w3 ⟨rfl,E,N⟩;have F:=xN.out.keep E;obtain⟨c0,c1,c2,c3,c4,c5,c6,c7,c8,c9⟩:=cD F.b;have f2:=aK F.b 2;have RQ:=aG F.b;obtain⟨t1,t2,t3⟩:=F.set N 2 (.int .i64 T2.dH);have G:=HAD.out _ _ _ _ {X.1 with dH:=T2.dH} (t2.alloc (tB T2));have G2:Hid _:=((G1.out.trans (E.nb (z:=w.heap.size))).trans t1).alloc (tB T2);unfold tB tnC at G;have O:Hid _:=G;clear t1 t2 t3 E N F M HAD xN G1 G;go_wp2_with fail;refine ay O.out ?_;rintro _ w4 ⟨rfl,BK,P,Q⟩;refine bY ((G2.out.trans (P.nb (z:=w.heap.size))).drop rfl) Q λG3 G4=>?_;clear P Q O G2;go_wp2;go_ret;exact⟨rfl,_,_,_,G3.out,G4.out⟩
theorem Iy(w):Calls prog 125 #[] w λv a=>v=.returned (.agg #[.int .i64 (-1),.int .i64 (-1),.int .i64 (-1)])/\bg w a:=by
 go_in;go_wp2;refine au (v:=.agg #[.int .i64 (-1),.int .i64 (-1),.int .i64 (-1)]) (by simp[results,results125,go_sem]) rfl ⟨rfl,fp.alloc bS _⟩
theorem MZ{t}(h:w.heap[a]?=some (.cells #[b,c,d,z,v,u,R,I,G,O] t (0,0))):w.cell? ⟨a,0,none⟩=some b/\w.cell? ⟨a,1,none⟩=some c/\w.cell? ⟨a,2,none⟩=some d/\w.cell? ⟨a,3,none⟩=some z/\w.cell? ⟨a,4,none⟩=some v/\w.cell? ⟨a,5,none⟩=some u/\w.cell? ⟨a,6,none⟩=some R/\w.cell? ⟨a,7,none⟩=some I/\w.cell? ⟨a,8,none⟩=some G/\w.cell? ⟨a,9,none⟩=some O:=
 ⟨by rw[aI h];rfl,by rw[aI h];rfl,by rw[aI h];rfl,by rw[aI h];rfl,by rw[aI h];rfl,by rw[aI h];rfl,by rw[aI h];rfl,by rw[aI h];rfl,by rw[aI h];rfl,by rw[aI h];rfl⟩
theorem RR{t}(h:w.heap[a]?=some (.cells M t (0,0))):w.frozen? ⟨a,0,none⟩=false/\w.frozen? ⟨a,1,none⟩=false/\w.frozen? ⟨a,2,none⟩=false/\w.frozen? ⟨a,3,none⟩=false/\w.frozen? ⟨a,4,none⟩=false/\w.frozen? ⟨a,5,none⟩=false/\w.frozen? ⟨a,6,none⟩=false/\w.frozen? ⟨a,7,none⟩=false/\w.frozen? ⟨a,8,none⟩=false/\w.frozen? ⟨a,9,none⟩=false:=
 ⟨aK h 0,aK h 1,aK h 2,aK h 3,aK h 4,aK h 5,aK h 6,aK h 7,aK h 8,aK h 9⟩
theorem YO(a:Below (w.alloc K).drew.heap.size (w.alloc K).drew y):y.heap[w.heap.size]?=some K:=by
 rw[a.block w.heap.size (by show w.heap.size<(w.alloc K).heap.size;simp)];exact bD w K
theorem YP{B}(a:Below ((w.alloc K).alloc B).drew.heap.size ((w.alloc K).alloc B).drew y):y.heap[w.heap.size]?=some K:=by
 rw[a.block w.heap.size (by show w.heap.size<((w.alloc K).alloc B).heap.size;simp;omega)];exact cR _ (bD w K)
theorem fK.outer(h:fK a x w y b c d z v u)(l:w.heap.size<=x):fK a a w y b c d z v u:=
 ⟨h.os,h.tape,h.output,h.size,λk i j _ e f g=>h.blk k i j (by omega) e f g,h.s,h.n,h.o⟩
def K4(a:World)(T:TN)(b:Value)(wx:World):Prop:=∃g,a.heap.size<g/\b=.pointer (some ⟨g,0,none⟩)/\wx.heap[g]?=some (gG (oB T))/\Below (a.alloc (tB T)).heap.size (a.alloc (tB T)) wx
theorem Iz(a:Below (w.alloc (tB Y)).drew.heap.size (w.alloc (tB Y)).drew y):K4 w Y (.pointer (some ⟨y.heap.size,0,none⟩)) (y.alloc (.cells #[.int .i64 0,.int .i64 Y.at_,.int .i64 Y.dH,.int .i64 0,.string ⟨#[]⟩,.int .i64 0,.int .i64 (-1),.int .i64 (-1),.int .i64 (-1),.int .i64 (-1)] 160)):=by
 have b:=by have:=a.size;simpa using this
 refine⟨y.heap.size,by omega,rfl,bD _ _,?_⟩;have h1:=(⟨rfl,rfl,rfl,bS,λ_ _=>rfl⟩:Below (w.alloc (tB Y)).heap.size (w.alloc (tB Y)) (w.alloc (tB Y)).drew).trans a;exact h1.alloc (by simp;omega) _
theorem IA(a:Below ((w.alloc (tB Y)).alloc (.cells #[b,c,d,z,v,u,R,I,G,O] 160)).drew.heap.size ((w.alloc (tB Y)).alloc (.cells #[b,c,d,z,v,u,R,I,G,O] 160)).drew y):K4 w Y (.pointer (some ⟨w.heap.size+1,0,none⟩)) ((((((((((y.setCell ⟨w.heap.size+1,0,none⟩ (.int .i64 0)).setCell ⟨w.heap.size+1,1,none⟩ (.int .i64 Y.at_)).setCell ⟨w.heap.size+1,2,none⟩ (.int .i64 Y.dH)).setCell ⟨w.heap.size+1,3,none⟩ (.int .i64 0)).setCell ⟨w.heap.size+1,4,none⟩ (.string ⟨#[]⟩)).setCell ⟨w.heap.size+1,5,none⟩ (.int .i64 0)).setCell ⟨w.heap.size+1,6,none⟩ (.int .i64 (-1))).setCell ⟨w.heap.size+1,7,none⟩ (.int .i64 (-1))).setCell ⟨w.heap.size+1,8,none⟩ (.int .i64 (-1))).setCell ⟨w.heap.size+1,9,none⟩ (.int .i64 (-1))):=by
 have l:(w.alloc (tB Y)).heap.size=w.heap.size+1:=by simp
 refine⟨w.heap.size+1,by omega,rfl,?_,?_⟩
 ·have e:(y.setCell ⟨w.heap.size+1,0,none⟩ (.int .i64 0)).heap[w.heap.size+1]?=some (.cells #[.int .i64 0,c,d,z,v,u,R,I,G,O] 160 (0,0)):=bu (pG a) 0 _;have h1:((y.setCell ⟨w.heap.size+1,0,none⟩ (.int .i64 0)).setCell ⟨w.heap.size+1,1,none⟩ (.int .i64 Y.at_)).heap[w.heap.size+1]?=some (.cells #[.int .i64 0,.int .i64 Y.at_,d,z,v,u,R,I,G,O] 160 (0,0)):=bu e 1 _;have h2:(((y.setCell ⟨w.heap.size+1,0,none⟩ (.int .i64 0)).setCell ⟨w.heap.size+1,1,none⟩ (.int .i64 Y.at_)).setCell ⟨w.heap.size+1,2,none⟩ (.int .i64 Y.dH)).heap[w.heap.size+1]?=some (.cells #[.int .i64 0,.int .i64 Y.at_,.int .i64 Y.dH,z,v,u,R,I,G,O] 160 (0,0)):=bu h1 2 _;have h3:((((y.setCell ⟨w.heap.size+1,0,none⟩ (.int .i64 0)).setCell ⟨w.heap.size+1,1,none⟩ (.int .i64 Y.at_)).setCell ⟨w.heap.size+1,2,none⟩ (.int .i64 Y.dH)).setCell ⟨w.heap.size+1,3,none⟩ (.int .i64 0)).heap[w.heap.size+1]?=some (.cells #[.int .i64 0,.int .i64 Y.at_,.int .i64 Y.dH,.int .i64 0,v,u,R,I,G,O] 160 (0,0)):=bu h2 3 _;have f:(((((y.setCell ⟨w.heap.size+1,0,none⟩ (.int .i64 0)).setCell ⟨w.heap.size+1,1,none⟩ (.int .i64 Y.at_)).setCell ⟨w.heap.size+1,2,none⟩ (.int .i64 Y.dH)).setCell ⟨w.heap.size+1,3,none⟩ (.int .i64 0)).setCell ⟨w.heap.size+1,4,none⟩ (.string ⟨#[]⟩)).heap[w.heap.size+1]?=some (.cells #[.int .i64 0,.int .i64 Y.at_,.int .i64 Y.dH,.int .i64 0,.string ⟨#[]⟩,u,R,I,G,O] 160 (0,0)):=bu h3 4 _;have g:((((((y.setCell ⟨w.heap.size+1,0,none⟩ (.int .i64 0)).setCell ⟨w.heap.size+1,1,none⟩ (.int .i64 Y.at_)).setCell ⟨w.heap.size+1,2,none⟩ (.int .i64 Y.dH)).setCell ⟨w.heap.size+1,3,none⟩ (.int .i64 0)).setCell ⟨w.heap.size+1,4,none⟩ (.string ⟨#[]⟩)).setCell ⟨w.heap.size+1,5,none⟩ (.int .i64 0)).heap[w.heap.size+1]?=some (.cells #[.int .i64 0,.int .i64 Y.at_,.int .i64 Y.dH,.int .i64 0,.string ⟨#[]⟩,.int .i64 0,R,I,G,O] 160 (0,0)):=bu f 5 _;have h:(((((((y.setCell ⟨w.heap.size+1,0,none⟩ (.int .i64 0)).setCell ⟨w.heap.size+1,1,none⟩ (.int .i64 Y.at_)).setCell ⟨w.heap.size+1,2,none⟩ (.int .i64 Y.dH)).setCell ⟨w.heap.size+1,3,none⟩ (.int .i64 0)).setCell ⟨w.heap.size+1,4,none⟩ (.string ⟨#[]⟩)).setCell ⟨w.heap.size+1,5,none⟩ (.int .i64 0)).setCell ⟨w.heap.size+1,6,none⟩ (.int .i64 (-1))).heap[w.heap.size+1]?=some (.cells #[.int .i64 0,.int .i64 Y.at_,.int .i64 Y.dH,.int .i64 0,.string ⟨#[]⟩,.int .i64 0,.int .i64 (-1),I,G,O] 160 (0,0)):=bu g 6 _;have i:((((((((y.setCell ⟨w.heap.size+1,0,none⟩ (.int .i64 0)).setCell ⟨w.heap.size+1,1,none⟩ (.int .i64 Y.at_)).setCell ⟨w.heap.size+1,2,none⟩ (.int .i64 Y.dH)).setCell ⟨w.heap.size+1,3,none⟩ (.int .i64 0)).setCell ⟨w.heap.size+1,4,none⟩ (.string ⟨#[]⟩)).setCell ⟨w.heap.size+1,5,none⟩ (.int .i64 0)).setCell ⟨w.heap.size+1,6,none⟩ (.int .i64 (-1))).setCell ⟨w.heap.size+1,7,none⟩ (.int .i64 (-1))).heap[w.heap.size+1]?=some (.cells #[.int .i64 0,.int .i64 Y.at_,.int .i64 Y.dH,.int .i64 0,.string ⟨#[]⟩,.int .i64 0,.int .i64 (-1),.int .i64 (-1),G,O] 160 (0,0)):=bu h 7 _;have j:(((((((((y.setCell ⟨w.heap.size+1,0,none⟩ (.int .i64 0)).setCell ⟨w.heap.size+1,1,none⟩ (.int .i64 Y.at_)).setCell ⟨w.heap.size+1,2,none⟩ (.int .i64 Y.dH)).setCell ⟨w.heap.size+1,3,none⟩ (.int .i64 0)).setCell ⟨w.heap.size+1,4,none⟩ (.string ⟨#[]⟩)).setCell ⟨w.heap.size+1,5,none⟩ (.int .i64 0)).setCell ⟨w.heap.size+1,6,none⟩ (.int .i64 (-1))).setCell ⟨w.heap.size+1,7,none⟩ (.int .i64 (-1))).setCell ⟨w.heap.size+1,8,none⟩ (.int .i64 (-1))).heap[w.heap.size+1]?=some (.cells #[.int .i64 0,.int .i64 Y.at_,.int .i64 Y.dH,.int .i64 0,.string ⟨#[]⟩,.int .i64 0,.int .i64 (-1),.int .i64 (-1),.int .i64 (-1),O] 160 (0,0)):=bu i 8 _;have k:((((((((((y.setCell ⟨w.heap.size+1,0,none⟩ (.int .i64 0)).setCell ⟨w.heap.size+1,1,none⟩ (.int .i64 Y.at_)).setCell ⟨w.heap.size+1,2,none⟩ (.int .i64 Y.dH)).setCell ⟨w.heap.size+1,3,none⟩ (.int .i64 0)).setCell ⟨w.heap.size+1,4,none⟩ (.string ⟨#[]⟩)).setCell ⟨w.heap.size+1,5,none⟩ (.int .i64 0)).setCell ⟨w.heap.size+1,6,none⟩ (.int .i64 (-1))).setCell ⟨w.heap.size+1,7,none⟩ (.int .i64 (-1))).setCell ⟨w.heap.size+1,8,none⟩ (.int .i64 (-1))).setCell ⟨w.heap.size+1,9,none⟩ (.int .i64 (-1))).heap[w.heap.size+1]?=some (.cells #[.int .i64 0,.int .i64 Y.at_,.int .i64 Y.dH,.int .i64 0,.string ⟨#[]⟩,.int .i64 0,.int .i64 (-1),.int .i64 (-1),.int .i64 (-1),.int .i64 (-1)] 160 (0,0)):=bu j 9 _
  exact k
 ·have h1:Below (w.alloc (tB Y)).heap.size (w.alloc (tB Y)) ((w.alloc (tB Y)).alloc (.cells #[b,c,d,z,v,u,R,I,G,O] 160)).drew:=(fp.alloc bS (.cells #[b,c,d,z,v,u,R,I,G,O] 160)).trans ⟨rfl,rfl,rfl,bS,λ_ _=>rfl⟩;have h2:=h1.trans (a.mono (by show (w.alloc (tB Y)).heap.size<=((w.alloc (tB Y)).alloc (.cells #[b,c,d,z,v,u,R,I,G,O] 160)).heap.size;simp));exact (((((((((h2.setCell (p:=⟨w.heap.size+1,0,none⟩) (by simp) _).setCell (p:=⟨w.heap.size+1,1,none⟩) (by simp) _).setCell (p:=⟨w.heap.size+1,2,none⟩) (by simp) _).setCell (p:=⟨w.heap.size+1,3,none⟩) (by simp) _).setCell (p:=⟨w.heap.size+1,4,none⟩) (by simp) _).setCell (p:=⟨w.heap.size+1,5,none⟩) (by simp) _).setCell (p:=⟨w.heap.size+1,6,none⟩) (by simp) _).setCell (p:=⟨w.heap.size+1,7,none⟩) (by simp) _).setCell (p:=⟨w.heap.size+1,8,none⟩) (by simp) _).setCell (p:=⟨w.heap.size+1,9,none⟩) (by simp) _
def BdA(a:PS):Prop:=a.scope.length+a.l.length<=9000/\a.nodes.length+a.l.length<=9000/\a.opened.length+4*a.l.length<=50001
theorem M0(s)(c)(j:Nat)(Q)(hs:s.size<=9000)(w)(m o p)(d)(h:kf s c j w m o p d)(Z:BdA d)(M:d.l≠[]->∀(w:World)(n:NR),kf s c j w m o p d.tail->Calls prog 181 #[ptr j,dK n] w λv w'=>v=.returned (.int .i64 (Q n d.tail).1)/\∃y z A,fK j j w w' m o p y z A/\kf s c j w' y z A (Q n d.tail).2):Calls prog 152 #[ptr j] w λv w'=>v=.returned (.int .i64 (nX s.size Q d).1)/\∃y z A,fK j j w w' m o p y z A/\kf s c j w' y z A (nX s.size Q d).2:=by
 have N:=Cj s c j w m o p d hs h;have hfa:=λw a h=>Ck s c j w m o p d.tail a h;have O:=λw u h=>RE s c j w m o p d.tail u (by show d.scope.length<=9000;have:=Z.1;omega) h;have B:=λw n h=>MX s c j w m o p d.tail n (by show d.nodes.length<=9000;have:=Z.2.1;omega) h;have hne:(kQ s.size d.l).kind=2->d.l≠[]:=by
  intro e e';rw[e']at e;simp[kQ]at e
 have hsc:d.tail.scope=d.scope:=rfl;have hnd:d.tail.nodes=d.nodes:=rfl;rw[hsc]at O;rw[hnd]at B;have k:Hid (nX s.size Q d=(let t:=kQ s.size d.l
  if t.kind=5 then ((d.nodes.length:Int),d.tail.add {oB t with form:=1,num:=t.num})
  else if t.kind=4 then ((d.nodes.length:Int),d.tail.add {oB t with form:=2,word:=t.word,source:=gb d.scope t.word})
  else if t.kind=2 then Q (oB t) d.tail
  else (-1,d.tail.fail t.at_))):=rfl
 obtain⟨T,hT⟩:=ez (kQ s.size d.l);rw[<-hT]at N k hne;obtain⟨R,hR⟩:=ez (nX s.size Q d);rw[<-hR]at k⊢;unfold n8 ptr at N;unfold ptr at hfa O B M;unfold dK at B M;refine pd M hne O hfa B λC D E F x=>?_;have G:=Iy;clear hT h hR M hne O hfa B Z hsc hnd;show Calls _ _ #[Value.pointer (some ⟨j,0,none⟩)] w _;go_in;go_upto_region 2 with (go_at_call 153;refine ay N ?_;rintro _ w1 ⟨rfl,hfr,hin⟩);go_cut [4] from 7 to 12 (λt4 wx=>K4 w1 T t4 wx)
 case first=>
  go_region_with (go_at_call 125;refine (G _).mono ?_;rintro e w2 ⟨rfl,H⟩;(try (have hqa:=YP H;have I:=aG hqa;have acJ:=jx I;obtain⟨t0,t1,t2,t3,t4⟩:=l5 hqa));(try (have Xo:=YO H;have I:=aG Xo;have acJ:=jx I;obtain⟨t0,t1,t2,t3,t4⟩:=l5 Xo));(try (have Uv:=pG H;have Fx:=aG Uv;obtain⟨c0,c1,c2,c3,c4,c5,c6,c7,c8,c9⟩:=MZ Uv;obtain⟨f0,f1,f2,f3,f4,f5,f6,f7,f8,f9⟩:=RR Uv)))
  all_goals (go_wp2_with fail;go_meet)
  all_goals first
   |exact Iz H
   |exact IA H
 case rest=>
 obtain⟨g,hg,rfl,hgb,P⟩:=hcut;have hsz:w.heap.size<=w1.heap.size:=hfr.size;have J:=hin.slt;have e1:(w1.alloc (tB T)).heap.size=w1.heap.size+1:=by simp
 have hTb:wc.heap[w1.heap.size]?=some (tB T):=by rw[P.block _ (by simp)];exact bD _ _
 obtain⟨t0,t1,t2,t3,t4⟩:=l5 hTb;have hB:Bk j g wc m o p (gG (oB T)):=⟨hgb,by have:=J.2.2.2;omega,λe=>by have:=J.1 _ e;omega,λe=>by have:=J.2.1 _ e;omega,λe=>by have:=J.2.2.1 _ e;omega⟩;have hI:kf s c j wc m o p d.tail:=(hin.alloc (tB T)).below P;have hF:fK j j w wc m o p m o p:=(hfr.alloc (tB T)).trans (fK.below j j m o p P);have aeJ:w1.heap.size≠g:=by omega
 refine fw hB hI hF λK HI HF=>?_;have hgw:=aG hgb;clear hgb P hTb hB hI hF J hin hfr N e1;by_cases L:T.kind=5
 ·have q5:((T.kind:Int)==5)=true:=cL (x:=5) L;obtain⟨c0,c1,c2,c3,c4,c5,c6,c7,c8,c9⟩:=cD K.out.b;have f0:=aK K.out.b 0;have f3:=aK K.out.b 3;obtain⟨a1,a2,a3⟩:=K.out.set HI.out 0 (.int .i64 1);obtain⟨b1,b2,b3⟩:=a3.set a2 3 (.int .i64 T.num);have q:=x.out _ {oB T with form:=1,num:=T.num} b2;have HR:Hid (R=((d.nodes.length:Int),d.tail.add {oB T with form:=1,num:=T.num})):=by
   have:=k.out;simp only[ah L]at this;exact this
  have HG:Hid (fK j g w _ m o p m o p):=((HF.out.nb (z:=g)).trans a1).trans b1;have r:Hid _:=q;clear a1 a2 a3 b1 b2 b3 q L k C D E F x G;go_wp2_with fail;refine ay r.out ?_;rintro _ w4 ⟨rfl,BK,f,i⟩;refine bY ((HG.out.trans (f.nb (z:=g))).outer (by omega)) i λG3 G4=>?_;clear f i r;go_wp2;go_ret;rw[HR.out];exact⟨rfl,_,_,_,G3.out,G4.out⟩
 have q5:((T.kind:Int)==5)=false:=aJ (x:=5) L;by_cases S:T.kind=4
 ·have q4:((T.kind:Int)==4)=true:=cL (x:=4) S;obtain⟨c0,c1,c2,c3,c4,c5,c6,c7,c8,c9⟩:=cD K.out.b;have f0:=aK K.out.b 0;have f4:=aK K.out.b 4;have f6:=aK K.out.b 6;obtain⟨a1,a2,a3⟩:=K.out.set HI.out 0 (.int .i64 2);obtain⟨b1,b2,b3⟩:=a3.set a2 4 (.string (bs T.word));have U:=E.out _ T.word b2;obtain⟨d1,d2,d3⟩:=b3.set b2 6 (.int .i64 (gb d.scope T.word));have q:=x.out _ {oB T with form:=2,word:=T.word,source:=gb d.scope T.word} d2;have HR:Hid (R=((d.nodes.length:Int),d.tail.add {oB T with form:=2,word:=T.word,source:=gb d.scope T.word})):=by
   have:=k.out;simp only[ag L,ah S]at this;exact this
  have HG:Hid (fK j g w _ m o p m o p):=(((HF.out.nb (z:=g)).trans a1).trans b1).trans d1;refine bY q U λr acK=>?_;clear a1 a2 a3 b1 b2 b3 d1 d2 d3 q U L S k C D E F x G;go_wp2_with fail;refine ay acK.out ?_;rintro _ w3 ⟨rfl,rfl⟩;go_wp2_with fail;refine ay r.out ?_;rintro _ w4 ⟨rfl,BK,f,i⟩;refine bY ((HG.out.trans (f.nb (z:=g))).outer (by omega)) i λG3 G4=>?_;clear f i r;go_wp2;go_ret;rw[HR.out];exact⟨rfl,_,_,_,G3.out,G4.out⟩
 have q4:((T.kind:Int)==4)=false:=aJ (x:=4) S;by_cases k2:T.kind=2
 ·have q2:((T.kind:Int)==2)=true:=cL (x:=2) k2;obtain⟨c0,c1,c2,c3,c4,c5,c6,c7,c8,c9⟩:=cD K.out.b;have V:=C.out (D.out k2) _ (oB T) HI.out;have HR:Hid (R=Q (oB T) d.tail):=by
   have:=k.out;simp only[ag L,ag S,ah k2]at this;exact this
  have W:Hid _:=V;clear V L S k2 k C D E F x G;go_wp2_with fail;refine ay W.out ?_;rintro _ w4 ⟨rfl,sv4,BK,ov4,f,i⟩;refine bY (HF.out.trans f) i λG3 G4=>?_;clear f i W;go_wp2;go_ret;rw[HR.out];exact⟨rfl,_,_,_,G3.out,G4.out⟩
 ·have q2:((T.kind:Int)==2)=false:=aJ (x:=2) k2;have X:=F.out _ T.at_ HI.out;have HR:Hid (R=(-1,d.tail.fail T.at_)):=by
   have:=k.out;simp only[ag L,ag S,ag k2]at this;exact this
  have Y:Hid _:=X;clear X L S k2 k C D E F x G;go_wp2_with fail;refine ay Y.out ?_;rintro _ w4 ⟨rfl,f,i⟩;refine bY (HF.out.trans f) i λG3 G4=>?_;clear f i Y;go_wp2;go_ret;rw[HR.out];exact⟨rfl,_,_,_,G3.out,G4.out⟩
